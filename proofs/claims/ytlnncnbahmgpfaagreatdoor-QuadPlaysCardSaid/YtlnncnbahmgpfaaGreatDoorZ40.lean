import Derived.Test.YtlnncnbahmgpfaaGreatDoorZ41

/-
  Package quad: Nodes.
-/
namespace Go.Proofs.YtlnncnbahmgpfaaGreatDoor
set_option linter.unusedSimpArgs false
set_option linter.unusedVariables false
open Go.RowKit Go.Sort Go.Lib Go.Shelf

theorem sorted_srt {α : Type} [Inhabited α] [DecidableEq α] {lt : α → α → Bool} (h : STO lt) {l : List α} {d' : Array α} (hp : PermIn 0 l.toArray.size l.toArray d') (hs : SortedIn lt 0 l.toArray.size d') (hn : l.Nodup) : d'.toList = srt lt l := by
  obtain ⟨hsz, _, hperm⟩ := hp
  have e1 : d'.extract 0 l.toArray.size = d' := by rw [← hsz]; exact Array.extract_size
  have e2 : l.toArray.extract 0 l.toArray.size = l.toArray := Array.extract_size
  rw [e1, e2] at hperm
  have hmem := fun z => hperm.mem_iff (a := z)
  have hn' : d'.toList.Nodup := by
    have := hperm.nodup_iff
    simp only [List.toList_toArray] at this
    first | exact this.1 hn | exact this.2 hn
  refine (srt_eq h ?_ fun z => ?_).symm
  · unfold Rise
    rw [List.pairwise_iff_getElem]
    intro i j hi hj hij
    have hi' : i < d'.size := by simpa using hi
    have hj' : j < d'.size := by simpa using hj
    have h1 : lt d'[j]! d'[i]! = false := hs i j (Nat.zero_le _) hij (by rw [← hsz]; exact hj')
    rw [getElem!_pos d' i hi', getElem!_pos d' j hj'] at h1
    have hne : d'.toList[i] ≠ d'.toList[j] := fun e => by
      have := (List.getElem_inj hn').1 e
      omega
    simp only [Array.getElem_toList] at hne ⊢
    cases c : lt d'[i] d'[j] with
    | true => rfl
    | false => exact absurd (h.total _ _ c h1) hne
  · have := hmem z
    simp only [List.toList_toArray] at this
    first | exact this | exact this.symm
/-- What holds within Nodes' walk. -/
def INd (lv : Nat) : Inv := fun s Y W => LV encC 55 3 88 lv (askL s) Y W
theorem ind_stab (lv : Nat) : Stab (INd lv) := fun s Y W W' h hb => LV.below h hb
set_option maxHeartbeats 2000000 in
set_option maxRecDepth 100000 in
theorem node1_call (lv : Nat) (s : List Ev) (Y : Nat → Prop) (W : World) (c : Cl) (hi : INd lv s Y W) (hlen : (askL s).length ≤ 10000) :
    Calls Tryz.prog 69 #[clV c, .pointer (some ⟨lv, 0, none⟩)] W fun e w' => e = .returned (.bool true) ∧ Cb (INd lv) (s ++ [Ev.ask c]) Y W w' := by
  have HM := Lib.hid (askL_ask s c)
  obtain ⟨v, h1, h2, h3, h4⟩ := hi
  obtain ⟨x1, x2, x3⟩ := c
  have H1 := Lib.hid h1
  have H2 := Lib.hid h2
  have H3 := Lib.hid h3
  obtain ⟨c1, -⟩ := one_cell h1
  have O3 := Lib.hid ((h2.alloc (.cells #[.int .i64 x1, .int .i64 x2, .int .i64 x3] 55)).alloc (.cells #[.int .i64 x1, .int .i64 x2, .int .i64 x3] 55))
  have S3 := Lib.hid (sl_lit (enc := encC) (w := W.alloc (.cells #[.int .i64 x1, .int .i64 x2, .int .i64 x3] 55)) (cs := #[.int .i64 x1, .int .i64 x2, .int .i64 x3]) (t := 55) (b := W.heap.size + 1) [(x1, x2, x3)] (by simp) rfl (by unfold maxLen; simp))
  have B2 := Lib.hid (Ba (Ba (Below.refl _ W) (.cells #[.int .i64 x1, .int .i64 x2, .int .i64 x3] 55)) (.cells #[.int .i64 x1, .int .i64 x2, .int .i64 x3] 55))
  have HL := Lib.hid hlen
  clear h1 h2 h3 hlen
  go_enter Tryz.func69, Tryz.ntmps69
  go_wp2_with (at_builtin; (refine wpl_app2 apQC rfl _ _ rfl (lv + 1) (by rfl) (by rfl) O3.out rfl S3.out (by have := HL.out; simp; omega) (by simp; omega) ?_; intro v3 w3 hown3 hgrow3 hor3 hnil3; obtain ⟨p3, cap3, rfl, hx3, hy3, hz3⟩ := row_val hown3; clear hx3 hy3 hz3; have k9 : w3.cell? ⟨lv, 0, none⟩ = some v ∧ w3.frozen? ⟨lv, 0, none⟩ = false := one_cell ((hgrow3.block lv (by simp; omega) (fun e => by have := row_base0 H2.out e.symm; omega)).trans (blk_below H1.out B2.out)); obtain ⟨k9, k8⟩ := k9; have HG := Lib.hid hgrow3; have HN := Lib.hid hown3; have HOR := Lib.hid hor3; clear hgrow3 hown3 hor3 hnil3; fail_if_success done))
  go_ret
  obtain ⟨Y', l1, l2, l3⟩ := LV.app H1.out H2.out H3.out B2.out HN.out HG.out HOR.out
  simp only [List.length_append, List.length_singleton] at l1 l2 l3
  exact ⟨rfl, Y', by unfold INd; rw [HM.out]; exact l1, l2, l3⟩
section
variable {w : World} {M : Nat → Prop} {pt : Nat} {B : List Bxd}
set_option maxHeartbeats 2000000 in
set_option maxRecDepth 100000 in
theorem nodesT_call (hp : TrAt w M pt B) (hl : B.length ≤ 200) :
    Calls Tryz.prog 40 #[.pointer (some ⟨pt, 0, none⟩)] w fun e w' => ∃ v', e = .returned v' ∧ Sl encC w' v' (nodesB B) ∧ RowKit.Below w.heap.size w w' := by
  obtain ⟨mb, R, rv, q4, hT⟩ := hp.thr
  have hM : ∀ b, Thr w M b → b < w.heap.size := fun b e => e.2
  have hnd := hT.rows.evs_nodup (fun _ => true)
  have HML := Lib.hid (hT.rows.nodes hT.ok)
  have HND := Lib.hid (nodup_askL hnd)
  have hlen : (askL (evs (fun _ => true) R 9 [])).length ≤ 2000 := by
    refine Nat.le_trans (nodup_sub_len (nodup_askL hnd) (fun z hz => ?_)) (Nat.le_trans (nodeL_len B) (by omega))
    have := (hT.rows.asks hT.ok z).1 (mem_askL.1 hz)
    unfold nodeL
    rcases this with rfl | ⟨b, hb, hc⟩
    · exact List.mem_cons_self
    · exact List.mem_cons_of_mem _ (List.mem_flatMap.2 ⟨b, hb, hc⟩)
  have HW := Lib.hid (show INd w.heap.size [] (fun b => b = w.heap.size) (w.alloc (.cells #[.slice none 0 0] 88)) → Calls Tryz.prog 31 #[pp pt, .func (.func 69) #[] #[pp w.heap.size], .nilFunc] (w.alloc (.cells #[.slice none 0 0] 88)) (fun e w' => (∃ r, e = .returned r) ∧ Cb (INd w.heap.size) (evs (fun _ => true) R 9 []) (fun b => b = w.heap.size) (w.alloc (.cells #[.slice none 0 0] 88)) w') from by
    intro hi0
    have hbW := Ba (Below.refl _ w) (.cells #[.slice none 0 0] 88)
    refine walkG_call (M := Thr w M) { hT with blk := blk_below hT.blk hbW, map := hT.map.below hbW, nd := hT.nd.below hbW } (by omega) (fun z e => ⟨fun h => ?_, Nat.lt_of_lt_of_le (hM z e) hbW.size⟩) (ind_stab _) _ _ _ (fun _ => true) (.inr rfl) (enters_of Tryz.func69 (by kernel_rfl) rfl) ?_ (tell_nil (ind_stab _) (fun s Y W b h => by unfold INd at h ⊢; rw [askL_tell]; exact h) _) hi0 (fun z e => by rw [e]; simp)
    · have := hM z e
      omega
    · intro s t Y W' c' hs hi ho
      refine node1_call _ s Y W' c' hi ?_
      have h2 : (askL s).length ≤ (askL (evs (fun _ => true) R 9 [])).length := by
        rw [← hs]
        unfold askL
        rw [List.filterMap_append, List.length_append]
        omega
      omega)
  have HW2 := Lib.hid (HW.out (LV.new w))
  have B1 := Lib.hid (Ba (Below.refl _ w) (.cells #[.slice none 0 0] 88))
  have hmf : ∀ (fn : Fn) (first cap : Array Value) (w : World), (Instr.makeFunc fn first cap).run Tryz.prog w = .ok (.func fn first cap) w := fun _ _ _ _ => rfl
  clear hT hnd hM HW hp
  go_enter Tryz.func40, Tryz.ntmps40
  go_wp2_with fail
  refine HW2.out.mono ?_
  rintro e w3 ⟨⟨r, rfl⟩, Y', ⟨v, h1, h2, h3, h4⟩, t3, o3⟩
  have hb3 : RowKit.Below w.heap.size w w3 := B1.out.trans (Tch.below t3 (fun b e => by rw [e]; omega) B1.out.size)
  obtain ⟨c1, -⟩ := one_cell h1
  have B3 := Lib.hid hb3
  have H1 := Lib.hid h1
  have hbs : w.heap.size + 1 ≤ w3.heap.size := by omega
  have SC := Lib.hid (sortC_call (w.heap.size + 1) _ v w3 (own_of_row lenC h2 rfl) hbs (by omega))
  clear h1 h2 h3 t3 o3 hb3 HW2
  go_wp2_with fail
  refine SC.out.mono ?_
  rintro e w4 ⟨rfl, ⟨d', hp, hs, ho4⟩, hb4⟩
  rw [sorted_srt sto_cl hp hs HND.out, HML.out] at ho4
  have c4 : w4.cell? ⟨w.heap.size, 0, none⟩ = some v := (hb4.cell (p := ⟨w.heap.size, 0, none⟩) (by dsimp only; omega)).trans c1
  have hl4 := cell_lt c4
  have B4 := Lib.hid (B3.out.trans (hb4.mono (by omega)))
  have S4 := Lib.hid (ho4.sl lenC)
  clear hp hs ho4 hb4
  go_wp2
  go_ret
  exact ⟨_, rfl, S4.out, B4.out⟩
end
end Go.Proofs.YtlnncnbahmgpfaaGreatDoor
