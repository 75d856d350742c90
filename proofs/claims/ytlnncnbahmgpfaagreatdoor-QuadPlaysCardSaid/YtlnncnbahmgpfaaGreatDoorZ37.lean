import Derived.Test.YtlnncnbahmgpfaaGreatDoorZ10
import Derived.Test.YtlnncnbahmgpfaaGreatDoorZ12
import Derived.Test.YtlnncnbahmgpfaaGreatDoorZ1

/-
  Package quad: Meeting.
-/
namespace Go.Proofs.YtlnncnbahmgpfaaGreatDoor
set_option linter.unusedSimpArgs false
set_option linter.unusedVariables false
open Go.RowKit Go.Sort Go.Lib Go.Shelf

theorem mem_mid' {α : Type} {s t : List α} {x : α} {E : List α} (h : s ++ x :: t = E) : x ∈ E := by rw [← h]; simp
theorem ask_fine' {p : Cl → Bool} {R : Rw} {c : Cl} (h : Ev.ask c ∈ evs p R 9 []) : ∃ (k : Nat) (x y : Int), c = ((k : Int), x, y) ∧ k ≤ 8 ∧ 0 ≤ x ∧ x < pwI k ∧ 0 ≤ y ∧ y < pwI k := by
  obtain ⟨t, h1, _, _, h3, h4⟩ := (ask_evs 9 []).1 h
  rw [List.nil_append] at h1
  have e1 := cellU_depth t
  have e2 := cellU_nonneg t
  have e3 := cellU_in t h4 (by omega)
  rw [← h1] at e1 e2 e3
  obtain ⟨c1, c2, c3⟩ := c
  exact ⟨t.length, c2, c3, by rw [← e1], by omega, e2.1, e3.1, e2.2, e3.2⟩
def insB (b l : Bx4) : Prop := l.1 ≤ b.1 ∧ l.2.1 ≤ b.2.1 ∧ b.2.2.1 ≤ l.2.2.1 ∧ b.2.2.2 ≤ l.2.2.2
theorem meets_in {b l q : Bx4} (h : meets4 b q = true) (hi : insB b l) : meets4 l q = true := by
  obtain ⟨b1, b2, b3, b4⟩ := b
  obtain ⟨l1, l2, l3, l4⟩ := l
  obtain ⟨q1, q2, q3, q4⟩ := q
  unfold insB at hi
  unfold meets4 at h ⊢
  simp at h hi ⊢
  omega
/-- A box that meets is in cells that are entered. -/
theorem all_meets {q b : Bx4} (h : meets4 b q = true) : ∀ (k : Nat) (x y : Int), rightC ((k : Int), x, y) = true → insB b (looseC ((k : Int), x, y)) → allUp (entQ q) k x y = true
  | 0, x, y, hr, hi => by
    unfold allUp entQ
    rw [show ((0, x, y) : Cl) = (((0 : Nat) : Int), x, y) from rfl, hr, meets_in h hi]
    rfl
  | k + 1, x, y, hr, hi => by
    have hd : (0 : Int) < ((k + 1 : Nat) : Int) := by omega
    have h1 := up_right hr hd
    have h2 := in_up hr hd
    unfold upC at h1 h2
    dsimp only at h1 h2
    rw [show (((k + 1 : Nat) : Int) - 1) = ((k : Nat) : Int) from by omega] at h1 h2
    have := all_meets h k (x / 2) (y / 2) h1 ⟨Int.le_trans h2.1 hi.1, Int.le_trans h2.2.1 hi.2.1, Int.le_trans hi.2.2.1 h2.2.2.1, Int.le_trans hi.2.2.2 h2.2.2.2⟩
    have he : entQ q (((k + 1 : Nat) : Int), x, y) = true := by unfold entQ; rw [hr, meets_in h hi]; rfl
    unfold allUp
    rw [he, this]
    rfl
theorem seen_meets {q b : Bx4} (hR : okR b = true) (hW : okW b = true) (h : meets4 b q = true) : seenB (entQ q) b = true := by
  have he := errB_zero.2 ⟨hR, hW⟩
  obtain ⟨k, c2, c3, hk, hce, h1, h2, h3, h4, h5⟩ := cellE_fine he (entQ q)
  rw [← h5]
  have hc := cell_right hR hW
  have hl := in_loose hR hW
  have e1 : cellE b = cellB b := by unfold cellE; rw [if_pos he]
  rw [← e1, hce] at hc hl
  exact all_meets h k c2 c3 hc hl
section
variable {w : World} {M : Nat → Prop} {pt : Nat} {B : List Bxd} {eR eN eF : TypeId × Value}
theorem met_is {R : Rw} (hr : RowsOf R B) (hok : OkB B) (q : Bx4) : srt ltH (metL q (evs (entQ q) R 9 [])) = meetL B q := by
  unfold meetL
  refine srt_eq sto_hd (rise_srt sto_hd _) fun z => ?_
  rw [mem_srt sto_hd]
  unfold metL
  simp only [List.mem_map, List.mem_filter, mem_tellL]
  constructor
  · rintro ⟨b, ⟨h1, h2⟩, h3⟩
    exact ⟨b, ⟨(hr.tells hok _ b).2 ⟨h1, seen_meets (hok b h1).1 (hok b h1).2 h2⟩, h2⟩, h3⟩
  · rintro ⟨b, ⟨h1, h2⟩, h3⟩
    exact ⟨b, ⟨((hr.tells hok _ b).1 h1).1, h2⟩, h3⟩
set_option maxHeartbeats 1000000 in
set_option maxRecDepth 100000 in
theorem meetT_no (hp : TrAt w M pt B) (a b c d : Int) (hq : okR (a, b, c, d) = false) (hE : Er3 w eR eN eF) :
    Calls Tryz.prog 13 #[.pointer (some ⟨pt, 0, none⟩), .agg #[.int .i64 a, .int .i64 b, .int .i64 c, .int .i64 d]] w fun e w' => ∃ v', e = .returned (.tuple #[v', .iface eF.1 eF.2]) ∧ Sl encH w' v' [] ∧ RowKit.Below w.heap.size w w' := by
  have RC := Lib.hid (fun W => right_any a b c d W)
  rw [right_okR, hq] at RC
  have hg := hE.eF
  have hgl := cell_lt hg
  clear hq hp hE
  go_enter Tryz.func13, Tryz.ntmps13
  go_wp2_with fail
  refine (RC.out _).mono ?_
  rintro e w1 ⟨rfl, hb1⟩
  have hg1 := Bc (Bt (Ba (Below.refl _ w) (.cells #[.int .i64 a, .int .i64 b, .int .i64 c, .int .i64 d] 30)) hb1) hgl hg
  go_wp2
  go_region
  go_wp2
  go_ret2
  exact ⟨_, rfl, Sl.nil none 0 (by unfold maxLen; omega), (by repeat (first | with_reducible exact Below.refl _ _ | with_reducible assumption | with_reducible apply Ba | with_reducible apply Bd | with_reducible apply Bn | with_reducible apply Bg | (with_reducible refine Bs ?_ (by first | (simp; done) | (simp; omega)) _) | (with_reducible refine Bt ?_ (by assumption)) | (with_reducible refine Bt ?_ (Gr.below (by assumption)))))⟩
set_option maxHeartbeats 2000000 in
set_option maxRecDepth 100000 in
theorem meetT_call (hp : TrAt w M pt B) (a b c d : Int) (hq : okR (a, b, c, d) = true) (hl : B.length ≤ 200) :
    Calls Tryz.prog 13 #[.pointer (some ⟨pt, 0, none⟩), .agg #[.int .i64 a, .int .i64 b, .int .i64 c, .int .i64 d]] w fun e w' => ∃ v', e = .returned (.tuple #[v', .nilIface]) ∧ Sl encH w' v' (meetL B (a, b, c, d)) ∧ RowKit.Below w.heap.size w w' := by
  have RC := Lib.hid (fun W => right_any a b c d W)
  rw [right_okR, hq] at RC
  obtain ⟨mb, R, rv, q4, hT⟩ := hp.thr
  have hM : ∀ b, Thr w M b → b < w.heap.size := fun b e => e.2
  have hnd := hT.rows.evs_nodup (entQ (a, b, c, d))
  have HML := Lib.hid (met_is hT.rows hT.ok (a, b, c, d))
  have hlen : (tellL (evs (entQ (a, b, c, d)) R 9 [])).length ≤ 200 := Nat.le_trans (nodup_sub_len (nodup_tellL hnd) (fun z hz => ((hT.rows.tells hT.ok _ z).1 (mem_tellL.1 hz)).1)) hl
  have HW := Lib.hid (show ∀ (W : World) (bq lv : Nat), RowKit.Below w.heap.size w W → w.heap.size ≤ bq → IMt lv bq (a, b, c, d) [] (fun b => b = lv) W → Calls Tryz.prog 31 #[pp pt, .func (.func 32) #[] #[pp bq], .func (.func 35) #[] #[pp bq, pp lv]] W (fun e w' => (∃ r, e = .returned r) ∧ Cb (IMt lv bq (a, b, c, d)) (evs (entQ (a, b, c, d)) R 9 []) (fun b => b = lv) W w') from by
    intro W bq lv hbW hbq hi0
    have hlv := hi0.1.choose_spec.2.2.2
    refine walkG_call (M := Thr w M) { hT with blk := blk_below hT.blk hbW, map := hT.map.below hbW, nd := hT.nd.below hbW } (by omega) (fun z e => ⟨fun h => ?_, Nat.lt_of_lt_of_le (hM z e) hbW.size⟩) (imt_stab _ _ _) _ _ _ (entQ (a, b, c, d)) (.inl ⟨_, _, rfl⟩) (enters_of Tryz.func32 (by kernel_rfl) rfl) ?_ (tell_func (imt_stab _ _ _) _ _ _ (enters_of Tryz.func35 (by kernel_rfl) rfl) ?_) hi0 (fun z e => by rw [e]; exact hlv)
    · have h1 := hM z e
      have h2 := hi0.2.2
      omega
    · intro s t Y W' c' hs hi ho
      obtain ⟨k, x, y, rfl, hk, y1, y2, y3, y4⟩ := ask_fine' (mem_mid' hs)
      have hr : rightC ((k : Int), x, y) = true := by
        unfold rightC
        simp only [Bool.and_eq_true, decide_eq_true_eq, Int.toNat_natCast]
        omega
      refine (meet1_call (eR := (0, .nilIface)) (eN := (0, .nilIface)) (eF := (0, .nilIface)) k x y a b c d bq W' hr hq (cells4 hi.2.1)).mono fun e w' ⟨he, hb⟩ => ⟨?_, Cb.below (imt_stab _ _ _) (Cb.refl ⟨by rw [metL_ask]; exact hi.1, hi.2⟩ ho) hb⟩
      rw [he]
      unfold entQ
      rw [hr, Bool.true_and]
    · intro s t Y W' b' hs hi ho
      have hmem := (hT.rows.tells hT.ok _ b').1 (mem_mid' hs)
      refine meet2_call lv bq (a, b, c, d) hq s Y W' b' (hT.ok b' hmem.1).1 hi ho ?_
      have h1 : (metL (a, b, c, d) s).length ≤ (tellL s).length := by unfold metL; rw [List.length_map]; exact List.length_filter_le _ _
      have h2 : (tellL s).length ≤ (tellL (evs (entQ (a, b, c, d)) R 9 [])).length := by
        rw [← hs]
        unfold tellL
        rw [List.filterMap_append, List.length_append]
        omega
      omega)
  clear hT hq hnd hM
  have hpw : RowKit.Below w.heap.size w w := Below.refl _ _
  go_enter Tryz.func13, Tryz.ntmps13
  go_wp2_with fail
  refine (RC.out _).mono ?_
  rintro e w1 ⟨rfl, hb1⟩
  have hmf : ∀ (fn : Fn) (first cap : Array Value) (w : World), (Instr.makeFunc fn first cap).run Tryz.prog w = .ok (.func fn first cap) w := fun _ _ _ _ => rfl
  have b1 := Bt (Ba (Below.refl _ w) (.cells #[.int .i64 a, .int .i64 b, .int .i64 c, .int .i64 d] 30)) hb1
  have k1 := blk_below (heap_alloc_new w (.cells #[.int .i64 a, .int .i64 b, .int .i64 c, .int .i64 d] 30)) hb1
  have hs1 : w.heap.size < w1.heap.size := (Array.getElem?_eq_some_iff.1 k1).1
  have B2 := Lib.hid (Ba b1 (.cells #[.slice none 0 0] 47))
  have HW2 := Lib.hid (HW.out (w1.alloc (.cells #[.slice none 0 0] 47)) w.heap.size w1.heap.size B2.out (Nat.le_refl _) ⟨LV.new w1, blk_below k1 (Ba (Below.refl _ _) _), hs1⟩)
  clear hb1 b1 k1 HW
  go_wp2_with fail
  refine HW2.out.mono ?_
  rintro e w3 ⟨⟨r, rfl⟩, Y', ⟨⟨v, h1, h2, h3, h4⟩, _⟩, t3, o3⟩
  have hb3 : RowKit.Below w.heap.size w w3 := B2.out.trans (Tch.below t3 (fun b e => by rw [e]; omega) B2.out.size)
  obtain ⟨c1, -⟩ := one_cell h1
  have B3 := Lib.hid hb3
  have S3 := Lib.hid (row_sl lenH h2 rfl)
  have HN : (metL (a, b, c, d) (evs (entQ (a, b, c, d)) R 9 [])).length ≤ 100000 := by
    have : (metL (a, b, c, d) (evs (entQ (a, b, c, d)) R 9 [])).length ≤ (tellL (evs (entQ (a, b, c, d)) R 9 [])).length := by unfold metL; rw [List.length_map]; exact List.length_filter_le _ _
    omega
  have HC := Lib.hid (handles_call _ v w3 S3.out HN)
  rw [HML.out] at HC
  clear h1 h2 h3 t3 o3 HN hlen hb3 HW2
  go_wp2_with fail
  refine HC.out.mono ?_
  rintro e w4 ⟨v4, rfl, ho4, hb4⟩
  go_wp2
  go_ret2
  exact ⟨_, rfl, ho4.sl lenH, B3.out.trans (hb4.mono B3.out.size)⟩
end
end Go.Proofs.YtlnncnbahmgpfaaGreatDoor
