/-
  The reference's maps of tiles: Put, Drop.
-/
import Derived.Test.YtmeinjkpbijaeaaDoorTh14
import Derived.Test.YtmeinjkpbijaeaaDoorNw14
import Derived.Test.YtmeinjkpbijaeaaDoorRu14
namespace Go.Proofs.YtmeinjkpbijaeaaDoor
set_option linter.unusedSimpArgs false
set_option linter.unusedVariables false
open Go.RowKit Go.Sort Go.Lib Go.Shelf

theorem own_of_rowat {w : World} {base : Nat} {v : Value} {l : List Int} {R : Nat → Prop} (h : RowAt encI 3 1 w R v l) (hb : ∀ b, R b → base ≤ b) : OwnI w base v l := by
  obtain ⟨⟨h1, h2⟩, h3⟩ := h
  refine ⟨h1, ?_⟩
  rcases h2 with ⟨rfl, h0⟩ | ⟨g, cap, cur, rfl, _, r⟩
  · exact .inl ⟨rfl, h0⟩
  · exact .inr ⟨g, cap, cur, rfl, hb g (h3 g rfl), r⟩
/-- Behind an append onto a row off the blocks U. -/
theorem row7 {U : Nat → Prop} {b0 : Nat} {w w' : World} {v v' : Value} {l l' : List Int} (h : RowAt encI 3 1 w (OffZ U b0) v l) (hown : w'.ownsRow 0 3 1 v' l'.length (flat encI l')) (hg : w.grownBy w' v.ownBlock) (hat : v'.ownBlock = v.ownBlock ∨ v'.ownBlock = some w.heap.size) (hU : ∀ b, U b → b < w.heap.size ∧ b0 ≤ w.heap.size) (hb : b0 ≤ w.heap.size := by omega) :
    RowAt encI 3 1 w' (OffZ U b0) v' l' ∧ Tch (OffZ U b0) w w' :=
  ⟨⟨hown, fun g e => by
    rcases hat with k | k
    · exact h.2 g (by rw [← k]; exact e)
    · rw [k] at e
      simp only [Option.some.injEq] at e
      subst e
      exact ⟨hb, fun f => Nat.lt_irrefl _ (hU _ f).1⟩⟩, Tch.grown hg h.2⟩
theorem filter_yes {l : List Int} {k : Nat} (hk : k < l.length) (f : Int → Bool) (h : f l[k]! = true) : (l.take (k + 1)).filter f = (l.take k).filter f ++ [l[k]!] := by rw [filter_take hk, if_pos h]
theorem filter_not {l : List Int} {k : Nat} (hk : k < l.length) (f : Int → Bool) (h : f l[k]! = false) : (l.take (k + 1)).filter f = (l.take k).filter f := by rw [filter_take hk, if_neg (by rw [h]; simp), List.append_nil]
section
variable {pa : Nat} {g : Gd} {c : List Int} {M : Nat → Prop} {w : World}
set_option maxHeartbeats 4000000 in
set_option maxRecDepth 100000 in
theorem rput_call (hp : MpAt 59 w M pa g c) (hM : ∀ b, M b → b < w.heap.size) (hB : Bdd c 1000) (b : Bx4) :
    Calls Tryd.prog 21 #[ptP pa, bxV b] w fun e w' => ∃ v, e = .returned v ∧ OwnI w' w.heap.size v (freeL c (und g b)) ∧ MpAt 59 w' M pa g (upd 1 c (und g b)) ∧ Tch M w w' := by
  unfold freeL
  have UC := Lib.hid (fun W' => runder_call g b W')
  have HP := Lib.hid hp
  have hl := hp.lt
  have UM : Hid (∀ t ∈ und g b, 0 ≤ t ∧ t < (c.length : Int)) := Lib.hid (fun t ht => by rw [hp.len]; exact und_mem ht)
  have UN := Lib.hid (und_nodup g b)
  have ULn : (und g b).length ≤ 1024 := Nat.le_trans (und_len g b) (ntl_cast hp.ok).2.1
  have HLN := Lib.hid hp.len
  have HB := Lib.hid hB
  have HM := Lib.hid hM
  obtain ⟨blk, cap, hI, -⟩ := hp.open
  obtain ⟨c0, c1, c2, c3, c4, -⟩ := hI.cells
  generalize und g b = l at *
  obtain ⟨W, H, S, X, Y⟩ := g
  obtain ⟨b1, b2, b3, b4⟩ := b
  dsimp only at c0 c1 c2 c3 c4
  obtain ⟨w1, hw1⟩ : ∃ w1, w1 = ((w.alloc (.cells #[.int .i64 b1, .int .i64 b2, .int .i64 b3, .int .i64 b4] 37)).alloc (.cells #[] 3)) := ⟨_, rfl⟩
  have B1 : Hid (RowKit.Below w.heap.size w w1) := Lib.hid (by rw [hw1]; exact (by repeat (first | with_reducible exact Below.refl _ _ | with_reducible assumption | with_reducible apply Ba | with_reducible apply Bd | with_reducible apply Bn | with_reducible apply Bg | (with_reducible refine Bs ?_ (by first | (simp; done) | (simp; omega)) _) | (with_reducible refine Bt ?_ (by assumption)) | (with_reducible refine Bt ?_ (Gr.below (by assumption))))))
  have hs1 : w1.heap.size = w.heap.size + 1 + 1 := by rw [hw1]; simp
  have k1 : w1.heap[w.heap.size]? = some (.cells #[.int .i64 b1, .int .i64 b2, .int .i64 b3, .int .i64 b4] 37) := by rw [hw1]; exact blk_below (heap_alloc_new w _) (Ba (Below.refl _ _) _)
  have OL : Hid (OwnI w1 w.heap.size (.slice (some ⟨w.heap.size + 1, 0, none⟩) 0 0) []) := Lib.hid (by
    have := World.ownsRow_made (base := w.heap.size) (e := 3) (size := 1) (w.alloc (.cells #[.int .i64 b1, .int .i64 b2, .int .i64 b3, .int .i64 b4] 37)) #[] 0 (by simp) (Nat.zero_le _) (by simp)
    rw [show (w.alloc (.cells #[.int .i64 b1, .int .i64 b2, .int .i64 b3, .int .i64 b4] 37)).heap.size = w.heap.size + 1 by simp] at this
    rw [hw1]
    exact this)
  obtain ⟨y1, y2, y3, y4⟩ := cells4 k1
  have hz1 := cell_lt y1
  replace c0 := Bc B1.out hl c0
  replace c1 := Bc B1.out hl c1
  replace c2 := Bc B1.out hl c2
  replace c3 := Bc B1.out hl c3
  replace c4 := Bc B1.out hl c4
  have hl1 := Bl B1.out hl
  have HW := Lib.hid hw1
  have HS1 := Lib.hid hs1
  clear hw1 k1 hI hp hB hM hs1
  unfold ptP at *
  go_enter Tryd.func21, Tryd.ntmps21
  go_wp2_with fail
  rw [← HW.out]
  refine wp_region_held_drew (S := (fun w' => Below (w1).heap.size (w1) w' ∧ ∀ b_1 o, b_1 < (w1).heap.size → w'.cell? ⟨b_1, o, none⟩ = (w1).cell? ⟨b_1, o, none⟩)) (by kernel_rfl) (keep0 _) (fun hHeld => ?_)
  (refine wpAnyH_take (i := 0) (v := ?_) rfl (by kernel_rfl) (by kernel_rfl) (by kernel_rfl) (fun _ _ _ h => h) (Or.inl ⟨by rfl, ?rt⟩) (by assumption) ?_; case rt => (intro w hSw; (try dsimp only at hSw); go_simp; (try with_reducible rfl))); (try simp only [Act.put, List.getElem_toArray, List.getElem_cons_succ, List.getElem_cons_zero, List.setIfInBounds_toArray, List.set_cons_zero, List.set_cons_succ])
  (refine wpAnyH_take (i := 1) (v := ?_) rfl (by kernel_rfl) (by kernel_rfl) (by kernel_rfl) (fun _ _ _ h => h) (Or.inl ⟨by rfl, ?rt⟩) (by assumption) ?_; case rt => (intro w hSw; (try dsimp only at hSw); go_simp; (try with_reducible rfl))); (try simp only [Act.put, List.getElem_toArray, List.getElem_cons_succ, List.getElem_cons_zero, List.setIfInBounds_toArray, List.set_cons_zero, List.set_cons_succ])
  (refine wpAnyH_take (i := 2) (v := ?_) rfl (by kernel_rfl) (by kernel_rfl) (by kernel_rfl) (fun _ _ _ h => h) (Or.inl ⟨by rfl, ?rt⟩) (by assumption) ?_; case rt => (intro w hSw; (try dsimp only at hSw); go_simp; (try with_reducible rfl))); (try simp only [Act.put, List.getElem_toArray, List.getElem_cons_succ, List.getElem_cons_zero, List.setIfInBounds_toArray, List.set_cons_zero, List.set_cons_succ])
  (refine wpAnyH_take (i := 3) (v := ?_) rfl (by kernel_rfl) (by kernel_rfl) (by kernel_rfl) (fun _ _ _ h => h) (Or.inl ⟨by rfl, ?rt⟩) (by assumption) ?_; case rt => (intro w hSw; (try dsimp only at hSw); go_simp; (try with_reducible rfl))); (try simp only [Act.put, List.getElem_toArray, List.getElem_cons_succ, List.getElem_cons_zero, List.setIfInBounds_toArray, List.set_cons_zero, List.set_cons_succ])
  (refine wpAnyH_take (i := 4) (v := ?_) rfl (by kernel_rfl) (by kernel_rfl) (by kernel_rfl) (fun _ _ _ h => h) (Or.inl ⟨by rfl, ?rt⟩) (by assumption) ?_; case rt => (intro w hSw; (try dsimp only at hSw); go_simp; (try with_reducible rfl))); (try simp only [Act.put, List.getElem_toArray, List.getElem_cons_succ, List.getElem_cons_zero, List.setIfInBounds_toArray, List.set_cons_zero, List.set_cons_succ])
  (refine wpAnyH_take (i := 7) (v := ?_) rfl (by kernel_rfl) (by kernel_rfl) (by kernel_rfl) (fun _ _ _ h => h) (Or.inl ⟨by rfl, ?rt⟩) (by assumption) ?_; case rt => (intro w hSw; (try dsimp only at hSw); go_simp; (try with_reducible rfl))); (try simp only [Act.put, List.getElem_toArray, List.getElem_cons_succ, List.getElem_cons_zero, List.setIfInBounds_toArray, List.set_cons_zero, List.set_cons_succ])
  (refine wpAnyH_ready (rs := [5]) (by kernel_rfl) (by simp) ?_; refine AllReadyH.cons rfl (fun K hK => ?_) AllReadyH.nil; go_simp; refine (UC.out _).mono ?_; rintro e w2 ⟨vu, rfl, ho, hb2⟩; obtain ⟨q, cp, rfl, -, -, hq⟩ := row_val ho; have OU := Lib.hid (And.intro ho hHeld.1.size); refine hK.out _ _ (keepB (by assumption) hb2) (fun hHeld => ?_); clear hK K ho hb2); (try simp only [Act.put, List.getElem_toArray, List.getElem_cons_succ, List.getElem_cons_zero, List.setIfInBounds_toArray, List.set_cons_zero, List.set_cons_succ])
  (refine wpAnyH_take (i := 6) (v := ?_) rfl (by kernel_rfl) (by kernel_rfl) (by kernel_rfl) (fun _ _ _ h => h) (Or.inl ⟨by rfl, ?rt⟩) (by assumption) ?_; case rt => (intro w hSw; (try dsimp only at hSw); go_simp; (try with_reducible rfl))); (try simp only [Act.put, List.getElem_toArray, List.getElem_cons_succ, List.getElem_cons_zero, List.setIfInBounds_toArray, List.set_cons_zero, List.set_cons_succ])
  refine wpAnyH_done (by kernel_rfl) ?_ _
  have B2 := Lib.hid (Bt B1.out hHeld.1)
  have OU2 := Lib.hid (row_mono OU.out.1 OU.out.2)
  have OL2 := Lib.hid (row_below OL.out hHeld.1)
  have HP2 := Lib.hid (HP.out.below B2.out)
  obtain ⟨U, hU⟩ : ∃ U : Nat → Prop, ∀ b, U b ↔ (Value.slice q l.length cp).ownBlock = some b := ⟨fun b => (Value.slice q l.length cp).ownBlock = some b, fun b => Iff.rfl⟩
  have HU : Hid (∀ b, U b → w.heap.size + 1 + 1 ≤ b ∧ b < w2.heap.size) := Lib.hid (fun b e => ⟨by rw [← HS1.out]; exact row_base0 OU2.out ((hU b).1 e), row_lt OU2.out ((hU b).1 e)⟩)
  have HU0 := Lib.hid hU
  have HRM : Hid (∀ b, M b → ¬ OffZ U w.heap.size b) := Lib.hid (fun b e f => by have := HM.out b e; have := f.1; omega)
  have RV0 : Hid (RowAt encI 3 1 w2 (OffZ U w.heap.size) (.slice (some ⟨w.heap.size + 1, 0, none⟩) 0 0) []) := Lib.hid ⟨row_mono OL2.out (Nat.zero_le _), fun gg e => by
    simp only [Value.ownBlock, Option.some.injEq] at e
    subst e
    exact ⟨by omega, fun f => by have := HU.out _ f; omega⟩⟩
  have hsw := B2.out.size
  have HQ := Lib.hid hq
  clear c0 c1 c2 c3 c4 y1 y2 y3 y4 hHeld OU hU OL OL2 hq
  go_wp2_with fail
  go_loopw [5, 16] (fun v i wr => ∃ k : Nat, k ≤ l.length ∧ i = .int .i64 k ∧ RowAt encI 3 1 wr (OffZ U w.heap.size) v ((l.take k).filter fun t => decide (c[t.toNat]! = 0)) ∧ MpAt 59 wr M pa ⟨W, H, S, X, Y⟩ (upd 1 c (l.take k)) ∧ Tch (fun b => M b ∨ OffZ U w.heap.size b) w2 wr) (fun _ i _ => l.length - (intOf i).toNat)
  case atStart => exact ⟨0, Nat.zero_le _, rfl, RV0.out, HP2.out, Tch.refl _ _⟩
  case round =>
    obtain ⟨k, hk, rfl, hv, hm, ht⟩ := hrel
    have HT := Lib.hid ht
    have HMp := Lib.hid hm
    have HV := Lib.hid hv
    by_cases hkn : k < l.length
    · have hkz : (k : Int) < (l.length : Int) := by omega
      obtain ⟨gu, rfl, hgu, hou⟩ := HQ.out (by omega)
      have hUg := (HU0.out gu).2 hou
      have cu := row_cell1 encI1 OU2.out k hkn
      have hgu3 := cell_lt cu
      replace cu := ht.cell hgu3 (fun e => e.elim (fun e => by have := HM.out _ e; have := (HU.out _ hUg).1; omega) (fun e => e.2 hUg)) cu
      have hgur := ht.lt hgu3
      have hmem : l[k]! ∈ l := by rw [getElem!_pos l k hkn]; exact List.getElem_mem hkn
      obtain ⟨t0, t1⟩ := UM.out _ hmem
      have hbf := upd_before hkn UN.out 1 (c := c) (fun t h => ⟨(UM.out t h).1, by have := UM.out t h; omega⟩)
      have htk := upd_take hkn 1 c
      have FY := Lib.hid (filter_yes hkn (fun t => decide (c[t.toNat]! = 0)))
      have FN := Lib.hid (filter_not hkn (fun t => decide (c[t.toNat]! = 0)))
      unfold bmp at htk
      rw [hbf] at htk
      generalize l[k]! = tz at *
      obtain ⟨t, rfl⟩ : ∃ t : Nat, tz = t := ⟨tz.toNat, by omega⟩
      rw [Int.toNat_natCast] at hbf htk
      have hct : t < c.length := by omega
      have hcl := upd_len 1 c (l.take k)
      obtain ⟨bk, cap, hI, h1, h2, h3, h4, h5, h6⟩ := hm.open
      obtain ⟨-, -, -, -, -, d5⟩ := hI.cells
      have hlr := hI.lt
      obtain ⟨e1, f1⟩ := hI.get (j := t) (by omega)
      have hbkM := hI.2.2.2 bk rfl
      have bdt := HB.out t hct
      have hlen : ((l.take k).filter fun t => decide (c[t.toNat]! = 0)).length ≤ 1024 := Nat.le_trans (List.length_filter_le _ _) (by rw [List.length_take]; omega)
      rw [hbf] at e1
      have hcl2 : (upd 1 c (l.take (k + 1))).length = ntl ⟨W, H, S, X, Y⟩ := by rw [upd_len]; exact HLN.out
      have HCL := Lib.hid hcl2
      have htz : (t : Int) < (c.length : Int) := by omega
      have hs2 := ht.size
      by_cases hx : c[t]! = 0
      · have HFT := Lib.hid (FY.out (by simpa using hx))
        have e0 : (c[t]! == 0) = true := by simpa using hx
        have e0' : decide (c[t]! = 0) = true := decide_eq_true hx
        have L5 := Lib.hid (sl_lit (enc := encI) (w := wr) (cs := #[.int .i64 (t : Int)]) (t := 3) (b := wr.heap.size) [(t : Int)] (by simp) rfl (by unfold maxLen; simp))
        have HR5 : Hid (RowAt encI 3 1 (wr.alloc (.cells #[.int .i64 (t : Int)] 3)) (OffZ U w.heap.size) _ _) := Lib.hid (hv.below (Ba (Below.refl _ wr) _))
        have O5 := Lib.hid HR5.out.1
        have HS5 : Hid (w2.heap.size ≤ (wr.alloc (.cells #[.int .i64 (t : Int)] 3)).heap.size ∧ w.heap.size ≤ w2.heap.size) := Lib.hid ⟨by simp; omega, hsw⟩
        have HI5 : Hid (MpIs 59 (wr.alloc (.cells #[.int .i64 (t : Int)] 3)) M pa _ ⟨W, H, S, X, Y⟩ _) := Lib.hid (hI.below (Ba (Below.refl _ wr) _))
        have HT5 := Lib.hid (ht.alloc (.cells #[.int .i64 (t : Int)] 3))
        have HFAR := Lib.hid hm.far
        have HTK := Lib.hid htk
        have HOK := Lib.hid hm.ok
        have HGT := Lib.hid (And.intro (show t < (upd 1 c (l.take k)).length by omega) hbf)
        rw [hcl] at d5 h1
        generalize (l.take k).filter (fun t => decide (c[t.toNat]! = 0)) = L at *
        generalize hxx : c[t]! = x at *
        clear hx hxx FY FN hbf htk hmem hm hv ht hI hcl hcl2 hou HMp HV
        go_wp2_with (at_builtin; refine wpl_app2 apI rfl _ _ rfl 0 (by rfl) (by rfl) O5.out rfl L5.out (by simp; omega) (Nat.zero_le _) ?_; intro v7 w7 hown7 hgrow7 hat7 hnil7; obtain ⟨r7, t7⟩ := row7 (U := U) (b0 := w.heap.size) HR5.out hown7 hgrow7 hat7 (fun b e => ⟨by have := (HU.out b e).2; have := HS5.out; omega, by have := HS5.out; omega⟩) (by have := HS5.out; omega); have i7 := HI5.out.kept t7 HRM.out; have d7 := i7.cells.2.2.2.2.2; obtain ⟨g7, z7⟩ := i7.get (j := t) HGT.out.1; have l7 := i7.lt; have m7 := cell_lt g7; obtain ⟨P1, T1⟩ := i7.cell HFAR.out t (x + 1); rw [HGT.out.2] at g7; rw [← HTK.out] at P1; have HP9 := Lib.hid P1; have HR9 := Lib.hid (r7.kept T1 (fun b e f => HRM.out b f e)); have HT9 := Lib.hid ((HT5.out.more (t7.mono (fun b e => Or.inr e))).more (T1.mono (fun b e => Or.inl e))); rw [upd_len] at d7; clear hown7 hgrow7 hat7 hnil7 r7 t7 i7 P1 T1)
        go_roundw
        case measure => simp only [intOf]; omega
        case rel => exact ⟨k + 1, by omega, by go_num, by rw [HFT.out]; exact HR9.out, ⟨⟨_, HP9.out⟩, HOK.out, HCL.out, HFAR.out⟩, HT9.out⟩
      · have HFT := Lib.hid (FN.out (by simpa using hx))
        have e0 : (c[t]! == 0) = false := by simpa using hx
        have e0' : decide (c[t]! = 0) = false := decide_eq_false hx
        obtain ⟨P1, T1⟩ := hI.cell hm.far t (c[t]! + 1)
        rw [← htk] at P1
        have HP9 := Lib.hid P1
        have HR9 := Lib.hid (hv.kept T1 (fun b e f => HRM.out b f e))
        have HT9 := Lib.hid (ht.more (T1.mono (fun b e => Or.inl e)))
        have HFAR := Lib.hid hm.far
        have HOK := Lib.hid hm.ok
        rw [hcl] at d5 h1
        generalize (l.take k).filter (fun t => decide (c[t.toNat]! = 0)) = L at *
        generalize c[t]! = x at *
        clear hx FY FN hbf htk hmem hm hv ht hI hcl hcl2 hou HMp HV P1 T1
        go_wp2
        go_roundw
        case measure => simp only [intOf]; omega
        case rel => exact ⟨k + 1, by omega, by go_num, by rw [HFT.out]; exact HR9.out, ⟨⟨_, HP9.out⟩, HOK.out, HCL.out, HFAR.out⟩, HT9.out⟩
    · obtain rfl : k = l.length := by omega
      rw [List.take_length] at HMp HV
      have OV := Lib.hid (own_of_rowat HV.out (base := w.heap.size) (fun b e => e.1))
      have TW := Lib.hid (show Tch M w wr from ⟨HT.out.os.trans B2.out.os, HT.out.tape.trans B2.out.tape, HT.out.output.trans B2.out.output, Nat.le_trans B2.out.size HT.out.size, fun bb hbb hnm => (HT.out.block bb (Nat.lt_of_lt_of_le hbb B2.out.size) (fun e => e.elim hnm (fun f => by have := f.1; omega))).trans (B2.out.block bb hbb)⟩)
      clear hm hv ht
      go_wp2
      go_ret
      exact ⟨_, rfl, OV.out, HMp.out, TW.out⟩
end
end Go.Proofs.YtmeinjkpbijaeaaDoor
