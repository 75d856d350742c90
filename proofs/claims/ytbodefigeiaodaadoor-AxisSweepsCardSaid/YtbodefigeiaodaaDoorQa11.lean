/-
  Package axis: New, Len, Ends, Pairs; an axis of the call's own, off the blocks Z.
-/
import Derived.Test.YtbodefigeiaodaaDoorPs11
import Derived.Test.YtbodefigeiaodaaDoorPv11
namespace Go.Proofs.YtbodefigeiaodaaDoor
set_option linter.unusedSimpArgs false
set_option linter.unusedVariables false
open Go.RowKit Go.Sort Go.Lib Go.Shelf

def psP (pa : Nat) : Value := .pointer (some ⟨pa, 0, none⟩)
theorem AxAt.new (w : World) (w' : World) (hw : w' = (((w.alloc (.map #[] 0)).alloc (.map #[] 0)).alloc (.cells #[.map (some w.heap.size), .map (some (w.heap.size + 1)), .slice none 0 0] 79))) : AxAt w' (Fresh w w') (w.heap.size + 2) [] ∧ RowKit.Below w.heap.size w w' := by
  subst hw
  have m1 : MapQ (w.alloc (.map #[] 0)) w.heap.size 0 (fun _ => none) := MapG.made w
  have m2 : MapS ((w.alloc (.map #[] 0)).alloc (.map #[] 0)) (w.heap.size + 1) 0 (fun _ => none) := by
    have := MapG.made (k := 28) (lit := kH) (ok := HdOk) (dt := ivD) (zr := ((0, 0) : Iv)) (R := ivElem) (w.alloc (.map #[] 0))
    rwa [show (w.alloc (.map #[] 0)).heap.size = w.heap.size + 1 by simp] at this
  have h3 := heap_alloc_new ((w.alloc (.map #[] 0)).alloc (.map #[] 0)) (.cells #[.map (some w.heap.size), .map (some (w.heap.size + 1)), .slice none 0 0] 79)
  rw [show ((w.alloc (.map #[] 0)).alloc (.map #[] 0)).heap.size = w.heap.size + 2 by simp] at h3
  refine ⟨⟨w.heap.size, w.heap.size + 1, .slice none 0 0, [], ⟨⟨h3, .inr ⟨by omega, by simp⟩, .inr ⟨by omega, by simp; omega⟩, .inr ⟨by omega, by simp⟩, by omega⟩, ?_, ?_, row_nil _ _ _ _⟩, ⟨List.nodup_nil, fun q => ⟨fun e => (by cases e), fun ⟨a, ha, _⟩ => (by cases ha)⟩⟩, List.nodup_nil, fun b hb => (by cases hb)⟩, Ba (Ba (Ba (Below.refl _ w) _) _) _⟩
  · exact ((m1.below (Ba (Below.refl _ _) _)).below (Ba (Below.refl _ _) _)).congr (fun q => rfl)
  · exact (m2.below (Ba (Below.refl _ _) _)).congr (fun q => rfl)
set_option maxHeartbeats 1000000 in
set_option maxRecDepth 100000 in
theorem new_call (w : World) : Calls Tryd.prog 9 #[] w fun e w' => ∃ pa, e = .returned (psP pa) ∧ AxAt w' (Fresh w w') pa [] ∧ RowKit.Below w.heap.size w w' := by
  have X := Lib.hid (AxAt.new w _ rfl)
  have hmm := @run_makeMap Tryd.prog
  unfold psP
  go_enter Tryd.func9, Tryd.ntmps9
  go_wp2
  go_ret
  exact ⟨_, rfl, X.out.1, X.out.2⟩

section
variable {pa : Nat} {L : List Spn} {M : Nat → Prop} {w : World}
theorem len_call (hp : AxAt w M pa L) : Calls Tryd.prog 19 #[.pointer (some ⟨pa, 0, none⟩)] w fun e w' => e = .returned (.int .i64 L.length) ∧ w = w' := by
  obtain ⟨mp, sp, v, K, hI, -, -, -⟩ := hp
  have hl := hI.lt
  obtain ⟨⟨c0, c1, c2⟩, f2⟩ := hI.cells
  have hlen := fun ty => hI.2.2.1.len mptS ty
  clear hI
  go_enter Tryd.func19, Tryd.ntmps19
  go_wp2
  go_ret
  exact ⟨rfl, rfl⟩
theorem ends_call (hp : AxAt w M pa L) (hlen : L.length ≤ 200) : Calls Tryd.prog 17 #[.pointer (some ⟨pa, 0, none⟩)] w fun e w' => ∃ v', e = .returned v' ∧ w'.ownsRow w.heap.size 55 4 v' (endsL L).length (flat encE (endsL L)) ∧ RowKit.Below w.heap.size w w' := by
  obtain ⟨mp, sp, v, K, hI, -, -, -⟩ := hp
  have hl := hI.lt
  obtain ⟨⟨c0, c1, c2⟩, f2⟩ := hI.cells
  have hel := endsL_len L
  have HC := Lib.hid (cloneE_call (endsL L) v w (hI.2.2.2.sl lenE) (by omega))
  obtain ⟨p, cap, hv, _, _, _⟩ := hI.open
  rw [hv] at c2 HC
  clear hI hel hv
  go_enter Tryd.func17, Tryd.ntmps17
  go_wp2_with fail
  refine HC.out.mono ?_
  rintro e w1 ⟨v1, rfl, _, h2, h3⟩
  have H2 := Lib.hid h2
  have H3 := Lib.hid h3
  clear h2 h3
  go_wp2
  go_ret
  exact ⟨_, rfl, H2.out, H3.out⟩
set_option maxHeartbeats 1000000 in
set_option maxRecDepth 100000 in
theorem all_call (mp : Nat) : Calls Tryd.prog 47 #[mpV mp] w fun e w' => ∃ Bm, e = .returned (.func (.func KeysF) #[] #[.pointer (some ⟨Bm, 0, none⟩)]) ∧ w'.cell? ⟨Bm, 0, none⟩ = some (.map (some mp)) ∧ RowKit.Below w.heap.size w w' := by
  unfold mpV
  have HK : Hid (∀ W, Calls Tryd.prog 66 #[.map (some mp)] W fun e w' => e = .returned (.func (.func KeysF) #[] #[.pointer (some ⟨W.heap.size, 0, none⟩)]) ∧ w' = W.alloc (.cells #[.map (some mp)] 74)) := fun W => by
    go_enter Tryd.func66, Tryd.ntmps66
    go_wp2
    go_ret
    exact ⟨rfl, rfl⟩
  go_enter Tryd.func47, Tryd.ntmps47
  go_wp2_with fail
  refine (HK.out _).mono ?_
  rintro e w1 ⟨rfl, rfl⟩
  go_wp2
  go_ret
  exact ⟨_, rfl, by simp, (by repeat (first | with_reducible exact Below.refl _ _ | with_reducible assumption | with_reducible apply Ba | with_reducible apply Bd | with_reducible apply Bn | with_reducible apply Bg | (with_reducible refine Bs ?_ (by first | (simp; done) | (simp; omega)) _) | (with_reducible refine Bt ?_ (by assumption)) | (with_reducible refine Bt ?_ (Gr.below (by assumption)))))⟩
set_option maxHeartbeats 1000000 in
set_option maxRecDepth 100000 in
theorem pairs_call (hp : AxAt w M pa L) (hlen : L.length ≤ 100) : Calls Tryd.prog 21 #[.pointer (some ⟨pa, 0, none⟩)] w fun e w' => ∃ v', e = .returned v' ∧ Own w.heap.size encP 4 w' v' (pairsL L) ∧ RowKit.Below w.heap.size w w' := by
  obtain ⟨mp, sp, v, K, hI, hK, ho, hok⟩ := hp
  have hl := hI.lt
  obtain ⟨⟨c0, c1, c2⟩, f2⟩ := hI.cells
  have hKl : K.length ≤ 10000 := by
    have h1 := PM.len hK.1 (fun q hq => (hK.2 q).1 hq)
    have h2 := Nat.mul_le_mul hlen hlen
    omega
  have HA := Lib.hid (fun W => all_call (w := W) mp)
  unfold mpV at HA
  have HM := Lib.hid hI.2.1
  have HSS : Hid (∀ ss, KeysOf (prF K) ss → srt ltP (rightOnes ss) = pairsL L) := fun ss hks => pairsL_of fun q => by
    constructor
    · intro hq
      have h1 := (hks.2.1 q (hks.2.2 q hq)).1 hq
      rw [prF_some] at h1
      exact (hK.2 q).1 (of_decide_eq_true h1)
    · intro hq
      have hq2 := (hK.2 q).2 hq
      obtain ⟨a, ha, b, hb, _, _, rfl⟩ := hq
      refine (hks.2.1 _ (norm_ok (hok a ha) (hok b hb))).2 ?_
      rw [prF_some]
      exact decide_eq_true hq2
  have HCO : Hid (∀ (W : World) (Bm : Nat), RowKit.Below w.heap.size w W → W.cell? ⟨Bm, 0, none⟩ = some (.map (some mp)) → Calls Tryd.prog 46 #[.func (.func KeysF) #[] #[.pointer (some ⟨Bm, 0, none⟩)]] W fun e W' => ∃ v ss, e = .returned v ∧ KeysOf (prF K) ss ∧ ss.length ≤ K.length ∧ W'.ownsRow W.heap.size 68 4 v ss.length (flat encP ss) ∧ RowKit.Below W.heap.size W W') := fun W Bm hW hc => by
    have HAS := Lib.hid (appendSeqP Bm mp K.length (prF K) (by omega) W (cell_lt hc) hc (HM.out.below hW))
    clear hc
    go_enter Tryd.func46, Tryd.ntmps46
    go_wp2_with fail
    refine HAS.out.mono ?_
    rintro e w1 ⟨v1, ss, rfl, h1, h2, h3, h4⟩
    have H := Lib.hid (And.intro h1 (And.intro h2 (And.intro h3 h4)))
    clear h1 h2 h3 h4
    go_wp2
    go_ret
    exact ⟨_, ss, rfl, H.out.1, H.out.2.1, H.out.2.2.1, H.out.2.2.2⟩
  clear hI hK ho hok c1 c2 f2
  go_enter Tryd.func21, Tryd.ntmps21
  go_wp2_with fail
  refine (HA.out _).mono ?_
  rintro e w1 ⟨Bm, rfl, hcm, hb1⟩
  have HC1 := Lib.hid (HCO.out w1 Bm hb1 hcm)
  have B1 := Lib.hid hb1
  clear hcm hb1
  go_wp2_with fail
  refine HC1.out.mono ?_
  rintro e w2 ⟨v2, ss, rfl, h1, h2, h3, h4⟩
  have S2 := Lib.hid (row_sl lenP h3 rfl)
  have B2 := Lib.hid (Bt B1.out h4)
  have E2 := Lib.hid (HSS.out ss h1)
  have L2 := Lib.hid (show ss.length ≤ 10000 by omega)
  clear h1 h2 h3 h4
  go_wp2_with fail
  refine (opairs_call ss v2 w2 S2.out L2.out).mono ?_
  rintro e w3 ⟨v3, rfl, h5, h6⟩
  rw [E2.out] at h5
  have H5 := Lib.hid (h5.mono B2.out.size)
  have B3 := Lib.hid (Bt B2.out h6)
  clear h5 h6
  go_wp2
  go_ret
  exact ⟨_, rfl, H5.out, B3.out⟩
end

/-! ### An axis of the call's own, from base on, off the blocks Z. -/
def AxO (Z : Nat → Prop) (base : Nat) (w : World) (pa : Nat) (L : List Spn) : Prop :=
  ∃ M, AxAt w M pa L ∧ (∀ b, M b → base ≤ b ∧ ¬ Z b ∧ b < w.heap.size) ∧ (∀ b, Z b → b < w.heap.size) ∧ base ≤ w.heap.size
/-- Below base and at Z nothing has changed. -/
def OffZ (Z : Nat → Prop) (base : Nat) : Nat → Prop := fun b => base ≤ b ∧ ¬ Z b
abbrev NoZ : Nat → Prop := fun _ => False
section
variable {Z Z' : Nat → Prop} {base pa : Nat} {L L' : List Spn} {w w' : World}
theorem OffZ.below (h : Tch (OffZ Z base) w w') (hb : base ≤ w.heap.size) : RowKit.Below base w w' := Tch.below h (fun _ e => e.1) hb
theorem AxO.lo (h : AxO Z base w pa L) : base ≤ w.heap.size := h.choose_spec.2.2.2
theorem AxO.zlt (h : AxO Z base w pa L) : ∀ b, Z b → b < w.heap.size := h.choose_spec.2.2.1
theorem AxO.below (h : AxO Z base w pa L) (t : RowKit.Below w.heap.size w w') : AxO Z base w' pa L := by
  obtain ⟨M, h1, h2, h3, h4⟩ := h
  exact ⟨M, h1.below t, fun b e => ⟨(h2 b e).1, (h2 b e).2.1, Nat.lt_of_lt_of_le (h2 b e).2.2 t.size⟩, fun b e => Nat.lt_of_lt_of_le (h3 b e) t.size, Nat.le_trans h4 t.size⟩
/-- Behind a change of Z and of what is new; what it keeps beside it from then on. -/
theorem AxO.turn (h : AxO Z base w pa L) (t : Tch Z w w') (hZ : ∀ b, Z' b → (Z b ∨ b < base ∨ w.heap.size ≤ b) ∧ b < w'.heap.size) : AxO Z' base w' pa L := by
  obtain ⟨M, h1, h2, h3, h4⟩ := h
  refine ⟨M, h1.kept t (fun b e => (h2 b e).2.1), fun b e => ⟨(h2 b e).1, fun z => ?_, t.lt (h2 b e).2.2⟩, fun b e => (hZ b e).2, Nat.le_trans h4 t.size⟩
  have h6 := h2 b e
  rcases (hZ b z).1 with c | c | c
  · exact h6.2.1 c
  · omega
  · omega
theorem AxO.new (hp : AxAt w' (Fresh w w') pa L) (hb : base ≤ w.heap.size) (hs : w.heap.size ≤ w'.heap.size) (hZ : ∀ b, Z b → b < w.heap.size) : AxO Z base w' pa L :=
  ⟨_, hp, fun b e => e.elim (fun e => e.elim) (fun e => ⟨by omega, fun z => by have := hZ b z; omega, e.2⟩), fun b e => Nat.lt_of_lt_of_le (hZ b e) hs, Nat.le_trans hb hs⟩
/-- A call that changes it. -/
theorem AxO.ask {P : Ending → Prop} {fn : FuncId} {args : Array Value} (h : AxO Z base w pa L)
    (hc : ∀ M, AxAt w M pa L → Calls Tryd.prog fn args w fun e w' => P e ∧ AxAt w' (New M w w') pa L' ∧ Tch M w w') :
    Calls Tryd.prog fn args w fun e w' => P e ∧ AxO Z base w' pa L' ∧ Tch (OffZ Z base) w w' := by
  obtain ⟨M, h1, h2, h3, h4⟩ := h
  refine (hc M h1).mono fun e w' ⟨he, hT, ht⟩ => ⟨he, ⟨_, hT, fun b e => ?_, fun b e => ht.lt (h3 b e), Nat.le_trans h4 ht.size⟩, ht.mono fun b e => ⟨(h2 b e).1, (h2 b e).2.1⟩⟩
  rcases e with e | e
  · exact ⟨(h2 b e).1, (h2 b e).2.1, ht.lt (h2 b e).2.2⟩
  · exact ⟨by omega, fun c => by have := h3 b c; omega, e.2⟩
/-- A question. -/
theorem AxO.read {P : Ending → World → Prop} {fn : FuncId} {args : Array Value} (h : AxO Z base w pa L) (hc : ∀ M, AxAt w M pa L → Calls Tryd.prog fn args w P) : Calls Tryd.prog fn args w P := hc _ h.choose_spec.1
end
end Go.Proofs.YtbodefigeiaodaaDoor
