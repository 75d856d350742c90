/-
  The table and its reference, side by side, off the blocks Z: each call's answer as one function of the rows.
-/
import Derived.Test.YtknfmjjlfhfocaaDoorLTf
import Derived.Test.YtknfmjjlfhfocaaDoorRw
import Derived.Test.YtknfmjjlfhfocaaDoorRx
namespace Go.Proofs.YtknfmjjlfhfocaaDoor
set_option linter.unusedSimpArgs false
set_option linter.unusedVariables false
open Go.RowKit Go.Sort Go.Lib Go.Shelf

/-! ### What the calls answer. -/
def addN (q : Nat) (R : List En) (l : List Vl) : Nat := if rightB l = true ∧ maskV l = q then (if R.length < 128 then 0 else 2) else 7
def addAt (q : Nat) (R : List En) (l : List Vl) : Int := if addN q R l = 0 then R.length else 0
def addR (q : Nat) (R : List En) (h : Hd) (l : List Vl) : List En := if addN q R l = 0 then R ++ [(h, l)] else R
def plc (R : List En) (i : Int) : Bool := decide (0 ≤ i ∧ i < R.length)
def entAt (R : List En) (i : Int) : En := if plc R i = true then R[i.toNat]! else ((0, 0), [])
def takeN (R : List En) (i : Int) : Nat := if plc R i = true then 0 else 1
def takeR (R : List En) (i : Int) : List En := if plc R i = true then takeC R i.toNat else R
def getN (q : Nat) (R : List En) (i k : Int) : Nat := if plc R i = true then (if k ∈ Ks q then 0 else 5) else 1
def getV (q : Nat) (R : List En) (i k : Int) : Vl := if getN q R i k = 0 then fndV R[i.toNat]!.2 k else (0, 0, 0)
def setN (q : Nat) (R : List En) (i : Int) (x : Vl) : Nat := if plc R i = true then (if x.1 ∈ Ks q then chk x else 5) else 1
def setR (q : Nat) (R : List En) (i : Int) (x : Vl) : List En := if setN q R i x = 0 then R.set i.toNat (R[i.toNat]!.1, putV R[i.toNat]!.2 x) else R
theorem plc_yes {R : List En} {i : Int} (h : plc R i = true) : ∃ n : Nat, i = n ∧ n < R.length ∧ i.toNat = n := by
  have := of_decide_eq_true h
  exact ⟨i.toNat, by omega, by omega, rfl⟩
theorem plc_no {R : List En} {i : Int} (h : ¬ plc R i = true) : ¬ (0 ≤ i ∧ i < R.length) := fun c => h (decide_eq_true c)
theorem len_addR (q : Nat) (R : List En) (h : Hd) (l : List Vl) : (addR q R h l).length ≤ R.length + 1 := by unfold addR; split <;> simp

/-- The table at pt with the rows R1, the reference's at pr with the rows R2. -/
def PlO (Z : Nat → Prop) (base : Nat) (w : World) (pt pr q : Nat) (R1 R2 : List En) : Prop :=
  ∃ M N, Tab w M pt q R1 ∧ RefT w N pr q R2 ∧ (∀ b, M b → base ≤ b ∧ ¬ N b ∧ ¬ Z b) ∧ (∀ b, N b → base ≤ b ∧ ¬ Z b) ∧ (∀ b, Z b → b < w.heap.size) ∧ base ≤ w.heap.size
section
variable {Z : Nat → Prop} {base pt pr q : Nat} {w w' : World} {R R1 R2 R1' R2' : List En} {A : Nat → Addr}
theorem PlO.below (h : PlO Z base w pt pr q R1 R2) (t : RowKit.Below w.heap.size w w') : PlO Z base w' pt pr q R1 R2 := by
  obtain ⟨M, N, h1, h2, h3, h4, h5, h6⟩ := h
  exact ⟨M, N, h1.below t, h2.below t, h3, h4, fun b e => Nat.lt_of_lt_of_le (h5 b e) t.size, Nat.le_trans h6 t.size⟩
theorem PlO.lo (h : PlO Z base w pt pr q R1 R2) : base ≤ w.heap.size := by
  obtain ⟨M, N, h1, h2, h3, h4, h5, h6⟩ := h
  exact h6
theorem PlO.zlt (h : PlO Z base w pt pr q R1 R2) : ∀ b, Z b → b < w.heap.size := by
  obtain ⟨M, N, h1, h2, h3, h4, h5, h6⟩ := h
  exact h5
theorem PlO.tab (h : PlO Z base w pt pr q R1 R2) : ∃ M, Tab w M pt q R1 := by
  obtain ⟨M, N, h1, _⟩ := h
  exact ⟨M, h1⟩
theorem PlO.ref (h : PlO Z base w pt pr q R1 R2) : ∃ N, RefT w N pr q R2 := by
  obtain ⟨M, N, _, h1, _⟩ := h
  exact ⟨N, h1⟩
theorem PlO.off {w0 : World} (h : PlO Z base w0 pt pr q R1 R2) (t : RowKit.Below w0.heap.size w0 w) : PlO (fun b => Z b ∨ (w0.heap.size ≤ b ∧ b < w.heap.size)) base w pt pr q R1 R2 := by
  obtain ⟨M, N, h1, h2, h3, h4, h5, h6⟩ := h
  refine ⟨M, N, h1.below t, h2.below t, fun b e => ⟨(h3 b e).1, (h3 b e).2.1, fun c => c.elim (h3 b e).2.2 (fun c => by have := h1.lt b e; omega)⟩, fun b e => ⟨(h4 b e).1, fun c => c.elim (h4 b e).2 (fun c => by have := h2.lt b e; omega)⟩, fun b e => e.elim (fun e => Nat.lt_of_lt_of_le (h5 b e) t.size) (fun e => e.2), Nat.le_trans h6 t.size⟩
theorem PlO.forget {Z' : Nat → Prop} (h : PlO Z base w pt pr q R1 R2) (hZ : ∀ b, Z' b → Z b) : PlO Z' base w pt pr q R1 R2 := by
  obtain ⟨M, N, h1, h2, h3, h4, h5, h6⟩ := h
  exact ⟨M, N, h1, h2, fun b e => ⟨(h3 b e).1, (h3 b e).2.1, fun c => (h3 b e).2.2 (hZ b c)⟩, fun b e => ⟨(h4 b e).1, fun c => (h4 b e).2 (hZ b c)⟩, fun b e => h5 b (hZ b e), h6⟩
/-- A change of blocks of Z. -/
theorem PlO.kept {X : Nat → Prop} (h : PlO Z base w pt pr q R1 R2) (t : Tch X w w') (hX : ∀ b, X b → Z b ∨ b < base) : PlO Z base w' pt pr q R1 R2 := by
  obtain ⟨M, N, h1, h2, h3, h4, h5, h6⟩ := h
  exact ⟨M, N, h1.kept t (fun b e1 e2 => (hX b e2).elim (h3 b e1).2.2 (fun c => by have := (h3 b e1).1; omega)), h2.kept t (fun b e1 e2 => (hX b e2).elim (h4 b e1).2 (fun c => by have := (h4 b e1).1; omega)), h3, h4, fun b e => Nat.lt_of_lt_of_le (h5 b e) t.size, Nat.le_trans h6 t.size⟩
theorem PlO.askT (h : PlO Z base w pt pr q R1 R2) {P : Ending → World → Prop} {fn : FuncId} {args : Array Value}
    (hc : ∀ M, Tab w M pt q R1 → (∀ b, M b → base ≤ b ∧ ¬ Z b) → (∀ b, Z b → b < w.heap.size) → Calls Tryd.prog fn args w fun e w' => P e w' ∧ Tab w' (New M w w') pt q R1' ∧ Tch M w w') :
    Calls Tryd.prog fn args w fun e w' => P e w' ∧ PlO Z base w' pt pr q R1' R2 ∧ Tch (OffT base Z) w w' := by
  obtain ⟨M, N, h1, h2, h3, h4, h5, h6⟩ := h
  refine (hc M h1 (fun b e => ⟨(h3 b e).1, (h3 b e).2.2⟩) h5).mono fun e w' ⟨he, hT, ht⟩ => ⟨he, ⟨_, N, hT, h2.kept ht (fun b e1 e2 => (h3 b e2).2.1 e1), fun b e => ?_, h4, fun b e => Nat.lt_of_lt_of_le (h5 b e) ht.size, Nat.le_trans h6 ht.size⟩, ht.mono fun b e => ⟨(h3 b e).1, (h3 b e).2.2⟩⟩
  rcases e with e | e
  · exact h3 b e
  · exact ⟨by omega, fun c => by have := h2.lt b c; omega, fun c => by have := h5 b c; omega⟩
theorem PlO.askR (h : PlO Z base w pt pr q R1 R2) {P : Ending → World → Prop} {fn : FuncId} {args : Array Value}
    (hc : ∀ N, RefT w N pr q R2 → Calls Tryd.prog fn args w fun e w' => P e w' ∧ RefT w' (New N w w') pr q R2' ∧ Tch N w w') :
    Calls Tryd.prog fn args w fun e w' => P e w' ∧ PlO Z base w' pt pr q R1 R2' ∧ Tch (OffT base Z) w w' := by
  obtain ⟨M, N, h1, h2, h3, h4, h5, h6⟩ := h
  refine (hc N h2).mono fun e w' ⟨he, hT, ht⟩ => ⟨he, ⟨M, _, h1.kept ht (fun b e1 e2 => (h3 b e1).2.1 e2), hT, fun b e => ⟨(h3 b e).1, fun c => ?_, (h3 b e).2.2⟩, fun b e => ?_, fun b e => Nat.lt_of_lt_of_le (h5 b e) ht.size, Nat.le_trans h6 ht.size⟩, ht.mono h4⟩
  · rcases c with c | c
    · exact (h3 b e).2.1 c
    · have := h1.lt b e; omega
  · rcases e with e | e
    · exact h4 b e
    · exact ⟨by omega, fun c => by have := h5 b c; omega⟩
/-- A question. -/
theorem PlO.stay {P : Ending → World → Prop} {fn : FuncId} {args : Array Value} (h : PlO Z base w pt pr q R1 R2) (hc : Calls Tryd.prog fn args w fun e w' => P e w' ∧ RowKit.Below w.heap.size w w') :
    Calls Tryd.prog fn args w fun e w' => P e w' ∧ PlO Z base w' pt pr q R1 R2 ∧ Tch (OffT base Z) w w' := hc.mono fun e w' ⟨h1, h2⟩ => ⟨h1, h.below h2, Tch.of h2⟩
theorem PlO.belowB (t : Tch (OffT base Z) w w') (hb : base ≤ w.heap.size) : RowKit.Below base w w' := t.below (fun b e => e.1) hb

theorem addT (h : PlO Z base w pt pr q R R2) (h1 h2 : Int) (l : List Vl) (v : Value) {N' : Nat → Prop} (hv : SlN N' encV w v l) (hN : ∀ b, N' b → b < base ∨ Z b) (hlen : l.length ≤ 100000) (hE : Er7 w A) :
    Calls Tryd.prog 11 #[ptP pt, .agg #[.int .i64 h1, .int .i64 h2], v] w fun e w' => e = .returned (.tuple #[.int .i64 (addAt q R l), errV A (addN q R l)]) ∧ PlO Z base w' pt pr q (addR q R (h1, h2) l) R2 ∧ Tch (OffT base Z) w w' := by
  unfold addAt addR addN
  by_cases c : rightB l = true ∧ maskV l = q
  · simp only [c, and_self, if_true]
    by_cases d : R.length < 128
    · simp only [d, if_true]
      exact h.askT (P := fun e _ => e = .returned (.tuple #[.int .i64 R.length, .nilIface])) fun M hT hM hZ => tadd_yes hT h1 h2 l v (hv.mono fun b e => by
        rcases hN b e with x | x
        · exact ⟨by have := h.lo; omega, fun y => by have := (hM b y).1; omega⟩
        · exact ⟨hZ b x, fun y => (hM b y).2 x⟩) hlen c.1 c.2 d hE
    · obtain ⟨M, hT⟩ := h.tab
      simp only [d, if_false, show ¬ (2 = 0) by decide]
      exact h.stay (tadd_full hT h1 h2 l v hv.sl hlen c.1 c.2 (by have := hT.size; omega) hE)
  · simp only [c, if_false, show ¬ (7 = 0) by decide]
    obtain ⟨M, hT⟩ := h.tab
    cases hr : rightB l
    · exact h.stay (tadd_wrong h1 h2 l v hv.sl hr hE)
    · exact h.stay (tadd_mask hT h1 h2 l v hv.sl hlen hr (fun e => c ⟨hr, e⟩) hE)
theorem addF (h : PlO Z base w pt pr q R1 R) (h1 h2 : Int) (l : List Vl) (v : Value) (hv : Sl encV w v l) (hlen : l.length ≤ 100000) (h128 : R.length ≤ 128) :
    Calls Tryd.prog 12 #[ptP pr, .agg #[.int .i64 h1, .int .i64 h2], v] w fun e w' => e = .returned (.tuple #[.int .i64 (addAt q R l), .int .i64 (addN q R l : Nat)]) ∧ PlO Z base w' pt pr q R1 (addR q R (h1, h2) l) ∧ Tch (OffT base Z) w w' := by
  unfold addAt addR addN
  by_cases c : rightB l = true ∧ maskV l = q
  · simp only [c, and_self, if_true]
    by_cases d : R.length < 128
    · simp only [d, if_true]
      exact h.askR (P := fun e _ => e = .returned (.tuple #[.int .i64 R.length, .int .i64 0])) fun N hT => radd_yes hT h1 h2 l v hv hlen c.1 c.2 d
    · obtain ⟨M, hT⟩ := h.ref
      simp only [d, if_false, show ¬ (2 = 0) by decide]
      exact h.stay (radd_full hT h1 h2 l v hv hlen c.1 c.2 (by omega))
  · simp only [c, if_false, show ¬ (7 = 0) by decide]
    obtain ⟨M, hT⟩ := h.ref
    cases hr : rightB l
    · exact h.stay (radd_wrong h1 h2 l v hv hlen hr)
    · exact h.stay (radd_mask hT h1 h2 l v hv hlen hr (fun e => c ⟨hr, e⟩))
theorem takeT (h : PlO Z base w pt pr q R R2) (i : Int) (hE : Er7 w A) (hTW : TabW w) :
    Calls Tryd.prog 14 #[ptP pt, .int .i64 i] w fun e w' => (∃ v, e = .returned (.tuple #[.agg #[.int .i64 (entAt R i).1.1, .int .i64 (entAt R i).1.2, v], errV A (takeN R i)]) ∧ Sl encV w' v (entAt R i).2) ∧ PlO Z base w' pt pr q (takeR R i) R2 ∧ Tch (OffT base Z) w w' := by
  unfold entAt takeN takeR
  by_cases c : plc R i = true
  · simp only [c, if_true]
    obtain ⟨n, rfl, hn, _⟩ := plc_yes c
    rw [Int.toNat_natCast]
    exact h.askT (P := fun e w' => ∃ v, e = .returned (.tuple #[.agg #[.int .i64 R[n]!.1.1, .int .i64 R[n]!.1.2, v], .nilIface]) ∧ Sl encV w' v R[n]!.2) fun M hT _ _ => (ttake_yes hT n hn hTW).mono fun e w' ⟨⟨v, a1, a2⟩, a3⟩ => ⟨⟨v, a1, row_sl lenV a2 rfl⟩, a3⟩
  · simp only [c, if_false]
    obtain ⟨M, hT⟩ := h.tab
    exact h.stay (P := fun e w' => ∃ v, e = .returned (.tuple #[.agg #[.int .i64 0, .int .i64 0, v], errC A 0]) ∧ Sl encV w' v []) ((ttake_no hT i (plc_no c) hE).mono fun e w' ⟨a1, a2⟩ => ⟨⟨_, a1, Sl.nil _ _ (Nat.zero_le _)⟩, a2⟩)
theorem takeF (h : PlO Z base w pt pr q R1 R) (i : Int) :
    Calls Tryd.prog 15 #[ptP pr, .int .i64 i] w fun e w' => (∃ v, e = .returned (.tuple #[.agg #[.int .i64 (entAt R i).1.1, .int .i64 (entAt R i).1.2, v], .int .i64 (takeN R i : Nat)]) ∧ Sl encV w' v (entAt R i).2) ∧ PlO Z base w' pt pr q R1 (takeR R i) ∧ Tch (OffT base Z) w w' := by
  unfold entAt takeN takeR
  by_cases c : plc R i = true
  · simp only [c, if_true]
    obtain ⟨n, rfl, hn, _⟩ := plc_yes c
    rw [Int.toNat_natCast]
    exact h.askR (P := fun e w' => ∃ v, e = .returned (.tuple #[.agg #[.int .i64 R[n]!.1.1, .int .i64 R[n]!.1.2, v], .int .i64 0]) ∧ Sl encV w' v R[n]!.2) fun N hT => (rtake_yes hT n hn).mono fun e w' ⟨a1, a2, a3⟩ => ⟨a1, a2.mono (fun b e => .inl e) (New.lt hT.lt a3.size), a3⟩
  · simp only [c, if_false]
    obtain ⟨M, hT⟩ := h.ref
    exact h.stay (P := fun e w' => ∃ v, e = .returned (.tuple #[.agg #[.int .i64 0, .int .i64 0, v], .int .i64 1]) ∧ Sl encV w' v []) ((rtake_no hT i (plc_no c)).mono fun e w' ⟨a1, a2⟩ => ⟨⟨_, a1, Sl.nil _ _ (Nat.zero_le _)⟩, a2⟩)
theorem getT (h : PlO Z base w pt pr q R R2) (i k : Int) (hkw : (Lit.int .i64 k).wf = true) (hE : Er7 w A) :
    Calls Tryd.prog 17 #[ptP pt, .int .i64 i, .int .i64 k] w fun e w' => e = .returned (.tuple #[aggV (getV q R i k), errV A (getN q R i k)]) ∧ RowKit.Below w.heap.size w w' := by
  obtain ⟨M, hT⟩ := h.tab
  unfold getV getN
  by_cases c : plc R i = true
  · simp only [c, if_true]
    obtain ⟨n, rfl, hn, _⟩ := plc_yes c
    rw [Int.toNat_natCast]
    by_cases d : k ∈ Ks q
    · simp only [d, if_true]
      exact tget_yes hT n hn k d hkw
    · simp only [d, if_false, show ¬ (5 = 0) by decide]
      exact tget_kind hT n hn k d hkw hE
  · simp only [c, if_false, show ¬ (1 = 0) by decide, Bool.false_eq_true]
    exact tget_no hT i k (plc_no c) hE
theorem getF (h : PlO Z base w pt pr q R1 R) (hok : ∀ r ∈ R, EntOk q r) (i k : Int) :
    Calls Tryd.prog 18 #[ptP pr, .int .i64 i, .int .i64 k] w fun e w' => e = .returned (.tuple #[aggV (getV q R i k), .int .i64 (getN q R i k : Nat)]) ∧ RowKit.Below w.heap.size w w' := by
  obtain ⟨M, hT⟩ := h.ref
  unfold getV getN
  by_cases c : plc R i = true
  · simp only [c, if_true]
    obtain ⟨n, rfl, hn, _⟩ := plc_yes c
    rw [Int.toNat_natCast]
    have C := rget_yes hT n hn k
    have hh := has_iff (hok _ (List.getElem_mem hn)) k
    rw [← getElem!_pos R n hn] at hh
    rw [hh] at C
    by_cases d : k ∈ Ks q
    · simp only [d, if_true, decide_true] at C ⊢
      exact C
    · simp only [d, if_false, show ¬ (5 = 0) by decide, decide_false, Bool.false_eq_true] at C ⊢
      exact C
  · simp only [c, if_false, show ¬ (1 = 0) by decide, Bool.false_eq_true]
    exact rget_no hT i k (plc_no c)
theorem setT (h : PlO Z base w pt pr q R R2) (i x1 x2 x3 : Int) (hkw : (Lit.int .i64 x1).wf = true) (hE : Er7 w A) :
    Calls Tryd.prog 19 #[ptP pt, .int .i64 i, .agg #[.int .i64 x1, .int .i64 x2, .int .i64 x3]] w fun e w' => e = .returned (errV A (setN q R i (x1, x2, x3))) ∧ PlO Z base w' pt pr q (setR q R i (x1, x2, x3)) R2 ∧ Tch (OffT base Z) w w' := by
  unfold setR setN
  by_cases c : plc R i = true
  · simp only [c, if_true]
    obtain ⟨n, rfl, hn, _⟩ := plc_yes c
    rw [Int.toNat_natCast]
    by_cases d : x1 ∈ Ks q
    · simp only [d, if_true]
      by_cases e : chk (x1, x2, x3) = 0
      · simp only [e, if_true]
        refine h.askT (P := fun e _ => e = .returned .nilIface) fun M hT _ _ => ?_
        rw [getElem!_pos R n hn]
        exact tset_yes hT n hn x1 x2 x3 d hkw e hE
      · obtain ⟨M, hT⟩ := h.tab
        simp only [e, if_false]
        rw [errV_at A _ e]
        exact h.stay (tset_chk hT n hn x1 x2 x3 d hkw e hE)
    · obtain ⟨M, hT⟩ := h.tab
      simp only [d, if_false, show ¬ (5 = 0) by decide]
      exact h.stay (tset_kind hT n hn x1 x2 x3 d hkw hE)
  · obtain ⟨M, hT⟩ := h.tab
    simp only [c, if_false, show ¬ (1 = 0) by decide, Bool.false_eq_true]
    exact h.stay (tset_no hT i x1 x2 x3 (plc_no c) hE)
theorem setF (h : PlO Z base w pt pr q R1 R) (hok : ∀ r ∈ R, EntOk q r) (i x1 x2 x3 : Int) :
    Calls Tryd.prog 20 #[ptP pr, .int .i64 i, .agg #[.int .i64 x1, .int .i64 x2, .int .i64 x3]] w fun e w' => e = .returned (.int .i64 (setN q R i (x1, x2, x3) : Nat)) ∧ PlO Z base w' pt pr q R1 (setR q R i (x1, x2, x3)) ∧ Tch (OffT base Z) w w' := by
  unfold setR setN
  by_cases c : plc R i = true
  · simp only [c, if_true]
    obtain ⟨n, rfl, hn, _⟩ := plc_yes c
    rw [Int.toNat_natCast]
    have hO := hok _ (List.getElem_mem hn)
    have hh := has_iff hO x1
    rw [← getElem!_pos R n hn] at hh hO
    by_cases d : x1 ∈ Ks q
    · simp only [d, if_true]
      rw [decide_eq_true d] at hh
      by_cases e : chk (x1, x2, x3) = 0
      · simp only [e, if_true]
        have hl : R[n]!.2.length ≤ 1000 := by rw [ent_len hO]; have := Ks_len q; omega
        exact h.askR (P := fun e _ => e = .returned (.int .i64 0)) fun N hT => by
          have := rset_yes hT n hn x1 x2 x3 hh e (ent_right hO) hl
          rwa [← getElem!_pos R n hn] at this
      · obtain ⟨M, hT⟩ := h.ref
        simp only [e, if_false]
        exact h.stay (rset_chk hT n hn x1 x2 x3 hh e)
    · obtain ⟨M, hT⟩ := h.ref
      simp only [d, if_false, show ¬ (5 = 0) by decide]
      rw [decide_eq_false d] at hh
      exact h.stay (rset_kind hT n hn x1 x2 x3 hh)
  · obtain ⟨M, hT⟩ := h.ref
    simp only [c, if_false, show ¬ (1 = 0) by decide, Bool.false_eq_true]
    exact h.stay (rset_no hT i x1 x2 x3 (plc_no c))
/-- The clone takes the table's place; the elder one is asked once more, and left. -/
theorem PlO.clone {w1 : World} {pb : Nat} (h : PlO Z base w pt pr q R R2) (t : RowKit.Below w.heap.size w w1) (hn : Tab w1 (Fresh w w1) pb q R) {P : Ending → Prop} {fn : FuncId} {args : Array Value}
    (hc : ∀ M, Tab w1 M pt q R → Calls Tryd.prog fn args w1 fun e w' => P e ∧ Tch M w1 w') : Calls Tryd.prog fn args w1 fun e w' => P e ∧ PlO Z base w' pb pr q R R2 ∧ Tch (OffT base Z) w1 w' := by
  obtain ⟨M, N, h1, h2, h3, h4, h5, h6⟩ := h
  refine (hc M (h1.below t)).mono fun e w' ⟨he, ht⟩ => ⟨he, ⟨_, N, hn.kept ht (fun b e1 e2 => ?_), (h2.below t).kept ht (fun b e1 e2 => (h3 b e2).2.1 e1), fun b e => ?_, h4, fun b e => Nat.lt_of_lt_of_le (h5 b e) (Nat.le_trans t.size ht.size), Nat.le_trans h6 (Nat.le_trans t.size ht.size)⟩, ht.mono fun b e => ⟨(h3 b e).1, (h3 b e).2.2⟩⟩
  · rcases e1 with e1 | e1
    · exact e1
    · have := h1.lt b e2; omega
  · rcases e with e | e
    · exact e.elim
    · exact ⟨by omega, fun c => by have := h2.lt b c; omega, fun c => by have := h5 b c; omega⟩
end
end Go.Proofs.YtknfmjjlfhfocaaDoor
