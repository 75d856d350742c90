/-
  Objects of the call's own, one or several side by side, off the blocks Z; axes and sweeps as such; alive.
-/
import Derived.Test.YtbodefigeiaodaaDoorSq11
namespace Go.Proofs.YtbodefigeiaodaaDoor
set_option linter.unusedSimpArgs false
set_option linter.unusedVariables false
open Go.RowKit Go.Sort Go.Lib Go.Shelf

abbrev Ob := World → (Nat → Prop) → Prop
structure Fr (P : Ob) : Prop where
  kept : ∀ {w w' : World} {R M : Nat → Prop}, P w R → Tch M w w' → (∀ b, R b → ¬ M b) → P w' R
  mono : ∀ {w : World} {M M' : Nat → Prop}, P w M → (∀ b, M b → M' b) → P w M'
/-- Two objects, apart from one another. -/
def And2 (P Q : Ob) : Ob := fun w M => ∃ M1 M2, P w M1 ∧ Q w M2 ∧ (∀ b, M1 b → M b ∧ ¬ M2 b) ∧ ∀ b, M2 b → M b
def OO (P : Ob) (Z : Nat → Prop) (base : Nat) (w : World) : Prop := ∃ M, P w M ∧ (∀ b, M b → base ≤ b ∧ ¬ Z b ∧ b < w.heap.size) ∧ (∀ b, Z b → b < w.heap.size) ∧ base ≤ w.heap.size
section
variable {P P' Q : Ob} {Z Z' : Nat → Prop} {base : Nat} {w w' : World}
theorem fr_and (hP : Fr P) (hQ : Fr Q) : Fr (And2 P Q) where
  kept h t hd := by
    obtain ⟨M1, M2, h1, h2, h3, h4⟩ := h
    exact ⟨M1, M2, hP.kept h1 t (fun b e => hd b (h3 b e).1), hQ.kept h2 t (fun b e => hd b (h4 b e)), h3, h4⟩
  mono h hM := by
    obtain ⟨M1, M2, h1, h2, h3, h4⟩ := h
    exact ⟨M1, M2, h1, h2, fun b e => ⟨hM b (h3 b e).1, (h3 b e).2⟩, fun b e => hM b (h4 b e)⟩
theorem fr_ax (pa : Nat) (L : List Spn) : Fr (fun w M => AxAt w M pa L) := ⟨fun h t hd => h.kept t hd, fun h hM => h.mono hM⟩
theorem fr_sw (ps : Nat) (B : List Bxd) : Fr (fun w M => SwAt w M ps B) := ⟨fun h t hd => h.kept t hd, fun h hM => h.mono hM⟩
theorem Fr.below (hP : Fr P) {R : Nat → Prop} (h : P w R) (t : RowKit.Below w.heap.size w w') : P w' R := hP.kept (M := fun _ => False) h (Tch.of t) (fun _ _ e => e)
theorem OO.below (hP : Fr P) (h : OO P Z base w) (t : RowKit.Below w.heap.size w w') : OO P Z base w' := by
  obtain ⟨M, h1, h2, h3, h4⟩ := h
  exact ⟨M, hP.below h1 t, fun b e => ⟨(h2 b e).1, (h2 b e).2.1, Nat.lt_of_lt_of_le (h2 b e).2.2 t.size⟩, fun b e => Nat.lt_of_lt_of_le (h3 b e) t.size, Nat.le_trans h4 t.size⟩
theorem OO.turn (hP : Fr P) (h : OO P Z base w) (t : Tch Z w w') (hZ : ∀ b, Z' b → (Z b ∨ b < base ∨ w.heap.size ≤ b) ∧ b < w'.heap.size) : OO P Z' base w' := by
  obtain ⟨M, h1, h2, h3, h4⟩ := h
  refine ⟨M, hP.kept h1 t (fun b e => (h2 b e).2.1), fun b e => ⟨(h2 b e).1, fun z => ?_, t.lt (h2 b e).2.2⟩, fun b e => (hZ b e).2, Nat.le_trans h4 t.size⟩
  have h6 := h2 b e
  rcases (hZ b z).1 with c | c | c
  · exact h6.2.1 c
  · omega
  · omega
theorem OO.lo (h : OO P Z base w) : base ≤ w.heap.size := h.choose_spec.2.2.2
theorem OO.zlt (h : OO P Z base w) : ∀ b, Z b → b < w.heap.size := h.choose_spec.2.2.1
theorem OO.imp (h : OO P Z base w) (hi : ∀ M, P w M → P' w M) : OO P' Z base w := by
  obtain ⟨M, h1, h2⟩ := h
  exact ⟨M, hi M h1, h2⟩
theorem OO.new (hp : P w' (Fresh w w')) (hb : base ≤ w.heap.size) (hs : w.heap.size ≤ w'.heap.size) (hZ : ∀ b, Z b → b < w.heap.size) : OO P Z base w' :=
  ⟨_, hp, fun b e => e.elim (fun e => e.elim) (fun e => ⟨by omega, fun z => by have := hZ b z; omega, e.2⟩), fun b e => Nat.lt_of_lt_of_le (hZ b e) hs, Nat.le_trans hb hs⟩
/-- Another one is made. -/
theorem OO.beside (hP : Fr P) (hQ : Fr Q) (h : OO P Z base w) (hq : Q w' (Fresh w w')) (hb : RowKit.Below w.heap.size w w') : OO (And2 P Q) Z base w' := by
  obtain ⟨M, h1, h2, h3, h4⟩ := h
  refine ⟨fun b => M b ∨ Fresh w w' b, ⟨M, Fresh w w', hP.below h1 hb, hq, fun b e => ⟨.inl e, fun f => f.elim (fun f => f.elim) (fun f => by have := (h2 b e).2.2; omega)⟩, fun b e => .inr e⟩, fun b e => ?_, fun b e => Nat.lt_of_lt_of_le (h3 b e) hb.size, Nat.le_trans h4 hb.size⟩
  rcases e with e | e
  · exact ⟨(h2 b e).1, (h2 b e).2.1, Nat.lt_of_lt_of_le (h2 b e).2.2 hb.size⟩
  · exact e.elim (fun e => e.elim) (fun e => ⟨by omega, fun z => by have := h3 b z; omega, e.2⟩)
/-- What a call on the object is to say. -/
def Asks (base : Nat) (w : World) (P P' : Ob) (fn : FuncId) (args : Array Value) (E : Ending → Prop) : Prop :=
  ∀ M, (∀ b, M b → base ≤ b ∧ b < w.heap.size) → P w M → Calls Tryd.prog fn args w fun e w' => E e ∧ P' w' (New M w w') ∧ Tch M w w'
theorem OO.ask {E : Ending → Prop} {fn : FuncId} {args : Array Value} (h : OO P Z base w) (hc : Asks base w P P' fn args E) :
    Calls Tryd.prog fn args w fun e w' => E e ∧ OO P' Z base w' ∧ Tch (OffZ Z base) w w' := by
  obtain ⟨M, h1, h2, h3, h4⟩ := h
  refine (hc M (fun b e => ⟨(h2 b e).1, (h2 b e).2.2⟩) h1).mono fun e w' ⟨he, hT, ht⟩ => ⟨he, ⟨_, hT, fun b e => ?_, fun b e => ht.lt (h3 b e), Nat.le_trans h4 ht.size⟩, ht.mono fun b e => ⟨(h2 b e).1, (h2 b e).2.1⟩⟩
  rcases e with e | e
  · exact ⟨(h2 b e).1, (h2 b e).2.1, ht.lt (h2 b e).2.2⟩
  · exact ⟨by omega, fun c => by have := h3 b c; omega, e.2⟩
theorem asks_1 {E : Ending → Prop} {fn : FuncId} {args : Array Value} (hQ : Fr Q) (hc : Asks base w P P' fn args E) : Asks base w (And2 P Q) (And2 P' Q) fn args E := fun M hM h => by
  obtain ⟨M1, M2, h1, h2, h3, h4⟩ := h
  refine (hc M1 (fun b e => hM b (h3 b e).1) h1).mono fun e w' ⟨he, hT, ht⟩ => ⟨he, ⟨New M1 w w', M2, hT, hQ.kept h2 ht (fun b e f => (h3 b f).2 e), fun b e => ?_, fun b e => .inl (h4 b e)⟩, ht.mono fun b e => (h3 b e).1⟩
  rcases e with e | e
  · exact ⟨.inl (h3 b e).1, (h3 b e).2⟩
  · exact ⟨.inr e, fun f => by have := (hM b (h4 b f)).2; omega⟩
theorem asks_2 {E : Ending → Prop} {fn : FuncId} {args : Array Value} {Q' : Ob} (hP : Fr P) (hc : Asks base w Q Q' fn args E) : Asks base w (And2 P Q) (And2 P Q') fn args E := fun M hM h => by
  obtain ⟨M1, M2, h1, h2, h3, h4⟩ := h
  refine (hc M2 (fun b e => hM b (h4 b e)) h2).mono fun e w' ⟨he, hT, ht⟩ => ⟨he, ⟨M1, New M2 w w', hP.kept h1 ht (fun b e f => (h3 b e).2 f), hT, fun b e => ?_, fun b e => ?_⟩, ht.mono fun b e => h4 b e⟩
  · exact ⟨.inl (h3 b e).1, fun f => f.elim (h3 b e).2 (fun f => by have := (hM b (h3 b e).1).2; omega)⟩
  · rcases e with e | e
    · exact .inl (h4 b e)
    · exact .inr e
theorem OO.read {X : Ending → World → Prop} {fn : FuncId} {args : Array Value} (h : OO P Z base w) (hc : ∀ M, P w M → Calls Tryd.prog fn args w X) : Calls Tryd.prog fn args w X := hc _ h.choose_spec.1
theorem OO.tch (h : Tch (OffZ Z base) w w') (hb : base ≤ w.heap.size) : RowKit.Below base w w' := Tch.below h (fun _ e => e.1) hb
end
/-- A call that leaves the object as it is. -/
theorem asks_same {P : Ob} (hP : Fr P) {base : Nat} {w : World} {fn : FuncId} {args : Array Value} {E : Ending → Prop} (hc : ∀ M, P w M → Calls Tryd.prog fn args w fun e w' => E e ∧ RowKit.Below w.heap.size w w') : Asks base w P P fn args E := fun M _ h =>
  (hc M h).mono fun e w' ⟨he, hb⟩ => ⟨he, hP.mono (hP.below h hb) (fun b e => .inl e), Tch.of hb⟩
abbrev AxB (pa : Nat) (L : List Spn) : Ob := fun w M => AxAt w M pa L
abbrev SwB (ps : Nat) (B : List Bxd) : Ob := fun w M => SwAt w M ps B
section
variable {base : Nat} {w : World} {pa ps : Nat} {L : List Spn} {B : List Bxd} {t : TypeId} {u : Value}
theorem asks_put (x y s1 s2 : Int) (hx : HdOk (x, y)) (hs : spanB s1 s2 = true) (hl : L.length ≤ 200) (hE : w.cell? ⟨2, 0, none⟩ = some (.iface t u)) :
    Asks base w (AxB pa L) (AxB pa (without L (x, y) ++ [((x, y), (s1, s2))])) 10 #[.pointer (some ⟨pa, 0, none⟩), .agg #[.int .i64 x, .int .i64 y], .int .i64 s1, .int .i64 s2] (fun e => e = .returned .nilIface) := fun M _ h => put_yes h x y s1 s2 hx hs hl t u hE
theorem asks_putS (x y a b c d : Int) (hx : HdOk (x, y)) (hb : boxB (a, b, c, d) = true) (hl : B.length ≤ 200) (hE : w.cell? ⟨2, 0, none⟩ = some (.iface t u)) (hG : 2 < base) :
    Asks base w (SwB ps B) (SwB ps (woB B (x, y) ++ [((x, y), (a, b, c, d))])) 24 #[.pointer (some ⟨ps, 0, none⟩), .agg #[.int .i64 x, .int .i64 y], .agg #[.int .i64 a, .int .i64 b, .int .i64 c, .int .i64 d]] (fun e => e = .returned .nilIface) := fun M hM h => putS_yes h x y a b c d hx hb hl t u hE (fun e => by have := (hM _ e).1; omega)
end

set_option maxHeartbeats 2000000 in
set_option maxRecDepth 100000 in
theorem alive_any (w : World) (t : TypeId) (u : Value) (hE : w.cell? ⟨2, 0, none⟩ = some (.iface t u)) : Calls Tryd.prog 8 #[] w fun e w' => e = .returned (.bool true) ∧ RowKit.Below w.heap.size w w' := by
  have HE := Lib.hid hE
  have hel := cell_lt hE
  have HN := Lib.hid (new_call w)
  have heq : ∀ W, Sem.run Tryd.prog (binOp .eql 55 (.agg #[.int .i64 3, .bool false, .int .i64 0, .int .i64 2]) (.agg #[.int .i64 3, .bool false, .int .i64 0, .int .i64 2])) W = .ok (.bool true) W := fun W => by kernel_rfl
  have hgd : ∀ W, Sem.run Tryd.prog (eqGuard .eql 55 (.tmp 32) (.tmp 34) (.agg #[.int .i64 3, .bool false, .int .i64 0, .int .i64 2]) (.agg #[.int .i64 3, .bool false, .int .i64 0, .int .i64 2])) W = .ok () W := fun W => by kernel_rfl
  clear hE
  unfold psP at HN
  go_enter Tryd.func8, Tryd.ntmps8
  go_wp2_with fail
  refine HN.out.mono ?_
  rintro e w1 ⟨pa, rfl, h1, hb1⟩
  have O1 := Lib.hid (OO.new (P := AxB pa []) (Z := NoZ) (base := w.heap.size) h1 (Nat.le_refl _) hb1.size (fun b e => e.elim))
  have E1 := Lib.hid (Bc hb1 hel HE.out)
  have HP1 := Lib.hid (O1.out.ask (asks_put 0 1 1 3 ⟨by decide, by decide⟩ (by decide) (by decide) E1.out))
  have B1 := Lib.hid hb1
  clear h1 hb1
  go_wp2_with fail
  refine HP1.out.mono ?_
  rintro e w2 ⟨rfl, h2, ht2⟩
  have B2 := Lib.hid (B1.out.trans (OO.tch ht2 B1.out.size))
  have E2 := Lib.hid (Bc B2.out hel HE.out)
  have HP2 := Lib.hid (h2.ask (asks_put 0 2 3 5 ⟨by decide, by decide⟩ (by decide) (by decide) E2.out))
  clear h2 ht2
  go_wp2_with fail
  refine HP2.out.mono ?_
  rintro e w3 ⟨rfl, h3, ht3⟩
  have B3 := Lib.hid (B2.out.trans (OO.tch ht3 B2.out.size))
  have O3 := Lib.hid h3
  have EN := Lib.hid (h3.read (fun M h => ends_call h (by decide)))
  clear h3 ht3
  have e4 : endsL (without (without [] ((0 : Int), (1 : Int)) ++ [(((0 : Int), (1 : Int)), ((1 : Int), (3 : Int)))]) ((0 : Int), (2 : Int)) ++ [(((0 : Int), (2 : Int)), ((3 : Int), (5 : Int)))]) = [(1, false, 0, 1), (3, false, 0, 2), (3, true, 0, 1), (5, true, 0, 2)] := by decide
  have e5 : pairsL (without (without [] ((0 : Int), (1 : Int)) ++ [(((0 : Int), (1 : Int)), ((1 : Int), (3 : Int)))]) ((0 : Int), (2 : Int)) ++ [(((0 : Int), (2 : Int)), ((3 : Int), (5 : Int)))]) = [((0, 1), (0, 2))] := by decide
  rw [e4] at EN
  go_wp2_with fail
  refine EN.out.mono ?_
  rintro e w4 ⟨v4, rfl, hr4, hb4⟩
  obtain ⟨p, cap, rfl, hc1, hc2, hc3⟩ := row_val hr4
  obtain ⟨g, rfl, hg, _⟩ := hc3 (by decide)
  obtain ⟨d1, d2, d3, d4⟩ := rowE hr4 (i := 1) (by decide)
  have PA := Lib.hid ((O3.out.below (fr_ax _ _) hb4).read (fun M h => pairs_call h (by decide)))
  rw [e5] at PA
  have HD : Hid (w4.cell? ⟨g, 4, none⟩ = some (.int .i64 3) ∧ w4.cell? ⟨g, 5, none⟩ = some (.bool false) ∧ w4.cell? ⟨g, 6, none⟩ = some (.int .i64 0) ∧ w4.cell? ⟨g, 7, none⟩ = some (.int .i64 2)) := ⟨d1, d2, d3, d4⟩
  have B4 := Lib.hid (B3.out.trans (hb4.mono B3.out.size))
  have hcap : (4 : Int) ≤ (cap : Int) := by simp at hc1; omega
  have hcap2 : cap ≤ 9223372036854775807 := by unfold maxLen at hc2; omega
  clear hr4 hb4 d1 d2 d3 d4 hc3 e4 e5 hc2 hc1
  simp only [List.length_cons, List.length_nil, Nat.zero_add, Nat.reduceAdd]
  go_wp2_with fail
  refine PA.out.mono ?_
  rintro e w5 ⟨v5, rfl, ho5, hb5⟩
  obtain ⟨p5, c5, rfl, _, _, _⟩ := ho5
  have d1 := Bc hb5 hg HD.out.1
  have d2 := Bc hb5 hg HD.out.2.1
  have d3 := Bc hb5 hg HD.out.2.2.1
  have d4 := Bc hb5 hg HD.out.2.2.2
  have hg5 : g < w5.heap.size := cell_lt d1
  have B5 := Lib.hid (B4.out.trans (hb5.mono B4.out.size))
  clear hb5
  simp only [List.length_cons, List.length_nil, Nat.zero_add]
  go_wp2
  go_ret
  exact ⟨rfl, B5.out⟩
end Go.Proofs.YtbodefigeiaodaaDoor
