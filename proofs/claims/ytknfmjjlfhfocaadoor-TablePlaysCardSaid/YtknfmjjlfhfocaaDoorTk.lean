/-
  A table of the call's own, off the blocks N; handles compared; alive.
-/
import Derived.Test.YtknfmjjlfhfocaaDoorTj
import Derived.Test.YtknfmjjlfhfocaaDoorVq
namespace Go.Proofs.YtknfmjjlfhfocaaDoor
set_option linter.unusedSimpArgs false
set_option linter.unusedVariables false
open Go.RowKit Go.Sort Go.Lib Go.Shelf

theorem eqH_run (x1 x2 y1 y2 : Int) (w : World) : Sem.run Tryd.prog (binOp .eql 38 (.agg #[.int .i64 x1, .int .i64 x2]) (.agg #[.int .i64 y1, .int .i64 y2])) w = .ok (.bool (decide ((x1, x2) = (y1, y2)))) w := by
  have u3 := Tryd.underlying3
  have a3 := Tryd.isAgg3
  have z3 := Tryd.sizeOf3
  have hS : Tryd.prog.underlying 38 = some (.struct (Tryd.prog.fieldsOf 38)) := by kernel_rfl
  have hp : Tryd.prog.stoodInHeld 38 = false := by kernel_rfl
  rw [run_eql_struct, show (10000 : Nat) = 9999 + 1 from rfl, run_equalIn_agg w 9999 38 _ _ hS hp]
  simp only [Program.fieldsOf, Tryd.underlying38]
  go_simp
  by_cases h1 : x1 = y1 <;> by_cases h2 : x2 = y2 <;> simp [h1, h2]
theorem neH_run (x1 x2 y1 y2 : Int) (w : World) : Sem.run Tryd.prog (binOp .neq 38 (.agg #[.int .i64 x1, .int .i64 x2]) (.agg #[.int .i64 y1, .int .i64 y2])) w = .ok (.bool (!decide ((x1, x2) = (y1, y2)))) w := by
  have h := eqH_run x1 x2 y1 y2 w
  rw [run_eql_struct] at h
  rw [run_neq_struct]
  cases hr : (Op.equalIn 10000 38 (.agg #[.int .i64 x1, .int .i64 x2]) (.agg #[.int .i64 y1, .int .i64 y2])).run Tryd.prog w with
  | ok b w' =>
    rw [hr] at h
    simp only [Result.andThen_ok, Result.ok.injEq, Value.bool.injEq] at h ⊢
    obtain ⟨rfl, rfl⟩ := h
    exact ⟨rfl, rfl⟩
  | halt x w' => rw [hr] at h; simp [Result.andThen] at h
theorem gdH_run (op : BinOp) (a b : Operand) (xs ys : Array Value) (w : World) : Sem.run Tryd.prog (eqGuard op 38 a b (.agg xs) (.agg ys)) w = .ok () w :=
  run_eqGuard_agg w op 38 a b xs ys (by kernel_rfl)

/-- From base on, none of N. -/
def OffT (base : Nat) (N : Nat → Prop) : Nat → Prop := fun b => base ≤ b ∧ ¬ N b
/-- A table of the call's own: its blocks lie from base on, none in N. -/
def TabO (N : Nat → Prop) (base : Nat) (w : World) (pt q : Nat) (R : List En) : Prop :=
  ∃ M, Tab w M pt q R ∧ (∀ b, M b → base ≤ b ∧ ¬ N b) ∧ (∀ b, N b → b < w.heap.size) ∧ base ≤ w.heap.size
def NoN : Nat → Prop := fun _ => False
section
variable {N : Nat → Prop} {base pt q : Nat} {w w' : World} {R R' : List En} {A : Nat → Addr}
theorem TabO.below (h : TabO N base w pt q R) (t : RowKit.Below w.heap.size w w') : TabO N base w' pt q R := by
  obtain ⟨M, h1, h2, h3, h4⟩ := h
  exact ⟨M, h1.below t, h2, fun b e => Nat.lt_of_lt_of_le (h3 b e) t.size, Nat.le_trans h4 t.size⟩
theorem TabO.lo (h : TabO N base w pt q R) : base ≤ w.heap.size := by
  obtain ⟨M, h1, h2, h3, h4⟩ := h
  exact h4
theorem TabO.tab (h : TabO N base w pt q R) : ∃ M, Tab w M pt q R := ⟨_, h.choose_spec.1⟩
theorem TabO.size (h : TabO N base w pt q R) : R.length ≤ 128 := h.choose_spec.1.size
theorem TabO.hq (h : TabO N base w pt q R) : q < 1024 := h.choose_spec.1.hq
theorem TabO.ok (h : TabO N base w pt q R) : ∀ r ∈ R, EntOk q r := h.choose_spec.1.ok
/-- What is new since an elder world of the table's is off it. -/
theorem TabO.off {w0 : World} (h : TabO N base w0 pt q R) (t : RowKit.Below w0.heap.size w0 w) : TabO (fun b => N b ∨ (w0.heap.size ≤ b ∧ b < w.heap.size)) base w pt q R := by
  obtain ⟨M, h1, h2, h3, h4⟩ := h
  refine ⟨M, h1.below t, fun b e => ⟨(h2 b e).1, fun c => c.elim (h2 b e).2 (fun c => by have := h1.lt b e; omega)⟩, fun b e => e.elim (fun e => Nat.lt_of_lt_of_le (h3 b e) t.size) (fun e => e.2), Nat.le_trans h4 t.size⟩
theorem TabO.forget {N' : Nat → Prop} (h : TabO N base w pt q R) (hN : ∀ b, N' b → N b) : TabO N' base w pt q R := by
  obtain ⟨M, h1, h2, h3, h4⟩ := h
  exact ⟨M, h1, fun b e => ⟨(h2 b e).1, fun c => (h2 b e).2 (hN b c)⟩, fun b e => h3 b (hN b e), h4⟩
theorem OffT.below (t : Tch (OffT base N) w w') (hb : base ≤ w.heap.size) : RowKit.Below base w w' := t.below (fun b e => e.1) hb
theorem TabO.ask (h : TabO N base w pt q R) {P : Ending → World → Prop} {fn : FuncId} {args : Array Value}
    (hc : ∀ M, Tab w M pt q R → (∀ b, M b → base ≤ b ∧ ¬ N b) → Calls Tryd.prog fn args w fun e w' => P e w' ∧ Tab w' (New M w w') pt q R' ∧ Tch M w w') :
    Calls Tryd.prog fn args w fun e w' => P e w' ∧ TabO N base w' pt q R' ∧ Tch (OffT base N) w w' := by
  obtain ⟨M, h1, h2, h3, h4⟩ := h
  refine (hc M h1 h2).mono fun e w' ⟨he, hT, ht⟩ => ⟨he, ⟨_, hT, fun b e => ?_, fun b e => Nat.lt_of_lt_of_le (h3 b e) ht.size, Nat.le_trans h4 ht.size⟩, ht.mono h2⟩
  rcases e with e | e
  · exact h2 b e
  · exact ⟨by omega, fun c => by have := h3 b c; omega⟩
theorem newX (hq : q < 1024) (hb : base ≤ w.heap.size) (hN : ∀ b, N b → b < w.heap.size) (hT : TabW w) : Calls Tryd.prog 8 #[.int .u64 q] w fun e w' => ∃ pt, e = .returned (.tuple #[ptP pt, .nilIface]) ∧ TabO N base w' pt q [] ∧ RowKit.Below w.heap.size w w' := by
  refine (tnew_yes q hq w hT).mono fun e w' ⟨pt, he, hT, hb1⟩ => ⟨pt, he, ⟨_, hT, fun b e => ?_, fun b e => Nat.lt_of_lt_of_le (hN b e) hb1.size, Nat.le_trans hb hb1.size⟩, hb1⟩
  rcases e with e | e
  · exact e.elim
  · exact ⟨by omega, fun c => by have := hN b c; omega⟩
theorem addX (h : TabO N base w pt q R) (h1 h2 : Int) (l : List Vl) (v : Value) {N' : Nat → Prop} (hv : SlN N' encV w v l) (hN : ∀ b, N' b → b < base ∨ N b) (hlen : l.length ≤ 100000) (hr : rightB l = true) (hm : maskV l = q) (hf : R.length < 128) (hE : Er7 w A) :
    Calls Tryd.prog 11 #[ptP pt, .agg #[.int .i64 h1, .int .i64 h2], v] w fun e w' => e = .returned (.tuple #[.int .i64 R.length, .nilIface]) ∧ TabO N base w' pt q (R ++ [((h1, h2), l)]) ∧ Tch (OffT base N) w w' := by
  have hlo := h.lo
  obtain ⟨M0, _, _, h3, _⟩ := id h
  refine h.ask (P := fun e _ => e = .returned (.tuple #[.int .i64 R.length, .nilIface])) fun M hT hM => tadd_yes hT h1 h2 l v (hv.mono fun b e => ?_) hlen hr hm hf hE
  rcases hN b e with c | c
  · exact ⟨by omega, fun d => by have := (hM b d).1; omega⟩
  · exact ⟨h3 b c, fun d => (hM b d).2 c⟩
theorem takeX (h : TabO N base w pt q R) (n : Nat) (hn : n < R.length) (hTW : TabW w) : Calls Tryd.prog 14 #[ptP pt, .int .i64 n] w fun e w' => (∃ v, e = .returned (.tuple #[.agg #[.int .i64 R[n]!.1.1, .int .i64 R[n]!.1.2, v], .nilIface]) ∧ Sl encV w' v R[n]!.2) ∧ TabO N base w' pt q (takeC R n) ∧ Tch (OffT base N) w w' :=
  h.ask (P := fun e w' => ∃ v, e = .returned (.tuple #[.agg #[.int .i64 R[n]!.1.1, .int .i64 R[n]!.1.2, v], .nilIface]) ∧ Sl encV w' v R[n]!.2) fun M hT _ => (ttake_yes hT n hn hTW).mono fun e w' ⟨⟨v, h1, h2⟩, h3⟩ => ⟨⟨v, h1, row_sl lenV h2 rfl⟩, h3⟩
theorem setX (h : TabO N base w pt q R) (n : Nat) (hn : n < R.length) (x1 x2 x3 : Int) (hk : x1 ∈ Ks q) (hkw : (Lit.int .i64 x1).wf = true) (hc : chk (x1, x2, x3) = 0) (hE : Er7 w A) :
    Calls Tryd.prog 19 #[ptP pt, .int .i64 n, .agg #[.int .i64 x1, .int .i64 x2, .int .i64 x3]] w fun e w' => e = .returned .nilIface ∧ TabO N base w' pt q (R.set n (R[n].1, putV R[n].2 (x1, x2, x3))) ∧ Tch (OffT base N) w w' :=
  h.ask (P := fun e _ => e = .returned .nilIface) fun M hT _ => tset_yes hT n hn x1 x2 x3 hk hkw hc hE
/-- A question. -/
theorem TabO.read (h : TabO N base w pt q R) {P : Ending → World → Prop} {fn : FuncId} {args : Array Value} (hc : ∀ M, Tab w M pt q R → Calls Tryd.prog fn args w P) : Calls Tryd.prog fn args w P := hc _ h.choose_spec.1
end

theorem Ks1 : Ks 1 = [0] := by decide
section
variable {A : Nat → Addr}
set_option maxHeartbeats 2000000 in
set_option maxRecDepth 100000 in
theorem alive_any (w : World) (hE : Er7 w A) (hT : TabW w) : Calls Tryd.prog 7 #[] w fun e w' => e = .returned (.bool true) ∧ RowKit.Below w.heap.size w w' := by
  have r1 : rightB [(0, 1, 0)] = true := by decide
  have m1 : maskV [(0, 1, 0)] = 1 := by decide
  have HE := Lib.hid hE
  have HT := Lib.hid hT
  have C0 := Lib.hid (newX (N := NoN) (q := 1) (w := w) (by decide) (Nat.le_refl _) (fun b e => e.elim) hT)
  clear hE hT
  have eq1 := eqH_run
  have gd1 := gdH_run
  go_enter Tryd.func7, Tryd.ntmps7
  go_wp2_with fail
  refine C0.out.mono ?_
  rintro e w1 ⟨pt, rfl, hT1, hb1⟩
  have bl := Ba (Below.refl _ w1) (.cells #[.int .i64 0, .int .i64 1, .int .i64 0] 41)
  have B1 := Lib.hid (Bt hb1 bl)
  have T1 := Lib.hid (hT1.off bl)
  have S1 := Lib.hid (SlN.mono (SlN.kept (X := fun _ => False) (w' := w1.alloc (.cells #[.int .i64 0, .int .i64 1, .int .i64 0] 41)) (N := fun b => b = w1.heap.size) (show SlN _ encV (w1.alloc (.cells #[.int .i64 0, .int .i64 1, .int .i64 0] 41)) (.slice (some ⟨w1.heap.size, 0, none⟩) 1 1) [(0, 1, 0)] from ⟨_, 1, rfl, by decide, by unfold maxLen; decide, fun _ => ⟨w1.heap.size, 0, rfl, by simp, rfl, fun j u hu => by
    rw [World.cell?_alloc_at (w := w1) _ _ w1.heap.size _ rfl, Nat.zero_add]; simpa [flat, encV] using hu⟩⟩) (Tch.of (Below.refl _ _)) (fun _ _ e => e)) (N' := fun b => NoN b ∨ (w1.heap.size ≤ b ∧ b < (w1.alloc (.cells #[.int .i64 0, .int .i64 1, .int .i64 0] 41)).heap.size)) (fun b e => .inr ⟨by omega, by simp; omega⟩))
  have C1 := Lib.hid (addX T1.out 0 1 [(0, 1, 0)] _ S1.out (fun b e => .inr e) (by decide) r1 m1 (by decide) (HE.out.below B1.out))
  clear hb1 hT1 bl
  generalize hN : (fun b => NoN b ∨ (w1.heap.size ≤ b ∧ b < (w1.alloc (.cells #[.int .i64 0, .int .i64 1, .int .i64 0] 41)).heap.size)) = N at *
  clear hN
  go_wp2_with fail
  refine C1.out.mono ?_
  rintro e w2 ⟨rfl, hT2, ht2⟩
  have B2 := Lib.hid (B1.out.trans (OffT.below ht2 B1.out.size))
  have S2 := Lib.hid (S1.out.kept ht2 (fun b e c => c.2 e))
  have C2 := Lib.hid (addX hT2 1 1 [(0, 1, 0)] _ S2.out (fun b e => .inr e) (by decide) r1 m1 (by decide) (HE.out.below B2.out))
  clear hT2 ht2 S1 C1 T1
  go_wp2_with fail
  refine C2.out.mono ?_
  rintro e w3 ⟨rfl, hT3, ht3⟩
  have B3 := Lib.hid (B2.out.trans (OffT.below ht3 B2.out.size))
  have C3 := Lib.hid (takeX hT3 0 (by decide) (HT.out.below B3.out))
  clear hT3 ht3 S2 C2
  go_wp2_with fail
  refine C3.out.mono ?_
  rintro e w4 ⟨⟨v4, rfl, hs4⟩, hT4, ht4⟩
  have e4 : takeC ([] ++ [((0, 1), [(0, 1, 0)])] ++ [((1, 1), [(0, 1, 0)])]) 0 = ([((1, 1), [(0, 1, 0)])] : List En) := by decide
  have eR : ([] ++ [((0, 1), [(0, 1, 0)])] ++ [((1, 1), [(0, 1, 0)])] : List En)[0]! = ((0, 1), [(0, 1, 0)]) := by decide
  rw [e4] at hT4
  rw [eR] at hs4 ⊢
  replace hs4 : Sl encV w4 v4 [(0, 1, 0)] := hs4
  have B4 := Lib.hid (B3.out.trans (OffT.below ht4 B3.out.size))
  obtain ⟨p4, c4, rfl, _, _, _⟩ := hs4
  have be := Ba (Below.refl _ w4) (.cells #[.int .i64 0, .int .i64 1, .slice p4 1 c4] 51)
  have b4 := heap_alloc_new w4 (.cells #[.int .i64 0, .int .i64 1, .slice p4 1 c4] 51)
  have B5 := Lib.hid (Bt B4.out be)
  have C5 := Lib.hid (TabO.read (hT4.below be) fun M h => thandles_call h)
  clear ht4 C3 e4 eR hT4 be
  go_wp2_with fail
  refine C5.out.mono ?_
  rintro e w6 ⟨v6, rfl, hs6, hb6⟩
  have b6 := blk_below b4 hb6
  obtain ⟨⟨x0, x1, x2⟩, _, _, _⟩ := three_cells b6
  replace hs6 : Sl encH w6 v6 [(1, 1)] := hs6
  obtain ⟨p6, c6, rfl, hc6, _, hs⟩ := hs6
  obtain ⟨g, o, rfl, hg, hcell⟩ := hs (by decide)
  obtain ⟨y0, y1⟩ := atH hcell (show 0 < [((1 : Int), (1 : Int))].length by decide)
  rw [Nat.zero_mul, Nat.add_zero] at y0 y1
  replace y0 : w6.cell? ⟨g, o, none⟩ = some (.int .i64 1) := y0
  replace y1 : w6.cell? ⟨g, o + 1, none⟩ = some (.int .i64 1) := y1
  have B6 := Lib.hid (Bt B5.out hb6)
  clear hcell hs hb6 C5 b6 b4
  go_wp2
  go_ret
  exact ⟨rfl, B6.out⟩
end
end Go.Proofs.YtknfmjjlfhfocaaDoor
