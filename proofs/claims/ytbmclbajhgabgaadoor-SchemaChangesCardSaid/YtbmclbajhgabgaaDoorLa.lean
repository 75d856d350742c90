/-
  The walks of SchemaChecks and SchemaMoves.
-/
import Derived.Test.YtbmclbajhgabgaaDoorAl6
import Derived.Test.YtbmclbajhgabgaaDoorVn
import Derived.Test.YtbmclbajhgabgaaDoorErrK
namespace Go.Proofs.YtbmclbajhgabgaaDoor
set_option linter.unusedSimpArgs false
set_option linter.unusedVariables false
open Go.RowKit Go.Sort Go.Lib Go.Shelf

theorem Errs.er {w : World} {A : Nat → Addr} (h : Errs w A) : Er w A := ⟨h.cell 0 (by omega), h.cell 3 (by omega), h.cell 4 (by omega)⟩
/-- Num of an error by its number. -/
theorem num_errV {A : Nat → Addr} {w : World} (h : Errs w A) (n : Nat) (hn : n ≤ 10) : Calls Tryd.prog 11 #[errV A n] w fun e w' => e = .returned (.int .i64 n) ∧ RowKit.Below w.heap.size w w' := by
  by_cases h0 : n = 0
  · subst h0
    exact num_nil w
  · rw [errV_at A n h0]
    obtain ⟨m, rfl⟩ : ∃ m, n = m + 1 := ⟨n - 1, by omega⟩
    exact num_any h m (by omega)
theorem chk_le (x : Vl) : chk x ≤ 10 := by have := chk_is x; omega
theorem chk_num (x : Vl) (n : Nat) (h : chk x = n) (A : Nat → Addr) : ∃ v, errV A n = v := ⟨_, rfl⟩

set_option maxHeartbeats 4000000 in
set_option maxRecDepth 100000 in
theorem checks_walk (k a b : Int) (w : World) (A : Nat → Addr) (hE : Errs w A) :
    Calls Tryd.prog 3 #[.agg #[.int .i64 k, .int .i64 a, .int .i64 b]] w fun e w' => e = .returned (.bool true) ∧ RowKit.Below w.heap.size w w' := by
  obtain ⟨W0, hW0⟩ : ∃ W0, W0 = w.alloc (.cells #[.int .i64 k, .int .i64 a, .int .i64 b] 23) := ⟨_, rfl⟩
  obtain ⟨n, hn⟩ : ∃ n, n = chk (k, a, b) := ⟨_, rfl⟩
  have hE0 : Errs W0 A := hE.below (by rw [hW0]; exact Ba (Below.refl _ w) _)
  obtain ⟨ev, hev⟩ : ∃ ev, ev = errV A n := ⟨_, rfl⟩
  have H1 : Hid (∀ W, RowKit.Below W0.heap.size W0 W → Calls Tryd.prog 10 #[] W fun e w' => e = .returned (.bool true) ∧ RowKit.Below W.heap.size W w') := fun W h => alive_any A W (hE0.below h).er
  have H2 : Hid (∀ W, RowKit.Below W0.heap.size W0 W → Calls Tryd.prog 12 #[.agg #[.int .i64 k, .int .i64 a, .int .i64 b]] W fun e w' => e = .returned ev ∧ RowKit.Below W.heap.size W w') := fun W h => (check_any (k, a, b) A W (hE0.below h).er).mono fun e w' ⟨x, y⟩ => ⟨by rw [hev, hn]; exact x, y.below⟩
  have H3 : Hid (∀ W, RowKit.Below W0.heap.size W0 W → Calls Tryd.prog 11 #[ev] W fun e w' => e = .returned (.int .i64 n) ∧ RowKit.Below W.heap.size W w') := fun W h => by rw [hev]; exact num_errV (hE0.below h) n (by rw [hn]; exact chk_le _)
  have H4 : Hid (∀ W, Calls Tryd.prog 13 #[.agg #[.int .i64 k, .int .i64 a, .int .i64 b]] W fun e w' => e = .returned (.int .i64 n) ∧ RowKit.Below W.heap.size W w') := fun W => (rcheck_any (k, a, b) W).mono fun e w' ⟨x, y⟩ => ⟨by rw [hn]; exact x, y.below⟩
  rw [hW0] at H1 H2 H3
  clear hE hE0 hev hn hW0
  go_enter Tryd.func3, Tryd.ntmps3
  go_wp2_with fail
  go_region_held3 (fun w' => Below (w.alloc (.cells #[.int .i64 k, .int .i64 a, .int .i64 b] 23)).heap.size (w.alloc (.cells #[.int .i64 k, .int .i64 a, .int .i64 b] 23)) w' ∧ ∀ b_1 o, b_1 < (w.alloc (.cells #[.int .i64 k, .int .i64 a, .int .i64 b] 23)).heap.size → w'.cell? ⟨b_1, o, none⟩ = (w.alloc (.cells #[.int .i64 k, .int .i64 a, .int .i64 b] 23)).cell? ⟨b_1, o, none⟩) (first | exact keep0 _ | exact keepB (by assumption) hb1 | assumption) ((first
    | (go_at_call 10; refine (H1.out _ ?_).mono ?_; (first | exact Bd (Below.refl _ _) | exact And.left (by assumption)); rintro e w1 ⟨rfl, hb1⟩)
    | (go_at_call 12; refine (H2.out _ ?_).mono ?_; (exact And.left (by assumption)); rintro e w1 ⟨rfl, hb1⟩)
    | (go_at_call 11; refine (H3.out _ ?_).mono ?_; (exact And.left (by assumption)); rintro e w1 ⟨rfl, hb1⟩)
    | (go_at_call 13; refine (H4.out _).mono ?_; rintro e w1 ⟨rfl, hb1⟩)))
  go_wp2
  go_ret
  exact ⟨by simp, Bt (Ba (Below.refl _ w) _) (And.left (by assumption))⟩

set_option maxHeartbeats 4000000 in
set_option maxRecDepth 100000 in
theorem moves_walk (k a b dx dy : Int) (w : World) (A : Nat → Addr) (hE : Errs w A) (hx : -9223372036854775808 ≤ dx ∧ dx ≤ 9223372036854775807) (hy : -9223372036854775808 ≤ dy ∧ dy ≤ 9223372036854775807) :
    Calls Tryd.prog 7 #[.agg #[.int .i64 k, .int .i64 a, .int .i64 b], .int .i64 dx, .int .i64 dy] w fun e w' => e = .returned (.bool true) ∧ RowKit.Below w.heap.size w w' := by
  obtain ⟨n, hn⟩ : ∃ n, n = movN (k, a, b) dx dy := ⟨_, rfl⟩
  obtain ⟨ev, hev⟩ : ∃ ev, ev = errV A n := ⟨_, rfl⟩
  obtain ⟨m1, m2, m3, hm⟩ : ∃ p q r, movV (k, a, b) dx dy = (p, q, r) := ⟨_, _, _, rfl⟩
  have H1 : Hid (∀ W, Er W A → Calls Tryd.prog 10 #[] W fun e w' => e = .returned (.bool true) ∧ RowKit.Below W.heap.size W w') := fun W h => alive_any A W h
  have H2 : Hid (∀ W, Er W A → Calls Tryd.prog 31 #[.agg #[.int .i64 k, .int .i64 a, .int .i64 b], .int .i64 dx, .int .i64 dy] W fun e w' => e = .returned (.tuple #[.agg #[.int .i64 m1, .int .i64 m2, .int .i64 m3], ev]) ∧ RowKit.Below W.heap.size W w') := fun W h => by
    have := moved_call (k, a, b) dx dy A W h hx hy
    rw [hm, ← hn, ← hev] at this
    exact this
  have H3 : Hid (∀ W, Errs W A → Calls Tryd.prog 11 #[ev] W fun e w' => e = .returned (.int .i64 n) ∧ RowKit.Below W.heap.size W w') := fun W h => by rw [hev]; exact num_errV h n (by have := movN_is (k, a, b) dx dy; omega)
  have H4 : Hid (∀ W, Calls Tryd.prog 32 #[.agg #[.int .i64 k, .int .i64 a, .int .i64 b], .int .i64 dx, .int .i64 dy] W fun e w' => e = .returned (.tuple #[.agg #[.int .i64 m1, .int .i64 m2, .int .i64 m3], .int .i64 n]) ∧ RowKit.Below W.heap.size W w') := fun W => by
    have := rmoved_call (k, a, b) dx dy W
    rw [hm, ← hn] at this
    exact this
  have HE := Lib.hid hE
  clear hE hev hn hm hx hy
  go_enter Tryd.func7, Tryd.ntmps7
  go_wp2_with fail
  refine (H1.out _ (HE.out.er.below (Ba (Below.refl _ w) _))).mono ?_
  rintro e w1 ⟨rfl, hb1⟩
  have B1 := Lib.hid (Bt (Ba (Below.refl _ w) _) hb1)
  have c0 : w1.cell? ⟨w.heap.size, 0, none⟩ = some (.int .i64 k) := Bc hb1 (by simp) (by simp)
  have c1 : w1.cell? ⟨w.heap.size, 1, none⟩ = some (.int .i64 a) := Bc hb1 (by simp) (by simp)
  have c2 : w1.cell? ⟨w.heap.size, 2, none⟩ = some (.int .i64 b) := Bc hb1 (by simp) (by simp)
  have hl1 : w.heap.size < w1.heap.size := Bl hb1 (by simp)
  clear hb1
  go_wp2_with fail
  refine (H2.out _ (HE.out.er.below B1.out)).mono ?_
  rintro e w2 ⟨rfl, hb2⟩
  have B2 := Lib.hid (Bt B1.out hb2)
  have d0 : w2.cell? ⟨w.heap.size, 0, none⟩ = some (.int .i64 k) := Bc hb2 hl1 c0
  have d1 : w2.cell? ⟨w.heap.size, 1, none⟩ = some (.int .i64 a) := Bc hb2 hl1 c1
  have d2 : w2.cell? ⟨w.heap.size, 2, none⟩ = some (.int .i64 b) := Bc hb2 hl1 c2
  have hl2 : w.heap.size < w2.heap.size := Bl hb2 hl1
  clear hb2 c0 c1 c2
  go_wp2_with fail
  refine (H4.out _).mono ?_
  rintro e w3 ⟨rfl, hb3⟩
  have B3 := Lib.hid (Bt (Ba B2.out (.cells #[.int .i64 m1, .int .i64 m2, .int .i64 m3] 23)) hb3)
  have f0 : w3.cell? ⟨w2.heap.size, 0, none⟩ = some (.int .i64 m1) := Bc hb3 (by simp) (by simp)
  have f1 : w3.cell? ⟨w2.heap.size, 1, none⟩ = some (.int .i64 m2) := Bc hb3 (by simp) (by simp)
  have f2 : w3.cell? ⟨w2.heap.size, 2, none⟩ = some (.int .i64 m3) := Bc hb3 (by simp) (by simp)
  have hl3 : w2.heap.size < w3.heap.size := Bl hb3 (by simp)
  clear hb3 d0 d1 d2
  go_wp2_with fail
  refine (H3.out _ (HE.out.below (Ba B3.out (.cells #[.int .i64 m1, .int .i64 m2, .int .i64 m3] 23)))).mono ?_
  rintro e w4 ⟨rfl, hb4⟩
  have B4 := Lib.hid (Bt (Ba B3.out (.cells #[.int .i64 m1, .int .i64 m2, .int .i64 m3] 23)) hb4)
  clear hb4
  go_wp2
  go_ret
  exact ⟨by simp, B4.out⟩
end Go.Proofs.YtbmclbajhgabgaaDoor
