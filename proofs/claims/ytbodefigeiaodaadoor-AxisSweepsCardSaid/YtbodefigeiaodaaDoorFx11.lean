/-
  Package axis: which end comes ahead; an end's place among the ends.
-/
import Derived.Test.YtbodefigeiaodaaDoorFc
import Derived.Test.YtbodefigeiaodaaDoorPa11
namespace Go.Proofs.YtbodefigeiaodaaDoor
set_option linter.unusedSimpArgs false
set_option linter.unusedVariables false
open Go.RowKit Go.Sort Go.Lib Go.Shelf

theorem ltE_at {a b : En} (h : a.1 ≠ b.1) : ltE a b = decide (a.1 < b.1) := by simp [ltE, h]
theorem ltE_high {a b : En} (h : a.1 = b.1) (h2 : a.2.1 ≠ b.2.1) : ltE a b = b.2.1 := by
  obtain ⟨a1, a2, a3⟩ := a
  obtain ⟨b1, b2, b3⟩ := b
  dsimp only at h h2
  subst h
  cases a2 <;> cases b2 <;> simp [ltE] at h2 ⊢
theorem ltE_hd {a b : En} (h : a.1 = b.1) (h2 : a.2.1 = b.2.1) : ltE a b = ltH a.2.2 b.2.2 := by
  obtain ⟨a1, a2, a3⟩ := a
  obtain ⟨b1, b2, b3⟩ := b
  dsimp only at h h2
  subst h h2
  cases a2 <;> simp [ltE]

set_option maxHeartbeats 1000000 in
set_option maxRecDepth 100000 in
theorem ahead_any (a b : En) (w : World) : Calls Tryd.prog 59 #[aggE a, aggE b] w fun e w' => e = .returned (.bool (ltE a b)) ∧ Gr w w' := by
  have e1 := @ltE_at a b
  have e2 := @ltE_high a b
  have e3 := @ltE_hd a b
  obtain ⟨a1, a2, a3, a4⟩ := a
  obtain ⟨b1, b2, b3, b4⟩ := b
  unfold aggE
  dsimp only at *
  generalize ltE (a1, a2, a3, a4) (b1, b2, b3, b4) = v at *
  have E1 := Lib.hid e1
  have E2 := Lib.hid e2
  have E3 := Lib.hid e3
  clear e1 e2 e3
  by_cases h1 : a1 = b1
  · by_cases h2 : a2 = b2
    · have hv := E3.out h1 h2
      subst h1 h2 hv
      have HL := Lib.hid (less_call a3 a4 b3 b4)
      clear E1 E2 E3
      go_enter Tryd.func59, Tryd.ntmps59
      go_wp2_with fail
      refine (HL.out _).mono ?_
      rintro e w1 ⟨rfl, hg1⟩
      go_wp2
      go_ret
      exact ⟨rfl, Gr.trans (Gr.alloc (Gr.alloc (Gr.refl _) _) _) hg1⟩
    · have hv := E2.out h1 h2
      subst h1 hv
      clear E1 E2 E3
      cases a2 <;> cases v <;> first | exact absurd rfl h2 | skip
      all_goals
        go_enter Tryd.func59, Tryd.ntmps59
        go_wp2
        go_ret
        exact ⟨rfl, Gr.alloc (Gr.alloc (Gr.refl _) _) _⟩
  · have hv := E1.out h1
    subst hv
    clear E1 E2 E3
    go_enter Tryd.func59, Tryd.ntmps59
    go_wp2
    go_ret
    exact ⟨rfl, Gr.alloc (Gr.alloc (Gr.refl _) _) _⟩
theorem ahead_is {a b : En} {v : Bool} (h : ltE a b = v) (w : World) : Calls Tryd.prog 59 #[aggE a, aggE b] w fun e w' => e = .returned (.bool v) ∧ Gr w w' := by
  have := ahead_any a b w
  rwa [h] at this

/-! ### The place. -/
/-- 'sort.Search' at a closure that says whether a place is at or behind k. -/
def Says (k n : Nat) (c1 c2 : Value) (w : World) : Prop := ∀ (i : Nat) (W : World), i < n → Gr w W → Calls Tryd.prog 58 #[.int .i64 i, c1, c2] W fun e w' => e = .returned (.bool (decide (k ≤ i))) ∧ Gr W w'
set_option maxHeartbeats 1000000 in
set_option maxRecDepth 100000 in
theorem search_call (n k : Nat) (hk : k ≤ n) (hn : n ≤ 100000) (c1 c2 : Value) (w : World) (hf : Says k n c1 c2 w) :
    Calls Tryd.prog 57 #[.int .i64 n, .func (.func 58) #[] #[c1, c2]] w fun e w' => e = .returned (.int .i64 k) ∧ Gr w w' := by
  have HF := Lib.hid hf
  clear hf
  go_enter Tryd.func57, Tryd.ntmps57
  go_wp2
  go_loopg [5, 6] n (fun kx s5 s6 wr => ∃ lo hi : Nat, s5 = .int .i64 lo ∧ s6 = .int .i64 hi ∧ lo ≤ k ∧ k ≤ hi ∧ hi ≤ n ∧ hi - lo ≤ kx ∧ Gr w wr)
  case atStart => exact ⟨0, n, rfl, rfl, Nat.zero_le _, hk, Nat.le_refl _, by omega, Gr.refl _⟩
  case round =>
    obtain ⟨lo, hi, rfl, rfl, hlk, hkh, hin, hgk, hg⟩ := hrel
    have HG := Lib.hid hg
    clear hg
    by_cases hlt : lo < hi
    · have i2 : (((lo : Int) + (hi : Int)) / 2).toNat = (lo + hi) / 2 := by omega
      have i3 : ((lo : Int) + (hi : Int)) / 2 = (((lo + hi) / 2 : Nat) : Int) := by omega
      have HC := Lib.hid (HF.out ((lo + hi) / 2) wr (by omega) HG.out)
      by_cases hb : k ≤ (lo + hi) / 2
      · rw [decide_eq_true hb, ← i3] at HC
        have HB := Lib.hid hb
        have I3 := Lib.hid i3
        clear hb i3
        go_wp2_with fail
        refine HC.out.mono ?_
        rintro e w1 ⟨rfl, hg1⟩
        have G1 := Lib.hid (Gr.trans HG.out hg1)
        clear hg1
        go_wp2
        go_roundg ((lo + hi) / 2 - lo)
        case measure => omega
        case rel => exact ⟨lo, (lo + hi) / 2, rfl, by rw [I3.out], hlk, HB.out, by omega, Nat.le_refl _, G1.out⟩
      · rw [decide_eq_false hb, ← i3] at HC
        have HB := Lib.hid hb
        have I3 := Lib.hid i3
        clear hb i3
        go_wp2_with fail
        refine HC.out.mono ?_
        rintro e w1 ⟨rfl, hg1⟩
        have G1 := Lib.hid (Gr.trans HG.out hg1)
        clear hg1
        go_wp2
        go_roundg (hi - ((lo + hi) / 2 + 1))
        case measure => omega
        case rel => exact ⟨(lo + hi) / 2 + 1, hi, by rw [I3.out]; rfl, rfl, by have := HB.out; omega, hkh, hin, Nat.le_refl _, G1.out⟩
    · obtain rfl : hi = lo := by omega
      obtain rfl : hi = k := by omega
      go_wp2
      go_ret
      exact ⟨rfl, HG.out⟩
end Go.Proofs.YtbodefigeiaodaaDoor
