/-
  The reference's Lives, Release.
-/
import Derived.Test.YthodmicoejnfaaaDoorRb
import Derived.IntWalk
namespace Go.Proofs.YthodmicoejnfaaaDoor
set_option linter.unusedSimpArgs false
set_option linter.unusedVariables false
open Go.RowKit Go.Sort Go.Lib Go.Shelf

/-- No place below k is the handle's, living. -/
def noneN (S : List Slt) (h : Hd) (k : Nat) : Prop := ∀ j, j < k → ¬ ((j : Int) = h.1 ∧ S[j]! = (h.2, true))
theorem lives_of {S : List Slt} {h : Hd} {k : Nat} (hk : k < S.length) (h1 : (k : Int) = h.1) (h2 : S[k]! = (h.2, true)) : livesP S h = true := by
  rw [livesP_iff, ← h1, Int.toNat_natCast]
  exact ⟨by omega, by omega, h2⟩
theorem lives_not {S : List Slt} {h : Hd} (hn : noneN S h S.length) : livesP S h = false := by
  cases hl : livesP S h with
  | false => rfl
  | true =>
    obtain ⟨a, b, c⟩ := livesP_iff.1 hl
    exact absurd ⟨by omega, c⟩ (hn h.1.toNat (by omega))
theorem noneN_next {S : List Slt} {h : Hd} {k : Nat} (hn : noneN S h k) (hk : ¬ ((k : Int) = h.1 ∧ S[k]! = (h.2, true))) : noneN S h (k + 1) := fun j hj => by
  rcases Nat.lt_or_ge j k with hjk | hjk
  · exact hn j hjk
  · have : j = k := by omega
    subst this
    exact hk

section
variable {pa : Nat} {S : List Slt} {Fr : List Int} {M : Nat → Prop} {w : World}

set_option maxHeartbeats 2000000 in
set_option maxRecDepth 100000 in
theorem rlives_call (hp : PoolAt 37 w M pa S Fr) (hi hg : Int) :
    Calls Tryd.prog 19 #[.pointer (some ⟨pa, 0, none⟩), .agg #[.int .i64 hi, .int .i64 hg]] w fun e w' => e = .returned (.bool (livesP S (hi, hg))) ∧ RowKit.Below w.heap.size w w' := by
  obtain ⟨ps, cs, pf, cf, c0, c1, f0, f1, hl, a1, a2, b1, b2, hS, _, _, _⟩ := pool_open hp
  clear hp
  have BX := Lib.hid (heap_alloc_new w (.cells #[.int .i64 hi, .int .i64 hg] 40))
  have B0 := Lib.hid (Ba (Below.refl _ w) (.cells #[.int .i64 hi, .int .i64 hg] 40))
  go_enter Tryd.func19, Tryd.ntmps19
  go_wp2
  go_loopw [12] (fun i wr => ∃ k : Nat, k ≤ S.length ∧ i = .int .i64 k ∧ RowKit.Below (w.alloc (.cells #[.int .i64 hi, .int .i64 hg] 40)).heap.size (w.alloc (.cells #[.int .i64 hi, .int .i64 hg] 40)) wr ∧ noneN S (hi, hg) k) (fun i _ => S.length - (intOf i).toNat)
  case atStart => exact ⟨0, Nat.zero_le _, rfl, Below.refl _ _, fun j hj => absurd hj (Nat.not_lt_zero j)⟩
  case round =>
    obtain ⟨k, hk, rfl, hb, hn⟩ := hrel
    have HB := Lib.hid hb
    have HN := Lib.hid hn
    obtain ⟨x0, x1, _, _⟩ := two_cells (blk_below BX.out hb)
    have hlx := cell_lt x0
    clear hb hn
    by_cases hkn : k < S.length
    · obtain ⟨gs, rfl, hgs, cS⟩ := hS.out (by omega)
      obtain ⟨d1, d2⟩ := cS k hkn
      have BW := Lib.hid (Bt B0.out HB.out)
      replace d1 := Bc BW.out hgs d1
      replace d2 := Bc BW.out hgs d2
      clear cS
      have HYES := Lib.hid (fun a b => lives_of (h := (hi, hg)) hkn a b)
      have HNEXT := Lib.hid (fun a => noneN_next HN.out a)
      have HBL := Lib.hid (fun (x : Obj) => Ba HB.out x)
      have HBW := Lib.hid (fun (x : Obj) => Ba BW.out x)
      generalize S[k]! = x at *
      obtain ⟨s1, s2⟩ := x
      dsimp only at d1 d2
      by_cases hki : (k : Int) = hi
      · have e1 : ((k : Int) == hi) = true := by simpa using hki
        have HK := Lib.hid hki
        clear hki
        cases s2 with
        | true =>
          by_cases hgg : s1 = hg
          · have e2 : (s1 == hg) = true := by simpa using hgg
            have HL := Lib.hid (HYES.out HK.out (by rw [hgg]))
            clear hgg
            go_wp2
            go_ret
            exact ⟨by rw [HL.out]; rfl, HBW.out _⟩
          · have e2 : (s1 == hg) = false := by simpa using hgg
            have HX := Lib.hid (HNEXT.out (fun h => hgg (by simpa using h.2)))
            clear hgg
            go_wp2
            go_roundw
            case measure => simp [intOf]; omega
            case rel => exact ⟨k + 1, by omega, by go_num, HBL.out _, HX.out⟩
        | false =>
          have HX := Lib.hid (HNEXT.out (fun h => by have := h.2; simp at this))
          go_wp2
          go_roundw
          case measure => simp [intOf]; omega
          case rel => exact ⟨k + 1, by omega, by go_num, HBL.out _, HX.out⟩
      · have e1 : ((k : Int) == hi) = false := by simpa using hki
        have HX := Lib.hid (HNEXT.out (fun h => hki h.1))
        clear hki
        go_wp2
        go_roundw
        case measure => simp [intOf]; omega
        case rel => exact ⟨k + 1, by omega, by go_num, HBL.out _, HX.out⟩
    · have hk' : k = S.length := by omega
      have HL := Lib.hid (lives_not (by rw [← hk']; exact HN.out))
      have BW := Lib.hid (Bt B0.out HB.out)
      go_wp2
      go_ret
      exact ⟨by rw [HL.out]; rfl, BW.out⟩

theorem rel_no (hp : PoolAt 37 w M pa S Fr) (i g : Int) (hl : livesP S (i, g) = false) :
    Calls Tryd.prog 37 #[.pointer (some ⟨pa, 0, none⟩), .agg #[.int .i64 i, .int .i64 g]] w fun e w' => e = .returned (.int .i64 3) ∧ RowKit.Below w.heap.size w w' := by
  have hL := Lib.hid (rlives_call (hp.below (Ba (Below.refl _ w) (.cells #[.int .i64 i, .int .i64 g] 40))) i g)
  rw [hl] at hL
  clear hl hp
  go_enter Tryd.func37, Tryd.ntmps37
  go_wp2_with (go_at_call 19; refine hL.out.mono ?_; rintro e w1 ⟨rfl, hb1⟩)
  go_ret
  exact ⟨rfl, Bt (Ba (Below.refl _ w) _) hb1⟩
end
end Go.Proofs.YthodmicoejnfaaaDoor
