/-
  HandlesLimits, as lists: all places live, one is freed and taken again.
-/
import Derived.Test.YthodmicoejnfaaaDoorPp
namespace Go.Proofs.YthodmicoejnfaaaDoor
set_option linter.unusedSimpArgs false
set_option linter.unusedVariables false

/-- The handles of the first n places. -/
def hdsN (S : List Slt) (n : Nat) : List Hd := (List.range n).map fun k : Nat => ((k : Int), S[k]!.1)
theorem hdsN_len (S : List Slt) (n : Nat) : (hdsN S n).length = n := by simp [hdsN]
theorem hdsN_get (S : List Slt) (n m : Nat) (h : m < n) : (hdsN S n)[m]! = ((m : Int), S[m]!.1) := by
  rw [getElem!_pos _ m (by rw [hdsN_len]; exact h)]
  simp [hdsN]
theorem hdsN_succ (S : List Slt) (n : Nat) : hdsN S (n + 1) = hdsN S n ++ [((n : Int), S[n]!.1)] := by
  simp [hdsN, List.range_succ]
theorem hdsN_congr {S S' : List Slt} {n : Nat} (h : ∀ k, k < n → S[k]!.1 = S'[k]!.1) : hdsN S n = hdsN S' n :=
  List.map_congr_left fun k hk => by rw [h k (by simpa using hk)]
theorem hdsN_set (S : List Slt) (n m : Nat) (hm : m < S.length) (hn : m < n) (g : Int) (b : Bool) : (hdsN S n).set m ((m : Int), g) = hdsN (S.set m (g, b)) n := by
  apply List.ext_getElem?
  intro j
  rw [List.getElem?_set, hdsN_len]
  unfold hdsN
  rw [List.getElem?_map, List.getElem?_map]
  rcases Nat.lt_or_ge j n with hj | hj
  · rw [List.getElem?_range hj]
    by_cases e : m = j
    · subst e
      rw [if_pos rfl, if_pos hn]
      simp only [Option.map_some]
      rw [set_get S m m _ hm, if_pos rfl]
    · rw [if_neg e]
      simp only [Option.map_some]
      rw [set_get S m j _ hm, if_neg (Ne.symm e)]
  · rw [List.getElem?_eq_none (by simpa using hj)]
    by_cases e : m = j
    · omega
    · rw [if_neg e]
      rfl
def ones (k : Nat) : List Slt := List.replicate k (1, true)
theorem ones_len (k : Nat) : (ones k).length = k := by simp [ones]
theorem ones_get (k j : Nat) (h : j < k) : (ones k)[j]! = (1, true) := by
  rw [getElem!_pos _ j (by rw [ones_len]; exact h)]
  simp [ones]
theorem ones_take (k : Nat) (h : k < 128) : takeP (ones k) [] = some (((k : Int), 1), ones (k + 1), []) := by
  rw [takeP_new (by simp) (by rw [ones_len]; omega), ones_len]
  simp only [ones, List.replicate_succ']
/-- All places live; no generation is above n. -/
structure AllL (n : Int) (S : List Slt) : Prop where
  len : S.length = 128
  live : ∀ j, j < 128 → S[j]!.2 = true
  gen : ∀ j, j < 128 → 1 ≤ S[j]!.1 ∧ S[j]!.1 ≤ n
theorem AllL.right {n : Int} {S : List Slt} (h : AllL n S) (hn : n ≤ 1073741824) : Right S [] := by
  refine ⟨by rw [h.len]; exact Nat.le_refl _, by simp, by simp, fun k hk => ?_, fun k hk h1 _ => ?_⟩
  · have := h.gen k (by rw [h.len] at hk; exact hk)
    omega
  · rw [h.live k (by rw [h.len] at hk; exact hk)] at h1
    cases h1
theorem right_ones (k : Nat) (h : k ≤ 128) : Right (ones k) [] := by
  refine ⟨by rw [ones_len]; exact h, by simp, by simp, fun j hj => ?_, fun j hj h1 _ => ?_⟩
  · rw [ones_get k j (by rw [ones_len] at hj; exact hj)]
    decide
  · rw [ones_get k j (by rw [ones_len] at hj; exact hj)] at h1
    cases h1
theorem AllL.ones : AllL 1 (ones 128) := by
  refine ⟨ones_len 128, fun j hj => ?_, fun j hj => ?_⟩
  · rw [ones_get 128 j hj]
  · rw [ones_get 128 j hj]
    decide
theorem AllL.full {n : Int} {S : List Slt} (h : AllL n S) : takeP S [] = none := takeP_full (by simp) h.len
theorem AllL.lives {n : Int} {S : List Slt} (h : AllL n S) {m : Nat} (hm : m < 128) : livesP S ((m : Int), S[m]!.1) = true := by
  rw [livesP_iff]
  refine ⟨by simp, by simp only; rw [h.len]; omega, ?_⟩
  simp only [Int.toNat_natCast]
  rw [← h.live m hm]
theorem AllL.free {n : Int} {S : List Slt} (h : AllL n S) (hn : n < 1073741824) {m : Nat} (hm : m < 128) : freeS S ((m : Int), S[m]!.1) = S.set m (S[m]!.1 + 1, false) ∧ freeF [] ((m : Int), S[m]!.1) = [(m : Int)] := by
  have := h.gen m hm
  unfold freeS freeF
  dsimp only
  rw [if_neg (by omega), if_neg (by omega), Int.toNat_natCast]
  exact ⟨rfl, rfl⟩
theorem AllL.again {n : Int} {S : List Slt} (h : AllL n S) {m : Nat} (hm : m < 128) (g : Int) : takeP (S.set m (g, false)) [(m : Int)] = some (((m : Int), g), S.set m (g, true), []) := by
  have hl : m < S.length := by rw [h.len]; exact hm
  rw [takeP_free (by simp)]
  have e : topF [(m : Int)] = m := by simp [topF]
  rw [e, Int.toNat_natCast, set_get S m m _ hl, if_pos rfl, List.set_set]
  rfl
theorem AllL.next {n : Int} {S : List Slt} (h : AllL n S) {m : Nat} (hm : m < 128) : AllL (n + 1) (S.set m (S[m]!.1 + 1, true)) := by
  have hl : m < S.length := by rw [h.len]; exact hm
  have := h.gen m hm
  refine ⟨by simpa using h.len, fun j hj => ?_, fun j hj => ?_⟩
  · rw [set_get S m j _ hl]
    split
    · rfl
    · exact h.live j hj
  · rw [set_get S m j _ hl]
    split
    · dsimp only; omega
    · have := h.gen j hj; omega
theorem AllL.count {n : Int} {S : List Slt} (h : AllL n S) : (listP S).length = 128 := by
  rw [listP_full (fun k hk => h.live k (by rw [h.len] at hk; exact hk)), h.len]
end Go.Proofs.YthodmicoejnfaaaDoor
