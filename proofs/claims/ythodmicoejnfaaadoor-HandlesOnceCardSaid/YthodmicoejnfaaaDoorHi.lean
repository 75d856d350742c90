/-
  From: which slots and free places are a pool's (right), and the pool that is made of them.
-/
import Derived.Test.YthodmicoejnfaaaDoorHh
namespace Go.Proofs.YthodmicoejnfaaaDoor
set_option linter.unusedSimpArgs false
set_option linter.unusedVariables false
open Go.RowKit Go.Sort Go.Lib Go.Shelf

def z128 : Array Value := Array.replicate 128 (.bool false)
theorem z128_eq : #[.bool false, .bool false, .bool false, .bool false, .bool false, .bool false, .bool false, .bool false, .bool false, .bool false, .bool false, .bool false, .bool false, .bool false, .bool false, .bool false, .bool false, .bool false, .bool false, .bool false, .bool false, .bool false, .bool false, .bool false, .bool false, .bool false, .bool false, .bool false, .bool false, .bool false, .bool false, .bool false, .bool false, .bool false, .bool false, .bool false, .bool false, .bool false, .bool false, .bool false, .bool false, .bool false, .bool false, .bool false, .bool false, .bool false, .bool false, .bool false, .bool false, .bool false, .bool false, .bool false, .bool false, .bool false, .bool false, .bool false, .bool false, .bool false, .bool false, .bool false, .bool false, .bool false, .bool false, .bool false, .bool false, .bool false, .bool false, .bool false, .bool false, .bool false, .bool false, .bool false, .bool false, .bool false, .bool false, .bool false, .bool false, .bool false, .bool false, .bool false, .bool false, .bool false, .bool false, .bool false, .bool false, .bool false, .bool false, .bool false, .bool false, .bool false, .bool false, .bool false, .bool false, .bool false, .bool false, .bool false, .bool false, .bool false, .bool false, .bool false, .bool false, .bool false, .bool false, .bool false, .bool false, .bool false, .bool false, .bool false, .bool false, .bool false, .bool false, .bool false, .bool false, .bool false, .bool false, .bool false, .bool false, .bool false, .bool false, .bool false, .bool false, .bool false, .bool false, .bool false, .bool false, .bool false, .bool false, .bool false] = z128 := by rfl
theorem z128_get (j : Nat) (hj : j < 128) : z128[j]? = some (.bool false) := by simp [z128, hj]

/-! ### The two loops of right, as lists. -/
def P1 (S : List Slt) (Fr : List Int) (k : Nat) : Prop := (∀ i ∈ Fr.take k, 0 ≤ i ∧ i.toNat < S.length ∧ S[i.toNat]!.2 = false) ∧ (Fr.take k).Nodup
def P2 (S : List Slt) (Fr : List Int) (k : Nat) : Prop := ∀ j, j < k → (1 ≤ S[j]!.1 ∧ S[j]!.1 ≤ 1073741824) ∧ (S[j]!.2 = false → S[j]!.1 < 1073741824 → (j : Int) ∈ Fr)
theorem take_succI (Fr : List Int) (k : Nat) (hk : k < Fr.length) : Fr.take (k + 1) = Fr.take k ++ [Fr[k]!] := by
  rw [List.take_succ_eq_append_getElem hk, getElem!_pos Fr k hk]
theorem P1_zero (S : List Slt) (Fr : List Int) : P1 S Fr 0 := ⟨by simp, by simp⟩
theorem P1_next {S : List Slt} {Fr : List Int} {k : Nat} (h : P1 S Fr k) (hk : k < Fr.length) {n : Nat} (hn : Fr[k]! = n) (h1 : n < S.length) (h2 : S[n]!.2 = false) (h3 : ¬ (n : Int) ∈ Fr.take k) : P1 S Fr (k + 1) := by
  unfold P1
  rw [take_succI Fr k hk, hn]
  refine ⟨fun i hi => ?_, ?_⟩
  · rcases List.mem_append.1 hi with hi | hi
    · exact h.1 i hi
    · simp only [List.mem_singleton] at hi
      subst hi
      exact ⟨by omega, by simpa using h1, by simpa using h2⟩
  · rw [List.nodup_append]
    exact ⟨h.2, by simp, fun a ha b hb e => h3 (by simp at hb; rwa [← hb, ← e])⟩
theorem P1_place {S : List Slt} {Fr : List Int} {k : Nat} (hk : k < Fr.length) (h : ¬ (0 ≤ Fr[k]! ∧ Fr[k]! < S.length)) : ¬ Right S Fr := fun r => by
  obtain ⟨a, b, _⟩ := r.place _ (get_mem Fr k hk)
  exact h ⟨a, by omega⟩
theorem P1_live {S : List Slt} {Fr : List Int} {k n : Nat} (hk : k < Fr.length) (hn : Fr[k]! = n) (h : S[n]!.2 = true) : ¬ Right S Fr := fun r => by
  have := (r.place _ (get_mem Fr k hk)).2.2
  rw [hn, Int.toNat_natCast, h] at this
  cases this
theorem P1_twice {S : List Slt} {Fr : List Int} {k n : Nat} (hk : k < Fr.length) (hn : Fr[k]! = n) (h : (n : Int) ∈ Fr.take k) : ¬ Right S Fr := fun r => by
  have := List.Sublist.nodup (List.take_sublist (k + 1) Fr) r.once
  rw [take_succI Fr k hk, hn, List.nodup_append] at this
  exact this.2.2 _ h _ (by simp) rfl
theorem P2_next {S : List Slt} {Fr : List Int} {k : Nat} (h : P2 S Fr k) (h1 : 1 ≤ S[k]!.1) (h2 : S[k]!.1 ≤ 1073741824) (h3 : S[k]!.2 = false → S[k]!.1 < 1073741824 → (k : Int) ∈ Fr) : P2 S Fr (k + 1) := fun j hj => by
  rcases Nat.lt_or_ge j k with hjk | hjk
  · exact h j hjk
  · have : j = k := by omega
    subst this
    exact ⟨⟨h1, h2⟩, h3⟩
theorem P2_gen {S : List Slt} {Fr : List Int} {k : Nat} (hk : k < S.length) (h : ¬ (1 ≤ S[k]!.1 ∧ S[k]!.1 ≤ 1073741824)) : ¬ Right S Fr := fun r => h (r.gen k hk)
theorem P2_free {S : List Slt} {Fr : List Int} {k : Nat} (hk : k < S.length) (h1 : S[k]!.2 = false) (h2 : S[k]!.1 < 1073741824) (h : ¬ (k : Int) ∈ Fr) : ¬ Right S Fr := fun r => h (r.all k hk h1 h2)
theorem right_of {S : List Slt} {Fr : List Int} (hl : S.length ≤ 128) (h1 : P1 S Fr Fr.length) (h2 : P2 S Fr S.length) : Right S Fr := by
  unfold P1 at h1
  rw [List.take_length] at h1
  exact ⟨hl, h1.1, h1.2, fun k hk => (h2 k hk).1, fun k hk => (h2 k hk).2⟩

/-- The marks of the first k free places. -/
def Marks (w : World) (b : Nat) (Fr : List Int) (k : Nat) : Prop := ∀ j, j < 128 → w.cell? ⟨b, j, none⟩ = some (.bool (decide ((j : Int) ∈ Fr.take k))) ∧ w.frozen? ⟨b, j, none⟩ = false
theorem Marks.zero (w : World) (t : Nat) (b : Nat) (hb : b = w.heap.size) (Fr : List Int) : Marks (w.alloc (.cells z128 t)) b Fr 0 := fun j hj => by
  subst hb
  refine ⟨?_, ?_⟩
  · rw [World.cell?_alloc_at (w := w) z128 t w.heap.size _ rfl, z128_get j hj]
    simp
  · rw [frozen_of_row _ _ _ z128 t (heap_alloc_new w _)]
theorem Marks.below {w w' : World} {b : Nat} {Fr : List Int} {k : Nat} (h : Marks w b Fr k) (hb : b < w.heap.size) (t : RowKit.Below w.heap.size w w') : Marks w' b Fr k := fun j hj => ⟨Bc t hb (h j hj).1, Bf t hb (h j hj).2⟩
theorem Marks.next {w : World} {b : Nat} {Fr : List Int} {k n : Nat} (h : Marks w b Fr k) (hk : k < Fr.length) (hn : Fr[k]! = n) (hn2 : n < 128) : Marks (w.setCell ⟨b, n, none⟩ (.bool true)) b Fr (k + 1) := fun j hj => by
  have hc := h n hn2
  refine ⟨?_, by rw [World.frozen?_setCell]; exact (h j hj).2⟩
  rw [take_succI Fr k hk, hn]
  by_cases e : j = n
  · subst e
    rw [World.cell?_setCell_same w ⟨b, j, none⟩ _ (by rw [hc.1])]
    simp
  · rw [World.cell?_setCell_other w _ _ _ (by first | (simp; done) | (simp; omega)), (h j hj).1]
    have : ¬ ((j : Int) = (n : Int)) := by omega
    simp [this]
end Go.Proofs.YthodmicoejnfaaaDoor
