/-
  A pool of handles as lists: the slots (generation, whether it lives), the free places; what is taken, freed, listed; when they are a pool's.
-/
import Derived.Test.YthodmicoejnfaaaDoorSrt
namespace Go.Proofs.YthodmicoejnfaaaDoor
set_option linter.unusedSimpArgs false
set_option linter.unusedVariables false

abbrev Slt := Int × Bool

theorem set_get (l : List Slt) (i k : Nat) (x : Slt) (hi : i < l.length) : (l.set i x)[k]! = if k = i then x else l[k]! := by
  simp only [List.getElem!_eq_getElem?_getD, List.getElem?_set]
  by_cases h : i = k
  · subst h; simp [hi]
  · simp [h, Ne.symm h]
theorem app_get (l : List Slt) (x : Slt) (k : Nat) (hk : k ≤ l.length) : (l ++ [x])[k]! = if k = l.length then x else l[k]! := by
  simp only [List.getElem!_eq_getElem?_getD]
  by_cases h : k = l.length
  · subst h; simp
  · rw [List.getElem?_append_left (by omega), if_neg h]
theorem app_getI (l : List Int) (x : Int) (k : Nat) (hk : k ≤ l.length) : (l ++ [x])[k]! = if k = l.length then x else l[k]! := by
  simp only [List.getElem!_eq_getElem?_getD]
  by_cases h : k = l.length
  · subst h; simp
  · rw [List.getElem?_append_left (by omega), if_neg h]
theorem get_mem {α : Type} [Inhabited α] (l : List α) (k : Nat) (hk : k < l.length) : l[k]! ∈ l := by
  rw [getElem!_pos l k hk]; exact List.getElem_mem hk
theorem mem_get {α : Type} [Inhabited α] (l : List α) (x : α) (h : x ∈ l) : ∃ k, k < l.length ∧ l[k]! = x := by
  obtain ⟨k, hk, e⟩ := List.getElem_of_mem h
  exact ⟨k, hk, by rw [getElem!_pos l k hk]; exact e⟩

/-- Slots and free places are a pool's. -/
structure Right (S : List Slt) (Fr : List Int) : Prop where
  len : S.length ≤ 128
  place : ∀ i ∈ Fr, 0 ≤ i ∧ i.toNat < S.length ∧ S[i.toNat]!.2 = false
  once : Fr.Nodup
  gen : ∀ k, k < S.length → 1 ≤ S[k]!.1 ∧ S[k]!.1 ≤ 1073741824
  all : ∀ k, k < S.length → S[k]!.2 = false → S[k]!.1 < 1073741824 → (k : Int) ∈ Fr

theorem right_new : Right [] [] := ⟨by simp, by simp, by simp, by simp, by simp⟩

theorem nodup_le : ∀ (n : Nat) (l : List Int), l.Nodup → (∀ x ∈ l, 0 ≤ x ∧ x < n) → l.length ≤ n
  | 0, [], _, _ => Nat.le_refl _
  | 0, x :: r, _, h => by have := h x (by simp); omega
  | n + 1, l, hn, h => by
    have := nodup_le n (l.erase n) (hn.erase _) (fun x hx => by
      obtain ⟨h1, h2⟩ := hn.mem_erase_iff.1 hx
      have := h x h2
      exact ⟨this.1, by omega⟩)
    rw [List.length_erase] at this
    split at this <;> omega
theorem Right.freeLen {S : List Slt} {Fr : List Int} (r : Right S Fr) : Fr.length ≤ 128 :=
  Nat.le_trans (nodup_le S.length Fr r.once (fun x hx => by
    obtain ⟨a, b, _⟩ := r.place x hx
    exact ⟨a, by omega⟩)) r.len
/-- The free place that would be taken. -/
def topF (Fr : List Int) : Int := Fr[Fr.length - 1]!
/-- What is taken: the handle, the slots and the free places behind it. -/
def takeP (S : List Slt) (Fr : List Int) : Option (Hd × List Slt × List Int) :=
  if 0 < Fr.length then some ((topF Fr, S[(topF Fr).toNat]!.1), S.set (topF Fr).toNat (S[(topF Fr).toNat]!.1, true), Fr.take (Fr.length - 1))
  else if S.length = 128 then none else some (((S.length : Int), 1), S ++ [(1, true)], Fr)

/-- Does a handle live? -/
def livesP (S : List Slt) (h : Hd) : Bool := decide (0 ≤ h.1 ∧ h.1 < S.length ∧ S[h.1.toNat]! = (h.2, true))
/-- A handle that lives is freed. -/
def freeS (S : List Slt) (h : Hd) : List Slt := S.set h.1.toNat (if h.2 = 1073741824 then h.2 else h.2 + 1, false)
def freeF (Fr : List Int) (h : Hd) : List Int := if h.2 = 1073741824 then Fr else Fr ++ [h.1]

theorem topF_mem {Fr : List Int} (h : 0 < Fr.length) : topF Fr ∈ Fr := get_mem Fr _ (by omega)
theorem topF_split {Fr : List Int} (h : 0 < Fr.length) : Fr.take (Fr.length - 1) ++ [topF Fr] = Fr := by
  have e := List.take_succ_eq_append_getElem (l := Fr) (i := Fr.length - 1) (by omega)
  rw [show Fr.length - 1 + 1 = Fr.length by omega, List.take_length] at e
  rw [topF, getElem!_pos Fr _ (by omega)]
  exact e.symm
theorem topF_not {Fr : List Int} (h : 0 < Fr.length) (hn : Fr.Nodup) : topF Fr ∉ Fr.take (Fr.length - 1) := by
  rw [← topF_split h, List.nodup_append] at hn
  intro hm
  exact hn.2.2 _ hm _ (List.mem_singleton.2 rfl) rfl
theorem Right.top {S : List Slt} {Fr : List Int} (r : Right S Fr) (h : 0 < Fr.length) : 0 ≤ topF Fr ∧ (topF Fr).toNat < S.length ∧ S[(topF Fr).toNat]!.2 = false := r.place _ (topF_mem h)

theorem takeP_free {S : List Slt} {Fr : List Int} (h : 0 < Fr.length) : takeP S Fr = some ((topF Fr, S[(topF Fr).toNat]!.1), S.set (topF Fr).toNat (S[(topF Fr).toNat]!.1, true), Fr.take (Fr.length - 1)) := by
  unfold takeP; rw [if_pos h]
theorem takeP_new {S : List Slt} {Fr : List Int} (h : ¬ 0 < Fr.length) (hs : ¬ S.length = 128) : takeP S Fr = some (((S.length : Int), 1), S ++ [(1, true)], Fr) := by
  unfold takeP; rw [if_neg h, if_neg hs]
theorem takeP_full {S : List Slt} {Fr : List Int} (h : ¬ 0 < Fr.length) (hs : S.length = 128) : takeP S Fr = none := by
  unfold takeP; rw [if_neg h, if_pos hs]
theorem takeP_none {S : List Slt} {Fr : List Int} (h : takeP S Fr = none) : Fr = [] ∧ S.length = 128 := by
  by_cases hf : 0 < Fr.length
  · rw [takeP_free hf] at h; cases h
  · by_cases hs : S.length = 128
    · exact ⟨List.length_eq_zero_iff.1 (by omega), hs⟩
    · rw [takeP_new hf hs] at h; cases h

theorem right_take {S : List Slt} {Fr : List Int} {h : Hd} {S' : List Slt} {Fr' : List Int} (r : Right S Fr) (e : takeP S Fr = some (h, S', Fr')) : Right S' Fr' := by
  by_cases hf : 0 < Fr.length
  · rw [takeP_free hf] at e
    simp only [Option.some.injEq, Prod.mk.injEq] at e
    obtain ⟨_, rfl, rfl⟩ := e
    obtain ⟨t1, t2, t3⟩ := r.top hf
    have hn := topF_not hf r.once
    have sg := fun k => set_get S (topF Fr).toNat k (S[(topF Fr).toNat]!.1, true) t2
    refine ⟨by simpa using r.len, fun i hi => ?_, (List.take_sublist _ _).nodup r.once, fun k hk => ?_, fun k hk h1 h2 => ?_⟩
    · have hi' := List.mem_of_mem_take hi
      obtain ⟨a, b, c⟩ := r.place i hi'
      refine ⟨a, by simpa using b, ?_⟩
      rw [sg, if_neg]
      · exact c
      · intro e
        apply hn
        rwa [show topF Fr = i by omega]
    · rw [sg]
      have hk' : k < S.length := by simpa using hk
      split
      · exact r.gen _ t2
      · exact r.gen k hk'
    · have hk' : k < S.length := by simpa using hk
      rw [sg] at h1 h2
      split at h1
      · cases h1
      · rename_i hne
        rw [if_neg hne] at h2
        have hm := r.all k hk' h1 h2
        rw [← topF_split hf, List.mem_append, List.mem_singleton] at hm
        rcases hm with hm | hm
        · exact hm
        · omega
  · by_cases hs : S.length = 128
    · rw [takeP_full hf hs] at e; cases e
    · rw [takeP_new hf hs] at e
      simp only [Option.some.injEq, Prod.mk.injEq] at e
      obtain ⟨_, rfl, rfl⟩ := e
      have hl := r.len
      have ag := fun k hk => app_get S (1, true) k hk
      refine ⟨by simp; omega, fun i hi => ?_, r.once, fun k hk => ?_, fun k hk h1 h2 => ?_⟩
      · obtain ⟨a, b, c⟩ := r.place i hi
        refine ⟨a, by simp; omega, ?_⟩
        rw [ag _ (by omega), if_neg (by omega)]
        exact c
      · have hk' : k < S.length + 1 := by simpa using hk
        rw [ag k (by omega)]
        split
        · decide
        · exact r.gen k (by omega)
      · have hk' : k < S.length + 1 := by simpa using hk
        rw [ag k (by omega)] at h1 h2
        split at h1
        · cases h1
        · rename_i hne
          rw [if_neg hne] at h2
          exact r.all k (by omega) h1 h2

theorem livesP_iff {S : List Slt} {h : Hd} : livesP S h = true ↔ 0 ≤ h.1 ∧ h.1 < S.length ∧ S[h.1.toNat]! = (h.2, true) := by unfold livesP; simp
theorem right_free {S : List Slt} {Fr : List Int} {h : Hd} (r : Right S Fr) (e : livesP S h = true) : Right (freeS S h) (freeF Fr h) := by
  obtain ⟨h1, h2, h3⟩ := livesP_iff.1 e
  have hp : h.1.toNat < S.length := by omega
  have hg := r.gen _ hp
  rw [h3] at hg
  have hnf : h.1 ∉ Fr := fun hm => by
    have := (r.place _ hm).2.2
    rw [h3] at this
    cases this
  have sg := fun k => set_get S h.1.toNat k (if h.2 = 1073741824 then h.2 else h.2 + 1, false) hp
  unfold freeS freeF
  refine ⟨by simpa using r.len, fun i hi => ?_, ?_, fun k hk => ?_, fun k hk a b => ?_⟩
  · have hi' : i ∈ Fr ∨ i = h.1 := by
      split at hi
      · exact .inl hi
      · simpa using hi
    rcases hi' with hi | rfl
    · obtain ⟨a, b, c⟩ := r.place i hi
      refine ⟨a, by simpa using b, ?_⟩
      rw [sg, if_neg (fun e => hnf (by rwa [show h.1 = i by omega]))]
      exact c
    · exact ⟨h1, by simpa using hp, by rw [sg, if_pos rfl]⟩
  · split
    · exact r.once
    · rw [List.nodup_append]
      exact ⟨r.once, by simp, fun a ha b hb e => hnf (by simp at hb; rwa [← hb, ← e])⟩
  · have hk' : k < S.length := by simpa using hk
    rw [sg]
    split
    · dsimp only
      split <;> simp only at hg <;> omega
    · exact r.gen k hk'
  · have hk' : k < S.length := by simpa using hk
    rw [sg] at a b
    split at b
    · rename_i hk2
      dsimp only at b
      split at b
      · omega
      · rw [if_neg (by assumption)]
        simp only [List.mem_append, List.mem_singleton]
        exact .inr (by omega)
    · rename_i hne
      rw [if_neg hne] at a
      have := r.all k hk' a b
      split
      · exact this
      · simp [this]

/-- All that live among the first n places. -/
def listN (S : List Slt) (n : Nat) : List Hd := (List.range n).filterMap fun (k : Nat) => if S[k]!.2 = true then some ((k : Int), S[k]!.1) else none
def listP (S : List Slt) : List Hd := listN S S.length
theorem listN_zero (S : List Slt) : listN S 0 = [] := by simp [listN]
theorem listN_yes (S : List Slt) (n : Nat) (h : S[n]!.2 = true) : listN S (n + 1) = listN S n ++ [((n : Int), S[n]!.1)] := by
  unfold listN
  rw [List.range_succ, List.filterMap_append, List.filterMap_cons_some (by rw [if_pos h]), List.filterMap_nil]
theorem listN_no (S : List Slt) (n : Nat) (h : S[n]!.2 = false) : listN S (n + 1) = listN S n := by
  unfold listN
  rw [List.range_succ, List.filterMap_append, List.filterMap_cons_none (by rw [if_neg (by rw [h]; decide)]), List.filterMap_nil, List.append_nil]
theorem listN_len (S : List Slt) (n : Nat) : (listN S n).length ≤ n := by
  have := List.length_filterMap_le (fun (k : Nat) => if S[k]!.2 = true then some ((k : Int), S[k]!.1) else none) (List.range n)
  simpa [listN] using this
theorem mem_listN {S : List Slt} {n : Nat} {h : Hd} : h ∈ listN S n ↔ ∃ k, k < n ∧ S[k]!.2 = true ∧ h = ((k : Int), S[k]!.1) := by
  unfold listN
  rw [List.mem_filterMap]
  constructor
  · rintro ⟨k, hk, e⟩
    split at e
    · rename_i h2
      exact ⟨k, by simpa using hk, h2, (Option.some.inj e).symm⟩
    · cases e
  · rintro ⟨k, hk, h2, rfl⟩
    exact ⟨k, by simpa using hk, by rw [if_pos h2]⟩
theorem mem_listP {S : List Slt} {h : Hd} : h ∈ listP S ↔ livesP S h = true := by
  unfold listP
  rw [mem_listN, livesP_iff]
  constructor
  · rintro ⟨k, hk, h2, rfl⟩
    refine ⟨by simp, by simpa using hk, ?_⟩
    simp only [Int.toNat_natCast]
    rw [← h2]
  · rintro ⟨a, b, c⟩
    refine ⟨h.1.toNat, by omega, by rw [c], ?_⟩
    rw [c]
    exact Prod.ext (by simp; omega) rfl
theorem nodup_listN (S : List Slt) : ∀ n, (listN S n).Nodup
  | 0 => by simp [listN]
  | n + 1 => by
    have ih := nodup_listN S n
    cases h : S[n]!.2
    · rw [listN_no S n h]; exact ih
    · rw [listN_yes S n h, List.nodup_append]
      refine ⟨ih, by simp, fun a ha b hb e => ?_⟩
      obtain ⟨k, hk, _, rfl⟩ := mem_listN.1 ha
      simp at hb
      subst hb
      have := congrArg Prod.fst e
      simp at this
      omega
theorem listP_full {S : List Slt} (h : ∀ k, k < S.length → S[k]!.2 = true) : (listP S).length = S.length := by
  have : ∀ n, n ≤ S.length → (listN S n).length = n := by
    intro n
    induction n with
    | zero => intro _; simp [listN]
    | succ n ih =>
      intro hn
      rw [listN_yes S n (h n (by omega)), List.length_append, ih (by omega)]
      rfl
  exact this _ (Nat.le_refl _)
end Go.Proofs.YthodmicoejnfaaaDoor
