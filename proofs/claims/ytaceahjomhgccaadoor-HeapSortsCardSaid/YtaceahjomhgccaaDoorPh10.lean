/-
  Of no program: heaps as lists: an entry that rises, one that sinks, a push, a pop; sorted rows; a heap's first is the least.
-/
import Derived.Test.YtaceahjomhgccaaDoorSrt
namespace Go.Proofs.YtaceahjomhgccaaDoor
set_option linter.unusedSimpArgs false
set_option linter.unusedVariables false
set_option linter.unusedSectionVars false

section
variable {α : Type} [Inhabited α] {lt : α → α → Bool}

theorem STO.ntrans (h : STO lt) {x y z : α} (h1 : lt x y = false) (h2 : lt y z = false) : lt x z = false := by
  cases e : lt x z with
  | false => rfl
  | true =>
    cases e2 : lt y x with
    | true => have := h.trans _ _ _ e2 e; rw [h2] at this; cases this
    | false => have := h.total _ _ h1 e2; subst this; rw [h2] at e; cases e

def swapL (l : List α) (i k : Nat) : List α := (l.set i l[k]!).set k l[i]!
theorem swapL_len (l : List α) (i k : Nat) : (swapL l i k).length = l.length := by simp [swapL]
theorem get_set (l : List α) (i j : Nat) (x : α) (hi : i < l.length) : (l.set i x)[j]! = if j = i then x else l[j]! := by
  by_cases e : j = i
  · subst e; simp [hi]
  · have : ¬ i = j := fun k => e k.symm
    simp [List.getElem?_set, e, this]
theorem swapL_get (l : List α) (i k j : Nat) (hi : i < l.length) (hk : k < l.length) : (swapL l i k)[j]! = if j = k then l[i]! else if j = i then l[k]! else l[j]! := by
  unfold swapL
  rw [get_set _ _ _ _ (by simpa using hk), get_set _ _ _ _ hi]
theorem swapL_perm (l : List α) (i k : Nat) (hi : i < l.length) (hk : k < l.length) : (swapL l i k).Perm l := by
  unfold swapL
  rw [getElem!_pos l i hi, getElem!_pos l k hk]
  exact List.set_set_perm hi hk

/-! ### An entry rises. -/
def riseL (lt : α → α → Bool) (l : List α) (i : Nat) : List α :=
  if 0 < i ∧ lt l[i]! l[(i - 1) / 2]! = true then riseL lt (swapL l i ((i - 1) / 2)) ((i - 1) / 2) else l
termination_by i
decreasing_by omega
theorem riseL_up {l : List α} {i : Nat} (h0 : 0 < i) (h : lt l[i]! l[(i - 1) / 2]! = true) : riseL lt (swapL l i ((i - 1) / 2)) ((i - 1) / 2) = riseL lt l i := by
  rw [riseL.eq_def lt l i, if_pos ⟨h0, h⟩]
theorem riseL_stay {l : List α} {i : Nat} (h0 : 0 < i) (h : lt l[i]! l[(i - 1) / 2]! = false) : riseL lt l i = l := by
  rw [riseL.eq_def, if_neg (fun k => by rw [h] at k; exact absurd k.2 (by simp))]
theorem riseL_zero (l : List α) : riseL lt l 0 = l := by
  rw [riseL.eq_def, if_neg (fun k => absurd k.1 (by omega))]
theorem riseL_perm (l : List α) (i : Nat) (hi : i < l.length) : (riseL lt l i).Perm l := by
  induction i using Nat.strongRecOn generalizing l with
  | ind i ih =>
    rw [riseL.eq_def]
    split
    · rename_i h
      exact (ih ((i - 1) / 2) (by omega) (swapL l i ((i - 1) / 2)) (by rw [swapL_len]; omega)).trans (swapL_perm l _ _ hi (by omega))
    · exact List.Perm.refl _

def HeapL (lt : α → α → Bool) (l : List α) : Prop := ∀ j, 0 < j → j < l.length → lt l[j]! l[(j - 1) / 2]! = false
def RiseInv (lt : α → α → Bool) (l : List α) (i : Nat) : Prop :=
  (∀ j, 0 < j → j < l.length → j ≠ i → lt l[j]! l[(j - 1) / 2]! = false) ∧ ∀ j, 0 < j → j < l.length → (j - 1) / 2 = i → 0 < i → lt l[j]! l[(i - 1) / 2]! = false
theorem rise_heap (h : STO lt) (l : List α) (i : Nat) (hi : i < l.length) (hI : RiseInv lt l i) : HeapL lt (riseL lt l i) := by
  induction i using Nat.strongRecOn generalizing l with
  | ind i ih =>
    obtain ⟨i1, i2⟩ := hI
    rw [riseL.eq_def]
    split
    · rename_i hc
      obtain ⟨h0, hlt⟩ := hc
      have hp : (i - 1) / 2 < i := by omega
      refine ih _ hp _ (by rw [swapL_len]; omega) ⟨fun j j0 jn jp => ?_, fun j j0 jn je p0 => ?_⟩
      · rw [swapL_len] at jn
        rw [swapL_get l i _ j hi (by omega), swapL_get l i _ ((j - 1) / 2) hi (by omega), if_neg jp]
        by_cases ji : j = i
        · rw [if_pos ji, ji, if_pos rfl]
          exact h.asymm hlt
        · rw [if_neg ji]
          by_cases q : (j - 1) / 2 = (i - 1) / 2
          · rw [if_pos q]
            have a := i1 j j0 jn ji
            rw [q] at a
            cases e : lt l[j]! l[i]! with
            | false => rfl
            | true => have := h.trans _ _ _ e hlt; rw [a] at this; cases this
          · rw [if_neg q]
            by_cases q2 : (j - 1) / 2 = i
            · rw [if_pos q2]
              exact i2 j j0 jn q2 h0
            · rw [if_neg q2]
              exact i1 j j0 jn ji
      · rw [swapL_len] at jn
        rw [swapL_get l i _ j hi (by omega), swapL_get l i _ (((i - 1) / 2 - 1) / 2) hi (by omega), if_neg (by omega : ¬ j = (i - 1) / 2), if_neg (by omega : ¬ ((i - 1) / 2 - 1) / 2 = (i - 1) / 2), if_neg (by omega : ¬ ((i - 1) / 2 - 1) / 2 = i)]
        have b := i1 ((i - 1) / 2) p0 (by omega) (by omega)
        by_cases ji : j = i
        · rw [if_pos ji]
          exact b
        · rw [if_neg ji]
          have a := i1 j j0 jn ji
          rw [je] at a
          exact h.ntrans a b
    · rename_i hc
      intro j j0 jn
      by_cases ji : j = i
      · subst ji
        cases e : lt l[j]! l[(j - 1) / 2]! with
        | false => rfl
        | true => exact absurd ⟨j0, e⟩ hc
      · exact i1 j j0 jn ji

/-- A push. -/
def pushL (lt : α → α → Bool) (l : List α) (x : α) : List α := riseL lt (l ++ [x]) l.length
theorem pushL_perm (l : List α) (x : α) : (pushL lt l x).Perm (l ++ [x]) := riseL_perm _ _ (by simp)
theorem pushL_len (l : List α) (x : α) : (pushL lt l x).length = l.length + 1 := by rw [(pushL_perm l x).length_eq]; simp
theorem get_left (l r : List α) (j : Nat) (hj : j < l.length) : (l ++ r)[j]! = l[j]! := by
  simp [List.getElem?_append_left hj]
theorem pushL_heap (h : STO lt) {l : List α} (hl : HeapL lt l) (x : α) : HeapL lt (pushL lt l x) := by
  refine rise_heap h _ _ (by simp) ⟨fun j j0 jn ji => ?_, fun j j0 jn je _ => ?_⟩
  · have : j < l.length := by simp at jn; omega
    rw [get_left l _ j this, get_left l _ _ (by omega)]
    exact hl j j0 this
  · simp at jn
    omega
/-- Many. -/
def pushesL (lt : α → α → Bool) (l : List α) (xs : List α) : List α := xs.foldl (pushL lt) l
theorem pushesL_snoc (l xs : List α) (x : α) : pushesL lt l (xs ++ [x]) = pushL lt (pushesL lt l xs) x := by simp [pushesL]
theorem pushesL_take (l xs : List α) (k : Nat) (hk : k < xs.length) : pushesL lt l (xs.take (k + 1)) = pushL lt (pushesL lt l (xs.take k)) xs[k]! := by
  rw [List.take_succ_eq_append_getElem hk, pushesL_snoc, getElem!_pos xs k hk]
theorem pushesL_perm (l xs : List α) : (pushesL lt l xs).Perm (l ++ xs) := by
  induction xs generalizing l with
  | nil => simp [pushesL]
  | cons x r ih =>
    have e : pushesL lt l (x :: r) = pushesL lt (pushL lt l x) r := rfl
    rw [e]
    refine (ih (pushL lt l x)).trans (((pushL_perm l x).append_right r).trans ?_)
    simp
theorem pushesL_len (l xs : List α) : (pushesL lt l xs).length = l.length + xs.length := by rw [(pushesL_perm l xs).length_eq]; simp
theorem pushesL_heap (h : STO lt) (l xs : List α) (hl : HeapL lt l) : HeapL lt (pushesL lt l xs) := by
  induction xs generalizing l with
  | nil => exact hl
  | cons x r ih => exact ih _ (pushL_heap h hl x)

/-! ### An entry sinks. -/
def leftL (lt : α → α → Bool) (l : List α) (i : Nat) : Nat := if 2 * i + 1 < l.length ∧ lt l[2 * i + 1]! l[i]! = true then 2 * i + 1 else i
def firstL (lt : α → α → Bool) (l : List α) (i : Nat) : Nat := if 2 * i + 2 < l.length ∧ lt l[2 * i + 2]! l[leftL lt l i]! = true then 2 * i + 2 else leftL lt l i
theorem firstL_cases (l : List α) (i : Nat) : firstL lt l i = i ∨ (i < firstL lt l i ∧ firstL lt l i < l.length ∧ (firstL lt l i - 1) / 2 = i) := by
  unfold firstL leftL
  repeat' split
  all_goals omega
/-- Which of them comes first. -/
theorem firstL_least (h : STO lt) (l : List α) (i : Nat) : (∀ c, (c = 2 * i + 1 ∨ c = 2 * i + 2) → c < l.length → lt l[c]! l[firstL lt l i]! = false) ∧ (firstL lt l i ≠ i → lt l[firstL lt l i]! l[i]! = true) := by
  have hl1 : 2 * i + 1 < l.length → lt l[2 * i + 1]! l[leftL lt l i]! = false := by
    intro hn
    unfold leftL
    split
    · exact h.irrefl _
    · rename_i hc
      cases e : lt l[2 * i + 1]! l[i]! with
      | false => rfl
      | true => exact absurd ⟨hn, e⟩ hc
  have hl2 : leftL lt l i ≠ i → lt l[leftL lt l i]! l[i]! = true := by
    unfold leftL
    split
    · rename_i hc; exact fun _ => hc.2
    · exact fun e => absurd rfl e
  unfold firstL
  split
  · rename_i hc
    refine ⟨fun c hc' hn => ?_, fun _ => ?_⟩
    · rcases hc' with rfl | rfl
      · have a := hl1 hn
        cases e : lt l[2 * i + 1]! l[2 * i + 2]! with
        | false => rfl
        | true => have := h.trans _ _ _ e hc.2; rw [a] at this; cases this
      · exact h.irrefl _
    · by_cases e : leftL lt l i = i
      · have := hc.2; rwa [e] at this
      · exact h.trans _ _ _ hc.2 (hl2 e)
  · rename_i hc
    refine ⟨fun c hc' hn => ?_, hl2⟩
    rcases hc' with rfl | rfl
    · exact hl1 hn
    · cases e : lt l[2 * i + 2]! l[leftL lt l i]! with
      | false => rfl
      | true => exact absurd ⟨hn, e⟩ hc
def sinkL (lt : α → α → Bool) (l : List α) (i : Nat) : List α :=
  if firstL lt l i = i then l else sinkL lt (swapL l i (firstL lt l i)) (firstL lt l i)
termination_by l.length - i
decreasing_by
  rename_i hne
  rw [swapL_len]
  rcases firstL_cases (lt := lt) l i with e | e
  · exact absurd e hne
  · omega
theorem sinkL_down {l : List α} {i f : Nat} (hf : firstL lt l i = f) (h : f ≠ i) : sinkL lt (swapL l i f) f = sinkL lt l i := by
  subst hf
  rw [sinkL.eq_def lt l i, if_neg h]
theorem sinkL_stay {l : List α} {i : Nat} (h : firstL lt l i = i) : sinkL lt l i = l := by
  rw [sinkL.eq_def, if_pos h]
theorem sinkL_both (h : STO lt) (n : Nat) : ∀ (l : List α) (i : Nat), l.length - i ≤ n → i < l.length → (sinkL lt l i).Perm l ∧ ((∀ j, 0 < j → j < l.length → (j - 1) / 2 ≠ i → lt l[j]! l[(j - 1) / 2]! = false) →
    (∀ j, 0 < j → j < l.length → (j - 1) / 2 = i → 0 < i → lt l[j]! l[(i - 1) / 2]! = false) → HeapL lt (sinkL lt l i)) := by
  induction n with
  | zero => intro l i h1 h2; omega
  | succ n ih =>
    intro l i hn hi
    by_cases hf : firstL lt l i = i
    · rw [sinkL_stay hf]
      refine ⟨List.Perm.refl _, fun i1 _ j j0 jn => ?_⟩
      by_cases q : (j - 1) / 2 = i
      · have := (firstL_least h l i).1 j (by omega) jn
        rw [hf] at this
        rw [q]
        exact this
      · exact i1 j j0 jn q
    · obtain ⟨f1, f2, f3⟩ := (firstL_cases (lt := lt) l i).resolve_left hf
      have hlt := (firstL_least h l i).2 hf
      have hch := (firstL_least h l i).1
      rw [← sinkL_down rfl hf]
      generalize firstL lt l i = f at *
      obtain ⟨p, q⟩ := ih (swapL l i f) f (by rw [swapL_len]; omega) (by rw [swapL_len]; omega)
      refine ⟨p.trans (swapL_perm l i f hi f2), fun i1 i2 => q (fun j j0 jn jq => ?_) (fun j j0 jn jq f0 => ?_)⟩
      · rw [swapL_len] at jn
        rw [swapL_get l i f j hi f2, swapL_get l i f ((j - 1) / 2) hi f2, if_neg jq]
        by_cases ji : j = f
        · rw [if_pos ji, ji, f3, if_pos rfl]
          exact h.asymm hlt
        · rw [if_neg ji]
          by_cases ji2 : j = i
          · rw [if_pos ji2, if_neg (by omega : ¬ (j - 1) / 2 = i), ji2]
            exact i2 f (by omega) f2 f3 (by omega)
          · rw [if_neg ji2]
            by_cases q2 : (j - 1) / 2 = i
            · rw [if_pos q2]
              exact hch j (by omega) jn
            · rw [if_neg q2]
              exact i1 j j0 jn q2
      · rw [swapL_len] at jn
        rw [swapL_get l i f j hi f2, swapL_get l i f ((f - 1) / 2) hi f2, if_neg (by omega : ¬ j = f), if_neg (by omega : ¬ j = i), if_neg (by omega : ¬ (f - 1) / 2 = f), if_pos f3]
        have := i1 j j0 jn (by omega)
        rwa [jq] at this

/-- A pop. -/
def cutL (l : List α) : List α := (l.set 0 l[l.length - 1]!).take (l.length - 1)
def popL (lt : α → α → Bool) (l : List α) : List α := sinkL lt (cutL l) 0
theorem cutL_len (l : List α) : (cutL l).length = l.length - 1 := by simp [cutL]
theorem cutL_perm (l : List α) (h0 : 0 < l.length) : l.Perm (l[0]! :: cutL l) := by
  cases l with
  | nil => simp at h0
  | cons a r =>
    rcases List.eq_nil_or_concat r with rfl | ⟨s, x, rfl⟩
    · simp [cutL]
    · rw [List.concat_eq_append]
      have e : cutL (a :: (s ++ [x])) = x :: s := by
        simp [cutL]
      rw [e]
      simp only [List.getElem!_cons_zero]
      exact List.Perm.cons a (List.perm_append_singleton x s)
theorem sinkL_nil (i : Nat) : sinkL lt ([] : List α) i = [] := sinkL_stay (by simp [firstL, leftL])
theorem popL_perm (h : STO lt) (l : List α) (h0 : 0 < l.length) : l.Perm (l[0]! :: popL lt l) := by
  refine (cutL_perm l h0).trans (List.Perm.cons _ ?_)
  unfold popL
  by_cases e : (cutL l).length = 0
  · rw [List.length_eq_zero_iff.1 e, sinkL_nil]
  · exact ((sinkL_both h _ (cutL l) 0 (Nat.le_refl _) (by omega)).1).symm
theorem popL_len (h : STO lt) (l : List α) : (popL lt l).length = l.length - 1 := by
  by_cases h0 : 0 < l.length
  · have := (popL_perm h l h0).length_eq
    simp at this
    omega
  · have : l = [] := List.length_eq_zero_iff.1 (by omega)
    subst this
    simp [popL, cutL, sinkL_nil]
theorem popL_heap (h : STO lt) {l : List α} (hl : HeapL lt l) : HeapL lt (popL lt l) := by
  unfold popL
  by_cases e : (cutL l).length = 0
  · rw [List.length_eq_zero_iff.1 e, sinkL_nil]
    exact fun j _ jn => absurd jn (by simp)
  · refine (sinkL_both h _ (cutL l) 0 (Nat.le_refl _) (by omega)).2 (fun j j0 jn jq => ?_) (fun j j0 jn jq f0 => by omega)
    have hn : j < l.length - 1 := by rwa [cutL_len] at jn
    have g : ∀ k, 0 < k → k < l.length - 1 → (cutL l)[k]! = l[k]! := fun k k0 kn => by
      have k1 : ¬ 0 = k := by omega
      have k2 : k < l.length := by omega
      simp [cutL, kn, k1, k2]
    rw [g j j0 hn, g _ (by omega) (by omega)]
    exact hl j j0 (by omega)
/-- A HEAP's FIRST IS THE LEAST. -/
theorem heap_least (h : STO lt) {l : List α} (hl : HeapL lt l) (j : Nat) (hj : j < l.length) : lt l[j]! l[0]! = false := by
  induction j using Nat.strongRecOn with
  | ind j ih =>
    by_cases j0 : j = 0
    · subst j0; exact h.irrefl _
    · exact h.ntrans (hl j (by omega) hj) (ih ((j - 1) / 2) (by omega) (by omega))
theorem heap_least_mem (h : STO lt) {l : List α} (hl : HeapL lt l) {x : α} (hx : x ∈ l) : lt x l[0]! = false := by
  obtain ⟨j, hj, e⟩ := List.getElem_of_mem hx
  have := heap_least h hl j hj
  rwa [getElem!_pos l j hj, e] at this

/-! ### Rows in order. -/
def SortedL (lt : α → α → Bool) (l : List α) : Prop := l.Pairwise (fun x y => lt y x = false)
omit [Inhabited α] in
/-- TWO ROWS IN ORDER OF THE SAME ENTRIES ARE ONE. -/
theorem sorted_uniq (h : STO lt) : ∀ (a b : List α), SortedL lt a → SortedL lt b → a.Perm b → a = b
  | [], b, _, _, p => (List.nil_perm.1 p).symm
  | x :: r, [], _, _, p => absurd (List.perm_nil.1 p) (by simp)
  | x :: r, y :: s, ha, hb, p => by
    obtain ⟨hx, ha'⟩ := List.pairwise_cons.1 ha
    obtain ⟨hy, hb'⟩ := List.pairwise_cons.1 hb
    have e : x = y := by
      rcases List.mem_cons.1 (p.mem_iff.1 (by simp : x ∈ x :: r)) with e | e
      · exact e
      · rcases List.mem_cons.1 (p.mem_iff.2 (by simp : y ∈ y :: s)) with f | f
        · exact f.symm
        · exact h.total _ _ (hy x e) (hx y f)
    subst e
    rw [sorted_uniq h r s ha' hb' (List.Perm.cons_inv p)]
/-- Where an entry is put. -/
def putK (lt : α → α → Bool) (l : List α) (x : α) : Nat → Nat
  | 0 => 0
  | k + 1 => if lt x l[k]! = true then putK lt l x k else k + 1
theorem putK_le (l : List α) (x : α) : ∀ k, putK lt l x k ≤ k
  | 0 => Nat.le_refl _
  | k + 1 => by unfold putK; split; exact Nat.le_succ_of_le (putK_le l x k); exact Nat.le_refl _
theorem putK_high (l : List α) (x : α) : ∀ k j, putK lt l x k ≤ j → j < k → lt x l[j]! = true
  | 0, j, _, h => by omega
  | k + 1, j, h1, h2 => by
    unfold putK at h1
    split at h1
    · rename_i h
      by_cases e : j = k
      · rw [e]; exact h
      · exact putK_high l x k j h1 (by omega)
    · omega
theorem putK_low (l : List α) (x : α) : ∀ k, 0 < putK lt l x k → lt x l[putK lt l x k - 1]! = false
  | 0, h => absurd h (by simp [putK])
  | k + 1, h => by
    unfold putK at h ⊢
    split
    · rename_i e
      rw [if_pos e] at h
      exact putK_low l x k h
    · rename_i e
      simpa using e
def putL (lt : α → α → Bool) (l : List α) (x : α) : List α := l.take (putK lt l x l.length) ++ x :: l.drop (putK lt l x l.length)
theorem putL_perm (l : List α) (x : α) : (putL lt l x).Perm (l ++ [x]) := by
  unfold putL
  have e : l = l.take (putK lt l x l.length) ++ l.drop (putK lt l x l.length) := (List.take_append_drop _ _).symm
  generalize putK lt l x l.length = k at *
  refine List.perm_middle.trans ?_
  rw [← e]
  exact (List.perm_append_singleton x l).symm
theorem putL_len (l : List α) (x : α) : (putL lt l x).length = l.length + 1 := by rw [(putL_perm l x).length_eq]; simp
theorem putL_sorted (h : STO lt) {l : List α} (hl : SortedL lt l) (x : α) : SortedL lt (putL lt l x) := by
  have hK := putK_le (lt := lt) l x l.length
  have hi := putK_high (lt := lt) l x l.length
  have lo := putK_low (lt := lt) l x l.length
  unfold putL
  generalize putK lt l x l.length = k at *
  have hlow : ∀ y, y ∈ l.take k → lt x y = false := fun y hy => by
    obtain ⟨j, hj, rfl⟩ := List.getElem_of_mem hy
    have hjk : j < k := by simp at hj; omega
    have a := lo (by omega)
    rw [List.getElem_take]
    by_cases e : j = k - 1
    · subst e
      rw [getElem!_pos l (k - 1) (by omega)] at a
      exact a
    · have b := List.pairwise_iff_getElem.1 hl j (k - 1) (by omega) (by omega) (by omega)
      rw [getElem!_pos l (k - 1) (by omega)] at a
      exact h.ntrans a b
  have hhigh : ∀ y, y ∈ l.drop k → lt x y = true := fun y hy => by
    obtain ⟨j, hj, rfl⟩ := List.getElem_of_mem hy
    have hj' : j < l.length - k := by simpa using hj
    have := hi (k + j) (by omega) (by omega)
    rw [getElem!_pos l (k + j) (by omega)] at this
    rw [List.getElem_drop]
    exact this
  refine List.pairwise_append.2 ⟨hl.sublist (List.take_sublist _ _), List.pairwise_cons.2 ⟨fun y hy => h.asymm (hhigh y hy), hl.sublist (List.drop_sublist _ _)⟩, fun a ha b hb => ?_⟩
  rcases List.mem_cons.1 hb with rfl | hb
  · exact hlow a ha
  · have : (l.take k ++ l.drop k).Pairwise (fun x y => lt y x = false) := by rw [List.take_append_drop]; exact hl
    exact (List.pairwise_append.1 this).2.2 a ha b hb
def putsL (lt : α → α → Bool) (l : List α) (xs : List α) : List α := xs.foldl (putL lt) l
theorem putsL_take (l xs : List α) (k : Nat) (hk : k < xs.length) : putsL lt l (xs.take (k + 1)) = putL lt (putsL lt l (xs.take k)) xs[k]! := by
  rw [List.take_succ_eq_append_getElem hk, getElem!_pos xs k hk, putsL, List.foldl_append]
  rfl
theorem putsL_perm (l xs : List α) : (putsL lt l xs).Perm (l ++ xs) := by
  induction xs generalizing l with
  | nil => simp [putsL]
  | cons x r ih =>
    have e : putsL lt l (x :: r) = putsL lt (putL lt l x) r := rfl
    rw [e]
    refine (ih (putL lt l x)).trans (((putL_perm l x).append_right r).trans ?_)
    simp
theorem putsL_len (l xs : List α) : (putsL lt l xs).length = l.length + xs.length := by rw [(putsL_perm l xs).length_eq]; simp
theorem putsL_sorted (h : STO lt) (l xs : List α) (hl : SortedL lt l) : SortedL lt (putsL lt l xs) := by
  induction xs generalizing l with
  | nil => exact hl
  | cons x r ih => exact ih _ (putL_sorted h hl x)

/-! ### A heap beside a row in order. -/
/-- The heap l holds what the row m does. -/
structure Both (lt : α → α → Bool) (l m : List α) : Prop where
  heap : HeapL lt l
  sorted : SortedL lt m
  perm : l.Perm m
theorem Both.nil : Both lt ([] : List α) [] := ⟨fun j _ jn => absurd jn (by simp), List.Pairwise.nil, List.Perm.refl _⟩
theorem Both.len {l m : List α} (b : Both lt l m) : l.length = m.length := b.perm.length_eq
theorem Both.pushes (h : STO lt) {l m : List α} (b : Both lt l m) (xs : List α) : Both lt (pushesL lt l xs) (putsL lt m xs) :=
  ⟨pushesL_heap h l xs b.heap, putsL_sorted h m xs b.sorted, (pushesL_perm l xs).trans ((b.perm.append_right xs).trans (putsL_perm m xs).symm)⟩
theorem Both.first (h : STO lt) {l m : List α} (b : Both lt l m) (h0 : 0 < m.length) : m[0]! = l[0]! := by
  have hl := b.len
  have e1 : l[0]! ∈ m := b.perm.mem_iff.1 (by rw [getElem!_pos l 0 (by omega)]; exact List.getElem_mem _)
  have e2 : m[0]! ∈ l := b.perm.mem_iff.2 (by rw [getElem!_pos m 0 h0]; exact List.getElem_mem _)
  have a := heap_least_mem h b.heap e2
  obtain ⟨j, hj, e⟩ := List.getElem_of_mem e1
  refine h.total _ _ a ?_
  by_cases j0 : j = 0
  · subst j0
    rw [getElem!_pos m 0 h0, e]
    exact h.irrefl _
  · have c := List.pairwise_iff_getElem.1 b.sorted 0 j h0 hj (by omega)
    rw [e] at c
    rwa [getElem!_pos m 0 h0]
theorem Both.pop (h : STO lt) {l m : List α} (b : Both lt l m) (h0 : 0 < m.length) : Both lt (popL lt l) (m.drop 1) := by
  have hf := b.first h h0
  have hl := b.len
  refine ⟨popL_heap h b.heap, b.sorted.sublist (List.drop_sublist _ _), ?_⟩
  have p := ((popL_perm h l (by omega)).symm.trans b.perm)
  cases m with
  | nil => simp at h0
  | cons x r =>
    simp only [List.getElem!_cons_zero] at hf
    rw [← hf] at p
    exact List.Perm.cons_inv p
end
end Go.Proofs.YtaceahjomhgccaaDoor
