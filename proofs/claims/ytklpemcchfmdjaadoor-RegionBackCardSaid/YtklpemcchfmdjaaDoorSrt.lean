/-
  Of no program: rising lists over a strict total order: one by one insertion, uniqueness, lookup, union, difference, all pairs.
-/
import Derived.Lib.Small
namespace Go.Proofs.YtklpemcchfmdjaaDoor
set_option linter.unusedSimpArgs false
set_option linter.unusedVariables false

/-- A strict total order, as a Bool. -/
structure STO {α : Type} (lt : α → α → Bool) : Prop where
  irrefl : ∀ x, lt x x = false
  trans : ∀ x y z, lt x y = true → lt y z = true → lt x z = true
  total : ∀ x y, lt x y = false → lt y x = false → x = y

section
variable {α : Type} {lt : α → α → Bool}

def Rise (lt : α → α → Bool) (l : List α) : Prop := l.Pairwise (fun x y => lt x y = true)

theorem STO.asymm (h : STO lt) {x y : α} (hx : lt x y = true) : lt y x = false := by
  cases e : lt y x with
  | false => rfl
  | true => have := h.trans _ _ _ hx e; rw [h.irrefl] at this; cases this

theorem STO.ne (h : STO lt) {x y : α} (hx : lt x y = true) : x ≠ y := fun e => by subst e; rw [h.irrefl] at hx; cases hx

/-- TWO RISING LISTS OF THE SAME MEMBERS ARE ONE. -/
theorem rise_uniq (h : STO lt) : ∀ (a b : List α), Rise lt a → Rise lt b → (∀ x, x ∈ a ↔ x ∈ b) → a = b
  | [], [], _, _, _ => rfl
  | [], y :: _, _, _, hm => absurd ((hm y).2 (by simp)) (by simp)
  | x :: _, [], _, _, hm => absurd ((hm x).1 (by simp)) (by simp)
  | x :: r, y :: s, ha, hb, hm => by
    obtain ⟨hx, ha'⟩ := List.pairwise_cons.1 ha
    obtain ⟨hy, hb'⟩ := List.pairwise_cons.1 hb
    have exy : x = y := by
      rcases List.mem_cons.1 ((hm x).1 (by simp)) with e | e
      · exact e
      · rcases List.mem_cons.1 ((hm y).2 (by simp)) with f | f
        · exact f.symm
        · have := h.asymm (hy x e); rw [hx y f] at this; cases this
    subst exy
    congr 1
    refine rise_uniq h r s ha' hb' fun z => ?_
    constructor
    · intro hz
      rcases List.mem_cons.1 ((hm z).1 (List.mem_cons_of_mem _ hz)) with e | e
      · subst e; have := hx z hz; rw [h.irrefl] at this; cases this
      · exact e
    · intro hz
      rcases List.mem_cons.1 ((hm z).2 (List.mem_cons_of_mem _ hz)) with e | e
      · subst e; have := hy z hz; rw [h.irrefl] at this; cases this
      · exact e

/-- How many stand at the head that are less. -/
def headLess (lt : α → α → Bool) (x : α) : List α → Nat
  | [] => 0
  | y :: r => if lt y x then headLess lt x r + 1 else 0
theorem headLess_le (x : α) : ∀ l : List α, headLess lt x l ≤ l.length
  | [] => Nat.le_refl _
  | y :: r => by unfold headLess; split <;> simp [headLess_le x r]

/-- A rising list with an element. -/
def put [DecidableEq α] (lt : α → α → Bool) (x : α) : List α → List α
  | [] => [x]
  | y :: r => if lt y x then y :: put lt x r else if y = x then y :: r else x :: y :: r

theorem put_eq [DecidableEq α] (x : α) : ∀ l : List α, put lt x l = if l[headLess lt x l]? = some x then l else l.take (headLess lt x l) ++ x :: l.drop (headLess lt x l)
  | [] => by simp [put, headLess]
  | y :: r => by
    unfold put headLess
    by_cases h : lt y x = true
    · rw [if_pos h, if_pos h, put_eq x r]
      simp only [List.getElem?_cons_succ, List.take_succ_cons, List.drop_succ_cons]
      split <;> simp
    · rw [if_neg h, if_neg h]
      simp only [List.getElem?_cons_zero, List.take_zero, List.drop_zero, List.nil_append, Option.some.injEq]

theorem mem_put [DecidableEq α] (x z : α) : ∀ l : List α, z ∈ put lt x l ↔ z = x ∨ z ∈ l
  | [] => by simp [put]
  | y :: r => by
    unfold put
    split
    · simp only [List.mem_cons, mem_put x z r]; constructor
      · rintro (h | h | h) <;> simp [h]
      · rintro (h | h | h) <;> simp [h]
    · split
      · rename_i e; subst e; simp
      · simp

theorem rise_put [DecidableEq α] (h : STO lt) (x : α) : ∀ l : List α, Rise lt l → Rise lt (put lt x l)
  | [], _ => by simp [put, Rise]
  | y :: r, hl => by
    obtain ⟨hy, hr⟩ := List.pairwise_cons.1 hl
    unfold put
    split
    · rename_i e
      refine List.pairwise_cons.2 ⟨fun z hz => ?_, rise_put h x r hr⟩
      rcases (mem_put x z r).1 hz with rfl | hz
      · exact e
      · exact hy z hz
    · rename_i e
      split
      · exact hl
      · rename_i ne
        have hxy : lt x y = true := by
          cases e2 : lt x y with
          | true => rfl
          | false => exact absurd (h.total y x (by simpa using e) e2) ne
        refine List.pairwise_cons.2 ⟨fun z hz => ?_, hl⟩
        rcases List.mem_cons.1 hz with rfl | hz
        · exact hxy
        · exact h.trans _ _ _ hxy (hy z hz)

/-- Rising, each once. -/
def srt [DecidableEq α] (lt : α → α → Bool) (l : List α) : List α := l.foldl (fun a x => put lt x a) []

theorem srt_snoc [DecidableEq α] (l : List α) (x : α) : srt lt (l ++ [x]) = put lt x (srt lt l) := by simp [srt]
theorem srt_take [DecidableEq α] (l : List α) (i : Nat) (h : i < l.length) : srt lt (l.take (i + 1)) = put lt l[i] (srt lt (l.take i)) := by
  rw [List.take_succ_eq_append_getElem h, srt_snoc]

theorem foldl_put [DecidableEq α] (h : STO lt) : ∀ (l a : List α), Rise lt a → Rise lt (l.foldl (fun a x => put lt x a) a) ∧ ∀ z, z ∈ l.foldl (fun a x => put lt x a) a ↔ z ∈ a ∨ z ∈ l
  | [], a, ha => ⟨ha, fun z => by simp⟩
  | x :: r, a, ha => by
    obtain ⟨h1, h2⟩ := foldl_put h r (put lt x a) (rise_put h x a ha)
    refine ⟨h1, fun z => ?_⟩
    rw [List.foldl_cons, h2 z, mem_put]
    simp only [List.mem_cons]
    constructor
    · rintro ((h | h) | h) <;> simp [h]
    · rintro (h | h | h) <;> simp [h]
theorem rise_srt [DecidableEq α] (h : STO lt) (l : List α) : Rise lt (srt lt l) := (foldl_put h l [] List.Pairwise.nil).1
theorem mem_srt [DecidableEq α] (h : STO lt) (l : List α) (z : α) : z ∈ srt lt l ↔ z ∈ l := by rw [srt, (foldl_put h l [] List.Pairwise.nil).2 z]; simp
theorem srt_eq [DecidableEq α] (h : STO lt) {l a : List α} (ha : Rise lt a) (hm : ∀ z, z ∈ a ↔ z ∈ l) : srt lt l = a :=
  rise_uniq h _ _ (rise_srt h l) ha fun z => by rw [mem_srt h, hm]
theorem srt_self [DecidableEq α] (h : STO lt) {l : List α} (hl : Rise lt l) : srt lt l = l := srt_eq h hl fun _ => Iff.rfl
theorem srt_len [DecidableEq α] (lt : α → α → Bool) (l : List α) : (srt lt l).length ≤ l.length := by
  have : ∀ (l a : List α), (l.foldl (fun a x => put lt x a) a).length ≤ a.length + l.length := by
    intro l
    induction l with
    | nil => intro a; simp
    | cons x r ih =>
      intro a
      have hp : (put lt x a).length ≤ a.length + 1 := by
        clear ih
        induction a with
        | nil => simp [put]
        | cons y s ih => unfold put; split <;> (try split) <;> simp <;> omega
      have := ih (put lt x a)
      simp only [List.foldl_cons, List.length_cons]
      omega
  simpa [srt] using this l []

/-- In a rising list a thing stands once. -/
theorem rise_nodup (h : STO lt) {l : List α} (hl : Rise lt l) : l.Nodup := hl.imp fun hxy => h.ne hxy
theorem rise_get (h : STO lt) {l : List α} (hl : Rise lt l) {i j : Nat} (hi : i < l.length) (hj : j < l.length) (e : l[i] = l[j]) : i = j :=
  (List.getElem_inj (rise_nodup h hl)).1 e
theorem rise_lt {l : List α} (hl : Rise lt l) {i j : Nat} (hij : i < j) (hj : j < l.length) : lt l[i] l[j] = true := List.pairwise_iff_getElem.1 hl i j _ hj hij
theorem rise_filter {l : List α} (hl : Rise lt l) (p : α → Bool) : Rise lt (l.filter p) := List.Pairwise.filter p hl

/-- THE UNION's LENGTH: the first list's, and what stands in the second alone. -/
theorem len_union [DecidableEq α] (h : STO lt) {x y u : List α} (hx : Rise lt x) (hy : Rise lt y) (hu : Rise lt u) (hm : ∀ z, z ∈ u ↔ z ∈ x ∨ z ∈ y) :
    u.length = x.length + (y.filter fun z => !decide (z ∈ x)).length := by
  have hp : u.Perm (x ++ y.filter fun z => !decide (z ∈ x)) := by
    refine (List.perm_ext_iff_of_nodup (rise_nodup h hu) ?_).2 fun z => ?_
    · refine List.nodup_append.2 ⟨rise_nodup h hx, rise_nodup h (rise_filter hy _), fun a ha b hb e => ?_⟩
      subst e
      simp at hb
      exact hb.2 ha
    · rw [hm z]
      simp only [List.mem_append, List.mem_filter, Bool.not_eq_true', decide_eq_false_iff_not]
      constructor
      · rintro (e | e)
        · exact .inl e
        · by_cases hz : z ∈ x
          · exact .inl hz
          · exact .inr ⟨e, hz⟩
      · rintro (e | e)
        · exact .inl e
        · exact .inr e.1
  rw [hp.length_eq, List.length_append]

/-- All pairs of a rising list, the lesser one first. -/
def pairsOf : List α → List (α × α)
  | [] => []
  | a :: r => r.map (fun b => (a, b)) ++ pairsOf r
def ltPair [DecidableEq α] (lt : α → α → Bool) (p q : α × α) : Bool := lt p.1 q.1 || (decide (p.1 = q.1) && lt p.2 q.2)

theorem sto_pair [DecidableEq α] (h : STO lt) : STO (ltPair lt) where
  irrefl p := by simp [ltPair, h.irrefl]
  trans p q r h1 h2 := by
    simp only [ltPair, Bool.or_eq_true, Bool.and_eq_true, decide_eq_true_eq] at *
    rcases h1 with h1 | ⟨e1, h1⟩ <;> rcases h2 with h2 | ⟨e2, h2⟩
    · exact .inl (h.trans _ _ _ h1 h2)
    · exact .inl (e2 ▸ h1)
    · exact .inl (e1 ▸ h2)
    · exact .inr ⟨e1.trans e2, h.trans _ _ _ h1 h2⟩
  total p q h1 h2 := by
    simp only [ltPair, Bool.or_eq_false_iff, Bool.and_eq_false_iff, decide_eq_false_iff_not] at h1 h2
    have e : p.1 = q.1 := h.total _ _ h1.1 h2.1
    have f : p.2 = q.2 := h.total _ _ (h1.2.resolve_left fun k => k e) (h2.2.resolve_left fun k => k e.symm)
    exact Prod.ext e f

theorem mem_pairsOf (h : STO lt) : ∀ {l : List α}, Rise lt l → ∀ x y, (x, y) ∈ pairsOf l ↔ x ∈ l ∧ y ∈ l ∧ lt x y = true
  | [], _, x, y => by simp [pairsOf]
  | a :: r, hl, x, y => by
    obtain ⟨ha, hr⟩ := List.pairwise_cons.1 hl
    simp only [pairsOf, List.mem_append, List.mem_map, Prod.mk.injEq, List.mem_cons, mem_pairsOf h hr x y]
    constructor
    · rintro (⟨b, hb, rfl, rfl⟩ | ⟨hx, hy, hxy⟩)
      · exact ⟨.inl rfl, .inr hb, ha b hb⟩
      · exact ⟨.inr hx, .inr hy, hxy⟩
    · rintro ⟨hx | hx, hy | hy, hxy⟩
      · subst hx hy; rw [h.irrefl] at hxy; cases hxy
      · exact .inl ⟨y, hy, hx.symm, rfl⟩
      · subst hy; have := h.asymm (ha x hx); rw [hxy] at this; cases this
      · exact .inr ⟨hx, hy, hxy⟩
theorem rise_pairsOf [DecidableEq α] (h : STO lt) : ∀ {l : List α}, Rise lt l → Rise (ltPair lt) (pairsOf l)
  | [], _ => List.Pairwise.nil
  | a :: r, hl => by
    obtain ⟨ha, hr⟩ := List.pairwise_cons.1 hl
    refine List.pairwise_append.2 ⟨?_, rise_pairsOf h hr, ?_⟩
    · refine List.pairwise_map.2 (hr.imp fun hxy => ?_)
      simp [ltPair, hxy]
    · rintro p hp q hq
      obtain ⟨b, hb, rfl⟩ := List.mem_map.1 hp
      obtain ⟨x, y⟩ := q
      have := (mem_pairsOf h hr x y).1 hq
      simp [ltPair, ha x this.1]
theorem len_pairsOf : ∀ l : List α, (pairsOf l).length * 2 = l.length * (l.length - 1)
  | [] => rfl
  | a :: r => by
    have ih := len_pairsOf r
    simp only [pairsOf, List.length_append, List.length_map, List.length_cons, Nat.add_sub_cancel]
    rw [Nat.add_mul, ih]
    cases hr : r.length with
    | zero => rfl
    | succ n =>
      simp only [Nat.add_sub_cancel, Nat.add_mul, Nat.mul_add]
      omega
end

theorem sto_int : STO (fun x y : Int => decide (x < y)) where
  irrefl x := by simp
  trans x y z h1 h2 := by simp at *; omega
  total x y h1 h2 := by simp at *; omega
abbrev ltI (x y : Int) : Bool := decide (x < y)
abbrev Hd := Int × Int
abbrev Pr := Hd × Hd
def ltH : Hd → Hd → Bool := ltPair ltI
theorem sto_hd : STO ltH := sto_pair sto_int
def ltP : Pr → Pr → Bool := ltPair ltH
theorem sto_pr : STO ltP := sto_pair sto_hd
theorem ltH_eq (x y : Hd) : ltH x y = (decide (x.1 < y.1) || (decide (x.1 = y.1) && decide (x.2 < y.2))) := rfl
theorem ltP_eq (x y : Pr) : ltP x y = (ltH x.1 y.1 || (decide (x.1 = y.1) && ltH x.2 y.2)) := rfl

/-- The pair of two: the lesser one first. -/
def norm (p : Pr) : Pr := if ltH p.2 p.1 then (p.2, p.1) else p
/-- Pairs, those of two same ones left out, each with the lesser one first. -/
def rightOnes (l : List Pr) : List Pr := l.filterMap fun p => if p.1 = p.2 then none else some (norm p)

/-- cmp.Compare and cmp.Or over two handles, two pairs. -/
def orI (a b : Int) : Int := if a = 0 then b else a
def cmpH (x y : Hd) : Int := orI (Lib.compareInt x.1 y.1) (Lib.compareInt x.2 y.2)
def cmpP (x y : Pr) : Int := orI (cmpH x.1 y.1) (cmpH x.2 y.2)

theorem cmpI_lt (x y : Int) : decide (Lib.compareInt x y < 0) = ltI x y := by
  unfold Lib.compareInt ltI
  by_cases h1 : x < y
  · simp [h1]
  · by_cases h2 : y < x <;> simp [h1, h2]
theorem cmpI_eq (x y : Int) : Lib.compareInt x y = 0 ↔ x = y := by
  unfold Lib.compareInt
  by_cases h1 : x < y
  · simp [h1]; omega
  · by_cases h2 : y < x <;> simp [h1, h2] <;> omega
theorem cmpH_lt (x y : Hd) : decide (cmpH x y < 0) = ltH x y := by
  rw [ltH_eq]
  unfold cmpH orI Lib.compareInt
  by_cases h1 : x.1 < y.1
  · simp [h1]
  · by_cases h2 : y.1 < x.1
    · have : ¬ x.1 = y.1 := by omega
      simp [h1, h2, this]
    · have : x.1 = y.1 := by omega
      by_cases h3 : x.2 < y.2
      · simp [h1, h2, this, h3]
      · by_cases h4 : y.2 < x.2 <;> simp [this, h3, h4]
theorem cmpH_eq (x y : Hd) : cmpH x y = 0 ↔ x = y := by
  unfold cmpH orI
  constructor
  · intro h
    split at h
    · exact Prod.ext ((cmpI_eq _ _).1 ‹_›) ((cmpI_eq _ _).1 h)
    · contradiction
  · rintro rfl
    simp [(cmpI_eq x.1 x.1).2 rfl, (cmpI_eq x.2 x.2).2 rfl]
theorem cmpP_lt (x y : Pr) : decide (cmpP x y < 0) = ltP x y := by
  rw [ltP_eq]
  unfold cmpP orI
  split
  · rename_i h
    have e := (cmpH_eq _ _).1 h
    rw [cmpH_lt, e, sto_hd.irrefl]
    simp
  · rename_i h
    have e : ¬ x.1 = y.1 := fun k => h ((cmpH_eq _ _).2 k)
    rw [cmpH_lt]
    simp [e]

end Go.Proofs.YtklpemcchfmdjaaDoor
