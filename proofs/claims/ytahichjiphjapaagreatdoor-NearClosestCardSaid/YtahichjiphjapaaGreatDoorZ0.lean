import Derived.Lib.Small
import Derived.Test.YtahichjiphjapaaGreatDoorProg
import Derived.Shelf.SlSortCmp.KitK
import Derived.WalkKit
import Derived.WalkSpells
import Derived.WalkLawsBesides
import Derived.KernelRfl
import Derived.Deep.RegionHeld3
import Derived.Deep.QuietTactic
import Derived.Deep.AppendLies
import Derived.BigQuiet
import Derived.RegionTactic
import Derived.Lib.Hide
import Derived.Deep.Upon
import Derived.Maps.AppendAt
import Derived.OwnWalk
import Derived.Deep.RegionLaw
import Derived.Laws.OwnMore
import Derived.IntWalk

/-
  Of no program: rising lists over a strict total order: one by one insertion, uniqueness, lookup, union, difference, all pairs.
-/
namespace Go.Proofs.YtahichjiphjapaaGreatDoor
set_option linter.unusedSimpArgs false
set_option linter.unusedVariables false

/-- A strict total order, as a Bool. -/
structure STO {α : Type} (lt : α → α → Bool) : Prop where
  irrefl : ∀ x, lt x x = false
  trans : ∀ x y z, lt x y = true → lt y z = true → lt x z = true
  total : ∀ x y, lt x y = false → lt y x = false → x = y

section
variable {α : Type} {lt : α → α → Bool}

def Rise (lt : α → α → Bool) (l : List α) : Prop := l.Pairwise (fun x y => lt x y = true)

theorem STO.asymm (h : STO lt) {x y : α} (hx : lt x y = true) : lt y x = false := by
  cases e : lt y x with
  | false => rfl
  | true => have := h.trans _ _ _ hx e; rw [h.irrefl] at this; cases this

theorem STO.ne (h : STO lt) {x y : α} (hx : lt x y = true) : x ≠ y := fun e => by subst e; rw [h.irrefl] at hx; cases hx

/-- TWO RISING LISTS OF THE SAME MEMBERS ARE ONE. -/
theorem rise_uniq (h : STO lt) : ∀ (a b : List α), Rise lt a → Rise lt b → (∀ x, x ∈ a ↔ x ∈ b) → a = b
  | [], [], _, _, _ => rfl
  | [], y :: _, _, _, hm => absurd ((hm y).2 (by simp)) (by simp)
  | x :: _, [], _, _, hm => absurd ((hm x).1 (by simp)) (by simp)
  | x :: r, y :: s, ha, hb, hm => by
    obtain ⟨hx, ha'⟩ := List.pairwise_cons.1 ha
    obtain ⟨hy, hb'⟩ := List.pairwise_cons.1 hb
    have exy : x = y := by
      rcases List.mem_cons.1 ((hm x).1 (by simp)) with e | e
      · exact e
      · rcases List.mem_cons.1 ((hm y).2 (by simp)) with f | f
        · exact f.symm
        · have := h.asymm (hy x e); rw [hx y f] at this; cases this
    subst exy
    congr 1
    refine rise_uniq h r s ha' hb' fun z => ?_
    constructor
    · intro hz
      rcases List.mem_cons.1 ((hm z).1 (List.mem_cons_of_mem _ hz)) with e | e
      · subst e; have := hx z hz; rw [h.irrefl] at this; cases this
      · exact e
    · intro hz
      rcases List.mem_cons.1 ((hm z).2 (List.mem_cons_of_mem _ hz)) with e | e
      · subst e; have := hy z hz; rw [h.irrefl] at this; cases this
      · exact e

/-- How many stand at the head that are less. -/
def headLess (lt : α → α → Bool) (x : α) : List α → Nat
  | [] => 0
  | y :: r => if lt y x then headLess lt x r + 1 else 0
theorem headLess_le (x : α) : ∀ l : List α, headLess lt x l ≤ l.length
  | [] => Nat.le_refl _
  | y :: r => by unfold headLess; split <;> simp [headLess_le x r]

/-- A rising list with an element. -/
def put [DecidableEq α] (lt : α → α → Bool) (x : α) : List α → List α
  | [] => [x]
  | y :: r => if lt y x then y :: put lt x r else if y = x then y :: r else x :: y :: r

theorem put_eq [DecidableEq α] (x : α) : ∀ l : List α, put lt x l = if l[headLess lt x l]? = some x then l else l.take (headLess lt x l) ++ x :: l.drop (headLess lt x l)
  | [] => by simp [put, headLess]
  | y :: r => by
    unfold put headLess
    by_cases h : lt y x = true
    · rw [if_pos h, if_pos h, put_eq x r]
      simp only [List.getElem?_cons_succ, List.take_succ_cons, List.drop_succ_cons]
      split <;> simp
    · rw [if_neg h, if_neg h]
      simp only [List.getElem?_cons_zero, List.take_zero, List.drop_zero, List.nil_append, Option.some.injEq]

theorem mem_put [DecidableEq α] (x z : α) : ∀ l : List α, z ∈ put lt x l ↔ z = x ∨ z ∈ l
  | [] => by simp [put]
  | y :: r => by
    unfold put
    split
    · simp only [List.mem_cons, mem_put x z r]; constructor
      · rintro (h | h | h) <;> simp [h]
      · rintro (h | h | h) <;> simp [h]
    · split
      · rename_i e; subst e; simp
      · simp

theorem rise_put [DecidableEq α] (h : STO lt) (x : α) : ∀ l : List α, Rise lt l → Rise lt (put lt x l)
  | [], _ => by simp [put, Rise]
  | y :: r, hl => by
    obtain ⟨hy, hr⟩ := List.pairwise_cons.1 hl
    unfold put
    split
    · rename_i e
      refine List.pairwise_cons.2 ⟨fun z hz => ?_, rise_put h x r hr⟩
      rcases (mem_put x z r).1 hz with rfl | hz
      · exact e
      · exact hy z hz
    · rename_i e
      split
      · exact hl
      · rename_i ne
        have hxy : lt x y = true := by
          cases e2 : lt x y with
          | true => rfl
          | false => exact absurd (h.total y x (by simpa using e) e2) ne
        refine List.pairwise_cons.2 ⟨fun z hz => ?_, hl⟩
        rcases List.mem_cons.1 hz with rfl | hz
        · exact hxy
        · exact h.trans _ _ _ hxy (hy z hz)

/-- Rising, each once. -/
def srt [DecidableEq α] (lt : α → α → Bool) (l : List α) : List α := l.foldl (fun a x => put lt x a) []

theorem srt_snoc [DecidableEq α] (l : List α) (x : α) : srt lt (l ++ [x]) = put lt x (srt lt l) := by simp [srt]
theorem srt_take [DecidableEq α] (l : List α) (i : Nat) (h : i < l.length) : srt lt (l.take (i + 1)) = put lt l[i] (srt lt (l.take i)) := by
  rw [List.take_succ_eq_append_getElem h, srt_snoc]

theorem foldl_put [DecidableEq α] (h : STO lt) : ∀ (l a : List α), Rise lt a → Rise lt (l.foldl (fun a x => put lt x a) a) ∧ ∀ z, z ∈ l.foldl (fun a x => put lt x a) a ↔ z ∈ a ∨ z ∈ l
  | [], a, ha => ⟨ha, fun z => by simp⟩
  | x :: r, a, ha => by
    obtain ⟨h1, h2⟩ := foldl_put h r (put lt x a) (rise_put h x a ha)
    refine ⟨h1, fun z => ?_⟩
    rw [List.foldl_cons, h2 z, mem_put]
    simp only [List.mem_cons]
    constructor
    · rintro ((h | h) | h) <;> simp [h]
    · rintro (h | h | h) <;> simp [h]
theorem rise_srt [DecidableEq α] (h : STO lt) (l : List α) : Rise lt (srt lt l) := (foldl_put h l [] List.Pairwise.nil).1
theorem mem_srt [DecidableEq α] (h : STO lt) (l : List α) (z : α) : z ∈ srt lt l ↔ z ∈ l := by rw [srt, (foldl_put h l [] List.Pairwise.nil).2 z]; simp
theorem srt_eq [DecidableEq α] (h : STO lt) {l a : List α} (ha : Rise lt a) (hm : ∀ z, z ∈ a ↔ z ∈ l) : srt lt l = a :=
  rise_uniq h _ _ (rise_srt h l) ha fun z => by rw [mem_srt h, hm]
theorem srt_self [DecidableEq α] (h : STO lt) {l : List α} (hl : Rise lt l) : srt lt l = l := srt_eq h hl fun _ => Iff.rfl
theorem srt_len [DecidableEq α] (lt : α → α → Bool) (l : List α) : (srt lt l).length ≤ l.length := by
  have : ∀ (l a : List α), (l.foldl (fun a x => put lt x a) a).length ≤ a.length + l.length := by
    intro l
    induction l with
    | nil => intro a; simp
    | cons x r ih =>
      intro a
      have hp : (put lt x a).length ≤ a.length + 1 := by
        clear ih
        induction a with
        | nil => simp [put]
        | cons y s ih => unfold put; split <;> (try split) <;> simp <;> omega
      have := ih (put lt x a)
      simp only [List.foldl_cons, List.length_cons]
      omega
  simpa [srt] using this l []

/-- In a rising list a thing stands once. -/
theorem rise_nodup (h : STO lt) {l : List α} (hl : Rise lt l) : l.Nodup := hl.imp fun hxy => h.ne hxy
theorem rise_get (h : STO lt) {l : List α} (hl : Rise lt l) {i j : Nat} (hi : i < l.length) (hj : j < l.length) (e : l[i] = l[j]) : i = j :=
  (List.getElem_inj (rise_nodup h hl)).1 e
theorem rise_lt {l : List α} (hl : Rise lt l) {i j : Nat} (hij : i < j) (hj : j < l.length) : lt l[i] l[j] = true := List.pairwise_iff_getElem.1 hl i j _ hj hij
theorem rise_filter {l : List α} (hl : Rise lt l) (p : α → Bool) : Rise lt (l.filter p) := List.Pairwise.filter p hl

/-- THE UNION's LENGTH: the first list's, and what stands in the second alone. -/
theorem len_union [DecidableEq α] (h : STO lt) {x y u : List α} (hx : Rise lt x) (hy : Rise lt y) (hu : Rise lt u) (hm : ∀ z, z ∈ u ↔ z ∈ x ∨ z ∈ y) :
    u.length = x.length + (y.filter fun z => !decide (z ∈ x)).length := by
  have hp : u.Perm (x ++ y.filter fun z => !decide (z ∈ x)) := by
    refine (List.perm_ext_iff_of_nodup (rise_nodup h hu) ?_).2 fun z => ?_
    · refine List.nodup_append.2 ⟨rise_nodup h hx, rise_nodup h (rise_filter hy _), fun a ha b hb e => ?_⟩
      subst e
      simp at hb
      exact hb.2 ha
    · rw [hm z]
      simp only [List.mem_append, List.mem_filter, Bool.not_eq_true', decide_eq_false_iff_not]
      constructor
      · rintro (e | e)
        · exact .inl e
        · by_cases hz : z ∈ x
          · exact .inl hz
          · exact .inr ⟨e, hz⟩
      · rintro (e | e)
        · exact .inl e
        · exact .inr e.1
  rw [hp.length_eq, List.length_append]

/-- All pairs of a rising list, the lesser one first. -/
def pairsOf : List α → List (α × α)
  | [] => []
  | a :: r => r.map (fun b => (a, b)) ++ pairsOf r
def ltPair [DecidableEq α] (lt : α → α → Bool) (p q : α × α) : Bool := lt p.1 q.1 || (decide (p.1 = q.1) && lt p.2 q.2)

theorem sto_pair [DecidableEq α] (h : STO lt) : STO (ltPair lt) where
  irrefl p := by simp [ltPair, h.irrefl]
  trans p q r h1 h2 := by
    simp only [ltPair, Bool.or_eq_true, Bool.and_eq_true, decide_eq_true_eq] at *
    rcases h1 with h1 | ⟨e1, h1⟩ <;> rcases h2 with h2 | ⟨e2, h2⟩
    · exact .inl (h.trans _ _ _ h1 h2)
    · exact .inl (e2 ▸ h1)
    · exact .inl (e1 ▸ h2)
    · exact .inr ⟨e1.trans e2, h.trans _ _ _ h1 h2⟩
  total p q h1 h2 := by
    simp only [ltPair, Bool.or_eq_false_iff, Bool.and_eq_false_iff, decide_eq_false_iff_not] at h1 h2
    have e : p.1 = q.1 := h.total _ _ h1.1 h2.1
    have f : p.2 = q.2 := h.total _ _ (h1.2.resolve_left fun k => k e) (h2.2.resolve_left fun k => k e.symm)
    exact Prod.ext e f

theorem mem_pairsOf (h : STO lt) : ∀ {l : List α}, Rise lt l → ∀ x y, (x, y) ∈ pairsOf l ↔ x ∈ l ∧ y ∈ l ∧ lt x y = true
  | [], _, x, y => by simp [pairsOf]
  | a :: r, hl, x, y => by
    obtain ⟨ha, hr⟩ := List.pairwise_cons.1 hl
    simp only [pairsOf, List.mem_append, List.mem_map, Prod.mk.injEq, List.mem_cons, mem_pairsOf h hr x y]
    constructor
    · rintro (⟨b, hb, rfl, rfl⟩ | ⟨hx, hy, hxy⟩)
      · exact ⟨.inl rfl, .inr hb, ha b hb⟩
      · exact ⟨.inr hx, .inr hy, hxy⟩
    · rintro ⟨hx | hx, hy | hy, hxy⟩
      · subst hx hy; rw [h.irrefl] at hxy; cases hxy
      · exact .inl ⟨y, hy, hx.symm, rfl⟩
      · subst hy; have := h.asymm (ha x hx); rw [hxy] at this; cases this
      · exact .inr ⟨hx, hy, hxy⟩
theorem rise_pairsOf [DecidableEq α] (h : STO lt) : ∀ {l : List α}, Rise lt l → Rise (ltPair lt) (pairsOf l)
  | [], _ => List.Pairwise.nil
  | a :: r, hl => by
    obtain ⟨ha, hr⟩ := List.pairwise_cons.1 hl
    refine List.pairwise_append.2 ⟨?_, rise_pairsOf h hr, ?_⟩
    · refine List.pairwise_map.2 (hr.imp fun hxy => ?_)
      simp [ltPair, hxy]
    · rintro p hp q hq
      obtain ⟨b, hb, rfl⟩ := List.mem_map.1 hp
      obtain ⟨x, y⟩ := q
      have := (mem_pairsOf h hr x y).1 hq
      simp [ltPair, ha x this.1]
theorem len_pairsOf : ∀ l : List α, (pairsOf l).length * 2 = l.length * (l.length - 1)
  | [] => rfl
  | a :: r => by
    have ih := len_pairsOf r
    simp only [pairsOf, List.length_append, List.length_map, List.length_cons, Nat.add_sub_cancel]
    rw [Nat.add_mul, ih]
    cases hr : r.length with
    | zero => rfl
    | succ n =>
      simp only [Nat.add_sub_cancel, Nat.add_mul, Nat.mul_add]
      omega
end

theorem sto_int : STO (fun x y : Int => decide (x < y)) where
  irrefl x := by simp
  trans x y z h1 h2 := by simp at *; omega
  total x y h1 h2 := by simp at *; omega
abbrev ltI (x y : Int) : Bool := decide (x < y)
abbrev Hd := Int × Int
abbrev Pr := Hd × Hd
def ltH : Hd → Hd → Bool := ltPair ltI
theorem sto_hd : STO ltH := sto_pair sto_int
def ltP : Pr → Pr → Bool := ltPair ltH
theorem sto_pr : STO ltP := sto_pair sto_hd
theorem ltH_eq (x y : Hd) : ltH x y = (decide (x.1 < y.1) || (decide (x.1 = y.1) && decide (x.2 < y.2))) := rfl
theorem ltP_eq (x y : Pr) : ltP x y = (ltH x.1 y.1 || (decide (x.1 = y.1) && ltH x.2 y.2)) := rfl

/-- The pair of two: the lesser one first. -/
def norm (p : Pr) : Pr := if ltH p.2 p.1 then (p.2, p.1) else p
/-- Pairs, those of two same ones left out, each with the lesser one first. -/
def rightOnes (l : List Pr) : List Pr := l.filterMap fun p => if p.1 = p.2 then none else some (norm p)

/-- cmp.Compare and cmp.Or over two handles, two pairs. -/
def orI (a b : Int) : Int := if a = 0 then b else a
def cmpH (x y : Hd) : Int := orI (Lib.compareInt x.1 y.1) (Lib.compareInt x.2 y.2)
def cmpP (x y : Pr) : Int := orI (cmpH x.1 y.1) (cmpH x.2 y.2)

theorem cmpI_lt (x y : Int) : decide (Lib.compareInt x y < 0) = ltI x y := by
  unfold Lib.compareInt ltI
  by_cases h1 : x < y
  · simp [h1]
  · by_cases h2 : y < x <;> simp [h1, h2]
theorem cmpI_eq (x y : Int) : Lib.compareInt x y = 0 ↔ x = y := by
  unfold Lib.compareInt
  by_cases h1 : x < y
  · simp [h1]; omega
  · by_cases h2 : y < x <;> simp [h1, h2] <;> omega
theorem cmpH_lt (x y : Hd) : decide (cmpH x y < 0) = ltH x y := by
  rw [ltH_eq]
  unfold cmpH orI Lib.compareInt
  by_cases h1 : x.1 < y.1
  · simp [h1]
  · by_cases h2 : y.1 < x.1
    · have : ¬ x.1 = y.1 := by omega
      simp [h1, h2, this]
    · have : x.1 = y.1 := by omega
      by_cases h3 : x.2 < y.2
      · simp [h1, h2, this, h3]
      · by_cases h4 : y.2 < x.2 <;> simp [this, h3, h4]
theorem cmpH_eq (x y : Hd) : cmpH x y = 0 ↔ x = y := by
  unfold cmpH orI
  constructor
  · intro h
    split at h
    · exact Prod.ext ((cmpI_eq _ _).1 ‹_›) ((cmpI_eq _ _).1 h)
    · contradiction
  · rintro rfl
    simp [(cmpI_eq x.1 x.1).2 rfl, (cmpI_eq x.2 x.2).2 rfl]
theorem cmpP_lt (x y : Pr) : decide (cmpP x y < 0) = ltP x y := by
  rw [ltP_eq]
  unfold cmpP orI
  split
  · rename_i h
    have e := (cmpH_eq _ _).1 h
    rw [cmpH_lt, e, sto_hd.irrefl]
    simp
  · rename_i h
    have e : ¬ x.1 = y.1 := fun k => h ((cmpH_eq _ _).2 k)
    rw [cmpH_lt]
    simp [e]

end Go.Proofs.YtahichjiphjapaaGreatDoor

/-
  Rows of handles, pairs and numbers in memory: what a slice holds, what the call owns; a world that has only grown.
-/
namespace Go.Proofs.YtahichjiphjapaaGreatDoor
set_option linter.unusedSimpArgs false
set_option linter.unusedVariables false
open Go.RowKit Go.Sort Go.Lib Go.Shelf

/-! ### Steps of 'Below' from the heap's own size on. -/
theorem Bt {a w w' : World} (h : Below a.heap.size a w) (k : Below w.heap.size w w') : Below a.heap.size a w' := h.trans (k.mono h.size)
theorem Ba {a w : World} (h : Below a.heap.size a w) (o : Obj) : Below a.heap.size a (w.alloc o) := h.alloc h.size o
theorem Bd {a w : World} (h : Below a.heap.size a w) : Below a.heap.size a w.drew := h.drew
theorem Bn {a w : World} {n : Nat} (h : Below a.heap.size a w) : Below a.heap.size a (w.drewN n) := ⟨h.os, h.tape, h.output, h.size, h.block⟩
theorem Bs {a w : World} {p : Addr} (h : Below a.heap.size a w) (hp : a.heap.size ≤ p.block) (u : Value) : Below a.heap.size a (w.setCell p u) := h.setCell hp u
theorem Bg {a w : World} {os : Array Obj} (h : Below a.heap.size a w) : Below a.heap.size a (grow w os) :=
  ⟨h.os, h.tape, h.output, by rw [size_grow]; exact Nat.le_trans h.size (Nat.le_add_right _ _), fun k hk => (heap_grow_old w os (Nat.lt_of_lt_of_le hk h.size)).trans (h.block k hk)⟩
theorem cell_lt {w : World} {b o : Nat} {v : Value} (h : w.cell? ⟨b, o, none⟩ = some v) : b < w.heap.size := by
  rcases Nat.lt_or_ge b w.heap.size with h' | h'
  · exact h'
  · simp [World.cell?, Array.getElem?_eq_none h'] at h
theorem bcell {W w1 : World} (hb : Below W.heap.size W w1) : (∀ b o, b < W.heap.size → w1.cell? ⟨b, o, none⟩ = W.cell? ⟨b, o, none⟩) ∧ (∀ b o, b < W.heap.size → w1.frozen? ⟨b, o, none⟩ = W.frozen? ⟨b, o, none⟩) :=
  ⟨fun b o h => hb.cell (p := ⟨b, o, none⟩) h, fun b o h => hb.frozen (p := ⟨b, o, none⟩) h⟩
theorem Bc {W W1 : World} {b o : Nat} {v : Value} (hb : Below W.heap.size W W1) (hl : b < W.heap.size) (hc : W.cell? ⟨b, o, none⟩ = some v) : W1.cell? ⟨b, o, none⟩ = some v := (hb.cell (p := ⟨b, o, none⟩) hl).trans hc
theorem Bf {W W1 : World} {b o : Nat} {v : Bool} (hb : Below W.heap.size W W1) (hl : b < W.heap.size) (hc : W.frozen? ⟨b, o, none⟩ = v) : W1.frozen? ⟨b, o, none⟩ = v := (hb.frozen (p := ⟨b, o, none⟩) hl).trans hc
theorem Bl {W W1 : World} {b : Nat} (hb : Below W.heap.size W W1) (hl : b < W.heap.size) : b < W1.heap.size := Nat.lt_of_lt_of_le hl hb.size
theorem keep0 (W0 : World) : Below W0.heap.size W0 W0.drew ∧ ∀ b o, b < W0.heap.size → W0.drew.cell? ⟨b, o, none⟩ = W0.cell? ⟨b, o, none⟩ := ⟨Bd (Below.refl _ _), fun _ _ _ => rfl⟩
theorem keepB {W0 w1 w2 : World} (h : Below W0.heap.size W0 w1 ∧ ∀ b o, b < W0.heap.size → w1.cell? ⟨b, o, none⟩ = W0.cell? ⟨b, o, none⟩) (hb : Below w1.heap.size w1 w2) :
    Below W0.heap.size W0 w2 ∧ ∀ b o, b < W0.heap.size → w2.cell? ⟨b, o, none⟩ = W0.cell? ⟨b, o, none⟩ :=
  ⟨Bt h.1 hb, fun b o hl => (hb.cell (p := ⟨b, o, none⟩) (Bl h.1 hl)).trans (h.2 b o hl)⟩

/-! ### A world that has only grown. -/
def Gr (w w' : World) : Prop := ∃ q os, w' = grow (w.drewN q) os
theorem drewN_grow (w : World) (os : Array Obj) (q : Nat) : (grow w os).drewN q = grow (w.drewN q) os := rfl
theorem drewN_drewN (w : World) (p q : Nat) : (w.drewN p).drewN q = w.drewN (p + q) := by simp [World.drewN, Nat.add_assoc]
theorem Gr.refl (w : World) : Gr w w := ⟨0, #[], by rw [grow_empty]; rfl⟩
theorem Gr.alloc {a w : World} (h : Gr a w) (o : Obj) : Gr a (w.alloc o) := by
  obtain ⟨q, os, rfl⟩ := h
  exact ⟨q, _, by rw [alloc_eq_grow, grow_grow]⟩
theorem Gr.drewN {a w : World} (h : Gr a w) {n : Nat} : Gr a (w.drewN n) := by
  obtain ⟨q, os, rfl⟩ := h
  exact ⟨q + n, os, by rw [drewN_grow, drewN_drewN]⟩
theorem Gr.drew {a w : World} (h : Gr a w) : Gr a w.drew := h.drewN (n := 1)
theorem Gr.grow {a w : World} (h : Gr a w) {os : Array Obj} : Gr a (grow w os) := by
  obtain ⟨q, os, rfl⟩ := h
  exact ⟨q, _, by rw [grow_grow]⟩
theorem Gr.trans {a b c : World} (h : Gr a b) (k : Gr b c) : Gr a c := by
  obtain ⟨q, os, rfl⟩ := k
  exact (h.drewN).grow
theorem Gr.below {w w' : World} (h : Gr w w') : Below w.heap.size w w' := by
  obtain ⟨q, os, rfl⟩ := h
  exact Bg (Bn (Below.refl _ w))

/-- What a region that draws its order keeps where all that is called only grows the world. -/
theorem gkeep0 (W0 : World) : Gr W0 W0.drew ∧ ∀ b o, b < W0.heap.size → W0.drew.cell? ⟨b, o, none⟩ = W0.cell? ⟨b, o, none⟩ := ⟨(Gr.refl _).drew, fun _ _ _ => rfl⟩
theorem gkeepOf {W0 w' : World} (h : Gr W0 w') : Gr W0 w' ∧ ∀ b o, b < W0.heap.size → w'.cell? ⟨b, o, none⟩ = W0.cell? ⟨b, o, none⟩ := ⟨h, fun b o hl => h.below.cell (p := ⟨b, o, none⟩) hl⟩
theorem gkeepG {W0 w1 w2 : World} (h : Gr W0 w1 ∧ ∀ b o, b < W0.heap.size → w1.cell? ⟨b, o, none⟩ = W0.cell? ⟨b, o, none⟩) (g : Gr w1 w2) :
    Gr W0 w2 ∧ ∀ b o, b < W0.heap.size → w2.cell? ⟨b, o, none⟩ = W0.cell? ⟨b, o, none⟩ := gkeepOf (h.1.trans g)
theorem gkeepA {W0 w1 : World} (h : Gr W0 w1 ∧ ∀ b o, b < W0.heap.size → w1.cell? ⟨b, o, none⟩ = W0.cell? ⟨b, o, none⟩) (o1 : Obj) :
    Gr W0 (w1.alloc o1) ∧ ∀ b o, b < W0.heap.size → (w1.alloc o1).cell? ⟨b, o, none⟩ = W0.cell? ⟨b, o, none⟩ := gkeepOf (h.1.alloc o1)

/-! ### The elements' cells. -/
def encH (x : Hd) : List Value := [.int .i64 x.1, .int .i64 x.2]
def encP (p : Pr) : List Value := [.int .i64 p.1.1, .int .i64 p.1.2, .int .i64 p.2.1, .int .i64 p.2.2]
theorem lenH (x : Hd) : (encH x).length = 2 := rfl
theorem lenP (x : Pr) : (encP x).length = 4 := rfl
theorem oneH (x : Hd) : ∀ v ∈ encH x, v.oneCell' = true := fun v hv => by simp [encH] at hv; rcases hv with rfl | rfl <;> rfl
theorem oneP (x : Pr) : ∀ v ∈ encP x, v.oneCell' = true := fun v hv => by simp [encP] at hv; rcases hv with rfl | rfl | rfl | rfl <;> rfl

def encI (x : Int) : List Value := [.int .i64 x]
theorem lenI (x : Int) : (encI x).length = 1 := rfl
theorem oneI (x : Int) : ∀ v ∈ encI x, v.oneCell' = true := fun v hv => by simp [encI] at hv; subst hv; rfl

section
variable {α : Type} [Inhabited α] {enc : α → List Value} {k : Nat} {w w' : World} {b off : Nat}

theorem hkBelow {B : Nat} {d : Array α} (h : HoldsK enc k w b off d) (hb : b < B) (hB : Below B w w') : HoldsK enc k w' b off d := fun j hj =>
  ⟨(hB.cell (p := ⟨b, off + j, none⟩) hb).trans (h j hj).1, (hB.frozen (p := ⟨b, off + j, none⟩) hb).trans (h j hj).2⟩
theorem hkLt {d : Array α} (h : HoldsK enc k w b off d) (hk : 0 < k) (hd : 0 < d.size) : b < w.heap.size :=
  cell_lt (h 0 (by rw [size_flatK]; exact Nat.mul_pos hd hk)).1

theorem setMany_one (hk : ∀ x, (enc x).length = k) (d : Array α) (i : Nat) (hi : i < d.size) (x : α) : setMany (flatK enc k d) (i * k) (enc x) = flatK enc k (d.setIfInBounds i x) := by
  refine ext_get! (by simp) fun t ht => ?_
  have ht' : t < d.size * k := by simpa using ht
  have k0 : 0 < k := by
    rcases Nat.eq_zero_or_pos k with h | h
    · subst h; simp at ht'
    · exact h
  rw [get_setMany _ _ _ t (by simpa using ht'), get_flatK _ _ _ t ht', get_flatK _ _ _ t (by simpa using ht'), hk]
  by_cases a : t / k = i
  · rw [if_pos ((blk_iff k i t k0).2 a), a, getElem!_set_same d i x hi]
    congr 1
    subst a
    rw [Nat.mod_eq_sub_div_mul]
  · rw [if_neg (fun h => a ((blk_iff k i t k0).1 h)), getElem!_set_other d i (t / k) x a]

/-- A store of a whole element. -/
theorem hkSet {d : Array α} (h : HoldsK enc k w b off d) (hk : ∀ x, (enc x).length = k) {i : Nat} (hi : i < d.size) (x : α) : HoldsK enc k (w.setCells b (off + i * k) (enc x)) b off (d.setIfInBounds i x) := by
  have hb : i * k + k ≤ d.size * k := by
    have := Nat.mul_le_mul_right k (show i + 1 ≤ d.size from hi); rwa [Nat.add_mul, Nat.one_mul] at this
  have := holds_setCells_c (W := w) (blk := b) (off := off) (F := flatK enc k d) h (i * k) (enc x) (by rw [hk, size_flatK]; exact hb)
  rw [setMany_one hk d i hi x] at this
  exact this
theorem hkDrew {d : Array α} (h : HoldsK enc k w b off d) : HoldsK enc k w.drew b off d := h
theorem hkFar {d : Array α} (h : HoldsK enc k w b off d) {p : Addr} (hp : p.block ≠ b) (u : Value) : HoldsK enc k (w.setCell p u) b off d := fun j hj => by
  have e : (w.setCell p u).heap[b]? = w.heap[b]? := Below.heap_setCell w p u b (Ne.symm hp)
  exact ⟨(World.cell?_of_block (w := w) (a := ⟨b, off + j, none⟩) e).trans (h j hj).1, (World.frozen?_of_block (w := w) (a := ⟨b, off + j, none⟩) e).trans (h j hj).2⟩

/-- The cells of a list, one behind the other. -/
def flat (enc : α → List Value) (l : List α) : List Value := l.flatMap enc
omit [Inhabited α] in
theorem flat_len (hk : ∀ x, (enc x).length = k) : ∀ l : List α, (flat enc l).length = l.length * k
  | [] => by simp [flat]
  | x :: r => by
    have := flat_len hk r
    simp only [flat, List.flatMap_cons, List.length_append, hk, List.length_cons] at this ⊢
    rw [this, Nat.add_mul]
    omega
theorem flat_get (hk : ∀ x, (enc x).length = k) : ∀ (l : List α) (i c : Nat), i < l.length → c < k → (flat enc l)[i * k + c]? = (enc l[i]!)[c]?
  | [], _, _, h, _ => absurd h (Nat.not_lt_zero _)
  | x :: r, 0, c, _, hc => by
    simp only [flat, List.flatMap_cons, Nat.zero_mul, Nat.zero_add]
    rw [List.getElem?_append_left (by rw [hk]; exact hc)]
    simp
  | x :: r, i + 1, c, h, hc => by
    have ih := flat_get hk r i c (by simpa using h) hc
    simp only [flat, List.flatMap_cons] at ih ⊢
    rw [List.getElem?_append_right (by rw [hk, Nat.add_mul]; omega), hk, show (i + 1) * k + c - k = i * k + c by rw [Nat.add_mul]; omega, ih]
    simp
omit [Inhabited α] in
theorem flat_one (h1 : ∀ x, ∀ v ∈ enc x, v.oneCell' = true) (l : List α) : ∀ u ∈ flat enc l, u.oneCell' = true := fun u hu => by
  obtain ⟨x, _, hx⟩ := List.mem_flatMap.1 hu
  exact h1 x u hx
omit [Inhabited α] in
theorem flat_append (a c : List α) : flat enc (a ++ c) = flat enc a ++ flat enc c := by simp [flat]
omit [Inhabited α] in
theorem flat_take (hk : ∀ x, (enc x).length = k) : ∀ (l : List α) (n : Nat), (flat enc l).take (n * k) = flat enc (l.take n)
  | [], n => by simp [flat]
  | x :: r, 0 => by simp [flat]
  | x :: r, n + 1 => by
    have ih := flat_take hk r n
    simp only [flat, List.flatMap_cons, List.take_succ_cons] at ih ⊢
    rw [List.take_append, hk, show (n + 1) * k - k = n * k by rw [Nat.add_mul]; omega, ih, List.take_of_length_le (by rw [hk, Nat.add_mul]; omega)]
omit [Inhabited α] in
theorem flat_drop (hk : ∀ x, (enc x).length = k) : ∀ (l : List α) (n : Nat), (flat enc l).drop (n * k) = flat enc (l.drop n)
  | [], n => by simp [flat]
  | x :: r, 0 => by simp [flat]
  | x :: r, n + 1 => by
    have ih := flat_drop hk r n
    simp only [flat, List.flatMap_cons, List.drop_succ_cons] at ih ⊢
    rw [List.drop_append, hk, show (n + 1) * k - k = n * k by rw [Nat.add_mul]; omega, ih, List.drop_of_length_le (by rw [hk, Nat.add_mul]; omega), List.nil_append]

theorem arr_get (l : List α) (i : Nat) : l.toArray[i]! = l[i]! := by simp

/-- The row holds a list: out of its cells. -/
theorem holds_of_flat (hk : ∀ x, (enc x).length = k) {l : List α} (h : ∀ j u, (flat enc l)[j]? = some u → w.cell? ⟨b, off + j, none⟩ = some u ∧ w.frozen? ⟨b, off + j, none⟩ = false) : HoldsK enc k w b off l.toArray := fun j hj => by
  have hj' : j < l.length * k := by simpa using hj
  have k0 : 0 < k := by
    rcases Nat.eq_zero_or_pos k with e | e
    · subst e; simp at hj'
    · exact e
  have hq : j / k < l.length := Nat.div_lt_of_lt_mul (by rw [Nat.mul_comm]; exact hj')
  have hm : j % k < k := Nat.mod_lt _ k0
  have e : j / k * k + j % k = j := by rw [Nat.mul_comm]; exact Nat.div_add_mod j k
  have g := flat_get hk l (j / k) (j % k) hq hm
  rw [e, List.getElem?_eq_getElem (l := enc l[j / k]!) (by rw [hk]; exact hm)] at g
  have := h j _ g
  rw [get_flatK _ _ _ j (by simpa using hj'), arr_get, getElem!_pos (enc l[j / k]!) (j % k) (by rw [hk]; exact hm)]
  exact this
theorem flat_of_holds (hk : ∀ x, (enc x).length = k) {l : List α} (h : HoldsK enc k w b off l.toArray) : ∀ j u, (flat enc l)[j]? = some u → w.cell? ⟨b, off + j, none⟩ = some u ∧ w.frozen? ⟨b, off + j, none⟩ = false := fun j u hu => by
  have hj' : j < l.length * k := by rw [← flat_len hk]; exact (List.getElem?_eq_some_iff.1 hu).1
  have k0 : 0 < k := by
    rcases Nat.eq_zero_or_pos k with e | e
    · subst e; simp at hj'
    · exact e
  have hq : j / k < l.length := Nat.div_lt_of_lt_mul (by rw [Nat.mul_comm]; exact hj')
  have hm : j % k < k := Nat.mod_lt _ k0
  have e : j / k * k + j % k = j := by rw [Nat.mul_comm]; exact Nat.div_add_mod j k
  have g := flat_get hk l (j / k) (j % k) hq hm
  rw [e, hu, List.getElem?_eq_getElem (by rw [hk]; exact hm)] at g
  have := h j (by simpa using hj')
  rw [get_flatK _ _ _ j (by simpa using hj'), arr_get, getElem!_pos (enc l[j / k]!) (j % k) (by rw [hk]; exact hm)] at this
  rw [Option.some.inj g]
  exact this

/-- A SLICE THAT HOLDS THE LIST l (to be read). -/
def Sl (enc : α → List Value) (w : World) (v : Value) (l : List α) : Prop :=
  ∃ p cap, v = .slice p l.length cap ∧ l.length ≤ cap ∧ cap ≤ maxLen ∧ (0 < l.length → ∃ g o, p = some ⟨g, o, none⟩ ∧ g < w.heap.size ∧ ∀ j u, (flat enc l)[j]? = some u → w.cell? ⟨g, o + j, none⟩ = some u)
/-- A SLICE OF THE CALL's OWN, from block 'base' on, that holds the list l, and may be written. -/
def Own (base : Nat) (enc : α → List Value) (k : Nat) (w : World) (v : Value) (l : List α) : Prop :=
  ∃ p cap, v = .slice p l.length cap ∧ l.length ≤ cap ∧ cap ≤ maxLen ∧ (0 < l.length → ∃ g, p = some ⟨g, 0, none⟩ ∧ base ≤ g ∧ g < w.heap.size ∧ HoldsK enc k w g 0 l.toArray)

omit [Inhabited α] in
theorem Sl.below {v : Value} {l : List α} (h : Sl enc w v l) (hB : Below w.heap.size w w') : Sl enc w' v l := by
  obtain ⟨p, cap, rfl, h1, h2, h⟩ := h
  refine ⟨p, cap, rfl, h1, h2, fun hl => ?_⟩
  obtain ⟨g, o, rfl, h3, h4⟩ := h hl
  exact ⟨g, o, rfl, Bl hB h3, fun j u hu => Bc hB h3 (h4 j u hu)⟩
theorem Own.below {base : Nat} {v : Value} {l : List α} (h : Own base enc k w v l) (hB : Below w.heap.size w w') : Own base enc k w' v l := by
  obtain ⟨p, cap, rfl, h1, h2, h⟩ := h
  refine ⟨p, cap, rfl, h1, h2, fun hl => ?_⟩
  obtain ⟨g, rfl, h3, h4, h5⟩ := h hl
  exact ⟨g, rfl, h3, Bl hB h4, hkBelow h5 h4 hB⟩
theorem Own.mono {base base' : Nat} {v : Value} {l : List α} (h : Own base enc k w v l) (hb : base' ≤ base) : Own base' enc k w v l := by
  obtain ⟨p, cap, rfl, h1, h2, h⟩ := h
  refine ⟨p, cap, rfl, h1, h2, fun hl => ?_⟩
  obtain ⟨g, rfl, h3, h4⟩ := h hl
  exact ⟨g, rfl, by omega, h4⟩
theorem Own.sl {base : Nat} (hk : ∀ x, (enc x).length = k) {v : Value} {l : List α} (h : Own base enc k w v l) : Sl enc w v l := by
  obtain ⟨p, cap, rfl, h1, h2, h⟩ := h
  refine ⟨p, cap, rfl, h1, h2, fun hl => ?_⟩
  obtain ⟨g, rfl, h3, h4, h5⟩ := h hl
  exact ⟨g, 0, rfl, h4, fun j u hu => (flat_of_holds hk h5 j u hu).1⟩
omit [Inhabited α] in
theorem Sl.nil (p : Option Addr) (cap : Nat) (h : cap ≤ maxLen) : Sl enc w (.slice p 0 cap) ([] : List α) := ⟨p, cap, rfl, Nat.zero_le _, h, fun h => absurd h (Nat.lt_irrefl _)⟩
/-- What append owns is the call's own. -/
theorem own_of_row {base : Nat} {e : TypeId} (hk : ∀ x, (enc x).length = k) {v : Value} {n : Nat} {l : List α} (h : w.ownsRow base e k v n (flat enc l)) (hn : n = l.length) : Own base enc k w v l := by
  subst hn
  obtain ⟨_, h⟩ := h
  rcases h with ⟨rfl, h⟩ | ⟨g, cap, cur, rfl, hb, hh, hc, hm, hs, ht⟩
  · have hl : l = [] := List.length_eq_zero_iff.1 h
    subst hl
    exact ⟨none, 0, rfl, Nat.le_refl _, Nat.zero_le _, fun h => absurd h (Nat.lt_irrefl _)⟩
  · have hg : g < w.heap.size := by
      rcases Nat.lt_or_ge g w.heap.size with h' | h'
      · exact h'
      · rw [Array.getElem?_eq_none h'] at hh; cases hh
    refine ⟨_, cap, rfl, hc, hm, fun _ => ⟨g, rfl, hb, hg, holds_of_flat hk fun j u hu => ?_⟩⟩
    have hj : j < l.length * k := by rw [← flat_len hk]; exact (List.getElem?_eq_some_iff.1 hu).1
    rw [← ht, List.getElem?_take, if_pos hj] at hu
    refine ⟨?_, ?_⟩
    · simp only [World.cell?, hh, Nat.zero_add]
      simpa using hu
    · simp [World.frozen?, hh]
/-- What is owned by the append's words, from a base on, stays so. -/
theorem row_below {base : Nat} {e : TypeId} {v : Value} {n : Nat} {xs : List Value} (h : w.ownsRow base e k v n xs) (hB : Below w.heap.size w w') : w'.ownsRow base e k v n xs := by
  obtain ⟨h0, h⟩ := h
  refine ⟨h0, ?_⟩
  rcases h with h | ⟨g, cap, cur, rfl, hb, hh, r⟩
  · exact .inl h
  · have hg : g < w.heap.size := by
      rcases Nat.lt_or_ge g w.heap.size with h' | h'
      · exact h'
      · rw [Array.getElem?_eq_none h'] at hh; cases hh
    exact .inr ⟨g, cap, cur, rfl, hb, (hB.block g hg).trans hh, r⟩
theorem row_mono {base base' : Nat} {e : TypeId} {v : Value} {n : Nat} {xs : List Value} (h : w.ownsRow base e k v n xs) (hb : base' ≤ base) : w.ownsRow base' e k v n xs := by
  obtain ⟨h0, h⟩ := h
  refine ⟨h0, ?_⟩
  rcases h with h | ⟨g, cap, cur, rfl, hg, r⟩
  · exact .inl h
  · exact .inr ⟨g, cap, cur, rfl, by omega, r⟩

/-- A list's element out of a slice's cells. -/
theorem sl_at (hk : ∀ x, (enc x).length = k) {l : List α} {g o : Nat} (h : ∀ j u, (flat enc l)[j]? = some u → w.cell? ⟨g, o + j, none⟩ = some u) {i : Nat} (hi : i < l.length) : ∀ c u, (enc l[i]!)[c]? = some u → w.cell? ⟨g, o + i * k + c, none⟩ = some u := fun c u hu => by
  have hc : c < k := by have := (List.getElem?_eq_some_iff.1 hu).1; rwa [hk] at this
  rw [Nat.add_assoc]
  exact h _ u ((flat_get hk l i c hi hc).trans hu)
end

theorem atH {w : World} {l : List Hd} {g o : Nat} (h : ∀ j u, (flat encH l)[j]? = some u → w.cell? ⟨g, o + j, none⟩ = some u) {i : Nat} (hi : i < l.length) :
    w.cell? ⟨g, o + i * 2, none⟩ = some (.int .i64 l[i]!.1) ∧ w.cell? ⟨g, o + i * 2 + 1, none⟩ = some (.int .i64 l[i]!.2) :=
  ⟨sl_at lenH h hi 0 _ rfl, sl_at lenH h hi 1 _ rfl⟩
theorem atP {w : World} {l : List Pr} {g o : Nat} (h : ∀ j u, (flat encP l)[j]? = some u → w.cell? ⟨g, o + j, none⟩ = some u) {i : Nat} (hi : i < l.length) :
    w.cell? ⟨g, o + i * 4, none⟩ = some (.int .i64 l[i]!.1.1) ∧ w.cell? ⟨g, o + i * 4 + 1, none⟩ = some (.int .i64 l[i]!.1.2) ∧ w.cell? ⟨g, o + i * 4 + 2, none⟩ = some (.int .i64 l[i]!.2.1) ∧ w.cell? ⟨g, o + i * 4 + 3, none⟩ = some (.int .i64 l[i]!.2.2) :=
  ⟨sl_at lenP h hi 0 _ rfl, sl_at lenP h hi 1 _ rfl, sl_at lenP h hi 2 _ rfl, sl_at lenP h hi 3 _ rfl⟩

theorem atI {w : World} {l : List Int} {g o : Nat} (h : ∀ j u, (flat encI l)[j]? = some u → w.cell? ⟨g, o + j, none⟩ = some u) {i : Nat} (hi : i < l.length) :
    w.cell? ⟨g, o + i, none⟩ = some (.int .i64 l[i]!) := by
  have := sl_at lenI h hi 0 _ rfl
  rwa [Nat.mul_one] at this
theorem holdsI {w : World} {b off : Nat} {d : Array Int} : HoldsK encI 1 w b off d ↔ Holds (Value.int .i64) w b off d := by
  constructor
  · intro h i hi
    have := Go.Sort.HoldsK.cell h hi (show 0 < 1 by omega)
    simpa [encI] using this
  · intro h j hj
    have hj' : j < d.size := by simpa using hj
    have := h j hj'
    rw [get_flatK _ _ _ j (by simpa using hj')]
    simpa [encI, Nat.mod_one] using this

end Go.Proofs.YtahichjiphjapaaGreatDoor

/-
  append onto a row of the call's own, of any slice that holds a list (nil, empty or not), in one law; numbers.
-/
namespace Go.Proofs.YtahichjiphjapaaGreatDoor
set_option linter.unusedSimpArgs false
set_option linter.unusedVariables false
open Go.RowKit Go.Sort Go.Lib Go.Shelf

/-- What an append of a slice type asks of its types. -/
structure Ap {α : Type} (enc : α → List Value) (st et k : Nat) (z : Value) (bytes : Nat) : Prop where
  ht : Tryz.prog.underlying st = some (.slice et)
  hi : ∃ i, Tryz.prog.info? et = some i ∧ i.zero = some z ∧ i.size = k ∧ i.bytes = bytes
  zs : z.cells.size = k
  k0 : 0 < k
  by32 : bytes ≤ 1000
  hk : ∀ x, (enc x).length = k
  h1 : ∀ x, ∀ v ∈ enc x, v.oneCell' = true
theorem apI : Ap encI 69 3 1 (.int .i64 0) 8 :=
  ⟨Tryz.underlying69, info_parts (by kernel_rfl), by decide, by decide, by decide, lenI, oneI⟩

section
variable {α : Type} {enc : α → List Value} {st et k : Nat} {z : Value} {bytes : Nat}

theorem app_run (A : Ap enc st et k z bytes) (ty base : Nat) {w : World} {v vx : Value} {n : Nat} {la lb : List α} (hown : w.ownsRow base et k v n (flat enc la)) (hn : n = la.length) (hX : Sl enc w vx lb) (hlen : la.length + lb.length ≤ 1000000) (hbase : base ≤ w.heap.size) :
    ∃ v' w', (Builtin.append_ #[st, st] ty #[v, vx]).run Tryz.prog w = .ok v' w' ∧ w'.ownsRow base et k v' (la.length + lb.length) (flat enc (la ++ lb)) ∧ w.grownBy w' v.ownBlock ∧ (v' = .slice none 0 0 ↔ v = .slice none 0 0 ∧ lb = []) := by
  subst hn
  obtain ⟨i, hi, hz, hs, hb⟩ := A.hi
  obtain ⟨p, c, rfl, h1, h2, hX⟩ := hX
  by_cases hl : lb = []
  · subst hl
    refine ⟨v, w, ?_, by simpa using hown, ⟨rfl, rfl, rfl, Nat.le_refl _, fun _ _ _ => rfl⟩, by simp⟩
    have hc : ∀ W, (Builtin.firstCells k 0 (.slice p 0 c)).run Tryz.prog W = .ok #[] W := fun W => by
      cases p <;> simp [Builtin.firstCells, loadCells, loadCellsFrom]
    rcases hown.2 with ⟨rfl, h0⟩ | ⟨g, cap, cur, rfl, _, _, hnc, _⟩
    · exact run_append_nothing w st st ty et i A.ht hi none 0 0 (Nat.le_refl _) _ ⟨.inl ⟨et, A.ht⟩, fun w' => by simp [Builtin.lenOf], by rw [hs]; exact hc w, by rw [hs]; exact hc w.drew, by simp, fun u hu => by cases hu⟩
    · exact run_append_nothing w st st ty et i A.ht hi _ _ _ hnc _ ⟨.inl ⟨et, A.ht⟩, fun w' => by simp [Builtin.lenOf], by rw [hs]; exact hc w, by rw [hs]; exact hc w.drew, by simp, fun u hu => by cases hu⟩
  · have hpos : 0 < lb.length := List.length_pos_iff.2 hl
    obtain ⟨g, o, rfl, hg, hcells⟩ := hX hpos
    have hbytes : (la.length + lb.length) * bytes ≤ 140737488355328 := Nat.le_trans (Nat.mul_le_mul hlen A.by32) (by decide)
    obtain ⟨v', w', hr, ho, hgr, hnil, _⟩ := run_append_own_at (P := Tryz.prog) w base st ty et i z k bytes A.ht hi hz hs hb A.zs A.k0 v la.length (flat enc la) hown ⟨g, o, none⟩ lb.length c (flat enc lb) (flat_len A.hk lb)
      (fun j u hu => by rw [Addr.add_lit]; exact hcells j u hu) (flat_one A.h1 lb) (by unfold maxLen; omega) hbytes hbase
    refine ⟨v', w', hr, by rw [flat_append]; exact ho, hgr, hnil.trans ⟨fun h => ?_, fun h => absurd h.2 hl⟩⟩
    exact absurd h.2 (by omega)

theorem wp_app (A : Ap enc st et k z bytes) {w : World} {o : Oper} {a : Act} {K : Act → World → Prop} {Q : Exit → Act → World → Prop} (s x : Operand) (ho : o.op = .call { callee := .builtin .append, args := #[s, x], argTypes := #[st, st] }) (base : Nat)
    {v vx : Value} {n : Nat} {la lb : List α} (hs : a.eval s = v) (hx : a.eval x = vx) (hown : w.ownsRow base et k v n (flat enc la)) (hn : n = la.length) (hX : Sl enc w vx lb) (hlen : la.length + lb.length ≤ 1000000) (hbase : base ≤ w.heap.size)
    (h : ∀ v' w', w'.ownsRow base et k v' (la.length + lb.length) (flat enc (la ++ lb)) → w.grownBy w' v.ownBlock → (v' = .slice none 0 0 ↔ v = .slice none 0 0 ∧ lb = []) → K (a.put o.dst v') w') : o.wp Tryz.prog a w K Q := by
  obtain ⟨v', w', hr, h2, h3, h4⟩ := app_run A o.type base hown hn hX hlen hbase
  unfold Oper.wp execOp
  simp only [ho, resolve, invoke, builtin, Sem.run_bind, Sem.run_pure, Result.andThen_ok, List.map_toArray, List.map_cons, List.map_nil, hs, hx, hr]
  exact h v' w' h2 h3 h4

/-- At the list of a plain region's operations. -/
theorem wpl_app (A : Ap enc st et k z bytes) {w : World} {ops : Array Oper} {rest : List Oper} {o : Oper} {a : Act} {Q : Exit → Act → World → Prop} (hgd : o.guard = none) (s x : Operand) (ho : o.op = .call { callee := .builtin .append, args := #[s, x], argTypes := #[st, st] }) (base : Nat)
    {v vx : Value} {n : Nat} {la lb : List α} (hs : a.eval s = v) (hx : a.eval x = vx) (hown : w.ownsRow base et k v n (flat enc la)) (hn : n = la.length) (hX : Sl enc w vx lb) (hlen : la.length + lb.length ≤ 1000000) (hbase : base ≤ w.heap.size)
    (h : ∀ v' w', w'.ownsRow base et k v' (la.length + lb.length) (flat enc (la ++ lb)) → w.grownBy w' v.ownBlock → (v' = .slice none 0 0 ↔ v = .slice none 0 0 ∧ lb = []) → wpList Tryz.prog ops Q rest (a.put o.dst v') w') : wpList Tryz.prog ops Q (o :: rest) a w :=
  wpList_plain hgd fun _ hK => wp_app A s x ho base hs hx hown hn hX hlen hbase fun v' w' h2 h3 h4 => hK _ _ (h v' w' h2 h3 h4)

/-- At a step of a region that draws its order. -/
theorem step_app (A : Ap enc st et k z bytes) {w : World} {ops : Array Oper} {o : Oper} {a : Act} {K : Act → World → Prop} {Q : Exit → Act → World → Prop} {E : Prop} (hgd : o.guard = none) (s x : Operand) (ho : o.op = .call { callee := .builtin .append, args := #[s, x], argTypes := #[st, st] }) (base : Nat)
    {v vx : Value} {n : Nat} {la lb : List α} (hs : a.eval s = v) (hx : a.eval x = vx) (hown : w.ownsRow base et k v n (flat enc la)) (hn : n = la.length) (hX : Sl enc w vx lb) (hlen : la.length + lb.length ≤ 1000000) (hbase : base ≤ w.heap.size)
    (h : ∀ v' w', w'.ownsRow base et k v' (la.length + lb.length) (flat enc (la ++ lb)) → w.grownBy w' v.ownBlock → (v' = .slice none 0 0 ↔ v = .slice none 0 0 ∧ lb = []) → K (a.put o.dst v') w') :
    if Region.wanted o (yielded ops a.tmps) = true then Oper.wp Tryz.prog o a w K Q else E := by
  have hw : Region.wanted o (yielded ops a.tmps) = true := by simp [Region.wanted, hgd]
  rw [if_pos hw]
  exact wp_app A s x ho base hs hx hown hn hX hlen hbase h

/-- What the call owns, to be read. -/
theorem row_sl [Inhabited α] (hk : ∀ x, (enc x).length = k) {w : World} {base et : Nat} {v : Value} {n : Nat} {l : List α} (h : w.ownsRow base et k v n (flat enc l)) (hn : n = l.length) : Sl enc w v l := (own_of_row hk h hn).sl hk

/-- The form of a value that owns a row and isn't nil. -/
theorem row_form {w : World} {base et : Nat} {v : Value} {n : Nat} {xs : List Value} (h : w.ownsRow base et k v n xs) (hv : v ≠ .slice none 0 0) :
    ∃ g cap, v = .slice (some ⟨g, 0, none⟩) n cap ∧ base ≤ g ∧ g < w.heap.size ∧ n ≤ cap ∧ cap ≤ maxLen := by
  rcases h.2 with ⟨h, _⟩ | ⟨g, cap, cur, rfl, hb, hh, hc, hm, _⟩
  · exact absurd h hv
  · refine ⟨g, cap, rfl, hb, ?_, hc, hm⟩
    rcases Nat.lt_or_ge g w.heap.size with h' | h'
    · exact h'
    · rw [Array.getElem?_eq_none h'] at hh; cases hh

/-- A piece of a slice that holds a list, from its start: 's[:n]'. -/
theorem sl_take (hk : ∀ x, (enc x).length = k) {w : World} {g o cap : Nat} {l : List α} (n : Nat) (hn : n ≤ l.length) (h1 : l.length ≤ cap) (h2 : cap ≤ maxLen) (hg : g < w.heap.size) (hc : ∀ j u, (flat enc l)[j]? = some u → w.cell? ⟨g, o + j, none⟩ = some u) :
    Sl enc w (.slice (some ⟨g, o, none⟩) n cap) (l.take n) := by
  have e : (l.take n).length = n := by simp; omega
  refine ⟨_, cap, by rw [e], by rw [e]; omega, h2, fun _ => ⟨g, o, rfl, hg, fun j u hu => hc j u ?_⟩⟩
  rw [← flat_take hk, List.getElem?_take] at hu
  split at hu
  · exact hu
  · cases hu
/-- A piece of a slice that holds a list, to its end: 's[n:]'. -/
theorem sl_drop (hk : ∀ x, (enc x).length = k) {w : World} {g o cap : Nat} {l : List α} (n : Nat) (hn : n ≤ l.length) (h1 : l.length ≤ cap) (h2 : cap ≤ maxLen) (hg : g < w.heap.size) (hc : ∀ j u, (flat enc l)[j]? = some u → w.cell? ⟨g, o + j, none⟩ = some u) :
    Sl enc w (.slice (some ⟨g, o + n * k, none⟩) (l.length - n) (cap - n)) (l.drop n) := by
  have e : (l.drop n).length = l.length - n := by simp
  refine ⟨_, cap - n, by rw [e], by rw [e]; omega, by omega, fun _ => ⟨g, o + n * k, rfl, hg, fun j u hu => ?_⟩⟩
  rw [← flat_drop hk, List.getElem?_drop] at hu
  rw [Nat.add_assoc]
  exact hc _ u hu
end
theorem Sl.congr {α : Type} {enc : α → List Value} {w : World} {v : Value} {l l' : List α} (h : Sl enc w v l) (e : l = l') : Sl enc w v l' := e ▸ h

/-- The block of a literal, to be read. -/
theorem sl_lit {α : Type} [Inhabited α] {enc : α → List Value} {w : World} {cs : Array Value} {t b : Nat} (l : List α) (hb : b = w.heap.size) (hc : cs.toList = flat enc l) (hm : l.length ≤ maxLen) : Sl enc (w.alloc (.cells cs t)) (.slice (some ⟨b, 0, none⟩) l.length l.length) l := by
  subst hb
  refine ⟨_, l.length, rfl, Nat.le_refl _, hm, fun _ => ⟨w.heap.size, 0, rfl, by simp, fun j u hu => ?_⟩⟩
  rw [World.cell?_alloc_at (w := w) cs t w.heap.size _ rfl, Nat.zero_add]
  rw [← hc] at hu
  simpa using hu
/-- Behind an append onto a row of the call's own: what was there when 'a' was is as it was. -/
theorem grownB {a w w' : World} {e k n : Nat} {v : Value} {xs : List Value} (h : Below a.heap.size a w) (hown : w.ownsRow a.heap.size e k v n xs) (hg : w.grownBy w' v.ownBlock) : Below a.heap.size a w' := h.grown hg h.size (fun j hj => (hown.lt j hj).1)

theorem ret_bool {a b : Bool} (h : a = b) : Ending.returned (.bool a) = Ending.returned (.bool b) := by rw [h]
theorem ret_int {a b : Int} (h : a = b) : Ending.returned (.int .i64 a) = Ending.returned (.int .i64 b) := by rw [h]
theorem flatI (l : List Int) : flat encI l = l.map (Value.int .i64) := by
  induction l with
  | nil => rfl
  | cons x r ih => simp only [flat, List.flatMap_cons] at ih ⊢; rw [ih]; rfl
theorem flatI_get (l : List Int) (j : Nat) (h : j < l.length) : (flat encI l)[j]? = some (.int .i64 l[j]!) := by
  rw [flatI, List.getElem?_map, List.getElem?_eq_getElem h, getElem!_pos l j h]; rfl
theorem take_succ_eq {α : Type} [Inhabited α] [DecidableEq α] (a b : List α) (k : Nat) (hl : a.length = b.length) (hk : k < a.length) (h : a.take k = b.take k) : a.take (k + 1) = b.take (k + 1) ↔ a[k]! = b[k]! := by
  have ea : a.take (k + 1) = a.take k ++ [a[k]] := List.take_succ_eq_append_getElem hk
  have eb : b.take (k + 1) = b.take k ++ [b[k]'(by omega)] := List.take_succ_eq_append_getElem (by omega)
  rw [ea, eb, h, getElem!_pos a k hk, getElem!_pos b k (by omega), List.append_right_inj]
  simp
theorem frontI {w : World} {base et g n cap : Nat} {l : List Int} (h : w.ownsRow base et 1 (.slice (some ⟨g, 0, none⟩) n cap) n (flat encI l)) (hn : n = l.length) (j : Nat) (hj : j ≤ n) :
    w.ownsRow base et 1 (.slice (some ⟨g, 0, none⟩) j cap) j (flat encI (l.take j)) := by
  rcases h.2 with ⟨h', _⟩ | ⟨g', cap', cur, e, hb, hh, hc, hm, hs, ht⟩
  · simp at h'
  · simp only [Value.slice.injEq, Option.some.injEq, Addr.mk.injEq, and_true, true_and] at e
    obtain ⟨rfl, rfl⟩ := e
    refine ⟨by rw [flat_len lenI, List.length_take]; congr 1; omega, .inr ⟨g, cap, cur, rfl, hb, hh, by omega, hm, hs, ?_⟩⟩
    rw [← flat_take lenI, ← ht, List.take_take, Nat.min_eq_left (Nat.mul_le_mul_right 1 hj)]
theorem cellsI {w : World} {base et k g n cap : Nat} {xs : List Value} (h : w.ownsRow base et k (.slice (some ⟨g, 0, none⟩) n cap) n xs) : ∀ j u, xs[j]? = some u → w.cell? ⟨g, 0 + j, none⟩ = some u := fun j u hu => by
  have h1 := (List.getElem?_eq_some_iff.1 hu).1
  rw [Nat.zero_add, h.cellAt j (by rw [← h.1]; exact h1)]
  exact hu
end Go.Proofs.YtahichjiphjapaaGreatDoor

/-
  append with its own block named; what a call leaves alone (Tch); rows of the call's own among blocks M, of elements of k cells.
-/
namespace Go.Proofs.YtahichjiphjapaaGreatDoor
set_option linter.unusedSimpArgs false
set_option linter.unusedVariables false
open Go.RowKit Go.Sort Go.Lib Go.Shelf

/-! ### append, with the block that the new slice lies in. -/
section
variable {α : Type} {enc : α → List Value} {st et k : Nat} {z : Value} {bytes : Nat}

theorem app_run2 (A : Ap enc st et k z bytes) (ty base : Nat) {w : World} {v vx : Value} {n : Nat} {la lb : List α} (hown : w.ownsRow base et k v n (flat enc la)) (hn : n = la.length) (hX : Sl enc w vx lb) (hlen : la.length + lb.length ≤ 1000000) (hbase : base ≤ w.heap.size) :
    ∃ v' w', (Builtin.append_ #[st, st] ty #[v, vx]).run Tryz.prog w = .ok v' w' ∧ w'.ownsRow base et k v' (la ++ lb).length (flat enc (la ++ lb)) ∧ w.grownBy w' v.ownBlock ∧ (v'.ownBlock = v.ownBlock ∨ v'.ownBlock = some w.heap.size) ∧ (lb = [] → v' = v) := by
  subst hn
  obtain ⟨i, hi, hz, hs, hb⟩ := A.hi
  obtain ⟨p, c, rfl, h1, h2, hX⟩ := hX
  by_cases hl : lb = []
  · subst hl
    refine ⟨v, w, ?_, by simpa using hown, ⟨rfl, rfl, rfl, Nat.le_refl _, fun _ _ _ => rfl⟩, .inl rfl, fun _ => rfl⟩
    have hc : ∀ W, (Builtin.firstCells k 0 (.slice p 0 c)).run Tryz.prog W = .ok #[] W := fun W => by
      cases p <;> simp [Builtin.firstCells, loadCells, loadCellsFrom]
    rcases hown.2 with ⟨rfl, h0⟩ | ⟨g, cap, cur, rfl, _, _, hnc, _⟩
    · exact run_append_nothing w st st ty et i A.ht hi none 0 0 (Nat.le_refl _) _ ⟨.inl ⟨et, A.ht⟩, fun w' => by simp [Builtin.lenOf], by rw [hs]; exact hc w, by rw [hs]; exact hc w.drew, by simp, fun u hu => by cases hu⟩
    · exact run_append_nothing w st st ty et i A.ht hi _ _ _ hnc _ ⟨.inl ⟨et, A.ht⟩, fun w' => by simp [Builtin.lenOf], by rw [hs]; exact hc w, by rw [hs]; exact hc w.drew, by simp, fun u hu => by cases hu⟩
  · have hpos : 0 < lb.length := List.length_pos_iff.2 hl
    obtain ⟨g, o, rfl, hg, hcells⟩ := hX hpos
    have hbytes : (la.length + lb.length) * bytes ≤ 140737488355328 := Nat.le_trans (Nat.mul_le_mul hlen A.by32) (by decide)
    obtain ⟨v', w', hr, ho, hgr, hnil, hat⟩ := run_append_own_at (P := Tryz.prog) w base st ty et i z k bytes A.ht hi hz hs hb A.zs A.k0 v la.length (flat enc la) hown ⟨g, o, none⟩ lb.length c (flat enc lb) (flat_len A.hk lb)
      (fun j u hu => by rw [Addr.add_lit]; exact hcells j u hu) (flat_one A.h1 lb) (by unfold maxLen; omega) hbytes hbase
    exact ⟨v', w', hr, by rw [flat_append, List.length_append]; exact ho, hgr, hat, fun h => absurd h hl⟩

theorem wp_app2 (A : Ap enc st et k z bytes) {w : World} {o : Oper} {a : Act} {K : Act → World → Prop} {Q : Exit → Act → World → Prop} (s x : Operand) (ho : o.op = .call { callee := .builtin .append, args := #[s, x], argTypes := #[st, st] }) (base : Nat)
    {v vx : Value} {n : Nat} {la lb : List α} (hs : a.eval s = v) (hx : a.eval x = vx) (hown : w.ownsRow base et k v n (flat enc la)) (hn : n = la.length) (hX : Sl enc w vx lb) (hlen : la.length + lb.length ≤ 1000000) (hbase : base ≤ w.heap.size)
    (h : ∀ v' w', w'.ownsRow base et k v' (la ++ lb).length (flat enc (la ++ lb)) → w.grownBy w' v.ownBlock → (v'.ownBlock = v.ownBlock ∨ v'.ownBlock = some w.heap.size) → (lb = [] → v' = v) → K (a.put o.dst v') w') : o.wp Tryz.prog a w K Q := by
  obtain ⟨v', w', hr, h2, h3, h4, h5⟩ := app_run2 A o.type base hown hn hX hlen hbase
  unfold Oper.wp execOp
  simp only [ho, resolve, invoke, builtin, Sem.run_bind, Sem.run_pure, Result.andThen_ok, List.map_toArray, List.map_cons, List.map_nil, hs, hx, hr]
  exact h v' w' h2 h3 h4 h5

/-- At the list of a plain region's operations. -/
theorem wpl_app2 (A : Ap enc st et k z bytes) {w : World} {ops : Array Oper} {rest : List Oper} {o : Oper} {a : Act} {Q : Exit → Act → World → Prop} (hgd : o.guard = none) (s x : Operand) (ho : o.op = .call { callee := .builtin .append, args := #[s, x], argTypes := #[st, st] }) (base : Nat)
    {v vx : Value} {n : Nat} {la lb : List α} (hs : a.eval s = v) (hx : a.eval x = vx) (hown : w.ownsRow base et k v n (flat enc la)) (hn : n = la.length) (hX : Sl enc w vx lb) (hlen : la.length + lb.length ≤ 1000000) (hbase : base ≤ w.heap.size)
    (h : ∀ v' w', w'.ownsRow base et k v' (la ++ lb).length (flat enc (la ++ lb)) → w.grownBy w' v.ownBlock → (v'.ownBlock = v.ownBlock ∨ v'.ownBlock = some w.heap.size) → (lb = [] → v' = v) → wpList Tryz.prog ops Q rest (a.put o.dst v') w') : wpList Tryz.prog ops Q (o :: rest) a w :=
  wpList_plain hgd fun _ hK => wp_app2 A s x ho base hs hx hown hn hX hlen hbase fun v' w' h2 h3 h4 h5 => hK _ _ (h v' w' h2 h3 h4 h5)

/-- At a step of a region that draws its order. -/
theorem step_app2 (A : Ap enc st et k z bytes) {w : World} {ops : Array Oper} {o : Oper} {a : Act} {K : Act → World → Prop} {Q : Exit → Act → World → Prop} {E : Prop} (hgd : o.guard = none) (s x : Operand) (ho : o.op = .call { callee := .builtin .append, args := #[s, x], argTypes := #[st, st] }) (base : Nat)
    {v vx : Value} {n : Nat} {la lb : List α} (hs : a.eval s = v) (hx : a.eval x = vx) (hown : w.ownsRow base et k v n (flat enc la)) (hn : n = la.length) (hX : Sl enc w vx lb) (hlen : la.length + lb.length ≤ 1000000) (hbase : base ≤ w.heap.size)
    (h : ∀ v' w', w'.ownsRow base et k v' (la ++ lb).length (flat enc (la ++ lb)) → w.grownBy w' v.ownBlock → (v'.ownBlock = v.ownBlock ∨ v'.ownBlock = some w.heap.size) → (lb = [] → v' = v) → K (a.put o.dst v') w') :
    if Region.wanted o (yielded ops a.tmps) = true then Oper.wp Tryz.prog o a w K Q else E := by
  have hw : Region.wanted o (yielded ops a.tmps) = true := by simp [Region.wanted, hgd]
  rw [if_pos hw]
  exact wp_app2 A s x ho base hs hx hown hn hX hlen hbase h
end

/-! ### What a call leaves alone. -/
/-- Of the blocks that were there only those of M have changed. -/
structure Tch (M : Nat → Prop) (w w' : World) : Prop where
  os : w'.os = w.os
  tape : w'.tape = w.tape
  output : w'.output = w.output
  size : w.heap.size ≤ w'.heap.size
  block : ∀ k, k < w.heap.size → ¬ M k → w'.heap[k]? = w.heap[k]?
/-- The blocks of M, and those that are new. -/
def New (M : Nat → Prop) (w w' : World) : Nat → Prop := fun b => M b ∨ (w.heap.size ≤ b ∧ b < w'.heap.size)

variable {M R : Nat → Prop} {w w' w2 : World}

theorem Tch.refl (M : Nat → Prop) (w : World) : Tch M w w := ⟨rfl, rfl, rfl, Nat.le_refl _, fun _ _ _ => rfl⟩
theorem Tch.trans (h : Tch M w w') (k : Tch (New M w w') w' w2) : Tch M w w2 :=
  ⟨k.os.trans h.os, k.tape.trans h.tape, k.output.trans h.output, Nat.le_trans h.size k.size, fun i hi hn => (k.block i (Nat.lt_of_lt_of_le hi h.size) (fun e => e.elim hn (fun e => by omega))).trans (h.block i hi hn)⟩
theorem Tch.more (h : Tch M w w') (k : Tch M w' w2) : Tch M w w2 :=
  ⟨k.os.trans h.os, k.tape.trans h.tape, k.output.trans h.output, Nat.le_trans h.size k.size, fun i hi hn => (k.block i (Nat.lt_of_lt_of_le hi h.size) hn).trans (h.block i hi hn)⟩
theorem Tch.mono (h : Tch M w w') {M' : Nat → Prop} (hM : ∀ b, M b → M' b) : Tch M' w w' := ⟨h.os, h.tape, h.output, h.size, fun k hk hn => h.block k hk (fun e => hn (hM k e))⟩
theorem Tch.of (h : RowKit.Below w.heap.size w w') : Tch M w w' := ⟨h.os, h.tape, h.output, h.size, fun k hk _ => h.block k hk⟩
theorem Tch.gr (h : Gr w w') : Tch M w w' := Tch.of h.below
theorem Tch.grown {v : Value} (h : w.grownBy w' v.ownBlock) (hv : ∀ g, v.ownBlock = some g → M g) : Tch M w w' :=
  ⟨h.os, h.tape, h.output, h.size, fun k hk hn => h.block k hk (fun e => hn (hv k e.symm))⟩
theorem Tch.below (h : Tch M w w') {B : Nat} (hM : ∀ b, M b → B ≤ b) (hB : B ≤ w.heap.size) : RowKit.Below B w w' :=
  ⟨h.os, h.tape, h.output, h.size, fun k hk => h.block k (by omega) (fun e => by have := hM k e; omega)⟩
theorem Tch.set (w : World) {p : Addr} (hp : M p.block) (u : Value) : Tch M w (w.setCell p u) :=
  ⟨rfl, rfl, rfl, by simp, fun k _ hn => heap_setCell_other w p k u (fun e => hn (e ▸ hp))⟩
theorem Tch.cell (h : Tch M w w') {b o : Nat} {v : Value} (hl : b < w.heap.size) (hn : ¬ M b) (hc : w.cell? ⟨b, o, none⟩ = some v) : w'.cell? ⟨b, o, none⟩ = some v :=
  (World.cell?_of_block (w := w) (a := ⟨b, o, none⟩) (h.block b hl hn)).trans hc
theorem New.mono (h : w'.heap.size ≤ w2.heap.size) : ∀ b, New M w w' b → New M w w2 b := fun b e => e.elim .inl (fun e => .inr ⟨e.1, by omega⟩)
theorem New.step (h : w.heap.size ≤ w'.heap.size) (h2 : w'.heap.size ≤ w2.heap.size) : ∀ b, New (New M w w') w' w2 b → New M w w2 b := fun b e => by
  rcases e with (e | e) | e
  · exact .inl e
  · exact .inr ⟨e.1, by omega⟩
  · exact .inr ⟨by omega, e.2⟩

/-! ### A row of one's own, among the blocks M. -/
/-- A slice value that owns the list l, in a block of M (or is nil). -/
def RowAt {α : Type} (enc : α → List Value) (et k : Nat) (w : World) (M : Nat → Prop) (v : Value) (l : List α) : Prop :=
  w.ownsRow 0 et k v l.length (flat enc l) ∧ ∀ g, v.ownBlock = some g → M g

section
variable {α : Type} {enc : α → List Value} {et k : Nat} {v : Value} {l : List α}
theorem RowAt.mono {M' : Nat → Prop} (h : RowAt enc et k w M v l) (hM : ∀ b, M b → M' b) : RowAt enc et k w M' v l := ⟨h.1, fun g hg => hM g (h.2 g hg)⟩
theorem row_lt {base n : Nat} {xs : List Value} (h : w.ownsRow base et k v n xs) {g : Nat} (hg : v.ownBlock = some g) : g < w.heap.size := by
  rcases h.2 with ⟨rfl, _⟩ | ⟨g', cap, cur, rfl, hb, hh, _⟩
  · simp [Value.ownBlock] at hg
  · simp only [Value.ownBlock, Option.some.injEq] at hg
    subst hg
    exact (Array.getElem?_eq_some_iff.1 hh).1
/-- A row stays while its block does. -/
theorem row_keep {base n : Nat} {xs : List Value} (h : w.ownsRow base et k v n xs) (hk : ∀ g, v.ownBlock = some g → w'.heap[g]? = w.heap[g]?) : w'.ownsRow base et k v n xs := by
  refine ⟨h.1, ?_⟩
  rcases h.2 with h | ⟨g, cap, cur, rfl, hb, hh, r⟩
  · exact .inl h
  · exact .inr ⟨g, cap, cur, rfl, hb, (hk g rfl).trans hh, r⟩
theorem RowAt.kept (h : RowAt enc et k w R v l) (t : Tch M w w') (hd : ∀ b, R b → ¬ M b) : RowAt enc et k w' R v l :=
  ⟨row_keep h.1 (fun g hg => t.block g (row_lt h.1 hg) (hd g (h.2 g hg))), h.2⟩
theorem RowAt.below (h : RowAt enc et k w R v l) (t : RowKit.Below w.heap.size w w') : RowAt enc et k w' R v l :=
  ⟨row_keep h.1 (fun g hg => t.block g (row_lt h.1 hg)), h.2⟩
/-- The value's form. -/
theorem row_val {base n : Nat} {xs : List Value} (h : w.ownsRow base et k v n xs) : ∃ p cap, v = .slice p n cap ∧ n ≤ cap ∧ cap ≤ maxLen ∧ (0 < n → ∃ g, p = some ⟨g, 0, none⟩ ∧ g < w.heap.size ∧ v.ownBlock = some g) := by
  rcases h.2 with ⟨rfl, rfl⟩ | ⟨g, cap, cur, rfl, hb, hh, h1, h2, _⟩
  · exact ⟨none, 0, rfl, Nat.le_refl _, Nat.zero_le _, fun h => absurd h (Nat.lt_irrefl _)⟩
  · exact ⟨_, cap, rfl, h1, h2, fun _ => ⟨g, rfl, (Array.getElem?_eq_some_iff.1 hh).1, rfl⟩⟩
/-- A row's block is of cells of its type. -/
theorem row_type {base n : Nat} {xs : List Value} (h : w.ownsRow base et k v n xs) {g : Nat} (hg : v.ownBlock = some g) : ∃ cs, w.heap[g]? = some (.cells cs et (0, 0)) := by
  rcases h.2 with ⟨rfl, _⟩ | ⟨g', cap, cur, rfl, hb, hh, _⟩
  · simp [Value.ownBlock] at hg
  · simp only [Value.ownBlock, Option.some.injEq] at hg
    subst hg
    exact ⟨cur, hh⟩
theorem RowAt.sl [Inhabited α] (hk : ∀ x, (enc x).length = k) (h : RowAt enc et k w M v l) : Sl enc w v l := row_sl hk h.1 rfl
theorem row_empty (w : World) (et k : Nat) (M : Nat → Prop) (hM : M w.heap.size) : RowAt (α := α) enc et k (w.alloc (.cells #[] et)) M (.slice (some ⟨w.heap.size, 0, none⟩) 0 0) [] :=
  ⟨World.ownsRow_lit w #[] 0 (Nat.zero_le _) (Nat.zero_le _) (by simp), fun g hg => by simp only [Value.ownBlock, Option.some.injEq] at hg; exact hg ▸ hM⟩
theorem row_nil (w : World) (et k : Nat) (M : Nat → Prop) : RowAt (α := α) enc et k w M (.slice none 0 0) [] :=
  ⟨⟨by simp [flat], .inl ⟨rfl, rfl⟩⟩, fun g hg => by simp [Value.ownBlock] at hg⟩
end


section
variable {T pa : Nat} {M R : Nat → Prop} {w w' : World}
/-- The two cells of a block that is known whole. -/
theorem two_cells {a b : Value} {t : Nat} (h : w.heap[pa]? = some (.cells #[a, b] t (0, 0))) : w.cell? ⟨pa, 0, none⟩ = some a ∧ w.cell? ⟨pa, 1, none⟩ = some b ∧ w.frozen? ⟨pa, 0, none⟩ = false ∧ w.frozen? ⟨pa, 1, none⟩ = false := by
  simp [World.cell?, World.frozen?, h]
theorem type_apart {a b : Nat} {ca cb : Array Value} {ta tb : Nat} {fa fb : Nat × Nat} (ha : w.heap[a]? = some (.cells ca ta fa)) (hb : w.heap[b]? = some (.cells cb tb fb)) (ht : ta ≠ tb) : a ≠ b := fun e => by
  rw [e, hb] at ha
  simp at ha
  exact ht ha.2.1.symm
/-- A block behind a store elsewhere. -/
theorem blk_far {b : Nat} {o : Obj} (h : w.heap[b]? = some o) {p : Addr} (hp : b ≠ p.block) (u : Value) : (w.setCell p u).heap[b]? = some o := (heap_setCell_other w p b u hp).trans h
theorem blk_below {b : Nat} {o : Obj} (h : w.heap[b]? = some o) (t : RowKit.Below w.heap.size w w') : w'.heap[b]? = some o := (t.block b (Array.getElem?_eq_some_iff.1 h).1).trans h
/-- A block of another type behind an append onto a row. -/
theorem blk_grown {α : Type} {enc : α → List Value} {et k : Nat} {v : Value} {l : List α} (h : RowAt enc et k w M v l) (hg : w.grownBy w' v.ownBlock) {b : Nat} {c : Array Value} {t : Nat} {f : Nat × Nat} (hb : w.heap[b]? = some (.cells c t f)) (ht : t ≠ et) : w'.heap[b]? = some (.cells c t f) :=
  (hg.block b (Array.getElem?_eq_some_iff.1 hb).1 (fun e => by
    obtain ⟨c2, hc⟩ := row_type h.1 e.symm
    exact type_apart hb hc ht rfl)).trans hb
/-- Behind an append onto a row of M. -/
theorem row_grown {α : Type} {enc : α → List Value} {et k : Nat} {v v' : Value} {l' : List α} (hv : ∀ g, v.ownBlock = some g → M g) (hown : w'.ownsRow 0 et k v' l'.length (flat enc l')) (hg : w.grownBy w' v.ownBlock) (hat : v'.ownBlock = v.ownBlock ∨ v'.ownBlock = some w.heap.size) :
    RowAt enc et k w' (New M w w') v' l' ∧ Tch M w w' := by
  refine ⟨⟨hown, fun g e => ?_⟩, Tch.grown hg hv⟩
  rcases hat with h | h
  · exact .inl (hv g (by rw [← h]; exact e))
  · rw [h] at e
    simp only [Option.some.injEq] at e
    exact .inr ⟨by omega, row_lt hown (by rw [h, e])⟩
end

/-- An index out of any number: int(uint(n) % uint(len)). -/
theorem idx_any (n : Int) (l : Nat) (h0 : 0 < l) (h1 : l ≤ 9223372036854775807) : ∃ m : Nat, m < l ∧ wrap64 ((IntKind.u64.wrap n).tmod (l : Int)) = (m : Int) := by
  have hu : 0 ≤ IntKind.u64.wrap n := by
    unfold IntKind.wrap
    simp [IntKind.signed, IntKind.bits]
    omega
  have e : (IntKind.u64.wrap n).tmod (l : Int) = IntKind.u64.wrap n % (l : Int) := Int.tmod_eq_emod_of_nonneg hu
  have h2 : 0 ≤ IntKind.u64.wrap n % (l : Int) := Int.emod_nonneg _ (by omega)
  have h3 : IntKind.u64.wrap n % (l : Int) < l := Int.emod_lt_of_pos _ (by omega)
  refine ⟨(IntKind.u64.wrap n % (l : Int)).toNat, by omega, ?_⟩
  rw [e, IntWalk.wrap64_in _ ⟨by omega, by omega⟩]
  omega

/-! ### Elements of one cell. -/
section
variable {α : Type} {enc : α → List Value} {c : α → Value}
theorem flat1 (he : ∀ x, enc x = [c x]) (l : List α) : flat enc l = l.map c := by
  induction l with
  | nil => rfl
  | cons x r ih => simp only [flat, List.flatMap_cons] at ih ⊢; rw [ih, he]; rfl
theorem flat1_set (he : ∀ x, enc x = [c x]) (l : List α) (j : Nat) (x : α) : (flat enc l).set j (c x) = flat enc (l.set j x) := by
  rw [flat1 he, flat1 he, List.map_set]
theorem flat1_get [Inhabited α] (he : ∀ x, enc x = [c x]) (l : List α) (j : Nat) (h : j < l.length) : (flat enc l)[j]? = some (c l[j]!) := by
  rw [flat1 he, List.getElem?_map, List.getElem?_eq_getElem h, getElem!_pos l j h]; rfl
/-- A cell of a row of one's own. -/
theorem row_cell1 [Inhabited α] (he : ∀ x, enc x = [c x]) {w : World} {base et g n cap : Nat} {l : List α} (h : w.ownsRow base et 1 (.slice (some ⟨g, 0, none⟩) n cap) n (flat enc l)) (j : Nat) (hj : j < l.length) : w.cell? ⟨g, j, none⟩ = some (c l[j]!) := by
  have := cellsI h j _ (flat1_get he l j hj)
  rwa [Nat.zero_add] at this
/-- A cell of a slice that holds a list. -/
theorem sl_cell1 [Inhabited α] (he : ∀ x, enc x = [c x]) {w : World} {l : List α} {g o : Nat} (h : ∀ j u, (flat enc l)[j]? = some u → w.cell? ⟨g, o + j, none⟩ = some u) {j : Nat} (hj : j < l.length) : w.cell? ⟨g, o + j, none⟩ = some (c l[j]!) := h j _ (flat1_get he l j hj)
end
/-- The front of a row. -/
theorem row_front {α : Type} {enc : α → List Value} {k : Nat} (hk : ∀ x, (enc x).length = k) {w : World} {base et g n cap : Nat} {l : List α} (h : w.ownsRow base et k (.slice (some ⟨g, 0, none⟩) n cap) n (flat enc l)) (hn : n = l.length) (j : Nat) (hj : j ≤ n) :
    w.ownsRow base et k (.slice (some ⟨g, 0, none⟩) j cap) (l.take j).length (flat enc (l.take j)) := by
  have e : (l.take j).length = j := by simp; omega
  rw [e]
  rcases h.2 with ⟨h', _⟩ | ⟨g', cap', cur, e', hb, hh, hc, hm, hs, ht⟩
  · simp at h'
  · simp only [Value.slice.injEq, Option.some.injEq, Addr.mk.injEq, and_true, true_and] at e'
    obtain ⟨rfl, rfl⟩ := e'
    refine ⟨by rw [flat_len hk, e], .inr ⟨g, cap, cur, rfl, hb, hh, by omega, hm, hs, ?_⟩⟩
    rw [← flat_take hk, ← ht, List.take_take, Nat.min_eq_left (Nat.mul_le_mul_right k hj)]
theorem keepA {W0 w1 : World} (h : RowKit.Below W0.heap.size W0 w1 ∧ ∀ b o, b < W0.heap.size → w1.cell? ⟨b, o, none⟩ = W0.cell? ⟨b, o, none⟩) (o1 : Obj) :
    RowKit.Below W0.heap.size W0 (w1.alloc o1) ∧ ∀ b o, b < W0.heap.size → (w1.alloc o1).cell? ⟨b, o, none⟩ = W0.cell? ⟨b, o, none⟩ :=
  ⟨Ba h.1 o1, fun b o hl => ((Ba (Below.refl _ w1) o1).cell (p := ⟨b, o, none⟩) (Bl h.1 hl)).trans (h.2 b o hl)⟩
/-- The blocks that are new. -/
abbrev Fresh (w w' : World) : Nat → Prop := New (fun _ => False) w w'
theorem row_fresh {α : Type} {enc : α → List Value} {et k : Nat} {w w1 : World} {v : Value} {l : List α} (h : w1.ownsRow w.heap.size et k v l.length (flat enc l)) : RowAt enc et k w1 (Fresh w w1) v l :=
  ⟨row_mono h (Nat.zero_le _), fun g hg => .inr ⟨(h.lt g hg).1, (h.lt g hg).2⟩⟩
end Go.Proofs.YtahichjiphjapaaGreatDoor

/-
  Of no program: spans, their ends in order, the pairs that meet; what putting and dropping does to them.
-/
namespace Go.Proofs.YtahichjiphjapaaGreatDoor
set_option linter.unusedSimpArgs false
set_option linter.unusedVariables false

abbrev Spn := Hd × (Int × Int)
abbrev En := Int × Bool × Hd
/-- Which end comes ahead. -/
def ltE (a b : En) : Bool := decide (a.1 < b.1) || (decide (a.1 = b.1) && ((!a.2.1 && b.2.1) || (decide (a.2.1 = b.2.1) && ltH a.2.2 b.2.2)))
theorem sto_en : STO ltE where
  irrefl x := by
    obtain ⟨a, b, c⟩ := x
    cases b <;> simp [ltE, sto_hd.irrefl]
  trans x y z h1 h2 := by
    obtain ⟨a1, b1, c1⟩ := x
    obtain ⟨a2, b2, c2⟩ := y
    obtain ⟨a3, b3, c3⟩ := z
    simp only [ltE, Bool.or_eq_true, decide_eq_true_eq, Bool.and_eq_true, Bool.not_eq_true'] at *
    rcases h1 with h1 | ⟨e1, h1⟩ <;> rcases h2 with h2 | ⟨e2, h2⟩
    · exact .inl (by omega)
    · exact .inl (by omega)
    · exact .inl (by omega)
    · refine .inr ⟨by omega, ?_⟩
      rcases h1 with ⟨p1, p2⟩ | ⟨p1, p2⟩ <;> rcases h2 with ⟨q1, q2⟩ | ⟨q1, q2⟩
      · exact .inl ⟨p1, q2⟩
      · exact .inl ⟨p1, q1 ▸ p2⟩
      · exact .inl ⟨p1.trans q1, q2⟩
      · exact .inr ⟨p1.trans q1, sto_hd.trans _ _ _ p2 q2⟩
  total x y h1 h2 := by
    obtain ⟨a1, b1, c1⟩ := x
    obtain ⟨a2, b2, c2⟩ := y
    have e1 : a1 = a2 := by
      simp only [ltE, Bool.or_eq_false_iff, decide_eq_false_iff_not] at h1 h2
      omega
    subst e1
    have e2 : b1 = b2 := by
      cases b1 <;> cases b2 <;> simp [ltE] at h1 h2 <;> rfl
    subst e2
    have e3 : c1 = c2 := by
      refine sto_hd.total _ _ ?_ ?_
      · cases b1 <;> simpa [ltE] using h1
      · cases b1 <;> simpa [ltE] using h2
    rw [e3]

def lo (s : Spn) : En := (s.2.1, false, s.1)
def hi (s : Spn) : En := (s.2.2, true, s.1)
def endsOf (L : List Spn) : List En := L.flatMap fun s => [lo s, hi s]
/-- All ends, in order. -/
def endsL (L : List Spn) : List En := srt ltE (endsOf L)
theorem mem_endsOf {L : List Spn} {e : En} : e ∈ endsOf L ↔ ∃ s ∈ L, e = lo s ∨ e = hi s := by simp [endsOf]
theorem mem_endsL {L : List Spn} {e : En} : e ∈ endsL L ↔ ∃ s ∈ L, e = lo s ∨ e = hi s := by rw [endsL, mem_srt sto_en, mem_endsOf]
theorem rise_endsL (L : List Spn) : Rise ltE (endsL L) := rise_srt sto_en _
theorem endsOf_len (L : List Spn) : (endsOf L).length = 2 * L.length := by
  induction L with
  | nil => rfl
  | cons s r ih =>
    unfold endsOf at ih ⊢
    rw [List.flatMap_cons, List.length_append, ih]
    simp
    omega
theorem endsL_len (L : List Spn) : (endsL L).length ≤ 2 * L.length := by
  have := srt_len ltE (endsOf L)
  rwa [endsOf_len] at this
theorem endsL_snoc (L : List Spn) (s : Spn) : endsL (L ++ [s]) = put ltE (hi s) (put ltE (lo s) (endsL L)) := by
  unfold endsL endsOf
  rw [List.flatMap_append]
  simp only [List.flatMap_cons, List.flatMap_nil, List.append_nil]
  rw [show ∀ l : List En, l ++ [lo s, hi s] = (l ++ [lo s]) ++ [hi s] from fun l => by simp, srt_snoc, srt_snoc]
def without (L : List Spn) (h : Hd) : List Spn := L.filter fun s => !decide (s.1 = h)
theorem mem_without {L : List Spn} {h : Hd} {s : Spn} : s ∈ without L h ↔ s ∈ L ∧ s.1 ≠ h := by simp [without]
/-- Each handle once. -/
def Once (L : List Spn) : Prop := (L.map (·.1)).Nodup
theorem Once.eq {L : List Spn} (h : Once L) : ∀ {a b : Spn}, a ∈ L → b ∈ L → a.1 = b.1 → a = b := by
  induction L with
  | nil => intro a b ha; cases ha
  | cons x r ih =>
    intro a b ha hb e
    obtain ⟨h1, h2⟩ := List.nodup_cons.1 h
    rcases List.mem_cons.1 ha with e1 | ha1
    · rcases List.mem_cons.1 hb with e2 | hb1
      · rw [e1, e2]
      · exact absurd (List.mem_map.2 ⟨b, hb1, by rw [← e, e1]⟩) h1
    · rcases List.mem_cons.1 hb with e2 | hb1
      · exact absurd (List.mem_map.2 ⟨a, ha1, by rw [e, e2]⟩) h1
      · exact ih h2 ha1 hb1 e
theorem Once.without {L : List Spn} (h : Once L) (g : Hd) : Once (without L g) := List.Sublist.nodup (List.Sublist.map _ List.filter_sublist) h
theorem Once.snoc {L : List Spn} (h : Once L) {s : Spn} (hs : ∀ b ∈ L, b.1 ≠ s.1) : Once (L ++ [s]) := by
  unfold Once at *
  rw [List.map_append, List.nodup_append]
  refine ⟨h, by simp, ?_⟩
  intro a ha b hb e
  obtain ⟨x, hx, rfl⟩ := List.mem_map.1 ha
  simp at hb
  subst hb
  exact hs x hx e
theorem without_len (L : List Spn) (h : Hd) : (without L h).length ≤ L.length := List.length_filter_le _ _
theorem without_none {L : List Spn} {h : Hd} (hn : ∀ s ∈ L, s.1 ≠ h) : without L h = L := List.filter_eq_self.2 fun s hs => by simpa using hn s hs
theorem without_one {L : List Spn} (ho : Once L) {s : Spn} (hs : s ∈ L) : (without L s.1).length + 1 = L.length := by
  induction L with
  | nil => cases hs
  | cons x r ih =>
    obtain ⟨h1, h2⟩ := List.nodup_cons.1 ho
    rcases List.mem_cons.1 hs with rfl | hs
    · have : without (s :: r) s.1 = without r s.1 := by simp [without]
      rw [this, without_none (fun b hb e => h1 (List.mem_map.2 ⟨b, hb, e⟩))]
      rfl
    · have hne : x.1 ≠ s.1 := fun e => h1 (List.mem_map.2 ⟨s, hs, e.symm⟩)
      have : without (x :: r) s.1 = x :: without r s.1 := by simp [without, hne]
      rw [this, List.length_cons, ih h2 hs, List.length_cons]
/-- Both ends are taken out. -/
theorem endsL_without {L : List Spn} (ho : Once L) {s : Spn} (hs : s ∈ L) : ((endsL L).filter fun e => !decide (e = lo s)).filter (fun e => !decide (e = hi s)) = endsL (without L s.1) := by
  refine rise_uniq sto_en _ _ (rise_filter (rise_filter (rise_endsL L) _) _) (rise_endsL _) fun e => ?_
  simp only [List.mem_filter, Bool.not_eq_true', decide_eq_false_iff_not, mem_endsL, mem_without]
  constructor
  · rintro ⟨⟨⟨t, ht, he⟩, h1⟩, h2⟩
    refine ⟨t, ⟨ht, fun e1 => ?_⟩, he⟩
    obtain rfl := ho.eq ht hs e1
    exact he.elim h1 h2
  · rintro ⟨t, ⟨ht, hne⟩, he⟩
    refine ⟨⟨⟨t, ht, he⟩, fun e1 => ?_⟩, fun e1 => ?_⟩
    · subst e1
      rcases he with he | he <;> simp [lo, hi] at he
      exact hne he.2.symm
    · subst e1
      rcases he with he | he <;> simp [lo, hi] at he
      exact hne he.2.symm

/-! ### Where an end stands. -/
section
variable {α : Type} {lt : α → α → Bool}
theorem headLess_lt (x : α) : ∀ (l : List α) (j : Nat), j < headLess lt x l → ∃ y, l[j]? = some y ∧ lt y x = true
  | [], j, h => by simp [headLess] at h
  | y :: r, j, h => by
    unfold headLess at h
    split at h
    · rename_i e
      cases j with
      | zero => exact ⟨y, rfl, e⟩
      | succ j => exact headLess_lt x r j (by omega)
    · omega
theorem headLess_not (x : α) : ∀ (l : List α) (y : α), l[headLess lt x l]? = some y → lt y x = false
  | [], y, h => by simp at h
  | z :: r, y, h => by
    unfold headLess at h
    split at h
    · exact headLess_not x r y (by simpa using h)
    · rename_i e
      simp at h
      subst h
      simpa using e
theorem headLess_ge (h : STO lt) (x : α) {l : List α} (hl : Rise lt l) (j : Nat) (hj : headLess lt x l ≤ j) {y : α} (hy : l[j]? = some y) : lt y x = false := by
  obtain ⟨hjl, rfl⟩ := List.getElem?_eq_some_iff.1 hy
  have h0 : headLess lt x l < l.length := by omega
  have h1 := headLess_not x l l[headLess lt x l] (List.getElem?_eq_getElem h0)
  rcases Nat.lt_or_ge (headLess lt x l) j with c | c
  · have h2 := rise_lt hl c hjl
    cases e : lt l[j] x with
    | false => rfl
    | true => rw [h.trans _ _ _ h2 e] at h1; cases h1
  · obtain rfl : headLess lt x l = j := by omega
    exact h1
/-- The place of one that is there. -/
theorem headLess_mem (h : STO lt) (x : α) {l : List α} (hl : Rise lt l) (hx : x ∈ l) : l[headLess lt x l]? = some x := by
  obtain ⟨j, hj, rfl⟩ := List.getElem_of_mem hx
  have h1 : ¬ j < headLess lt l[j] l := fun c => by
    obtain ⟨y, hy, hlt⟩ := headLess_lt l[j] l j c
    rw [List.getElem?_eq_getElem hj] at hy
    simp at hy
    subst hy
    rw [h.irrefl] at hlt
    cases hlt
  have h0 : headLess lt l[j] l < l.length := by omega
  rw [List.getElem?_eq_getElem h0]
  rcases Nat.lt_or_ge (headLess lt l[j] l) j with c | c
  · have h2 := headLess_not l[j] l _ (List.getElem?_eq_getElem h0)
    rw [rise_lt hl c hj] at h2
    cases h2
  · congr 1
    congr 1
    omega
theorem put_new [DecidableEq α] (h : STO lt) (x : α) {l : List α} (hx : x ∉ l) : put lt x l = l.take (headLess lt x l) ++ [x] ++ l.drop (headLess lt x l) := by
  rw [put_eq, if_neg (fun e => hx (List.mem_of_getElem? e))]
  simp
/-- One is taken out. -/
theorem cut_one [DecidableEq α] (h : STO lt) (x : α) {l : List α} (hl : Rise lt l) (hx : x ∈ l) : l.take (headLess lt x l) ++ l.drop (headLess lt x l + 1) = l.filter fun e => !decide (e = x) := by
  have h1 := headLess_mem h x hl hx
  obtain ⟨hj, h2⟩ := List.getElem?_eq_some_iff.1 h1
  have e : l = l.take (headLess lt x l) ++ x :: l.drop (headLess lt x l + 1) := by
    conv => lhs; rw [← List.take_append_drop (headLess lt x l) l, List.drop_eq_getElem_cons hj, h2]
  generalize headLess lt x l = k at *
  have hn := rise_nodup h hl
  rw [e] at hn
  have hnd := List.nodup_append.1 hn
  conv => rhs; rw [e]
  rw [List.filter_append, List.filter_cons]
  simp only [decide_true, Bool.not_true, Bool.false_eq_true, if_false]
  have f1 : (l.take k).filter (fun e => !decide (e = x)) = l.take k := List.filter_eq_self.2 fun a ha => by simpa using fun e : a = x => hnd.2.2 a ha x (by simp) e
  have f2 : (l.drop (k + 1)).filter (fun e => !decide (e = x)) = l.drop (k + 1) := List.filter_eq_self.2 fun a ha => by simpa using fun e : a = x => (List.nodup_cons.1 hnd.2.1).1 (e ▸ ha)
  rw [f1, f2]
end

/-! ### Which meet. -/
abbrev IV := Int × Int
def meets (a b : IV) : Bool := decide (a.1 ≤ b.2) && decide (b.1 ≤ a.2)
theorem meets_comm (a b : IV) : meets a b = meets b a := by unfold meets; rw [Bool.and_comm]
/-- What a handle's span is. -/
def spF (L : List Spn) (h : Hd) : Option IV := (L.find? fun s => decide (s.1 = h)).map (·.2)
theorem spF_mem {L : List Spn} (ho : Once L) {s : Spn} (hs : s ∈ L) : spF L s.1 = some s.2 := by
  unfold spF
  cases e : L.find? (fun t => decide (t.1 = s.1)) with
  | none => exact absurd (List.find?_eq_none.1 e s hs) (by simp)
  | some t =>
    have h1 := List.mem_of_find?_eq_some e
    have h2 := List.find?_some e
    rw [ho.eq h1 hs (by simpa using h2)]
    rfl
theorem spF_some {L : List Spn} {h : Hd} {v : IV} (e : spF L h = some v) : (h, v) ∈ L := by
  unfold spF at e
  cases e2 : L.find? (fun t => decide (t.1 = h)) with
  | none => rw [e2] at e; cases e
  | some t =>
    rw [e2] at e
    have h1 := List.mem_of_find?_eq_some e2
    have h2 := List.find?_some e2
    simp at e h2
    subst e h2
    exact h1
theorem spF_none {L : List Spn} {h : Hd} (hn : ∀ s ∈ L, s.1 ≠ h) : spF L h = none := by
  unfold spF
  rw [List.find?_eq_none.2 (fun s hs => by simpa using hn s hs)]
  rfl
theorem spF_no {L : List Spn} {h : Hd} (e : spF L h = none) : ∀ s ∈ L, s.1 ≠ h := fun s hs q => by
  unfold spF at e
  rw [Option.map_eq_none_iff] at e
  have := List.find?_eq_none.1 e s hs
  simp at this
  exact this q
theorem spF_snoc {L : List Spn} {s : Spn} (hs : ∀ b ∈ L, b.1 ≠ s.1) (z : Hd) : spF (L ++ [s]) z = if z = s.1 then some s.2 else spF L z := by
  by_cases hz : z = s.1
  · subst hz
    rw [if_pos rfl]
    unfold spF
    rw [List.find?_append, List.find?_eq_none.2 (fun b hb => by simpa using hs b hb)]
    simp
  · rw [if_neg hz]
    unfold spF
    rw [List.find?_append]
    have : ¬ s.1 = z := fun e => hz e.symm
    cases L.find? (fun t => decide (t.1 = z)) <;> simp [this]
theorem spF_without (L : List Spn) (h z : Hd) : spF (without L h) z = if z = h then none else spF L z := by
  by_cases hz : z = h
  · subst hz
    rw [if_pos rfl]
    exact spF_none fun s hs => (mem_without.1 hs).2
  · rw [if_neg hz]
    unfold spF without
    congr 1
    rw [List.find?_filter]
    congr 1
    funext s
    by_cases e : s.1 = z
    · simp [e, hz]
    · simp [e]

/-- q is the pair of two spans that meet. -/
def PM (L : List Spn) (q : Pr) : Prop := ∃ a ∈ L, ∃ b ∈ L, a.1 ≠ b.1 ∧ meets a.2 b.2 = true ∧ q = norm (a.1, b.1)
theorem norm_comm (a b : Hd) (h : a ≠ b) : norm (a, b) = norm (b, a) := by
  unfold norm
  dsimp only
  cases e : ltH b a with
  | true => rw [sto_hd.asymm e]; simp
  | false =>
    cases e2 : ltH a b with
    | true => simp
    | false => exact absurd (sto_hd.total _ _ e2 e) h
theorem norm_set (a b : Hd) : (norm (a, b) = (a, b)) ∨ (norm (a, b) = (b, a)) := by
  unfold norm
  dsimp only
  cases ltH b a <;> simp
theorem norm_ne {a b : Hd} (h : a ≠ b) : (norm (a, b)).1 ≠ (norm (a, b)).2 := by
  rcases norm_set a b with e | e <;> rw [e]
  · exact h
  · exact h.symm
theorem norm_lt {a b : Hd} (h : a ≠ b) : ltH (norm (a, b)).1 (norm (a, b)).2 = true := by
  unfold norm
  dsimp only
  cases e : ltH b a with
  | true => exact e
  | false =>
    cases e2 : ltH a b with
    | true => exact e2
    | false => exact absurd (sto_hd.total _ _ e2 e) h
theorem norm_norm {a b : Hd} (h : a ≠ b) : norm (norm (a, b)) = norm (a, b) := by
  have := sto_hd.asymm (norm_lt h)
  generalize norm (a, b) = q at *
  unfold norm
  rw [this]
  rfl
theorem norm_inj {a b c d : Hd} (e : norm (a, b) = norm (c, d)) : (a = c ∧ b = d) ∨ (a = d ∧ b = c) := by
  rcases norm_set a b with h1 | h1 <;> rcases norm_set c d with h2 | h2 <;> rw [h1, h2] at e <;> simp only [Prod.mk.injEq] at e <;> obtain ⟨rfl, rfl⟩ := e <;> simp
theorem PM.put {L : List Spn} {s : Spn} (hs : ∀ b ∈ L, b.1 ≠ s.1) (q : Pr) : PM (L ++ [s]) q ↔ PM L q ∨ ∃ b ∈ L, meets b.2 s.2 = true ∧ q = norm (s.1, b.1) := by
  constructor
  · rintro ⟨a, ha, b, hb, hne, hm, rfl⟩
    rcases List.mem_append.1 ha with ha1 | ha1
    · rcases List.mem_append.1 hb with hb1 | hb1
      · exact .inl ⟨a, ha1, b, hb1, hne, hm, rfl⟩
      · have e := List.mem_singleton.1 hb1
        rw [e] at hm hne ⊢
        exact .inr ⟨a, ha1, hm, norm_comm _ _ hne⟩
    · have e := List.mem_singleton.1 ha1
      rw [e] at hm hne ⊢
      rcases List.mem_append.1 hb with hb1 | hb1
      · exact .inr ⟨b, hb1, by rw [meets_comm]; exact hm, rfl⟩
      · have e2 := List.mem_singleton.1 hb1
        rw [e2] at hne
        exact absurd rfl hne
  · rintro (⟨a, ha, b, hb, hne, hm, rfl⟩ | ⟨b, hb, hm, rfl⟩)
    · exact ⟨a, by simp [ha], b, by simp [hb], hne, hm, rfl⟩
    · exact ⟨s, by simp, b, by simp [hb], fun e => hs b hb e.symm, by rw [meets_comm]; exact hm, rfl⟩
theorem PM.drop {L : List Spn} (ho : Once L) {s : Spn} (hs : s ∈ L) (q : Pr) : PM (without L s.1) q ↔ PM L q ∧ ¬ ∃ b ∈ without L s.1, meets b.2 s.2 = true ∧ q = norm (s.1, b.1) := by
  constructor
  · rintro ⟨a, ha, b, hb, hne, hm, rfl⟩
    have ha' := mem_without.1 ha
    have hb' := mem_without.1 hb
    refine ⟨⟨a, ha'.1, b, hb'.1, hne, hm, rfl⟩, ?_⟩
    rintro ⟨c, hc, _, e⟩
    rcases norm_inj e with ⟨e1, e2⟩ | ⟨e1, e2⟩
    · exact ha'.2 e1
    · exact hb'.2 e2
  · rintro ⟨⟨a, ha, b, hb, hne, hm, rfl⟩, hn⟩
    have c1 : a.1 ≠ s.1 := fun e => by
      obtain rfl := ho.eq ha hs e
      exact hn ⟨b, mem_without.2 ⟨hb, fun e2 => hne e2.symm⟩, by rw [meets_comm]; exact hm, rfl⟩
    have c2 : b.1 ≠ s.1 := fun e => by
      obtain rfl := ho.eq hb hs e
      exact hn ⟨a, mem_without.2 ⟨ha, hne⟩, hm, norm_comm _ _ hne⟩
    exact ⟨a, mem_without.2 ⟨ha, c1⟩, b, mem_without.2 ⟨hb, c2⟩, hne, hm, rfl⟩

/-! ### The iterator's row. -/
/-- Does this end's span meet? -/
def hit (f : Hd → Option IV) (s : IV) (e : En) : Bool := !e.2.1 && decide (((f e.2.2).getD (0, 0)).2 ≥ s.1)
theorem hits_all {L : List Spn} (ho : Once L) (s : IV) (k : Nat) (hk : ∀ j e, (endsL L)[j]? = some e → k ≤ j → e.1 > s.2) (hb : ∀ j e, (endsL L)[j]? = some e → j < k → e.1 ≤ s.2) (h : Hd) :
    h ∈ (((endsL L).take k).filter (hit (spF L) s)).map (·.2.2) ↔ ∃ b ∈ L, b.1 = h ∧ meets b.2 s = true := by
  simp only [List.mem_map, List.mem_filter]
  constructor
  · rintro ⟨e, ⟨he, hh⟩, rfl⟩
    obtain ⟨j, hj, hje⟩ := List.getElem_of_mem he
    rw [List.getElem_take] at hje
    have hjk : j < k := by rw [List.length_take] at hj; omega
    have hje2 : (endsL L)[j]? = some e := by rw [List.getElem?_eq_some_iff]; exact ⟨by rw [List.length_take] at hj; omega, hje⟩
    obtain ⟨b, hbL, heb⟩ := mem_endsL.1 (List.mem_of_getElem? hje2)
    simp only [hit, Bool.and_eq_true, Bool.not_eq_true', decide_eq_true_eq] at hh
    have hle := hb j e hje2 hjk
    rcases heb with rfl | rfl
    · refine ⟨b, hbL, rfl, ?_⟩
      have h2 := hh.2
      rw [show (lo b).2.2 = b.1 from rfl, spF_mem ho hbL] at h2
      unfold meets
      simp only [Option.getD_some] at h2
      have hle' : b.2.1 ≤ s.2 := hle
      simp [hle']
      omega
    · cases hh.1
  · rintro ⟨b, hbL, rfl, hm⟩
    unfold meets at hm
    simp only [Bool.and_eq_true, decide_eq_true_eq] at hm
    have hmem : lo b ∈ endsL L := mem_endsL.2 ⟨b, hbL, .inl rfl⟩
    obtain ⟨j, hj, hje⟩ := List.getElem_of_mem hmem
    have hje2 : (endsL L)[j]? = some (lo b) := by rw [List.getElem?_eq_getElem hj, hje]
    have hjk : j < k := by
      rcases Nat.lt_or_ge j k with c | c
      · exact c
      · have := hk j _ hje2 c
        have h3 : b.2.1 > s.2 := this
        omega
    refine ⟨lo b, ⟨?_, ?_⟩, rfl⟩
    · rw [List.mem_iff_getElem?]
      exact ⟨j, by rw [List.getElem?_take, if_pos hjk]; exact hje2⟩
    · simp only [hit, Bool.and_eq_true, Bool.not_eq_true', decide_eq_true_eq]
      refine ⟨rfl, ?_⟩
      rw [show (lo b).2.2 = b.1 from rfl, spF_mem ho hbL]
      simp only [Option.getD_some]
      omega
/-- In a rising row the At's rise. -/
theorem rise_at {l : List En} (hl : Rise ltE l) {i j : Nat} (hij : i ≤ j) {a b : En} (ha : l[i]? = some a) (hb : l[j]? = some b) : a.1 ≤ b.1 := by
  obtain ⟨h1, rfl⟩ := List.getElem?_eq_some_iff.1 ha
  obtain ⟨h2, rfl⟩ := List.getElem?_eq_some_iff.1 hb
  rcases Nat.lt_or_ge i j with c | c
  · have := rise_lt hl c h2
    simp only [ltE, Bool.or_eq_true, Bool.and_eq_true, decide_eq_true_eq] at this
    omega
  · obtain rfl : i = j := by omega
    exact Int.le_refl _
theorem take_hit (L : List En) (f : Hd → Option IV) (s : IV) (k : Nat) (hk : k < L.length) : ((L.take (k + 1)).filter (hit f s)).map (·.2.2) = ((L.take k).filter (hit f s)).map (·.2.2) ++ (if hit f s L[k]! = true then [L[k]!.2.2] else []) := by
  rw [List.take_succ_eq_append_getElem hk, List.filter_append, List.map_append, getElem!_pos L k hk]
  congr 1
  by_cases h : hit f s L[k] = true
  · simp [h]
  · simp [h]

/-! ### The set of pairs. -/
def prF (K : List Pr) (q : Pr) : Option Unit := if q ∈ K then some () else none
theorem prF_put (K : List Pr) (x q : Pr) : (if q = x then some () else prF K q) = prF (if x ∈ K then K else K ++ [x]) q := by
  unfold prF
  by_cases h : q = x
  · subst h
    by_cases hk : q ∈ K <;> simp [hk]
  · by_cases hx : x ∈ K <;> simp [h, hx]
theorem prF_del (K : List Pr) (x q : Pr) : (if q = x then none else prF K q) = prF (K.filter fun z => !decide (z = x)) q := by
  unfold prF
  by_cases h : q = x
  · simp [h]
  · simp [h]
theorem prF_some (K : List Pr) (x : Pr) : (prF K x).isSome = decide (x ∈ K) := by
  unfold prF
  by_cases h : x ∈ K <;> simp [h]
/-- The row of the pairs with one. -/
def joinK (K : List Pr) (x : Pr) : List Pr := if x ∈ K then K else K ++ [x]
theorem mem_joinK {K : List Pr} {x q : Pr} : q ∈ joinK K x ↔ q ∈ K ∨ q = x := by
  unfold joinK
  by_cases h : x ∈ K
  · rw [if_pos h]
    exact ⟨.inl, fun e => e.elim id (fun e => e ▸ h)⟩
  · rw [if_neg h]
    simp
theorem nodup_joinK {K : List Pr} {x : Pr} (h : K.Nodup) : (joinK K x).Nodup := by
  unfold joinK
  by_cases hx : x ∈ K
  · rw [if_pos hx]; exact h
  · rw [if_neg hx, List.nodup_append]
    refine ⟨h, by simp, fun a ha b hb e => ?_⟩
    simp at hb
    subst hb
    subst e
    exact hx ha
theorem len_joinK (K : List Pr) (x : Pr) : (joinK K x).length = if (prF K x).isSome then K.length else K.length + 1 := by
  rw [prF_some]
  unfold joinK
  by_cases hx : x ∈ K <;> simp [hx]
def partK (K : List Pr) (x : Pr) : List Pr := K.filter fun z => !decide (z = x)
theorem mem_partK {K : List Pr} {x q : Pr} : q ∈ partK K x ↔ q ∈ K ∧ q ≠ x := by simp [partK]
theorem nodup_partK {K : List Pr} {x : Pr} (h : K.Nodup) : (partK K x).Nodup := h.sublist List.filter_sublist
theorem len_partK {K : List Pr} (x : Pr) (h : K.Nodup) : (partK K x).length = if (prF K x).isSome then K.length - 1 else K.length := by
  rw [prF_some]
  unfold partK
  by_cases hx : x ∈ K
  · simp only [hx, decide_true, if_true]
    induction K with
    | nil => cases hx
    | cons y r ih =>
      obtain ⟨h1, h2⟩ := List.nodup_cons.1 h
      rcases List.mem_cons.1 hx with rfl | hx
      · rw [List.filter_cons]
        simp only [decide_true, Bool.not_true, Bool.false_eq_true, if_false, List.length_cons, Nat.add_sub_cancel]
        congr 1
        exact List.filter_eq_self.2 fun a ha => by simpa using fun e : a = x => h1 (e ▸ ha)
      · have hne : y ≠ x := fun e => h1 (e ▸ hx)
        have hpos : 0 < r.length := List.length_pos_of_mem hx
        rw [List.filter_cons]
        simp only [hne, decide_false, Bool.not_false, if_true, List.length_cons]
        rw [ih h2 hx]
        omega
  · simp only [hx, decide_false, Bool.false_eq_true, if_false]
    congr 1
    exact List.filter_eq_self.2 fun a ha => by simpa using fun e : a = x => hx (e ▸ ha)
/-- K is the set of the pairs that meet. -/
def KOf (L : List Spn) (K : List Pr) : Prop := K.Nodup ∧ ∀ q, q ∈ K ↔ PM L q
theorem nodup_sub_len {α : Type} [DecidableEq α] : ∀ {a b : List α}, a.Nodup → (∀ x ∈ a, x ∈ b) → a.length ≤ b.length
  | [], _, _, _ => Nat.zero_le _
  | x :: r, b, h, hs => by
    obtain ⟨h1, h2⟩ := List.nodup_cons.1 h
    have hx : x ∈ b := hs x (by simp)
    have h3 : r.length ≤ (b.erase x).length := nodup_sub_len h2 fun y hy => (List.mem_erase_of_ne (fun e => h1 (by rw [← e]; exact hy))).2 (hs y (by simp [hy]))
    rw [List.length_erase_of_mem hx] at h3
    have := List.length_pos_of_mem hx
    rw [List.length_cons]
    omega
theorem PM.len {L : List Spn} {K : List Pr} (h : K.Nodup) (hs : ∀ q ∈ K, PM L q) : K.length ≤ L.length * L.length := by
  have := nodup_sub_len (b := L.flatMap fun a => L.map fun b => norm (a.1, b.1)) h (fun q hq => by
    obtain ⟨a, ha, b, hb, _, _, rfl⟩ := hs q hq
    rw [List.mem_flatMap]
    exact ⟨a, ha, List.mem_map.2 ⟨b, hb, rfl⟩⟩)
  refine Nat.le_trans this ?_
  rw [List.length_flatMap]
  have e : ∀ l : List Spn, (l.map fun a => (L.map fun b => norm (a.1, b.1)).length).sum = l.length * L.length := by
    intro l
    induction l with
    | nil => simp
    | cons x r ih => rw [List.map_cons, List.sum_cons, ih, List.length_map, List.length_cons, Nat.add_mul, Nat.one_mul, Nat.add_comm]
  rw [e]
  exact Nat.le_refl _

/-! ### All pairs of which something holds, as the document's answer tells them. -/
section
variable {β : Type} (f : β → β → Bool) (hd : β → Hd)
def rowP (a : β) (l : List β) : List Pr := l.filterMap fun b => if f a b then some (hd a, hd b) else none
def allP : List β → List β → List Pr
  | _, [] => []
  | pre, a :: r => rowP f hd a pre ++ allP (pre ++ [a]) r
theorem allP_snoc : ∀ (r pre : List β) (a : β), allP f hd pre (r ++ [a]) = allP f hd pre r ++ rowP f hd a (pre ++ r)
  | [], pre, a => by simp [allP]
  | x :: r, pre, a => by
    simp only [List.cons_append, allP]
    rw [allP_snoc r (pre ++ [x]) a]
    simp
theorem allP_take [Inhabited β] (l : List β) (i : Nat) (hi : i < l.length) : allP f hd [] (l.take (i + 1)) = allP f hd [] (l.take i) ++ rowP f hd l[i]! (l.take i) := by
  rw [List.take_succ_eq_append_getElem hi, allP_snoc, getElem!_pos l i hi]
  simp
theorem rowP_take [Inhabited β] (a : β) (l : List β) (j : Nat) (hj : j < l.length) : rowP f hd a (l.take (j + 1)) = rowP f hd a (l.take j) ++ if f a l[j]! then [(hd a, hd l[j]!)] else [] := by
  unfold rowP
  rw [List.take_succ_eq_append_getElem hj, List.filterMap_append, getElem!_pos l j hj]
  congr 1
  cases h : f a l[j] <;> simp [h]
theorem rowP_len (a : β) (l : List β) : (rowP f hd a l).length ≤ l.length := List.length_filterMap_le _ _
theorem allP_len : ∀ (r pre : List β), (allP f hd pre r).length ≤ r.length * (pre.length + r.length)
  | [], _ => by simp [allP]
  | a :: r, pre => by
    have h1 := allP_len r (pre ++ [a])
    have h2 := rowP_len f hd a pre
    simp only [allP, List.length_append, List.length_cons, List.length_nil] at *
    have e : (r.length + 1) * (pre.length + (r.length + 1)) = r.length * (pre.length + (0 + 1) + r.length) + (pre.length + (r.length + 1)) := by
      rw [Nat.add_mul, Nat.one_mul]
      congr 2
      omega
    rw [e]
    omega
theorem mem_allP : ∀ (r pre : List β) (q : Pr), q ∈ allP f hd pre r → ∃ a ∈ r, ∃ b ∈ pre ++ r, f a b = true ∧ q = (hd a, hd b)
  | [], _, q, h => by simp [allP] at h
  | a :: r, pre, q, h => by
    simp only [allP, List.mem_append] at h
    rcases h with h | h
    · obtain ⟨b, hb, e⟩ := List.mem_filterMap.1 h
      split at e
      · rename_i hf
        simp at e
        exact ⟨a, by simp, b, by simp [hb], hf, e.symm⟩
      · cases e
    · obtain ⟨x, hx, b, hb, hf, e⟩ := mem_allP r (pre ++ [a]) q h
      exact ⟨x, by simp [hx], b, by simpa using hb, hf, e⟩
theorem allP_has (hc : ∀ a b, f a b = f b a) : ∀ (r pre : List β) (a b : β), a ∈ r → b ∈ pre ++ r → hd a ≠ hd b → f a b = true → (hd a, hd b) ∈ allP f hd pre r ∨ (hd b, hd a) ∈ allP f hd pre r
  | [], _, a, _, ha, _, _, _ => by cases ha
  | x :: r, pre, a, b, ha, hb, hne, hf => by
    simp only [allP, List.mem_append]
    have row : ∀ {u v : β}, v ∈ pre → f u v = true → (hd u, hd v) ∈ rowP f hd u pre := fun {u v} hv huv => List.mem_filterMap.2 ⟨v, hv, by rw [huv]; rfl⟩
    rcases List.mem_cons.1 ha with rfl | ha
    · rcases List.mem_append.1 hb with hb | hb
      · exact .inl (.inl (row hb hf))
      · rcases List.mem_cons.1 hb with rfl | hb
        · exact absurd rfl hne
        · rcases allP_has hc r (pre ++ [a]) b a hb (by simp) hne.symm (by rw [hc]; exact hf) with h | h
          · exact .inr (.inr h)
          · exact .inl (.inr h)
    · have hb' : b ∈ (pre ++ [x]) ++ r := by
        rcases List.mem_append.1 hb with hb | hb
        · simp [hb]
        · rcases List.mem_cons.1 hb with rfl | hb
          · simp
          · simp [hb]
      rcases allP_has hc r (pre ++ [x]) a b ha hb' hne hf with h | h
      · exact .inl (.inr h)
      · exact .inr (.inr h)
/-- All of them as pairs. -/
theorem mem_right {l : List Pr} {q : Pr} : q ∈ rightOnes l ↔ ∃ p ∈ l, p.1 ≠ p.2 ∧ q = norm p := by
  unfold rightOnes
  rw [List.mem_filterMap]
  constructor
  · rintro ⟨p, hp, e⟩
    split at e
    · cases e
    · rename_i hne
      simp at e
      exact ⟨p, hp, hne, e.symm⟩
  · rintro ⟨p, hp, hne, rfl⟩
    exact ⟨p, hp, by rw [if_neg hne]⟩
theorem mem_allP_right (hc : ∀ a b, f a b = f b a) (l : List β) (q : Pr) : q ∈ rightOnes (allP f hd [] l) ↔ ∃ a ∈ l, ∃ b ∈ l, hd a ≠ hd b ∧ f a b = true ∧ q = norm (hd a, hd b) := by
  rw [mem_right]
  constructor
  · rintro ⟨p, hp, hne, rfl⟩
    obtain ⟨a, ha, b, hb, hf, rfl⟩ := mem_allP f hd l [] p hp
    exact ⟨a, ha, b, by simpa using hb, hne, hf, rfl⟩
  · rintro ⟨a, ha, b, hb, hne, hf, rfl⟩
    rcases allP_has f hd hc l [] a b ha (by simpa using hb) hne hf with h | h
    · exact ⟨_, h, hne, rfl⟩
    · exact ⟨_, h, hne.symm, norm_comm _ _ hne⟩
end
/-- The pairs, in order: from whatever row of the set. -/
theorem pairs_same {K A : List Pr} (h : ∀ q, q ∈ rightOnes K ↔ q ∈ rightOnes A) : srt ltP (rightOnes K) = srt ltP (rightOnes A) :=
  srt_eq sto_pr (rise_srt sto_pr _) fun z => by rw [mem_srt sto_pr, h]
theorem right_KOf {L : List Spn} {K : List Pr} (h : ∀ q, q ∈ K ↔ PM L q) (q : Pr) : q ∈ rightOnes K ↔ PM L q := by
  rw [mem_right]
  constructor
  · rintro ⟨p, hp, _, rfl⟩
    have h1 := (h p).1 hp
    obtain ⟨a, ha, b, hb, hne, hm, e⟩ := h1
    refine ⟨a, ha, b, hb, hne, hm, ?_⟩
    rw [e, norm_norm hne]
  · intro h1
    have hq := (h q).2 h1
    obtain ⟨a, ha, b, hb, hne, hm, rfl⟩ := h1
    exact ⟨_, hq, norm_ne hne, (norm_norm hne).symm⟩
/-- The document's pairs of spans. -/
def allS (L : List Spn) : List Pr := allP (fun a b => meets a.2 b.2) (fun s => s.1) [] L
theorem mem_allS (L : List Spn) (q : Pr) : q ∈ rightOnes (allS L) ↔ PM L q := mem_allP_right _ _ (fun a b => meets_comm _ _) L q
def pairsL (L : List Spn) : List Pr := srt ltP (rightOnes (allS L))
theorem pairsL_of {L : List Spn} {K : List Pr} (h : ∀ q, q ∈ K ↔ PM L q) : srt ltP (rightOnes K) = pairsL L :=
  pairs_same fun q => by rw [right_KOf h, mem_allS]
end Go.Proofs.YtahichjiphjapaaGreatDoor

/-
  Appends at handles, pairs, ends; ends in memory.
-/
namespace Go.Proofs.YtahichjiphjapaaGreatDoor
set_option linter.unusedSimpArgs false
set_option linter.unusedVariables false
open Go.RowKit Go.Sort Go.Lib Go.Shelf

/-- An end's four cells. -/
def encE (e : En) : List Value := [.int .i64 e.1, .bool e.2.1, .int .i64 e.2.2.1, .int .i64 e.2.2.2]
theorem lenE (e : En) : (encE e).length = 4 := rfl
theorem oneE (e : En) : ∀ v ∈ encE e, v.oneCell' = true := fun v hv => by simp [encE] at hv; rcases hv with rfl | rfl | rfl | rfl <;> rfl
def aggE (e : En) : Value := .agg #[.int .i64 e.1, .bool e.2.1, .int .i64 e.2.2.1, .int .i64 e.2.2.2]
theorem atE {w : World} {l : List En} {g o : Nat} (h : ∀ j u, (flat encE l)[j]? = some u → w.cell? ⟨g, o + j, none⟩ = some u) {i : Nat} (hi : i < l.length) :
    w.cell? ⟨g, o + i * 4, none⟩ = some (.int .i64 l[i]!.1) ∧ w.cell? ⟨g, o + i * 4 + 1, none⟩ = some (.bool l[i]!.2.1) ∧ w.cell? ⟨g, o + i * 4 + 2, none⟩ = some (.int .i64 l[i]!.2.2.1) ∧ w.cell? ⟨g, o + i * 4 + 3, none⟩ = some (.int .i64 l[i]!.2.2.2) :=
  ⟨sl_at lenE h hi 0 _ rfl, sl_at lenE h hi 1 _ rfl, sl_at lenE h hi 2 _ rfl, sl_at lenE h hi 3 _ rfl⟩
end Go.Proofs.YtahichjiphjapaaGreatDoor

/-
  Of no program: boxes with their handles; a box taken away, a box put; what a tree holds, as a set.
-/
namespace Go.Proofs.YtahichjiphjapaaGreatDoor
set_option linter.unusedSimpArgs false
set_option linter.unusedVariables false

abbrev Bx4 := Int × Int × Int × Int
abbrev Bxd := Hd × Bx4
def woB (B : List Bxd) (h : Hd) : List Bxd := B.filter fun b => !decide (b.1 = h)
def OnceB (B : List Bxd) : Prop := (B.map (·.1)).Nodup
theorem mem_woB {B : List Bxd} {h : Hd} {y : Bxd} : y ∈ woB B h ↔ y ∈ B ∧ y.1 ≠ h := by simp [woB]
theorem woB_len (B : List Bxd) (h : Hd) : (woB B h).length ≤ B.length := List.length_filter_le _ _
theorem once_wo {B : List Bxd} (h : OnceB B) (x : Hd) : OnceB (woB B x) := List.Sublist.nodup (List.Sublist.map _ List.filter_sublist) h
theorem once_put {B : List Bxd} (h : OnceB B) (x : Hd) (b : Bx4) : OnceB (woB B x ++ [(x, b)]) := by
  unfold OnceB
  rw [List.map_append, List.nodup_append]
  refine ⟨once_wo h x, by simp, fun p hp q hq => ?_⟩
  obtain ⟨y, hy, rfl⟩ := List.mem_map.1 hp
  simp only [List.map_cons, List.map_nil, List.mem_singleton] at hq
  subst hq
  exact (mem_woB.1 hy).2
theorem OnceB.eq {B : List Bxd} (h : OnceB B) : ∀ {a b : Bxd}, a ∈ B → b ∈ B → a.1 = b.1 → a = b := by
  induction B with
  | nil => intro a b ha; cases ha
  | cons x r ih =>
    intro a b ha hb e
    obtain ⟨h1, h2⟩ := List.nodup_cons.1 h
    rcases List.mem_cons.1 ha with e1 | ha1
    · rcases List.mem_cons.1 hb with e2 | hb1
      · rw [e1, e2]
      · exact absurd (List.mem_map.2 ⟨b, hb1, by rw [← e, e1]⟩) h1
    · rcases List.mem_cons.1 hb with e2 | hb1
      · exact absurd (List.mem_map.2 ⟨a, ha1, by rw [e, e2]⟩) h1
      · exact ih h2 ha1 hb1 e
theorem OnceB.nodup {B : List Bxd} (h : OnceB B) : B.Nodup := List.Pairwise.of_map (·.1) (fun a b h e => h (by rw [e])) h
theorem put_len (B : List Bxd) (x : Hd) (b : Bx4) : (woB B x ++ [(x, b)]).length ≤ B.length + 1 := by
  rw [List.length_append]
  have := woB_len B x
  simp only [List.length_cons, List.length_nil]
  omega
/-- A handle's box, if it has one. -/
def boxF (B : List Bxd) (h : Hd) : Option Bx4 := (B.find? fun b => decide (b.1 = h)).map (·.2)
theorem boxF_none {B : List Bxd} {h : Hd} : boxF B h = none ↔ ∀ b ∈ B, b.1 ≠ h := by
  unfold boxF
  rw [Option.map_eq_none_iff, List.find?_eq_none]
  simp
theorem boxF_some {B : List Bxd} {h : Hd} {x : Bx4} (e : boxF B h = some x) : (h, x) ∈ B := by
  unfold boxF at e
  rw [Option.map_eq_some_iff] at e
  obtain ⟨b, hb, rfl⟩ := e
  have h1 := List.find?_some hb
  have h2 := List.mem_of_find?_eq_some hb
  simp only [decide_eq_true_eq] at h1
  subst h1
  exact h2
theorem boxF_mem {B : List Bxd} (ho : OnceB B) {h : Hd} {x : Bx4} (hm : (h, x) ∈ B) : boxF B h = some x := by
  cases hq : boxF B h with
  | none => exact absurd rfl (boxF_none.1 hq _ hm)
  | some y =>
    have := ho.eq (boxF_some hq) hm rfl
    rw [Prod.mk.injEq] at this
    rw [this.2]
theorem woB_none {B : List Bxd} {h : Hd} (hn : boxF B h = none) : woB B h = B := List.filter_eq_self.2 fun b hb => by simpa using boxF_none.1 hn b hb
theorem woB_one {B : List Bxd} (ho : OnceB B) {h : Hd} {x : Bx4} (hm : (h, x) ∈ B) : (woB B h).length + 1 = B.length := by
  induction B with
  | nil => cases hm
  | cons b r ih =>
    obtain ⟨h1, h2⟩ := List.nodup_cons.1 ho
    by_cases e : b.1 = h
    · have hr : woB r h = r := List.filter_eq_self.2 fun y hy => by
        have : y.1 ≠ h := fun q => h1 (List.mem_map.2 ⟨y, hy, q.trans e.symm⟩)
        simpa using this
      unfold woB at hr ⊢
      rw [List.filter_cons, if_neg (by simp [e]), hr]
      rfl
    · have hm' : (h, x) ∈ r := by
        rcases List.mem_cons.1 hm with q | q
        · exact absurd (by rw [← q]) e
        · exact q
      have := ih h2 hm'
      unfold woB at this ⊢
      rw [List.filter_cons, if_pos (by simp [e])]
      simp only [List.length_cons]
      omega
/-- A handle is not held, or its box goes. -/
theorem woB_cases {B : List Bxd} (ho : OnceB B) (h : Hd) : (boxF B h = none ∧ woB B h = B) ∨ ∃ b : Bx4, (h, b) ∈ B ∧ (woB B h).length + 1 = B.length := by
  cases hq : boxF B h with
  | none => exact .inl ⟨rfl, woB_none hq⟩
  | some b => exact .inr ⟨b, boxF_some hq, woB_one ho (boxF_some hq)⟩
/-- It holds just these, each handle once. -/
def Hv (S : Bxd → Prop) (B : List Bxd) : Prop := OnceB B ∧ ∀ y, y ∈ B ↔ S y
theorem Hv.none : Hv (fun _ => False) [] := ⟨List.nodup_nil, fun y => by simp⟩
theorem Hv.congr {S S' : Bxd → Prop} {B : List Bxd} (h : Hv S B) (hs : ∀ y, S' y ↔ S y) : Hv S' B := ⟨h.1, fun y => by rw [hs, h.2]⟩
theorem Hv.put {S S' : Bxd → Prop} {B : List Bxd} (h : Hv S B) (x : Hd) (b : Bx4) (hs : ∀ y, S' y ↔ (S y ∧ y.1 ≠ x) ∨ y = (x, b)) : Hv S' (woB B x ++ [(x, b)]) :=
  ⟨once_put h.1 x b, fun y => by rw [hs, List.mem_append, mem_woB, h.2, List.mem_singleton]⟩
theorem Hv.drop {S S' : Bxd → Prop} {B : List Bxd} (h : Hv S B) (x : Hd) (hs : ∀ y, S' y ↔ S y ∧ y.1 ≠ x) : Hv S' (woB B x) := ⟨once_wo h.1 x, fun y => by rw [hs, mem_woB, h.2]⟩
theorem Hv.len {S : Bxd → Prop} {A B : List Bxd} (ha : Hv S A) (hb : Hv S B) : A.length = B.length :=
  Nat.le_antisymm (nodup_sub_len ha.1.nodup fun x hx => (hb.2 x).2 ((ha.2 x).1 hx)) (nodup_sub_len hb.1.nodup fun x hx => (ha.2 x).2 ((hb.2 x).1 hx))
/-- The handles, rising. -/
def hdsB (B : List Bxd) : List Hd := srt ltH (B.map (·.1))
theorem Hv.hds {S : Bxd → Prop} {A B : List Bxd} (ha : Hv S A) (hb : Hv S B) : hdsB A = hdsB B := by
  refine srt_eq sto_hd (rise_srt sto_hd _) fun z => ?_
  unfold hdsB
  rw [mem_srt sto_hd, List.mem_map, List.mem_map]
  simp only [ha.2, hb.2]
theorem boxF_Hv {S : Bxd → Prop} {A B : List Bxd} (ha : Hv S A) (hb : Hv S B) (h : Hd) : boxF A h = boxF B h := by
  cases hq : boxF B h with
  | none => exact boxF_none.2 fun b hm => boxF_none.1 hq b ((hb.2 b).2 ((ha.2 b).1 hm))
  | some x => exact boxF_mem ha.1 ((ha.2 _).2 ((hb.2 _).1 (boxF_some hq)))
/-- Two boxes meet. -/
def meets4 (a q : Bx4) : Bool := !(decide (a.2.2.1 < q.1) || (decide (q.2.2.1 < a.1) || (decide (a.2.2.2 < q.2.1) || decide (q.2.2.2 < a.2.1))))
/-- The handles of those that meet a box, rising. -/
def meetL (B : List Bxd) (q : Bx4) : List Hd := srt ltH ((B.filter fun b => meets4 b.2 q).map (·.1))
theorem mem_meetL {B : List Bxd} {q : Bx4} {h : Hd} : h ∈ meetL B q ↔ ∃ b ∈ B, meets4 b.2 q = true ∧ b.1 = h := by
  rw [meetL, mem_srt sto_hd, List.mem_map]
  simp only [List.mem_filter]
  exact ⟨fun ⟨b, h1, h2⟩ => ⟨b, h1.1, h1.2, h2⟩, fun ⟨b, h1, h2, h3⟩ => ⟨b, ⟨h1, h2⟩, h3⟩⟩
theorem meetL_take {B : List Bxd} {k : Nat} (hk : k < B.length) (q : Bx4) : ((B.take (k + 1)).filter fun b => meets4 b.2 q).map (·.1) = ((B.take k).filter fun b => meets4 b.2 q).map (·.1) ++ (if meets4 B[k]!.2 q = true then [B[k]!.1] else []) := by
  rw [List.take_succ_eq_append_getElem hk, List.filter_append, List.map_append, getElem!_pos B k hk]
  congr 1
  by_cases e : meets4 B[k].2 q = true <;> simp [List.filter_cons, e]
end Go.Proofs.YtahichjiphjapaaGreatDoor

/-
  Of no program: cells, the cell of a box, the nodes of boxes in order.
-/
namespace Go.Proofs.YtahichjiphjapaaGreatDoor
set_option linter.unusedSimpArgs false
set_option linter.unusedVariables false

/-- A cell: its depth, column and row. -/
abbrev Cl := Int × Int × Int
def sideI (d : Nat) : Int := [4194304, 2097152, 1048576, 524288, 262144, 131072, 65536, 32768, 16384].getD d 0
def pwI (d : Nat) : Int := [1, 2, 4, 8, 16, 32, 64, 128, 256].getD d 0
theorem le8 {d : Nat} (h : d ≤ 8) : d = 0 ∨ d = 1 ∨ d = 2 ∨ d = 3 ∨ d = 4 ∨ d = 5 ∨ d = 6 ∨ d = 7 ∨ d = 8 := by omega
theorem side_half {d : Nat} (h : d < 8) : sideI (d + 1) = sideI d / 2 ∧ sideI (d + 1) * 2 = sideI d ∧ 0 < sideI (d + 1) ∧ sideI d ≤ 4194304 := by
  rcases (show d = 0 ∨ d = 1 ∨ d = 2 ∨ d = 3 ∨ d = 4 ∨ d = 5 ∨ d = 6 ∨ d = 7 by omega) with rfl | rfl | rfl | rfl | rfl | rfl | rfl | rfl <;> decide
theorem side_pw {d : Nat} (h : d ≤ 8) : sideI d * pwI d = 4194304 ∧ 16384 ≤ sideI d ∧ sideI d ≤ 4194304 ∧ 1 ≤ pwI d ∧ pwI d ≤ 256 := by
  rcases le8 h with rfl | rfl | rfl | rfl | rfl | rfl | rfl | rfl | rfl <;> decide
/-- Which of so many stretches of a side a number lies in. -/
def colI (n : Int) (d : Nat) : Int := min ((n + 2097152) / sideI d) (pwI d - 1)
theorem col_step {n : Int} {d : Nat} (hd : d ≤ 8) (hn : -2097152 ≤ n) (k : Int) (hk : 0 ≤ k) : (k + 1 < pwI d ∧ -2097152 + (k + 1) * sideI d ≤ n) ↔ k < colI n d := by
  unfold colI
  rcases le8 hd with rfl | rfl | rfl | rfl | rfl | rfl | rfl | rfl | rfl
  all_goals
    simp only [sideI, pwI, List.getD_cons_zero, List.getD_cons_succ]
    omega
theorem col_bounds {n : Int} {d : Nat} (hd : d ≤ 8) (hn : -2097152 ≤ n) : 0 ≤ colI n d ∧ colI n d < pwI d ∧ colI n d ≤ 255 := by
  unfold colI
  rcases le8 hd with rfl | rfl | rfl | rfl | rfl | rfl | rfl | rfl | rfl
  all_goals
    simp only [sideI, pwI, List.getD_cons_zero, List.getD_cons_succ]
    omega
/-- A number lies in its stretch. -/
theorem col_in {n : Int} {d : Nat} (hd : d ≤ 8) (hn : -2097152 ≤ n) (hm : n ≤ 2097152) : -2097152 + colI n d * sideI d ≤ n ∧ n ≤ -2097152 + colI n d * sideI d + sideI d := by
  unfold colI
  rcases le8 hd with rfl | rfl | rfl | rfl | rfl | rfl | rfl | rfl | rfl
  all_goals
    simp only [sideI, pwI, List.getD_cons_zero, List.getD_cons_succ]
    omega
/-- The greatest depth of k at most whose side is at least the width and the height. -/
def dK (wd ht : Int) : Nat → Nat
  | 0 => 0
  | k + 1 => if wd ≤ sideI (k + 1) ∧ ht ≤ sideI (k + 1) then k + 1 else dK wd ht k
theorem dK_le (wd ht : Int) : ∀ k, dK wd ht k ≤ k
  | 0 => Nat.le_refl _
  | k + 1 => by
    unfold dK
    split
    · exact Nat.le_refl _
    · exact Nat.le_succ_of_le (dK_le wd ht k)
theorem dK_fits {wd ht : Int} : ∀ k, 0 < dK wd ht k → wd ≤ sideI (dK wd ht k) ∧ ht ≤ sideI (dK wd ht k)
  | 0, h => by simp [dK] at h
  | k + 1, h => by
    unfold dK at h ⊢
    split
    · assumption
    · rename_i hc
      rw [if_neg hc] at h
      exact dK_fits k h
theorem dK_most {wd ht : Int} : ∀ {k j : Nat}, j ≤ k → wd ≤ sideI j ∧ ht ≤ sideI j → j ≤ dK wd ht k
  | 0, j, hj, _ => by omega
  | k + 1, j, hj, hf => by
    unfold dK
    split
    · exact hj
    · rename_i hc
      rcases Nat.lt_or_ge k j with h | h
      · obtain rfl : j = k + 1 := by omega
        exact absurd hf hc
      · exact dK_most h hf
def wide (b : Bx4) : Int := b.2.2.1 - b.1
def high (b : Bx4) : Int := b.2.2.2 - b.2.1
def depthB (b : Bx4) : Nat := dK (wide b) (high b) 8
theorem depth_le (b : Bx4) : depthB b ≤ 8 := dK_le _ _ 8
/-- Half of a number, rounded down. -/
def halfI (n : Int) : Int := n / 2
def cellB (b : Bx4) : Cl := (depthB b, colI (halfI (b.1 + b.2.2.1)) (depthB b), colI (halfI (b.2.1 + b.2.2.2)) (depthB b))
/-- Is a box right; does it lie in the world's square? -/
def okR (b : Bx4) : Bool := decide (-4194304 ≤ b.1) && decide (b.1 ≤ 4194304) && decide (-4194304 ≤ b.2.1) && decide (b.2.1 ≤ 4194304) && decide (-4194304 ≤ b.2.2.1) && decide (b.2.2.1 ≤ 4194304) && decide (-4194304 ≤ b.2.2.2) && decide (b.2.2.2 ≤ 4194304) && decide (b.1 ≤ b.2.2.1) && decide (b.2.1 ≤ b.2.2.2)
def okW (b : Bx4) : Bool := decide (-2097152 ≤ b.1) && decide (b.1 ≤ 2097152) && decide (-2097152 ≤ b.2.1) && decide (b.2.1 ≤ 2097152) && decide (-2097152 ≤ b.2.2.1) && decide (b.2.2.1 ≤ 2097152) && decide (-2097152 ≤ b.2.2.2) && decide (b.2.2.2 ≤ 2097152)
theorem okR_iff {b : Bx4} : okR b = true ↔ (-4194304 ≤ b.1 ∧ b.1 ≤ 4194304 ∧ -4194304 ≤ b.2.1 ∧ b.2.1 ≤ 4194304 ∧ -4194304 ≤ b.2.2.1 ∧ b.2.2.1 ≤ 4194304 ∧ -4194304 ≤ b.2.2.2 ∧ b.2.2.2 ≤ 4194304 ∧ b.1 ≤ b.2.2.1 ∧ b.2.1 ≤ b.2.2.2) := by
  unfold okR
  simp only [Bool.and_eq_true, decide_eq_true_eq, and_assoc]
theorem okW_iff {b : Bx4} : okW b = true ↔ (-2097152 ≤ b.1 ∧ b.1 ≤ 2097152 ∧ -2097152 ≤ b.2.1 ∧ b.2.1 ≤ 2097152 ∧ -2097152 ≤ b.2.2.1 ∧ b.2.2.1 ≤ 2097152 ∧ -2097152 ≤ b.2.2.2 ∧ b.2.2.2 ≤ 2097152) := by
  unfold okW
  simp only [Bool.and_eq_true, decide_eq_true_eq, and_assoc]
/-- The error's number of a box. -/
def errB (b : Bx4) : Int := if okR b = true then (if okW b = true then 0 else 1) else 7
theorem errB_zero {b : Bx4} : errB b = 0 ↔ okR b = true ∧ okW b = true := by
  unfold errB
  split
  · split <;> simp [*]
  · simp [*]
def cellE (b : Bx4) : Cl := if errB b = 0 then cellB b else (0, 0, 0)
/-- Is it a cell? -/
def rightC (c : Cl) : Bool := decide (0 ≤ c.1) && decide (c.1 ≤ 8) && decide (0 ≤ c.2.1) && decide (0 ≤ c.2.2) && decide (c.2.1 < pwI c.1.toNat) && decide (c.2.2 < pwI c.1.toNat)
/-- A cell's loose box. -/
def looseC (c : Cl) : Bx4 := (c.2.1 * sideI c.1.toNat - 2097152 - sideI c.1.toNat / 2, c.2.2 * sideI c.1.toNat - 2097152 - sideI c.1.toNat / 2, c.2.1 * sideI c.1.toNat - 2097152 + sideI c.1.toNat + sideI c.1.toNat / 2, c.2.2 * sideI c.1.toNat - 2097152 + sideI c.1.toNat + sideI c.1.toNat / 2)
theorem cell_right {b : Bx4} (hR : okR b = true) (hW : okW b = true) : rightC (cellB b) = true := by
  obtain ⟨w1, w2, w3, w4, w5, w6, w7, w8⟩ := okW_iff.1 hW
  obtain ⟨_, _, _, _, _, _, _, _, r1, r2⟩ := okR_iff.1 hR
  have h1 := depth_le b
  have h2 := col_bounds h1 (show -2097152 ≤ halfI (b.1 + b.2.2.1) by unfold halfI; omega)
  have h3 := col_bounds h1 (show -2097152 ≤ halfI (b.2.1 + b.2.2.2) by unfold halfI; omega)
  unfold rightC cellB
  simp only [Bool.and_eq_true, decide_eq_true_eq, Int.toNat_natCast]
  omega
/-- A box lies in its cell's loose box. -/
theorem in_loose {b : Bx4} (hR : okR b = true) (hW : okW b = true) : (looseC (cellB b)).1 ≤ b.1 ∧ (looseC (cellB b)).2.1 ≤ b.2.1 ∧ b.2.2.1 ≤ (looseC (cellB b)).2.2.1 ∧ b.2.2.2 ≤ (looseC (cellB b)).2.2.2 := by
  obtain ⟨w1, w2, w3, w4, w5, w6, w7, w8⟩ := okW_iff.1 hW
  obtain ⟨_, _, _, _, _, _, _, _, r1, r2⟩ := okR_iff.1 hR
  have h1 := depth_le b
  have h2 := col_in h1 (show -2097152 ≤ halfI (b.1 + b.2.2.1) by unfold halfI; omega) (by unfold halfI; omega)
  have h3 := col_in h1 (show -2097152 ≤ halfI (b.2.1 + b.2.2.2) by unfold halfI; omega) (by unfold halfI; omega)
  have hf : wide b ≤ sideI (depthB b) ∧ high b ≤ sideI (depthB b) := by
    rcases Nat.eq_zero_or_pos (depthB b) with e | e
    · rw [e]
      unfold wide high
      exact ⟨show _ ≤ (4194304 : Int) by omega, show _ ≤ (4194304 : Int) by omega⟩
    · exact dK_fits 8 e
  obtain ⟨f1, f2⟩ := hf
  unfold wide at f1
  unfold high at f2
  unfold looseC cellB
  simp only [Int.toNat_natCast]
  unfold halfI at h2 h3 ⊢
  have hs : sideI (depthB b) / 2 * 2 = sideI (depthB b) := by
    rcases le8 h1 with e | e | e | e | e | e | e | e | e <;> rw [e] <;> decide
  generalize sideI (depthB b) = s at *
  generalize colI ((b.1 + b.2.2.1) / 2) (depthB b) * s = X at *
  generalize colI ((b.2.1 + b.2.2.2) / 2) (depthB b) * s = Y at *
  generalize hg : s / 2 = g at *
  omega
/-- The cell above. -/
def upC (c : Cl) : Cl := (c.1 - 1, c.2.1 / 2, c.2.2 / 2)
theorem up_right {c : Cl} (h : rightC c = true) (hd : 0 < c.1) : rightC (upC c) = true := by
  obtain ⟨d, x, y⟩ := c
  unfold rightC upC at *
  simp only [Bool.and_eq_true, decide_eq_true_eq] at *
  obtain ⟨⟨⟨⟨⟨h1, h2⟩, h3⟩, h4⟩, h5⟩, h6⟩ := h
  obtain ⟨k, rfl⟩ : ∃ k : Nat, d = (k : Int) := ⟨d.toNat, by omega⟩
  have hk : k ≤ 8 := by omega
  rcases le8 hk with rfl | rfl | rfl | rfl | rfl | rfl | rfl | rfl | rfl
  all_goals
    simp [pwI] at *
    try omega
theorem in_up {c : Cl} (h : rightC c = true) (hd : 0 < c.1) : (looseC (upC c)).1 ≤ (looseC c).1 ∧ (looseC (upC c)).2.1 ≤ (looseC c).2.1 ∧ (looseC c).2.2.1 ≤ (looseC (upC c)).2.2.1 ∧ (looseC c).2.2.2 ≤ (looseC (upC c)).2.2.2 := by
  obtain ⟨d, x, y⟩ := c
  unfold rightC at h
  unfold looseC upC
  simp only [Bool.and_eq_true, decide_eq_true_eq] at *
  obtain ⟨⟨⟨⟨⟨h1, h2⟩, h3⟩, h4⟩, h5⟩, h6⟩ := h
  obtain ⟨k, rfl⟩ : ∃ k : Nat, d = (k : Int) := ⟨d.toNat, by omega⟩
  have hk : k ≤ 8 := by omega
  rcases le8 hk with rfl | rfl | rfl | rfl | rfl | rfl | rfl | rfl | rfl
  all_goals
    simp [sideI] at *
    try omega
/-- The order of nodes. -/
def ltC (a b : Cl) : Bool := decide (a.1 < b.1) || (decide (a.1 = b.1) && (decide (a.2.2 < b.2.2) || (decide (a.2.2 = b.2.2) && decide (a.2.1 < b.2.1))))
theorem sto_cl : STO ltC where
  irrefl x := by simp [ltC]
  trans x y z h1 h2 := by
    simp only [ltC, Bool.or_eq_true, Bool.and_eq_true, decide_eq_true_eq] at *
    omega
  total x y h1 h2 := by
    obtain ⟨x1, x2, x3⟩ := x
    obtain ⟨y1, y2, y3⟩ := y
    simp only [ltC, Bool.or_eq_false_iff, Bool.and_eq_false_imp, decide_eq_false_iff_not, decide_eq_true_eq] at h1 h2
    have : x1 = y1 ∧ x2 = y2 ∧ x3 = y3 := by omega
    rw [this.1, this.2.1, this.2.2]
/-- A cell and all above it, but the whole square. -/
def chain : Nat → Int → Int → List Cl
  | 0, _, _ => []
  | d + 1, x, y => (((d + 1 : Nat) : Int), x, y) :: chain d (x / 2) (y / 2)
theorem chain_len : ∀ (d : Nat) (x y : Int), (chain d x y).length = d
  | 0, _, _ => rfl
  | d + 1, x, y => by simp [chain, chain_len d]
def chainB (b : Bx4) : List Cl := chain (cellE b).1.toNat (cellE b).2.1 (cellE b).2.2
/-- The nodes of boxes, as they come; and in order. -/
def nodeL (B : List Bxd) : List Cl := (0, 0, 0) :: B.flatMap fun b => chainB b.2
def nodesB (B : List Bxd) : List Cl := srt ltC (nodeL B)
theorem nodeL_take {B : List Bxd} {k : Nat} (hk : k < B.length) : nodeL (B.take (k + 1)) = nodeL (B.take k) ++ chainB B[k]!.2 := by
  unfold nodeL
  rw [List.take_succ_eq_append_getElem hk, List.flatMap_append, getElem!_pos B k hk]
  simp
theorem chainB_len (b : Bx4) : (chainB b).length ≤ 8 := by
  unfold chainB cellE
  rw [chain_len]
  split
  · unfold cellB
    simp only [Int.toNat_natCast]
    exact depth_le b
  · simp
theorem nodeL_len : ∀ B : List Bxd, (nodeL B).length ≤ 8 * B.length + 1
  | [] => by simp [nodeL]
  | b :: r => by
    have h1 := nodeL_len r
    have h2 := chainB_len b.2
    unfold nodeL at *
    simp only [List.flatMap_cons, List.length_cons, List.length_append] at *
    omega
theorem mem_nodesB {B : List Bxd} {c : Cl} : c ∈ nodesB B ↔ c = (0, 0, 0) ∨ ∃ b ∈ B, c ∈ chainB b.2 := by
  rw [nodesB, mem_srt sto_cl]
  unfold nodeL
  rw [List.mem_cons, List.mem_flatMap]
theorem Hv.nodes {S : Bxd → Prop} {A B : List Bxd} (ha : Hv S A) (hb : Hv S B) : nodesB A = nodesB B := by
  refine srt_eq sto_cl (rise_srt sto_cl _) fun z => ?_
  have h1 := mem_nodesB (B := B) (c := z)
  have h2 := mem_nodesB (B := A) (c := z)
  rw [h1, ← mem_srt sto_cl (nodeL A), show srt ltC (nodeL A) = nodesB A from rfl, h2]
  simp only [ha.2, hb.2]
theorem nodesB_nil : nodesB [] = [(0, 0, 0)] := rfl
end Go.Proofs.YtahichjiphjapaaGreatDoor

/-
  append for handles and cells; rows of cells.
-/
namespace Go.Proofs.YtahichjiphjapaaGreatDoor
set_option linter.unusedSimpArgs false
set_option linter.unusedVariables false
open Go.RowKit Go.Sort Go.Lib Go.Shelf

theorem apH : Ap encH 30 42 2 (.agg #[.int .i64 0, .int .i64 0]) 16 :=
  ⟨Tryz.underlying30, info_parts (by kernel_rfl), by decide, by decide, by decide, lenH, oneH⟩
def encC (c : Cl) : List Value := [.int .i64 c.1, .int .i64 c.2.1, .int .i64 c.2.2]
theorem lenC (c : Cl) : (encC c).length = 3 := rfl
theorem oneC (c : Cl) : ∀ v ∈ encC c, v.oneCell' = true := fun v hv => by simp [encC] at hv; rcases hv with rfl | rfl | rfl <;> rfl
theorem atC {w : World} {l : List Cl} {g o : Nat} (h : ∀ j u, (flat encC l)[j]? = some u → w.cell? ⟨g, o + j, none⟩ = some u) {i : Nat} (hi : i < l.length) :
    w.cell? ⟨g, o + i * 3, none⟩ = some (.int .i64 l[i]!.1) ∧ w.cell? ⟨g, o + i * 3 + 1, none⟩ = some (.int .i64 l[i]!.2.1) ∧ w.cell? ⟨g, o + i * 3 + 2, none⟩ = some (.int .i64 l[i]!.2.2) :=
  ⟨sl_at lenC h hi 0 _ rfl, sl_at lenC h hi 1 _ rfl, sl_at lenC h hi 2 _ rfl⟩
end Go.Proofs.YtahichjiphjapaaGreatDoor

/-
  Objects of the call's own, one or several side by side, off the blocks Z (of no package: stage 11's).
-/
namespace Go.Proofs.YtahichjiphjapaaGreatDoor
set_option linter.unusedSimpArgs false
set_option linter.unusedVariables false
open Go.RowKit Go.Sort Go.Lib Go.Shelf

section
variable {M R : Nat → Prop} {w w' : World}
theorem Tch.fresh (h : Tch M w w') {p : Addr} (hp : w.heap.size ≤ p.block) (u : Value) : Tch M w (w'.setCell p u) :=
  ⟨h.os, h.tape, h.output, by simpa using h.size, fun k hk hn => (heap_setCell_other w' p k u (by omega)).trans (h.block k hk hn)⟩
theorem Tch.alloc (h : Tch M w w') (o : Obj) : Tch M w (w'.alloc o) := h.more (Tch.of (Ba (Below.refl _ _) o))
theorem Tch.drew (h : Tch M w w') : Tch M w w'.drew := ⟨h.os, h.tape, h.output, h.size, h.block⟩
theorem Tch.bel (h : Tch M w w') {w2 : World} (hb : RowKit.Below w'.heap.size w' w2) : Tch M w w2 := h.more (Tch.of hb)
theorem Tch.blk (h : Tch M w w') {b : Nat} {o : Obj} (hb : w.heap[b]? = some o) (hn : ¬ M b) : w'.heap[b]? = some o := (h.block b (Array.getElem?_eq_some_iff.1 hb).1 hn).trans hb
theorem Tch.lt (h : Tch M w w') {b : Nat} (hb : b < w.heap.size) : b < w'.heap.size := Nat.lt_of_lt_of_le hb h.size
theorem one_cell {pa : Nat} {a : Value} {t : Nat} (h : w.heap[pa]? = some (.cells #[a] t (0, 0))) : w.cell? ⟨pa, 0, none⟩ = some a ∧ w.frozen? ⟨pa, 0, none⟩ = false := by
  simp [World.cell?, World.frozen?, h]
theorem three_cells {pa : Nat} {a b c : Value} {t : Nat} (h : w.heap[pa]? = some (.cells #[a, b, c] t (0, 0))) : (w.cell? ⟨pa, 0, none⟩ = some a ∧ w.cell? ⟨pa, 1, none⟩ = some b ∧ w.cell? ⟨pa, 2, none⟩ = some c) ∧ w.frozen? ⟨pa, 2, none⟩ = false := by
  simp [World.cell?, World.frozen?, h]
end
section
variable {α : Type} [Inhabited α] {enc : α → List Value} {et k : Nat} {w : World}
theorem row_cellsK (hk : ∀ x, (enc x).length = k) {base g n cap : Nat} {l : List α} (h : w.ownsRow base et k (.slice (some ⟨g, 0, none⟩) n cap) n (flat enc l)) {i : Nat} (hi : i < l.length) : ∀ c u, (enc l[i]!)[c]? = some u → w.cell? ⟨g, i * k + c, none⟩ = some u := fun c u hu => by
  have hc : c < k := by have := (List.getElem?_eq_some_iff.1 hu).1; rwa [hk] at this
  have := cellsI h (i * k + c) u ((flat_get hk l i c hi hc).trans hu)
  rwa [Nat.zero_add] at this
end
/-- Below base and at Z nothing has changed. -/
def OffZ (Z : Nat → Prop) (base : Nat) : Nat → Prop := fun b => base ≤ b ∧ ¬ Z b
abbrev NoZ : Nat → Prop := fun _ => False
abbrev Ob := World → (Nat → Prop) → Prop
structure Fr (P : Ob) : Prop where
  kept : ∀ {w w' : World} {R M : Nat → Prop}, P w R → Tch M w w' → (∀ b, R b → ¬ M b) → P w' R
  mono : ∀ {w : World} {M M' : Nat → Prop}, P w M → (∀ b, M b → M' b) → P w M'
/-- Two objects, apart from one another. -/
def And2 (P Q : Ob) : Ob := fun w M => ∃ M1 M2, P w M1 ∧ Q w M2 ∧ (∀ b, M1 b → M b ∧ ¬ M2 b) ∧ ∀ b, M2 b → M b
def OO (P : Ob) (Z : Nat → Prop) (base : Nat) (w : World) : Prop := ∃ M, P w M ∧ (∀ b, M b → base ≤ b ∧ ¬ Z b ∧ b < w.heap.size) ∧ (∀ b, Z b → b < w.heap.size) ∧ base ≤ w.heap.size
section
variable {P P' Q : Ob} {Z Z' : Nat → Prop} {base : Nat} {w w' : World}
theorem fr_and (hP : Fr P) (hQ : Fr Q) : Fr (And2 P Q) where
  kept h t hd := by
    obtain ⟨M1, M2, h1, h2, h3, h4⟩ := h
    exact ⟨M1, M2, hP.kept h1 t (fun b e => hd b (h3 b e).1), hQ.kept h2 t (fun b e => hd b (h4 b e)), h3, h4⟩
  mono h hM := by
    obtain ⟨M1, M2, h1, h2, h3, h4⟩ := h
    exact ⟨M1, M2, h1, h2, fun b e => ⟨hM b (h3 b e).1, (h3 b e).2⟩, fun b e => hM b (h4 b e)⟩
theorem Fr.below (hP : Fr P) {R : Nat → Prop} (h : P w R) (t : RowKit.Below w.heap.size w w') : P w' R := hP.kept (M := fun _ => False) h (Tch.of t) (fun _ _ e => e)
theorem OO.below (hP : Fr P) (h : OO P Z base w) (t : RowKit.Below w.heap.size w w') : OO P Z base w' := by
  obtain ⟨M, h1, h2, h3, h4⟩ := h
  exact ⟨M, hP.below h1 t, fun b e => ⟨(h2 b e).1, (h2 b e).2.1, Nat.lt_of_lt_of_le (h2 b e).2.2 t.size⟩, fun b e => Nat.lt_of_lt_of_le (h3 b e) t.size, Nat.le_trans h4 t.size⟩
theorem OO.turn (hP : Fr P) (h : OO P Z base w) (t : Tch Z w w') (hZ : ∀ b, Z' b → (Z b ∨ b < base ∨ w.heap.size ≤ b) ∧ b < w'.heap.size) : OO P Z' base w' := by
  obtain ⟨M, h1, h2, h3, h4⟩ := h
  refine ⟨M, hP.kept h1 t (fun b e => (h2 b e).2.1), fun b e => ⟨(h2 b e).1, fun z => ?_, t.lt (h2 b e).2.2⟩, fun b e => (hZ b e).2, Nat.le_trans h4 t.size⟩
  have h6 := h2 b e
  rcases (hZ b z).1 with c | c | c
  · exact h6.2.1 c
  · omega
  · omega
theorem OO.lo (h : OO P Z base w) : base ≤ w.heap.size := h.choose_spec.2.2.2
theorem OO.zlt (h : OO P Z base w) : ∀ b, Z b → b < w.heap.size := h.choose_spec.2.2.1
theorem OO.imp (h : OO P Z base w) (hi : ∀ M, P w M → P' w M) : OO P' Z base w := by
  obtain ⟨M, h1, h2⟩ := h
  exact ⟨M, hi M h1, h2⟩
theorem OO.new (hp : P w' (Fresh w w')) (hb : base ≤ w.heap.size) (hs : w.heap.size ≤ w'.heap.size) (hZ : ∀ b, Z b → b < w.heap.size) : OO P Z base w' :=
  ⟨_, hp, fun b e => e.elim (fun e => e.elim) (fun e => ⟨by omega, fun z => by have := hZ b z; omega, e.2⟩), fun b e => Nat.lt_of_lt_of_le (hZ b e) hs, Nat.le_trans hb hs⟩
/-- Another one is made. -/
theorem OO.beside (hP : Fr P) (hQ : Fr Q) (h : OO P Z base w) (hq : Q w' (Fresh w w')) (hb : RowKit.Below w.heap.size w w') : OO (And2 P Q) Z base w' := by
  obtain ⟨M, h1, h2, h3, h4⟩ := h
  refine ⟨fun b => M b ∨ Fresh w w' b, ⟨M, Fresh w w', hP.below h1 hb, hq, fun b e => ⟨.inl e, fun f => f.elim (fun f => f.elim) (fun f => by have := (h2 b e).2.2; omega)⟩, fun b e => .inr e⟩, fun b e => ?_, fun b e => Nat.lt_of_lt_of_le (h3 b e) hb.size, Nat.le_trans h4 hb.size⟩
  rcases e with e | e
  · exact ⟨(h2 b e).1, (h2 b e).2.1, Nat.lt_of_lt_of_le (h2 b e).2.2 hb.size⟩
  · exact e.elim (fun e => e.elim) (fun e => ⟨by omega, fun z => by have := h3 b z; omega, e.2⟩)
/-- What a call on the object is to say. -/
def Asks (base : Nat) (w : World) (P P' : Ob) (fn : FuncId) (args : Array Value) (E : Ending → Prop) : Prop :=
  ∀ M, (∀ b, M b → base ≤ b ∧ b < w.heap.size) → P w M → Calls Tryz.prog fn args w fun e w' => E e ∧ P' w' (New M w w') ∧ Tch M w w'
theorem OO.ask {E : Ending → Prop} {fn : FuncId} {args : Array Value} (h : OO P Z base w) (hc : Asks base w P P' fn args E) :
    Calls Tryz.prog fn args w fun e w' => E e ∧ OO P' Z base w' ∧ Tch (OffZ Z base) w w' := by
  obtain ⟨M, h1, h2, h3, h4⟩ := h
  refine (hc M (fun b e => ⟨(h2 b e).1, (h2 b e).2.2⟩) h1).mono fun e w' ⟨he, hT, ht⟩ => ⟨he, ⟨_, hT, fun b e => ?_, fun b e => ht.lt (h3 b e), Nat.le_trans h4 ht.size⟩, ht.mono fun b e => ⟨(h2 b e).1, (h2 b e).2.1⟩⟩
  rcases e with e | e
  · exact ⟨(h2 b e).1, (h2 b e).2.1, ht.lt (h2 b e).2.2⟩
  · exact ⟨by omega, fun c => by have := h3 b c; omega, e.2⟩
theorem asks_1 {E : Ending → Prop} {fn : FuncId} {args : Array Value} (hQ : Fr Q) (hc : Asks base w P P' fn args E) : Asks base w (And2 P Q) (And2 P' Q) fn args E := fun M hM h => by
  obtain ⟨M1, M2, h1, h2, h3, h4⟩ := h
  refine (hc M1 (fun b e => hM b (h3 b e).1) h1).mono fun e w' ⟨he, hT, ht⟩ => ⟨he, ⟨New M1 w w', M2, hT, hQ.kept h2 ht (fun b e f => (h3 b f).2 e), fun b e => ?_, fun b e => .inl (h4 b e)⟩, ht.mono fun b e => (h3 b e).1⟩
  rcases e with e | e
  · exact ⟨.inl (h3 b e).1, (h3 b e).2⟩
  · exact ⟨.inr e, fun f => by have := (hM b (h4 b f)).2; omega⟩
theorem asks_2 {E : Ending → Prop} {fn : FuncId} {args : Array Value} {Q' : Ob} (hP : Fr P) (hc : Asks base w Q Q' fn args E) : Asks base w (And2 P Q) (And2 P Q') fn args E := fun M hM h => by
  obtain ⟨M1, M2, h1, h2, h3, h4⟩ := h
  refine (hc M2 (fun b e => hM b (h4 b e)) h2).mono fun e w' ⟨he, hT, ht⟩ => ⟨he, ⟨M1, New M2 w w', hP.kept h1 ht (fun b e f => (h3 b e).2 f), hT, fun b e => ?_, fun b e => ?_⟩, ht.mono fun b e => h4 b e⟩
  · exact ⟨.inl (h3 b e).1, fun f => f.elim (h3 b e).2 (fun f => by have := (hM b (h3 b e).1).2; omega)⟩
  · rcases e with e | e
    · exact .inl (h4 b e)
    · exact .inr e
theorem OO.read {X : Ending → World → Prop} {fn : FuncId} {args : Array Value} (h : OO P Z base w) (hc : ∀ M, P w M → Calls Tryz.prog fn args w X) : Calls Tryz.prog fn args w X := hc _ h.choose_spec.1
theorem OO.tch (h : Tch (OffZ Z base) w w') (hb : base ≤ w.heap.size) : RowKit.Below base w w' := Tch.below h (fun _ e => e.1) hb
end
/-- A call that leaves the object as it is. -/
theorem asks_same {P : Ob} (hP : Fr P) {base : Nat} {w : World} {fn : FuncId} {args : Array Value} {E : Ending → Prop} (hc : ∀ M, P w M → Calls Tryz.prog fn args w fun e w' => E e ∧ RowKit.Below w.heap.size w w') : Asks base w P P fn args E := fun M _ h =>
  (hc M h).mono fun e w' ⟨he, hb⟩ => ⟨he, hP.mono (hP.below h hb) (fun b e => .inl e), Tch.of hb⟩
theorem three_blk {w : World} {o1 o2 : Obj} {w3 : World} (h : RowKit.Below ((w.alloc o1).alloc o2).heap.size ((w.alloc o1).alloc o2) w3) : w3.heap[w.heap.size]? = some o1 ∧ w3.heap[w.heap.size + 1]? = some o2 := by
  have k1 := blk_below (heap_alloc_new w o1) (Ba (Below.refl _ _) o2)
  have k2 := heap_alloc_new (w.alloc o1) o2
  rw [show (w.alloc o1).heap.size = w.heap.size + 1 by simp] at k2
  exact ⟨blk_below k1 h, blk_below k2 h⟩
theorem cells3 {w : World} {b : Nat} {t : TypeId} {a1 a2 a3 : Value} (h : w.heap[b]? = some (.cells #[a1, a2, a3] t (0, 0))) :
    (w.cell? ⟨b, 0, none⟩ = some a1 ∧ w.cell? ⟨b, 1, none⟩ = some a2 ∧ w.cell? ⟨b, 2, none⟩ = some a3) ∧ w.frozen? ⟨b, 0, none⟩ = false ∧ w.frozen? ⟨b, 1, none⟩ = false ∧ w.frozen? ⟨b, 2, none⟩ = false := by
  refine ⟨⟨?_, ?_, ?_⟩, ?_, ?_, ?_⟩ <;> simp [World.cell?, World.frozen?, h]
theorem row_base0 {w : World} {b0 et k n : Nat} {v : Value} {xs : List Value} (h : w.ownsRow b0 et k v n xs) {g : Nat} (hg : v.ownBlock = some g) : b0 ≤ g := by
  rcases h.2 with ⟨rfl, _⟩ | ⟨g', cap, cur, rfl, hb, hh, _⟩
  · simp [Value.ownBlock] at hg
  · simp only [Value.ownBlock, Option.some.injEq] at hg
    subst hg
    exact hb
theorem own_rowat {α : Type} {enc : α → List Value} {et k : Nat} {w : World} {base : Nat} {v : Value} {l : List α} {Z : Nat → Prop} (h : w.ownsRow base et k v l.length (flat enc l)) (hz : ∀ b, base ≤ b → b < w.heap.size → Z b) : RowAt enc et k w Z v l := ⟨row_mono h (Nat.zero_le _), fun g hg => hz g (row_base0 h hg) (row_lt h hg)⟩
end Go.Proofs.YtahichjiphjapaaGreatDoor
