import Derived.Lib.Small
import Derived.Test.YtaehendpdfpibaaGreatDoorProg
import Derived.Shelf.SlSortCmp.KitK
import Derived.WalkKit
import Derived.WalkSpells
import Derived.WalkLawsBesides
import Derived.KernelRfl
import Derived.Deep.RegionHeld3
import Derived.Deep.QuietTactic
import Derived.Deep.AppendLies
import Derived.BigQuiet
import Derived.RegionTactic
import Derived.Lib.Hide
import Derived.LaidEql
import Derived.Stop.Asserts
import Derived.RowKitTokens
import Derived.LoopTactic
import Derived.Lib.TrailingZeros
import Derived.Deep.Upon
import Derived.Maps.AppendAt
import Derived.OwnWalk
import Derived.Deep.RegionLaw
import Derived.Laws.OwnMore
import Derived.IntWalk
import Derived.Laws.BitsAllLaws
import Derived.Laws.Bits64b
import Derived.Laws.Bits128
import Derived.Laws.Shifts

/-
  Of no program: rising lists over a strict total order: one by one insertion, uniqueness, lookup, union, difference, all pairs.
-/
namespace Go.Proofs.YtaehendpdfpibaaGreatDoor
set_option linter.unusedSimpArgs false
set_option linter.unusedVariables false

/-- A strict total order, as a Bool. -/
structure STO {α : Type} (lt : α → α → Bool) : Prop where
  irrefl : ∀ x, lt x x = false
  trans : ∀ x y z, lt x y = true → lt y z = true → lt x z = true
  total : ∀ x y, lt x y = false → lt y x = false → x = y

section
variable {α : Type} {lt : α → α → Bool}

def Rise (lt : α → α → Bool) (l : List α) : Prop := l.Pairwise (fun x y => lt x y = true)

theorem STO.asymm (h : STO lt) {x y : α} (hx : lt x y = true) : lt y x = false := by
  cases e : lt y x with
  | false => rfl
  | true => have := h.trans _ _ _ hx e; rw [h.irrefl] at this; cases this

theorem STO.ne (h : STO lt) {x y : α} (hx : lt x y = true) : x ≠ y := fun e => by subst e; rw [h.irrefl] at hx; cases hx

/-- TWO RISING LISTS OF THE SAME MEMBERS ARE ONE. -/
theorem rise_uniq (h : STO lt) : ∀ (a b : List α), Rise lt a → Rise lt b → (∀ x, x ∈ a ↔ x ∈ b) → a = b
  | [], [], _, _, _ => rfl
  | [], y :: _, _, _, hm => absurd ((hm y).2 (by simp)) (by simp)
  | x :: _, [], _, _, hm => absurd ((hm x).1 (by simp)) (by simp)
  | x :: r, y :: s, ha, hb, hm => by
    obtain ⟨hx, ha'⟩ := List.pairwise_cons.1 ha
    obtain ⟨hy, hb'⟩ := List.pairwise_cons.1 hb
    have exy : x = y := by
      rcases List.mem_cons.1 ((hm x).1 (by simp)) with e | e
      · exact e
      · rcases List.mem_cons.1 ((hm y).2 (by simp)) with f | f
        · exact f.symm
        · have := h.asymm (hy x e); rw [hx y f] at this; cases this
    subst exy
    congr 1
    refine rise_uniq h r s ha' hb' fun z => ?_
    constructor
    · intro hz
      rcases List.mem_cons.1 ((hm z).1 (List.mem_cons_of_mem _ hz)) with e | e
      · subst e; have := hx z hz; rw [h.irrefl] at this; cases this
      · exact e
    · intro hz
      rcases List.mem_cons.1 ((hm z).2 (List.mem_cons_of_mem _ hz)) with e | e
      · subst e; have := hy z hz; rw [h.irrefl] at this; cases this
      · exact e

/-- How many stand at the head that are less. -/
def headLess (lt : α → α → Bool) (x : α) : List α → Nat
  | [] => 0
  | y :: r => if lt y x then headLess lt x r + 1 else 0
theorem headLess_le (x : α) : ∀ l : List α, headLess lt x l ≤ l.length
  | [] => Nat.le_refl _
  | y :: r => by unfold headLess; split <;> simp [headLess_le x r]

/-- A rising list with an element. -/
def put [DecidableEq α] (lt : α → α → Bool) (x : α) : List α → List α
  | [] => [x]
  | y :: r => if lt y x then y :: put lt x r else if y = x then y :: r else x :: y :: r

theorem put_eq [DecidableEq α] (x : α) : ∀ l : List α, put lt x l = if l[headLess lt x l]? = some x then l else l.take (headLess lt x l) ++ x :: l.drop (headLess lt x l)
  | [] => by simp [put, headLess]
  | y :: r => by
    unfold put headLess
    by_cases h : lt y x = true
    · rw [if_pos h, if_pos h, put_eq x r]
      simp only [List.getElem?_cons_succ, List.take_succ_cons, List.drop_succ_cons]
      split <;> simp
    · rw [if_neg h, if_neg h]
      simp only [List.getElem?_cons_zero, List.take_zero, List.drop_zero, List.nil_append, Option.some.injEq]

theorem mem_put [DecidableEq α] (x z : α) : ∀ l : List α, z ∈ put lt x l ↔ z = x ∨ z ∈ l
  | [] => by simp [put]
  | y :: r => by
    unfold put
    split
    · simp only [List.mem_cons, mem_put x z r]; constructor
      · rintro (h | h | h) <;> simp [h]
      · rintro (h | h | h) <;> simp [h]
    · split
      · rename_i e; subst e; simp
      · simp

theorem rise_put [DecidableEq α] (h : STO lt) (x : α) : ∀ l : List α, Rise lt l → Rise lt (put lt x l)
  | [], _ => by simp [put, Rise]
  | y :: r, hl => by
    obtain ⟨hy, hr⟩ := List.pairwise_cons.1 hl
    unfold put
    split
    · rename_i e
      refine List.pairwise_cons.2 ⟨fun z hz => ?_, rise_put h x r hr⟩
      rcases (mem_put x z r).1 hz with rfl | hz
      · exact e
      · exact hy z hz
    · rename_i e
      split
      · exact hl
      · rename_i ne
        have hxy : lt x y = true := by
          cases e2 : lt x y with
          | true => rfl
          | false => exact absurd (h.total y x (by simpa using e) e2) ne
        refine List.pairwise_cons.2 ⟨fun z hz => ?_, hl⟩
        rcases List.mem_cons.1 hz with rfl | hz
        · exact hxy
        · exact h.trans _ _ _ hxy (hy z hz)

/-- Rising, each once. -/
def srt [DecidableEq α] (lt : α → α → Bool) (l : List α) : List α := l.foldl (fun a x => put lt x a) []

theorem srt_snoc [DecidableEq α] (l : List α) (x : α) : srt lt (l ++ [x]) = put lt x (srt lt l) := by simp [srt]
theorem srt_take [DecidableEq α] (l : List α) (i : Nat) (h : i < l.length) : srt lt (l.take (i + 1)) = put lt l[i] (srt lt (l.take i)) := by
  rw [List.take_succ_eq_append_getElem h, srt_snoc]

theorem foldl_put [DecidableEq α] (h : STO lt) : ∀ (l a : List α), Rise lt a → Rise lt (l.foldl (fun a x => put lt x a) a) ∧ ∀ z, z ∈ l.foldl (fun a x => put lt x a) a ↔ z ∈ a ∨ z ∈ l
  | [], a, ha => ⟨ha, fun z => by simp⟩
  | x :: r, a, ha => by
    obtain ⟨h1, h2⟩ := foldl_put h r (put lt x a) (rise_put h x a ha)
    refine ⟨h1, fun z => ?_⟩
    rw [List.foldl_cons, h2 z, mem_put]
    simp only [List.mem_cons]
    constructor
    · rintro ((h | h) | h) <;> simp [h]
    · rintro (h | h | h) <;> simp [h]
theorem rise_srt [DecidableEq α] (h : STO lt) (l : List α) : Rise lt (srt lt l) := (foldl_put h l [] List.Pairwise.nil).1
theorem mem_srt [DecidableEq α] (h : STO lt) (l : List α) (z : α) : z ∈ srt lt l ↔ z ∈ l := by rw [srt, (foldl_put h l [] List.Pairwise.nil).2 z]; simp
theorem srt_eq [DecidableEq α] (h : STO lt) {l a : List α} (ha : Rise lt a) (hm : ∀ z, z ∈ a ↔ z ∈ l) : srt lt l = a :=
  rise_uniq h _ _ (rise_srt h l) ha fun z => by rw [mem_srt h, hm]
theorem srt_self [DecidableEq α] (h : STO lt) {l : List α} (hl : Rise lt l) : srt lt l = l := srt_eq h hl fun _ => Iff.rfl
theorem srt_len [DecidableEq α] (lt : α → α → Bool) (l : List α) : (srt lt l).length ≤ l.length := by
  have : ∀ (l a : List α), (l.foldl (fun a x => put lt x a) a).length ≤ a.length + l.length := by
    intro l
    induction l with
    | nil => intro a; simp
    | cons x r ih =>
      intro a
      have hp : (put lt x a).length ≤ a.length + 1 := by
        clear ih
        induction a with
        | nil => simp [put]
        | cons y s ih => unfold put; split <;> (try split) <;> simp <;> omega
      have := ih (put lt x a)
      simp only [List.foldl_cons, List.length_cons]
      omega
  simpa [srt] using this l []

/-- In a rising list a thing stands once. -/
theorem rise_nodup (h : STO lt) {l : List α} (hl : Rise lt l) : l.Nodup := hl.imp fun hxy => h.ne hxy
theorem rise_get (h : STO lt) {l : List α} (hl : Rise lt l) {i j : Nat} (hi : i < l.length) (hj : j < l.length) (e : l[i] = l[j]) : i = j :=
  (List.getElem_inj (rise_nodup h hl)).1 e
theorem rise_lt {l : List α} (hl : Rise lt l) {i j : Nat} (hij : i < j) (hj : j < l.length) : lt l[i] l[j] = true := List.pairwise_iff_getElem.1 hl i j _ hj hij
theorem rise_filter {l : List α} (hl : Rise lt l) (p : α → Bool) : Rise lt (l.filter p) := List.Pairwise.filter p hl

/-- THE UNION's LENGTH: the first list's, and what stands in the second alone. -/
theorem len_union [DecidableEq α] (h : STO lt) {x y u : List α} (hx : Rise lt x) (hy : Rise lt y) (hu : Rise lt u) (hm : ∀ z, z ∈ u ↔ z ∈ x ∨ z ∈ y) :
    u.length = x.length + (y.filter fun z => !decide (z ∈ x)).length := by
  have hp : u.Perm (x ++ y.filter fun z => !decide (z ∈ x)) := by
    refine (List.perm_ext_iff_of_nodup (rise_nodup h hu) ?_).2 fun z => ?_
    · refine List.nodup_append.2 ⟨rise_nodup h hx, rise_nodup h (rise_filter hy _), fun a ha b hb e => ?_⟩
      subst e
      simp at hb
      exact hb.2 ha
    · rw [hm z]
      simp only [List.mem_append, List.mem_filter, Bool.not_eq_true', decide_eq_false_iff_not]
      constructor
      · rintro (e | e)
        · exact .inl e
        · by_cases hz : z ∈ x
          · exact .inl hz
          · exact .inr ⟨e, hz⟩
      · rintro (e | e)
        · exact .inl e
        · exact .inr e.1
  rw [hp.length_eq, List.length_append]

/-- All pairs of a rising list, the lesser one first. -/
def pairsOf : List α → List (α × α)
  | [] => []
  | a :: r => r.map (fun b => (a, b)) ++ pairsOf r
def ltPair [DecidableEq α] (lt : α → α → Bool) (p q : α × α) : Bool := lt p.1 q.1 || (decide (p.1 = q.1) && lt p.2 q.2)

theorem sto_pair [DecidableEq α] (h : STO lt) : STO (ltPair lt) where
  irrefl p := by simp [ltPair, h.irrefl]
  trans p q r h1 h2 := by
    simp only [ltPair, Bool.or_eq_true, Bool.and_eq_true, decide_eq_true_eq] at *
    rcases h1 with h1 | ⟨e1, h1⟩ <;> rcases h2 with h2 | ⟨e2, h2⟩
    · exact .inl (h.trans _ _ _ h1 h2)
    · exact .inl (e2 ▸ h1)
    · exact .inl (e1 ▸ h2)
    · exact .inr ⟨e1.trans e2, h.trans _ _ _ h1 h2⟩
  total p q h1 h2 := by
    simp only [ltPair, Bool.or_eq_false_iff, Bool.and_eq_false_iff, decide_eq_false_iff_not] at h1 h2
    have e : p.1 = q.1 := h.total _ _ h1.1 h2.1
    have f : p.2 = q.2 := h.total _ _ (h1.2.resolve_left fun k => k e) (h2.2.resolve_left fun k => k e.symm)
    exact Prod.ext e f

theorem mem_pairsOf (h : STO lt) : ∀ {l : List α}, Rise lt l → ∀ x y, (x, y) ∈ pairsOf l ↔ x ∈ l ∧ y ∈ l ∧ lt x y = true
  | [], _, x, y => by simp [pairsOf]
  | a :: r, hl, x, y => by
    obtain ⟨ha, hr⟩ := List.pairwise_cons.1 hl
    simp only [pairsOf, List.mem_append, List.mem_map, Prod.mk.injEq, List.mem_cons, mem_pairsOf h hr x y]
    constructor
    · rintro (⟨b, hb, rfl, rfl⟩ | ⟨hx, hy, hxy⟩)
      · exact ⟨.inl rfl, .inr hb, ha b hb⟩
      · exact ⟨.inr hx, .inr hy, hxy⟩
    · rintro ⟨hx | hx, hy | hy, hxy⟩
      · subst hx hy; rw [h.irrefl] at hxy; cases hxy
      · exact .inl ⟨y, hy, hx.symm, rfl⟩
      · subst hy; have := h.asymm (ha x hx); rw [hxy] at this; cases this
      · exact .inr ⟨hx, hy, hxy⟩
theorem rise_pairsOf [DecidableEq α] (h : STO lt) : ∀ {l : List α}, Rise lt l → Rise (ltPair lt) (pairsOf l)
  | [], _ => List.Pairwise.nil
  | a :: r, hl => by
    obtain ⟨ha, hr⟩ := List.pairwise_cons.1 hl
    refine List.pairwise_append.2 ⟨?_, rise_pairsOf h hr, ?_⟩
    · refine List.pairwise_map.2 (hr.imp fun hxy => ?_)
      simp [ltPair, hxy]
    · rintro p hp q hq
      obtain ⟨b, hb, rfl⟩ := List.mem_map.1 hp
      obtain ⟨x, y⟩ := q
      have := (mem_pairsOf h hr x y).1 hq
      simp [ltPair, ha x this.1]
theorem len_pairsOf : ∀ l : List α, (pairsOf l).length * 2 = l.length * (l.length - 1)
  | [] => rfl
  | a :: r => by
    have ih := len_pairsOf r
    simp only [pairsOf, List.length_append, List.length_map, List.length_cons, Nat.add_sub_cancel]
    rw [Nat.add_mul, ih]
    cases hr : r.length with
    | zero => rfl
    | succ n =>
      simp only [Nat.add_sub_cancel, Nat.add_mul, Nat.mul_add]
      omega
end

theorem sto_int : STO (fun x y : Int => decide (x < y)) where
  irrefl x := by simp
  trans x y z h1 h2 := by simp at *; omega
  total x y h1 h2 := by simp at *; omega
abbrev ltI (x y : Int) : Bool := decide (x < y)
abbrev Hd := Int × Int
abbrev Pr := Hd × Hd
def ltH : Hd → Hd → Bool := ltPair ltI
theorem sto_hd : STO ltH := sto_pair sto_int
def ltP : Pr → Pr → Bool := ltPair ltH
theorem sto_pr : STO ltP := sto_pair sto_hd
theorem ltH_eq (x y : Hd) : ltH x y = (decide (x.1 < y.1) || (decide (x.1 = y.1) && decide (x.2 < y.2))) := rfl
theorem ltP_eq (x y : Pr) : ltP x y = (ltH x.1 y.1 || (decide (x.1 = y.1) && ltH x.2 y.2)) := rfl

/-- The pair of two: the lesser one first. -/
def norm (p : Pr) : Pr := if ltH p.2 p.1 then (p.2, p.1) else p
/-- Pairs, those of two same ones left out, each with the lesser one first. -/
def rightOnes (l : List Pr) : List Pr := l.filterMap fun p => if p.1 = p.2 then none else some (norm p)

/-- cmp.Compare and cmp.Or over two handles, two pairs. -/
def orI (a b : Int) : Int := if a = 0 then b else a
def cmpH (x y : Hd) : Int := orI (Lib.compareInt x.1 y.1) (Lib.compareInt x.2 y.2)
def cmpP (x y : Pr) : Int := orI (cmpH x.1 y.1) (cmpH x.2 y.2)

theorem cmpI_lt (x y : Int) : decide (Lib.compareInt x y < 0) = ltI x y := by
  unfold Lib.compareInt ltI
  by_cases h1 : x < y
  · simp [h1]
  · by_cases h2 : y < x <;> simp [h1, h2]
theorem cmpI_eq (x y : Int) : Lib.compareInt x y = 0 ↔ x = y := by
  unfold Lib.compareInt
  by_cases h1 : x < y
  · simp [h1]; omega
  · by_cases h2 : y < x <;> simp [h1, h2] <;> omega
theorem cmpH_lt (x y : Hd) : decide (cmpH x y < 0) = ltH x y := by
  rw [ltH_eq]
  unfold cmpH orI Lib.compareInt
  by_cases h1 : x.1 < y.1
  · simp [h1]
  · by_cases h2 : y.1 < x.1
    · have : ¬ x.1 = y.1 := by omega
      simp [h1, h2, this]
    · have : x.1 = y.1 := by omega
      by_cases h3 : x.2 < y.2
      · simp [h1, h2, this, h3]
      · by_cases h4 : y.2 < x.2 <;> simp [this, h3, h4]
theorem cmpH_eq (x y : Hd) : cmpH x y = 0 ↔ x = y := by
  unfold cmpH orI
  constructor
  · intro h
    split at h
    · exact Prod.ext ((cmpI_eq _ _).1 ‹_›) ((cmpI_eq _ _).1 h)
    · contradiction
  · rintro rfl
    simp [(cmpI_eq x.1 x.1).2 rfl, (cmpI_eq x.2 x.2).2 rfl]
theorem cmpP_lt (x y : Pr) : decide (cmpP x y < 0) = ltP x y := by
  rw [ltP_eq]
  unfold cmpP orI
  split
  · rename_i h
    have e := (cmpH_eq _ _).1 h
    rw [cmpH_lt, e, sto_hd.irrefl]
    simp
  · rename_i h
    have e : ¬ x.1 = y.1 := fun k => h ((cmpH_eq _ _).2 k)
    rw [cmpH_lt]
    simp [e]

end Go.Proofs.YtaehendpdfpibaaGreatDoor

/-
  Rows of handles, pairs and numbers in memory: what a slice holds, what the call owns; a world that has only grown.
-/
namespace Go.Proofs.YtaehendpdfpibaaGreatDoor
set_option linter.unusedSimpArgs false
set_option linter.unusedVariables false
open Go.RowKit Go.Sort Go.Lib Go.Shelf

/-! ### Steps of 'Below' from the heap's own size on. -/
theorem Bt {a w w' : World} (h : Below a.heap.size a w) (k : Below w.heap.size w w') : Below a.heap.size a w' := h.trans (k.mono h.size)
theorem Ba {a w : World} (h : Below a.heap.size a w) (o : Obj) : Below a.heap.size a (w.alloc o) := h.alloc h.size o
theorem Bd {a w : World} (h : Below a.heap.size a w) : Below a.heap.size a w.drew := h.drew
theorem Bn {a w : World} {n : Nat} (h : Below a.heap.size a w) : Below a.heap.size a (w.drewN n) := ⟨h.os, h.tape, h.output, h.size, h.block⟩
theorem Bs {a w : World} {p : Addr} (h : Below a.heap.size a w) (hp : a.heap.size ≤ p.block) (u : Value) : Below a.heap.size a (w.setCell p u) := h.setCell hp u
theorem Bg {a w : World} {os : Array Obj} (h : Below a.heap.size a w) : Below a.heap.size a (grow w os) :=
  ⟨h.os, h.tape, h.output, by rw [size_grow]; exact Nat.le_trans h.size (Nat.le_add_right _ _), fun k hk => (heap_grow_old w os (Nat.lt_of_lt_of_le hk h.size)).trans (h.block k hk)⟩
theorem cell_lt {w : World} {b o : Nat} {v : Value} (h : w.cell? ⟨b, o, none⟩ = some v) : b < w.heap.size := by
  rcases Nat.lt_or_ge b w.heap.size with h' | h'
  · exact h'
  · simp [World.cell?, Array.getElem?_eq_none h'] at h
theorem bcell {W w1 : World} (hb : Below W.heap.size W w1) : (∀ b o, b < W.heap.size → w1.cell? ⟨b, o, none⟩ = W.cell? ⟨b, o, none⟩) ∧ (∀ b o, b < W.heap.size → w1.frozen? ⟨b, o, none⟩ = W.frozen? ⟨b, o, none⟩) :=
  ⟨fun b o h => hb.cell (p := ⟨b, o, none⟩) h, fun b o h => hb.frozen (p := ⟨b, o, none⟩) h⟩
theorem Bc {W W1 : World} {b o : Nat} {v : Value} (hb : Below W.heap.size W W1) (hl : b < W.heap.size) (hc : W.cell? ⟨b, o, none⟩ = some v) : W1.cell? ⟨b, o, none⟩ = some v := (hb.cell (p := ⟨b, o, none⟩) hl).trans hc
theorem Bf {W W1 : World} {b o : Nat} {v : Bool} (hb : Below W.heap.size W W1) (hl : b < W.heap.size) (hc : W.frozen? ⟨b, o, none⟩ = v) : W1.frozen? ⟨b, o, none⟩ = v := (hb.frozen (p := ⟨b, o, none⟩) hl).trans hc
theorem Bl {W W1 : World} {b : Nat} (hb : Below W.heap.size W W1) (hl : b < W.heap.size) : b < W1.heap.size := Nat.lt_of_lt_of_le hl hb.size
theorem keep0 (W0 : World) : Below W0.heap.size W0 W0.drew ∧ ∀ b o, b < W0.heap.size → W0.drew.cell? ⟨b, o, none⟩ = W0.cell? ⟨b, o, none⟩ := ⟨Bd (Below.refl _ _), fun _ _ _ => rfl⟩
theorem keepB {W0 w1 w2 : World} (h : Below W0.heap.size W0 w1 ∧ ∀ b o, b < W0.heap.size → w1.cell? ⟨b, o, none⟩ = W0.cell? ⟨b, o, none⟩) (hb : Below w1.heap.size w1 w2) :
    Below W0.heap.size W0 w2 ∧ ∀ b o, b < W0.heap.size → w2.cell? ⟨b, o, none⟩ = W0.cell? ⟨b, o, none⟩ :=
  ⟨Bt h.1 hb, fun b o hl => (hb.cell (p := ⟨b, o, none⟩) (Bl h.1 hl)).trans (h.2 b o hl)⟩

/-! ### A world that has only grown. -/
def Gr (w w' : World) : Prop := ∃ q os, w' = grow (w.drewN q) os
theorem drewN_grow (w : World) (os : Array Obj) (q : Nat) : (grow w os).drewN q = grow (w.drewN q) os := rfl
theorem drewN_drewN (w : World) (p q : Nat) : (w.drewN p).drewN q = w.drewN (p + q) := by simp [World.drewN, Nat.add_assoc]
theorem Gr.refl (w : World) : Gr w w := ⟨0, #[], by rw [grow_empty]; rfl⟩
theorem Gr.alloc {a w : World} (h : Gr a w) (o : Obj) : Gr a (w.alloc o) := by
  obtain ⟨q, os, rfl⟩ := h
  exact ⟨q, _, by rw [alloc_eq_grow, grow_grow]⟩
theorem Gr.drewN {a w : World} (h : Gr a w) {n : Nat} : Gr a (w.drewN n) := by
  obtain ⟨q, os, rfl⟩ := h
  exact ⟨q + n, os, by rw [drewN_grow, drewN_drewN]⟩
theorem Gr.drew {a w : World} (h : Gr a w) : Gr a w.drew := h.drewN (n := 1)
theorem Gr.grow {a w : World} (h : Gr a w) {os : Array Obj} : Gr a (grow w os) := by
  obtain ⟨q, os, rfl⟩ := h
  exact ⟨q, _, by rw [grow_grow]⟩
theorem Gr.trans {a b c : World} (h : Gr a b) (k : Gr b c) : Gr a c := by
  obtain ⟨q, os, rfl⟩ := k
  exact (h.drewN).grow
theorem Gr.below {w w' : World} (h : Gr w w') : Below w.heap.size w w' := by
  obtain ⟨q, os, rfl⟩ := h
  exact Bg (Bn (Below.refl _ w))

/-- What a region that draws its order keeps where all that is called only grows the world. -/
theorem gkeep0 (W0 : World) : Gr W0 W0.drew ∧ ∀ b o, b < W0.heap.size → W0.drew.cell? ⟨b, o, none⟩ = W0.cell? ⟨b, o, none⟩ := ⟨(Gr.refl _).drew, fun _ _ _ => rfl⟩
theorem gkeepOf {W0 w' : World} (h : Gr W0 w') : Gr W0 w' ∧ ∀ b o, b < W0.heap.size → w'.cell? ⟨b, o, none⟩ = W0.cell? ⟨b, o, none⟩ := ⟨h, fun b o hl => h.below.cell (p := ⟨b, o, none⟩) hl⟩
theorem gkeepG {W0 w1 w2 : World} (h : Gr W0 w1 ∧ ∀ b o, b < W0.heap.size → w1.cell? ⟨b, o, none⟩ = W0.cell? ⟨b, o, none⟩) (g : Gr w1 w2) :
    Gr W0 w2 ∧ ∀ b o, b < W0.heap.size → w2.cell? ⟨b, o, none⟩ = W0.cell? ⟨b, o, none⟩ := gkeepOf (h.1.trans g)
theorem gkeepA {W0 w1 : World} (h : Gr W0 w1 ∧ ∀ b o, b < W0.heap.size → w1.cell? ⟨b, o, none⟩ = W0.cell? ⟨b, o, none⟩) (o1 : Obj) :
    Gr W0 (w1.alloc o1) ∧ ∀ b o, b < W0.heap.size → (w1.alloc o1).cell? ⟨b, o, none⟩ = W0.cell? ⟨b, o, none⟩ := gkeepOf (h.1.alloc o1)

/-! ### The elements' cells. -/
def encH (x : Hd) : List Value := [.int .i64 x.1, .int .i64 x.2]
def encP (p : Pr) : List Value := [.int .i64 p.1.1, .int .i64 p.1.2, .int .i64 p.2.1, .int .i64 p.2.2]
theorem lenH (x : Hd) : (encH x).length = 2 := rfl
theorem lenP (x : Pr) : (encP x).length = 4 := rfl
theorem oneH (x : Hd) : ∀ v ∈ encH x, v.oneCell' = true := fun v hv => by simp [encH] at hv; rcases hv with rfl | rfl <;> rfl
theorem oneP (x : Pr) : ∀ v ∈ encP x, v.oneCell' = true := fun v hv => by simp [encP] at hv; rcases hv with rfl | rfl | rfl | rfl <;> rfl

def encI (x : Int) : List Value := [.int .i64 x]
theorem lenI (x : Int) : (encI x).length = 1 := rfl
theorem oneI (x : Int) : ∀ v ∈ encI x, v.oneCell' = true := fun v hv => by simp [encI] at hv; subst hv; rfl

section
variable {α : Type} [Inhabited α] {enc : α → List Value} {k : Nat} {w w' : World} {b off : Nat}

theorem hkBelow {B : Nat} {d : Array α} (h : HoldsK enc k w b off d) (hb : b < B) (hB : Below B w w') : HoldsK enc k w' b off d := fun j hj =>
  ⟨(hB.cell (p := ⟨b, off + j, none⟩) hb).trans (h j hj).1, (hB.frozen (p := ⟨b, off + j, none⟩) hb).trans (h j hj).2⟩
theorem hkLt {d : Array α} (h : HoldsK enc k w b off d) (hk : 0 < k) (hd : 0 < d.size) : b < w.heap.size :=
  cell_lt (h 0 (by rw [size_flatK]; exact Nat.mul_pos hd hk)).1

theorem setMany_one (hk : ∀ x, (enc x).length = k) (d : Array α) (i : Nat) (hi : i < d.size) (x : α) : setMany (flatK enc k d) (i * k) (enc x) = flatK enc k (d.setIfInBounds i x) := by
  refine ext_get! (by simp) fun t ht => ?_
  have ht' : t < d.size * k := by simpa using ht
  have k0 : 0 < k := by
    rcases Nat.eq_zero_or_pos k with h | h
    · subst h; simp at ht'
    · exact h
  rw [get_setMany _ _ _ t (by simpa using ht'), get_flatK _ _ _ t ht', get_flatK _ _ _ t (by simpa using ht'), hk]
  by_cases a : t / k = i
  · rw [if_pos ((blk_iff k i t k0).2 a), a, getElem!_set_same d i x hi]
    congr 1
    subst a
    rw [Nat.mod_eq_sub_div_mul]
  · rw [if_neg (fun h => a ((blk_iff k i t k0).1 h)), getElem!_set_other d i (t / k) x a]

/-- A store of a whole element. -/
theorem hkSet {d : Array α} (h : HoldsK enc k w b off d) (hk : ∀ x, (enc x).length = k) {i : Nat} (hi : i < d.size) (x : α) : HoldsK enc k (w.setCells b (off + i * k) (enc x)) b off (d.setIfInBounds i x) := by
  have hb : i * k + k ≤ d.size * k := by
    have := Nat.mul_le_mul_right k (show i + 1 ≤ d.size from hi); rwa [Nat.add_mul, Nat.one_mul] at this
  have := holds_setCells_c (W := w) (blk := b) (off := off) (F := flatK enc k d) h (i * k) (enc x) (by rw [hk, size_flatK]; exact hb)
  rw [setMany_one hk d i hi x] at this
  exact this
theorem hkDrew {d : Array α} (h : HoldsK enc k w b off d) : HoldsK enc k w.drew b off d := h
theorem hkFar {d : Array α} (h : HoldsK enc k w b off d) {p : Addr} (hp : p.block ≠ b) (u : Value) : HoldsK enc k (w.setCell p u) b off d := fun j hj => by
  have e : (w.setCell p u).heap[b]? = w.heap[b]? := Below.heap_setCell w p u b (Ne.symm hp)
  exact ⟨(World.cell?_of_block (w := w) (a := ⟨b, off + j, none⟩) e).trans (h j hj).1, (World.frozen?_of_block (w := w) (a := ⟨b, off + j, none⟩) e).trans (h j hj).2⟩

/-- The cells of a list, one behind the other. -/
def flat (enc : α → List Value) (l : List α) : List Value := l.flatMap enc
omit [Inhabited α] in
theorem flat_len (hk : ∀ x, (enc x).length = k) : ∀ l : List α, (flat enc l).length = l.length * k
  | [] => by simp [flat]
  | x :: r => by
    have := flat_len hk r
    simp only [flat, List.flatMap_cons, List.length_append, hk, List.length_cons] at this ⊢
    rw [this, Nat.add_mul]
    omega
theorem flat_get (hk : ∀ x, (enc x).length = k) : ∀ (l : List α) (i c : Nat), i < l.length → c < k → (flat enc l)[i * k + c]? = (enc l[i]!)[c]?
  | [], _, _, h, _ => absurd h (Nat.not_lt_zero _)
  | x :: r, 0, c, _, hc => by
    simp only [flat, List.flatMap_cons, Nat.zero_mul, Nat.zero_add]
    rw [List.getElem?_append_left (by rw [hk]; exact hc)]
    simp
  | x :: r, i + 1, c, h, hc => by
    have ih := flat_get hk r i c (by simpa using h) hc
    simp only [flat, List.flatMap_cons] at ih ⊢
    rw [List.getElem?_append_right (by rw [hk, Nat.add_mul]; omega), hk, show (i + 1) * k + c - k = i * k + c by rw [Nat.add_mul]; omega, ih]
    simp
omit [Inhabited α] in
theorem flat_one (h1 : ∀ x, ∀ v ∈ enc x, v.oneCell' = true) (l : List α) : ∀ u ∈ flat enc l, u.oneCell' = true := fun u hu => by
  obtain ⟨x, _, hx⟩ := List.mem_flatMap.1 hu
  exact h1 x u hx
omit [Inhabited α] in
theorem flat_append (a c : List α) : flat enc (a ++ c) = flat enc a ++ flat enc c := by simp [flat]
omit [Inhabited α] in
theorem flat_take (hk : ∀ x, (enc x).length = k) : ∀ (l : List α) (n : Nat), (flat enc l).take (n * k) = flat enc (l.take n)
  | [], n => by simp [flat]
  | x :: r, 0 => by simp [flat]
  | x :: r, n + 1 => by
    have ih := flat_take hk r n
    simp only [flat, List.flatMap_cons, List.take_succ_cons] at ih ⊢
    rw [List.take_append, hk, show (n + 1) * k - k = n * k by rw [Nat.add_mul]; omega, ih, List.take_of_length_le (by rw [hk, Nat.add_mul]; omega)]
omit [Inhabited α] in
theorem flat_drop (hk : ∀ x, (enc x).length = k) : ∀ (l : List α) (n : Nat), (flat enc l).drop (n * k) = flat enc (l.drop n)
  | [], n => by simp [flat]
  | x :: r, 0 => by simp [flat]
  | x :: r, n + 1 => by
    have ih := flat_drop hk r n
    simp only [flat, List.flatMap_cons, List.drop_succ_cons] at ih ⊢
    rw [List.drop_append, hk, show (n + 1) * k - k = n * k by rw [Nat.add_mul]; omega, ih, List.drop_of_length_le (by rw [hk, Nat.add_mul]; omega), List.nil_append]

theorem arr_get (l : List α) (i : Nat) : l.toArray[i]! = l[i]! := by simp

/-- The row holds a list: out of its cells. -/
theorem holds_of_flat (hk : ∀ x, (enc x).length = k) {l : List α} (h : ∀ j u, (flat enc l)[j]? = some u → w.cell? ⟨b, off + j, none⟩ = some u ∧ w.frozen? ⟨b, off + j, none⟩ = false) : HoldsK enc k w b off l.toArray := fun j hj => by
  have hj' : j < l.length * k := by simpa using hj
  have k0 : 0 < k := by
    rcases Nat.eq_zero_or_pos k with e | e
    · subst e; simp at hj'
    · exact e
  have hq : j / k < l.length := Nat.div_lt_of_lt_mul (by rw [Nat.mul_comm]; exact hj')
  have hm : j % k < k := Nat.mod_lt _ k0
  have e : j / k * k + j % k = j := by rw [Nat.mul_comm]; exact Nat.div_add_mod j k
  have g := flat_get hk l (j / k) (j % k) hq hm
  rw [e, List.getElem?_eq_getElem (l := enc l[j / k]!) (by rw [hk]; exact hm)] at g
  have := h j _ g
  rw [get_flatK _ _ _ j (by simpa using hj'), arr_get, getElem!_pos (enc l[j / k]!) (j % k) (by rw [hk]; exact hm)]
  exact this
theorem flat_of_holds (hk : ∀ x, (enc x).length = k) {l : List α} (h : HoldsK enc k w b off l.toArray) : ∀ j u, (flat enc l)[j]? = some u → w.cell? ⟨b, off + j, none⟩ = some u ∧ w.frozen? ⟨b, off + j, none⟩ = false := fun j u hu => by
  have hj' : j < l.length * k := by rw [← flat_len hk]; exact (List.getElem?_eq_some_iff.1 hu).1
  have k0 : 0 < k := by
    rcases Nat.eq_zero_or_pos k with e | e
    · subst e; simp at hj'
    · exact e
  have hq : j / k < l.length := Nat.div_lt_of_lt_mul (by rw [Nat.mul_comm]; exact hj')
  have hm : j % k < k := Nat.mod_lt _ k0
  have e : j / k * k + j % k = j := by rw [Nat.mul_comm]; exact Nat.div_add_mod j k
  have g := flat_get hk l (j / k) (j % k) hq hm
  rw [e, hu, List.getElem?_eq_getElem (by rw [hk]; exact hm)] at g
  have := h j (by simpa using hj')
  rw [get_flatK _ _ _ j (by simpa using hj'), arr_get, getElem!_pos (enc l[j / k]!) (j % k) (by rw [hk]; exact hm)] at this
  rw [Option.some.inj g]
  exact this

/-- A SLICE THAT HOLDS THE LIST l (to be read). -/
def Sl (enc : α → List Value) (w : World) (v : Value) (l : List α) : Prop :=
  ∃ p cap, v = .slice p l.length cap ∧ l.length ≤ cap ∧ cap ≤ maxLen ∧ (0 < l.length → ∃ g o, p = some ⟨g, o, none⟩ ∧ g < w.heap.size ∧ ∀ j u, (flat enc l)[j]? = some u → w.cell? ⟨g, o + j, none⟩ = some u)
/-- A SLICE OF THE CALL's OWN, from block 'base' on, that holds the list l, and may be written. -/
def Own (base : Nat) (enc : α → List Value) (k : Nat) (w : World) (v : Value) (l : List α) : Prop :=
  ∃ p cap, v = .slice p l.length cap ∧ l.length ≤ cap ∧ cap ≤ maxLen ∧ (0 < l.length → ∃ g, p = some ⟨g, 0, none⟩ ∧ base ≤ g ∧ g < w.heap.size ∧ HoldsK enc k w g 0 l.toArray)

omit [Inhabited α] in
theorem Sl.below {v : Value} {l : List α} (h : Sl enc w v l) (hB : Below w.heap.size w w') : Sl enc w' v l := by
  obtain ⟨p, cap, rfl, h1, h2, h⟩ := h
  refine ⟨p, cap, rfl, h1, h2, fun hl => ?_⟩
  obtain ⟨g, o, rfl, h3, h4⟩ := h hl
  exact ⟨g, o, rfl, Bl hB h3, fun j u hu => Bc hB h3 (h4 j u hu)⟩
theorem Own.below {base : Nat} {v : Value} {l : List α} (h : Own base enc k w v l) (hB : Below w.heap.size w w') : Own base enc k w' v l := by
  obtain ⟨p, cap, rfl, h1, h2, h⟩ := h
  refine ⟨p, cap, rfl, h1, h2, fun hl => ?_⟩
  obtain ⟨g, rfl, h3, h4, h5⟩ := h hl
  exact ⟨g, rfl, h3, Bl hB h4, hkBelow h5 h4 hB⟩
theorem Own.mono {base base' : Nat} {v : Value} {l : List α} (h : Own base enc k w v l) (hb : base' ≤ base) : Own base' enc k w v l := by
  obtain ⟨p, cap, rfl, h1, h2, h⟩ := h
  refine ⟨p, cap, rfl, h1, h2, fun hl => ?_⟩
  obtain ⟨g, rfl, h3, h4⟩ := h hl
  exact ⟨g, rfl, by omega, h4⟩
theorem Own.sl {base : Nat} (hk : ∀ x, (enc x).length = k) {v : Value} {l : List α} (h : Own base enc k w v l) : Sl enc w v l := by
  obtain ⟨p, cap, rfl, h1, h2, h⟩ := h
  refine ⟨p, cap, rfl, h1, h2, fun hl => ?_⟩
  obtain ⟨g, rfl, h3, h4, h5⟩ := h hl
  exact ⟨g, 0, rfl, h4, fun j u hu => (flat_of_holds hk h5 j u hu).1⟩
omit [Inhabited α] in
theorem Sl.nil (p : Option Addr) (cap : Nat) (h : cap ≤ maxLen) : Sl enc w (.slice p 0 cap) ([] : List α) := ⟨p, cap, rfl, Nat.zero_le _, h, fun h => absurd h (Nat.lt_irrefl _)⟩
/-- What append owns is the call's own. -/
theorem own_of_row {base : Nat} {e : TypeId} (hk : ∀ x, (enc x).length = k) {v : Value} {n : Nat} {l : List α} (h : w.ownsRow base e k v n (flat enc l)) (hn : n = l.length) : Own base enc k w v l := by
  subst hn
  obtain ⟨_, h⟩ := h
  rcases h with ⟨rfl, h⟩ | ⟨g, cap, cur, rfl, hb, hh, hc, hm, hs, ht⟩
  · have hl : l = [] := List.length_eq_zero_iff.1 h
    subst hl
    exact ⟨none, 0, rfl, Nat.le_refl _, Nat.zero_le _, fun h => absurd h (Nat.lt_irrefl _)⟩
  · have hg : g < w.heap.size := by
      rcases Nat.lt_or_ge g w.heap.size with h' | h'
      · exact h'
      · rw [Array.getElem?_eq_none h'] at hh; cases hh
    refine ⟨_, cap, rfl, hc, hm, fun _ => ⟨g, rfl, hb, hg, holds_of_flat hk fun j u hu => ?_⟩⟩
    have hj : j < l.length * k := by rw [← flat_len hk]; exact (List.getElem?_eq_some_iff.1 hu).1
    rw [← ht, List.getElem?_take, if_pos hj] at hu
    refine ⟨?_, ?_⟩
    · simp only [World.cell?, hh, Nat.zero_add]
      simpa using hu
    · simp [World.frozen?, hh]
/-- What is owned by the append's words, from a base on, stays so. -/
theorem row_below {base : Nat} {e : TypeId} {v : Value} {n : Nat} {xs : List Value} (h : w.ownsRow base e k v n xs) (hB : Below w.heap.size w w') : w'.ownsRow base e k v n xs := by
  obtain ⟨h0, h⟩ := h
  refine ⟨h0, ?_⟩
  rcases h with h | ⟨g, cap, cur, rfl, hb, hh, r⟩
  · exact .inl h
  · have hg : g < w.heap.size := by
      rcases Nat.lt_or_ge g w.heap.size with h' | h'
      · exact h'
      · rw [Array.getElem?_eq_none h'] at hh; cases hh
    exact .inr ⟨g, cap, cur, rfl, hb, (hB.block g hg).trans hh, r⟩
theorem row_mono {base base' : Nat} {e : TypeId} {v : Value} {n : Nat} {xs : List Value} (h : w.ownsRow base e k v n xs) (hb : base' ≤ base) : w.ownsRow base' e k v n xs := by
  obtain ⟨h0, h⟩ := h
  refine ⟨h0, ?_⟩
  rcases h with h | ⟨g, cap, cur, rfl, hg, r⟩
  · exact .inl h
  · exact .inr ⟨g, cap, cur, rfl, by omega, r⟩

/-- A list's element out of a slice's cells. -/
theorem sl_at (hk : ∀ x, (enc x).length = k) {l : List α} {g o : Nat} (h : ∀ j u, (flat enc l)[j]? = some u → w.cell? ⟨g, o + j, none⟩ = some u) {i : Nat} (hi : i < l.length) : ∀ c u, (enc l[i]!)[c]? = some u → w.cell? ⟨g, o + i * k + c, none⟩ = some u := fun c u hu => by
  have hc : c < k := by have := (List.getElem?_eq_some_iff.1 hu).1; rwa [hk] at this
  rw [Nat.add_assoc]
  exact h _ u ((flat_get hk l i c hi hc).trans hu)
end

theorem atH {w : World} {l : List Hd} {g o : Nat} (h : ∀ j u, (flat encH l)[j]? = some u → w.cell? ⟨g, o + j, none⟩ = some u) {i : Nat} (hi : i < l.length) :
    w.cell? ⟨g, o + i * 2, none⟩ = some (.int .i64 l[i]!.1) ∧ w.cell? ⟨g, o + i * 2 + 1, none⟩ = some (.int .i64 l[i]!.2) :=
  ⟨sl_at lenH h hi 0 _ rfl, sl_at lenH h hi 1 _ rfl⟩
theorem atP {w : World} {l : List Pr} {g o : Nat} (h : ∀ j u, (flat encP l)[j]? = some u → w.cell? ⟨g, o + j, none⟩ = some u) {i : Nat} (hi : i < l.length) :
    w.cell? ⟨g, o + i * 4, none⟩ = some (.int .i64 l[i]!.1.1) ∧ w.cell? ⟨g, o + i * 4 + 1, none⟩ = some (.int .i64 l[i]!.1.2) ∧ w.cell? ⟨g, o + i * 4 + 2, none⟩ = some (.int .i64 l[i]!.2.1) ∧ w.cell? ⟨g, o + i * 4 + 3, none⟩ = some (.int .i64 l[i]!.2.2) :=
  ⟨sl_at lenP h hi 0 _ rfl, sl_at lenP h hi 1 _ rfl, sl_at lenP h hi 2 _ rfl, sl_at lenP h hi 3 _ rfl⟩

theorem atI {w : World} {l : List Int} {g o : Nat} (h : ∀ j u, (flat encI l)[j]? = some u → w.cell? ⟨g, o + j, none⟩ = some u) {i : Nat} (hi : i < l.length) :
    w.cell? ⟨g, o + i, none⟩ = some (.int .i64 l[i]!) := by
  have := sl_at lenI h hi 0 _ rfl
  rwa [Nat.mul_one] at this
theorem holdsI {w : World} {b off : Nat} {d : Array Int} : HoldsK encI 1 w b off d ↔ Holds (Value.int .i64) w b off d := by
  constructor
  · intro h i hi
    have := Go.Sort.HoldsK.cell h hi (show 0 < 1 by omega)
    simpa [encI] using this
  · intro h j hj
    have hj' : j < d.size := by simpa using hj
    have := h j hj'
    rw [get_flatK _ _ _ j (by simpa using hj')]
    simpa [encI, Nat.mod_one] using this

end Go.Proofs.YtaehendpdfpibaaGreatDoor

/-
  errors.Is and paddocknum.Num at the project's own errors, out of what the errors' variables hold.
-/
namespace Go.Proofs.YtaehendpdfpibaaGreatDoor
set_option linter.unusedSimpArgs false
set_option linter.unusedVariables false
open Go.RowKit Go.Extern.Stop Go.Stop Go.Extern Go.Lib

theorem isTypeOf (v : Value) (w : World) : (Extern.ReflectliteType.typeOf #[.iface 258 v]).run Tryz.prog w = .ok (.iface 206 (.agg #[.pointer (some ⟨11, 258, none⟩)])) w := by kernel_rfl
theorem isComparable (w : World) : (callFunc 221 #[.agg #[.pointer (some ⟨11, 258, none⟩)]]).run Tryz.prog w = .ok (.value (.bool true)) w := by kernel_rfl
theorem isMethodComparable (v : Value) (w : World) : (Go.method 396 206 v "Comparable").run Tryz.prog w = .ok (221, v) w := by kernel_rfl
theorem isComp : (Tryz.prog.info? 258).map (·.comparable) = some true := by kernel_rfl
theorem isSize : (Tryz.prog.info? 284).map (·.size) = some 1 := by kernel_rfl
theorem noIsE (v : Value) (xT : TypeId) (w : World) : (Instr.typeAssert (.iface 258 v) xT 208 true).run Tryz.prog w = .ok (.tuple #[.nilIface, .bool false]) w := run_typeAssert_lacksB Tryz.underlying208 (by kernel_rfl) (by kernel_rfl) v xT w
theorem noUnwrapE (v : Value) (xT : TypeId) (w : World) : (Instr.typeAssert (.iface 258 v) xT 211 true).run Tryz.prog w = .ok (.tuple #[.nilIface, .bool false]) w := run_typeAssert_lacksB Tryz.underlying211 (by kernel_rfl) (by kernel_rfl) v xT w
theorem noUnwrapsE (v : Value) (xT : TypeId) (w : World) : (Instr.typeAssert (.iface 258 v) xT 213 true).run Tryz.prog w = .ok (.tuple #[.nilIface, .bool false]) w := run_typeAssert_lacksB Tryz.underlying213 (by kernel_rfl) (by kernel_rfl) v xT w

set_option maxRecDepth 100000 in
/-- errors.Is(x, x), x a pointer to an errors.errorString. -/
theorem is_same (a : Addr) (w : World) :
    Calls Tryz.prog 59 #[.iface 258 (.pointer (some a)), .iface 258 (.pointer (some a))] w fun e w' => e = .returned (.bool true) ∧ w = w' := by
  obtain ⟨i, hi, hcmp⟩ := Option.map_eq_some_iff.1 isComp
  obtain ⟨j, hj, hjs⟩ := Option.map_eq_some_iff.1 isSize
  have h8 := @run_callFunc_extern Tryz.prog 100 _ Extern.ReflectliteType.typeOf Tryz.func100 (by kernel_rfl) (by kernel_rfl) (by kernel_rfl) (by kernel_rfl)
  have tT := isTypeOf
  have cT := isComparable
  have mR := isMethodComparable
  have heq := run_eql_iface_ptr_same (P := Tryz.prog) w a Tryz.underlying40 Tryz.underlying258 hi hcmp hj
  go_enter Tryz.func59, Tryz.ntmps59
  go_wp2
  refine wp_loop_rounds 1 ?_
  rw [rounds_succ]
  go_wp2
  go_ret
  exact ⟨rfl, rfl⟩

set_option maxRecDepth 100000 in
/-- errors.Is(x, y), two different pointers to errors.errorString: neither has Is nor Unwrap: false. -/
theorem is_other (a b : Addr) (ca cb : Array Value) (ta tb : TypeId) (w : World) (hne : a ≠ b) (ha : w.heap[a.block]? = some (.cells ca ta (0, 0))) (hb : w.heap[b.block]? = some (.cells cb tb (0, 0))) :
    Calls Tryz.prog 59 #[.iface 258 (.pointer (some a)), .iface 258 (.pointer (some b))] w fun e w' => e = .returned (.bool false) ∧ w = w' := by
  obtain ⟨i, hi, hcmp⟩ := Option.map_eq_some_iff.1 isComp
  obtain ⟨j, hj, hjs⟩ := Option.map_eq_some_iff.1 isSize
  have h8 := @run_callFunc_extern Tryz.prog 100 _ Extern.ReflectliteType.typeOf Tryz.func100 (by kernel_rfl) (by kernel_rfl) (by kernel_rfl) (by kernel_rfl)
  have tT := isTypeOf
  have cT := isComparable
  have mR := isMethodComparable
  have nE := noIsE
  have uE := noUnwrapE
  have vE := noUnwrapsE
  have heq := run_eql_iface_ptr_other (P := Tryz.prog) w Tryz.underlying40 Tryz.underlying258 hi hcmp hj (by rw [hjs]; decide) hne ha hb
  go_enter Tryz.func59, Tryz.ntmps59
  go_wp2
  refine wp_loop_rounds 1 ?_
  rw [rounds_succ]
  go_wp2
  go_ret
  exact ⟨rfl, rfl⟩

/-- The variable of error number i + 1. -/
def errG : List Nat := [0, 1, 2, 3, 4, 5, 6, 7, 8, 9]
/-- The errors' variables hold ten different errors of errors.New's make. -/
structure Errs (W : World) (A : Nat → Addr) : Prop where
  cell : ∀ i, i < 10 → W.cell? ⟨errG.getD i 0, 0, none⟩ = some (.iface 258 (.pointer (some (A i))))
  blk : ∀ i, i < 10 → ∃ c t, W.heap[(A i).block]? = some (.cells c t (0, 0))
  apart : ∀ i j, i < 10 → j < 10 → i ≠ j → A i ≠ A j
theorem Errs.below {W W' : World} {A : Nat → Addr} (h : Errs W A) (hb : Below W.heap.size W W') : Errs W' A :=
  ⟨fun i hi => Bc hb (cell_lt (h.cell i hi)) (h.cell i hi), fun i hi => by
    obtain ⟨c, t, k⟩ := h.blk i hi
    refine ⟨c, t, (hb.block _ ?_).trans k⟩
    rcases Nat.lt_or_ge (A i).block W.heap.size with h' | h'
    · exact h'
    · simp [Array.getElem?_eq_none h'] at k, h.apart⟩
theorem is_not {A : Nat → Addr} {w : World} (h : Errs w A) (i j : Nat) (hi : i < 10) (hj : j < 10) (hne : j < i) :
    Calls Tryz.prog 59 #[.iface 258 (.pointer (some (A i))), .iface 258 (.pointer (some (A j)))] w fun e w' => e = .returned (.bool false) ∧ w = w' := by
  obtain ⟨c1, t1, h1⟩ := h.blk i hi
  obtain ⟨c2, t2, h2⟩ := h.blk j hj
  exact is_other _ _ c1 c2 t1 t2 w (h.apart i j hi hj (by omega)) h1 h2

theorem num_nil (w : World) : Calls Tryz.prog 16 #[.nilIface] w fun e w' => e = .returned (.int .i64 0) ∧ Below w.heap.size w w' := by
  go_enter Tryz.func16, Tryz.ntmps16
  go_wp2
  go_ret
  exact ⟨rfl, (by repeat (first | with_reducible exact Below.refl _ _ | with_reducible assumption | with_reducible apply Ba | with_reducible apply Bd | with_reducible apply Bn | with_reducible apply Bg | (with_reducible refine Bs ?_ (by first | (simp; done) | (simp; omega)) _) | (with_reducible refine Bt ?_ (by assumption)) | (with_reducible refine Bt ?_ (Gr.below (by assumption)))))⟩

set_option maxRecDepth 100000 in
set_option maxHeartbeats 1000000 in
theorem num_anyG {A : Nat → Addr} {w : World} (h : Errs w A) (k : Nat) (hk : k < 10) :
    Calls Tryz.prog 16 #[.iface 258 (.pointer (some (A k)))] w fun e w' => e = .returned (.int .i64 ((k : Int) + 1)) ∧ Gr w w' := by
  have g0 := h.cell 0 (by omega)
  have g1 := h.cell 1 (by omega)
  have g2 := h.cell 2 (by omega)
  have g3 := h.cell 3 (by omega)
  have g4 := h.cell 4 (by omega)
  have g5 := h.cell 5 (by omega)
  have g6 := h.cell 6 (by omega)
  have g7 := h.cell 7 (by omega)
  have g8 := h.cell 8 (by omega)
  have g9 := h.cell 9 (by omega)
  simp only [errG, List.getD_cons_zero, List.getD_cons_succ] at g0 g1 g2 g3 g4 g5 g6 g7 g8 g9
  have hE : Errs (w.alloc (.cells #[.iface 258 (.pointer (some (A 0))), .iface 258 (.pointer (some (A 1))), .iface 258 (.pointer (some (A 2))), .iface 258 (.pointer (some (A 3))), .iface 258 (.pointer (some (A 4))), .iface 258 (.pointer (some (A 5))), .iface 258 (.pointer (some (A 6))), .iface 258 (.pointer (some (A 7))), .iface 258 (.pointer (some (A 8))), .iface 258 (.pointer (some (A 9)))] 40)) A := h.below (Ba (Below.refl _ _) _)
  have hcell : ∀ j, j < 10 → (w.alloc (.cells #[.iface 258 (.pointer (some (A 0))), .iface 258 (.pointer (some (A 1))), .iface 258 (.pointer (some (A 2))), .iface 258 (.pointer (some (A 3))), .iface 258 (.pointer (some (A 4))), .iface 258 (.pointer (some (A 5))), .iface 258 (.pointer (some (A 6))), .iface 258 (.pointer (some (A 7))), .iface 258 (.pointer (some (A 8))), .iface 258 (.pointer (some (A 9)))] 40)).cell? ⟨w.heap.size, j, none⟩ = some (.iface 258 (.pointer (some (A j)))) := by
    intro j hj
    obtain rfl | rfl | rfl | rfl | rfl | rfl | rfl | rfl | rfl | rfl : j = 0 ∨ j = 1 ∨ j = 2 ∨ j = 3 ∨ j = 4 ∨ j = 5 ∨ j = 6 ∨ j = 7 ∨ j = 8 ∨ j = 9 := by omega
    all_goals simp
  have hC := Lib.hid hcell
  clear hcell
  go_enter Tryz.func16, Tryz.ntmps16
  go_wp2
  clear g0 g1 g2 g3 g4 g5 g6 g7 g8 g9
  go_loop [21] (fun i => ∃ j : Nat, j ≤ k ∧ i = .int .i64 j) (fun i => (10 - intOf i).toNat)
  case atStart => exact ⟨0, Nat.zero_le _, rfl⟩
  case round =>
    obtain ⟨j, hj, rfl⟩ := hrel
    have hjc := hC.out j (by omega)
    by_cases hjk : j = k
    · subst hjk
      go_wp2_with (go_at_call 59; refine (is_same _ _).mono ?_; rintro e w' ⟨rfl, rfl⟩)
      go_ret
      exact ⟨rfl, (by repeat (first | with_reducible exact Gr.refl _ | with_reducible assumption | with_reducible apply Gr.alloc | with_reducible apply Gr.drewN | with_reducible apply Gr.drew | with_reducible apply Gr.grow | (with_reducible refine Gr.trans ?_ (by assumption))))⟩
    · have hjl : j < k := by omega
      go_wp2_with (go_at_call 59; refine (is_not hE k j hk (by omega) hjl).mono ?_; rintro e w' ⟨rfl, rfl⟩)
      go_round
      case rel => exact ⟨j + 1, by omega, by go_num⟩
      case measure => simp [intOf]; omega

theorem num_any {A : Nat → Addr} {w : World} (h : Errs w A) (k : Nat) (hk : k < 10) :
    Calls Tryz.prog 16 #[.iface 258 (.pointer (some (A k)))] w fun e w' => e = .returned (.int .i64 ((k : Int) + 1)) ∧ Below w.heap.size w w' :=
  (num_anyG h k hk).mono fun e w' ⟨a, b⟩ => ⟨a, b.below⟩
theorem num_range {A : Nat → Addr} {w : World} (h : Errs w A) : Calls Tryz.prog 16 #[.iface 258 (.pointer (some (A 0)))] w fun e w' => e = .returned (.int .i64 1) ∧ Below w.heap.size w w' := num_any h 0 (by omega)
theorem num_full {A : Nat → Addr} {w : World} (h : Errs w A) : Calls Tryz.prog 16 #[.iface 258 (.pointer (some (A 1)))] w fun e w' => e = .returned (.int .i64 2) ∧ Below w.heap.size w w' := num_any h 1 (by omega)
theorem num_none {A : Nat → Addr} {w : World} (h : Errs w A) : Calls Tryz.prog 16 #[.iface 258 (.pointer (some (A 2)))] w fun e w' => e = .returned (.int .i64 3) ∧ Below w.heap.size w w' := num_any h 2 (by omega)
theorem num_exists {A : Nat → Addr} {w : World} (h : Errs w A) : Calls Tryz.prog 16 #[.iface 258 (.pointer (some (A 3)))] w fun e w' => e = .returned (.int .i64 4) ∧ Below w.heap.size w w' := num_any h 3 (by omega)
theorem num_kind {A : Nat → Addr} {w : World} (h : Errs w A) : Calls Tryz.prog 16 #[.iface 258 (.pointer (some (A 4)))] w fun e w' => e = .returned (.int .i64 5) ∧ Below w.heap.size w w' := num_any h 4 (by omega)
theorem num_state {A : Nat → Addr} {w : World} (h : Errs w A) : Calls Tryz.prog 16 #[.iface 258 (.pointer (some (A 5)))] w fun e w' => e = .returned (.int .i64 6) ∧ Below w.heap.size w w' := num_any h 5 (by omega)
theorem num_form {A : Nat → Addr} {w : World} (h : Errs w A) : Calls Tryz.prog 16 #[.iface 258 (.pointer (some (A 6)))] w fun e w' => e = .returned (.int .i64 7) ∧ Below w.heap.size w w' := num_any h 6 (by omega)
theorem num_blocked {A : Nat → Addr} {w : World} (h : Errs w A) : Calls Tryz.prog 16 #[.iface 258 (.pointer (some (A 7)))] w fun e w' => e = .returned (.int .i64 8) ∧ Below w.heap.size w w' := num_any h 7 (by omega)
theorem num_path {A : Nat → Addr} {w : World} (h : Errs w A) : Calls Tryz.prog 16 #[.iface 258 (.pointer (some (A 8)))] w fun e w' => e = .returned (.int .i64 9) ∧ Below w.heap.size w w' := num_any h 8 (by omega)
theorem num_goal {A : Nat → Addr} {w : World} (h : Errs w A) : Calls Tryz.prog 16 #[.iface 258 (.pointer (some (A 9)))] w fun e w' => e = .returned (.int .i64 10) ∧ Below w.heap.size w w' := num_any h 9 (by omega)

end Go.Proofs.YtaehendpdfpibaaGreatDoor

/-
  Pure: masks as numbers and as rows of 64 yes and no; kinds set one after another; the number of a row; the bits of a number; how many they are.
-/
namespace Go.Proofs.YtaehendpdfpibaaGreatDoor
set_option linter.unusedSimpArgs false
set_option linter.unusedVariables false

theorem lt64 {n i : Nat} (h : n < 18446744073709551616) (hi : 64 ≤ i) : n.testBit i = false := Nat.testBit_lt_two_pow (Nat.lt_of_lt_of_le h (by
  have : 2 ^ 64 ≤ 2 ^ i := Nat.pow_le_pow_right (by decide) hi
  omega))
theorem tb_ext {a b : Nat} (ha : a < 18446744073709551616) (hb : b < 18446744073709551616) (h : ∀ i, i < 64 → a.testBit i = b.testBit i) : a = b := Nat.eq_of_testBit_eq fun i => by
  rcases Nat.lt_or_ge i 64 with hi | hi
  · exact h i hi
  · rw [lt64 ha hi, lt64 hb hi]
theorem pow64 {k : Nat} (hk : k < 64) : 2 ^ k < 18446744073709551616 := by
  have : 2 ^ k < 2 ^ 64 := Nat.pow_lt_pow_right (by decide) hk
  omega

/-- One kind put to a mask, or taken away. -/
def opN (on : Bool) (m k : Nat) : Nat := if on then m ||| 2 ^ k else m &&& (18446744073709551615 - 2 ^ k)
theorem opN_lt (on : Bool) {m k : Nat} (hm : m < 18446744073709551616) (hk : k < 64) : opN on m k < 18446744073709551616 := by
  have h1 : m < 2 ^ 64 := by omega
  have h2 : 2 ^ k < 2 ^ 64 := by have := pow64 hk; omega
  cases on
  · have : m &&& (18446744073709551615 - 2 ^ k) < 2 ^ 64 := Nat.and_lt_two_pow _ (Nat.lt_of_le_of_lt (Nat.sub_le _ _) (by decide))
    unfold opN; simp; omega
  · have : m ||| 2 ^ k < 2 ^ 64 := Nat.or_lt_two_pow h1 h2
    unfold opN; simp; omega
theorem opN_bit (on : Bool) {m k : Nat} (hm : m < 18446744073709551616) (hk : k < 64) (i : Nat) : (opN on m k).testBit i = if i = k then on else m.testBit i := by
  have h2 : 2 ^ k < 2 ^ 64 := by have := pow64 hk; omega
  cases on
  · unfold opN
    simp only [Bool.false_eq_true, if_false]
    rw [Nat.testBit_and, show 18446744073709551615 - 2 ^ k = 2 ^ 64 - (2 ^ k + 1) by omega, Nat.testBit_two_pow_sub_succ h2, Nat.testBit_two_pow]
    by_cases h : i = k
    · subst h; simp
    · have h' : ¬ k = i := fun e => h e.symm
      rw [if_neg h]
      rcases Nat.lt_or_ge i 64 with hi | hi
      · simp [hi, h']
      · simp [lt64 hm hi]
  · unfold opN
    simp only [if_true]
    rw [Nat.testBit_or, Nat.testBit_two_pow]
    by_cases h : i = k
    · subst h; simp
    · have h' : ¬ k = i := fun e => h e.symm
      simp [h, h']

def kindB (k : Int) : Bool := decide (0 ≤ k) && decide (k < 10)
theorem kindB_iff (k : Int) : kindB k = true ↔ 0 ≤ k ∧ k < 10 := by simp [kindB]
def foldN (on : Bool) (m : Nat) (ks : List Int) : Nat := ks.foldl (fun m k => opN on m k.toNat) m
def putF (on : Bool) (f : Nat → Bool) (k : Nat) : Nat → Bool := fun i => if i = k then on else f i
def foldF (on : Bool) (f : Nat → Bool) (ks : List Int) : Nat → Bool := ks.foldl (fun f k => putF on f k.toNat) f
theorem fold_both (on : Bool) : ∀ (ks : List Int) (m : Nat) (f : Nat → Bool), m < 18446744073709551616 → (∀ i, m.testBit i = f i) → (∀ k ∈ ks, kindB k = true) → foldN on m ks < 18446744073709551616 ∧ ∀ i, (foldN on m ks).testBit i = foldF on f ks i
  | [], m, f, hm, hf, _ => ⟨hm, hf⟩
  | k :: r, m, f, hm, hf, hk => by
    have h0 := (kindB_iff k).1 (hk k (by simp))
    have hk64 : k.toNat < 64 := by omega
    exact fold_both on r _ _ (opN_lt on hm hk64) (fun i => by rw [opN_bit on hm hk64]; unfold putF; rw [hf]) (fun x hx => hk x (by simp [hx]))
theorem foldN_snoc (on : Bool) (m : Nat) (l : List Int) (k : Int) : foldN on m (l ++ [k]) = opN on (foldN on m l) k.toNat := by simp [foldN]
theorem foldF_snoc (on : Bool) (f : Nat → Bool) (l : List Int) (k : Int) : foldF on f (l ++ [k]) = putF on (foldF on f l) k.toNat := by simp [foldF]
theorem foldN_lt (on : Bool) (m : Nat) (l : List Int) (hm : m < 18446744073709551616) (hk : ∀ k ∈ l, kindB k = true) : foldN on m l < 18446744073709551616 := (fold_both on l m (fun i => m.testBit i) hm (fun _ => rfl) hk).1

/-! ### The number of a row, from its highest place down. -/
def valN (f : Nat → Bool) : Nat → Nat
  | 0 => 0
  | t + 1 => 2 * valN f t + (f (63 - t)).toNat
theorem valN_succ (f : Nat → Bool) (t : Nat) : valN f (t + 1) = 2 * valN f t + (f (63 - t)).toNat := rfl
theorem valN_bit (f : Nat → Bool) : ∀ t, t ≤ 64 → ∀ i, (valN f t).testBit i = (decide (i < t) && f (64 - t + i))
  | 0, _, i => by simp [valN]
  | t + 1, ht, i => by
    have ih := valN_bit f t (by omega)
    cases i with
    | zero =>
      have e : 64 - (t + 1) + 0 = 63 - t := by omega
      rw [e]
      rw [valN_succ]
      cases h : f (63 - t) <;> simp [Nat.testBit_zero] <;> omega
    | succ i =>
      have e : 64 - (t + 1) + (i + 1) = 64 - t + i := by omega
      rw [e, Nat.testBit_succ]
      have h2 : valN f (t + 1) / 2 = valN f t := by
        rw [valN_succ]
        have := Bool.toNat_le (f (63 - t))
        omega
      rw [h2, ih]
      simp
theorem valN_lt (f : Nat → Bool) : ∀ t, valN f t < 2 ^ t
  | 0 => by simp [valN]
  | t + 1 => by
    have := valN_lt f t
    have h := Bool.toNat_le (f (63 - t))
    rw [Nat.pow_succ, valN_succ]
    omega
theorem valN_full (f : Nat → Bool) (i : Nat) (hi : i < 64) : (valN f 64).testBit i = f i := by rw [valN_bit f 64 (by omega)]; simp [hi]
theorem valN_of {m : Nat} {f : Nat → Bool} (hm : m < 18446744073709551616) (h : ∀ i, i < 64 → m.testBit i = f i) : valN f 64 = m := tb_ext (by have := valN_lt f 64; omega) hm fun i hi => by rw [valN_full f i hi, h i hi]

/-! ### The places of the bits that are set. -/
def bitsOf (f : Nat → Bool) : List Nat := (List.range 64).filter f
def kindsOf (f : Nat → Bool) : List Int := (bitsOf f).map Int.ofNat
theorem mem_bitsOf (f : Nat → Bool) (i : Nat) : i ∈ bitsOf f ↔ i < 64 ∧ f i = true := by simp [bitsOf]
theorem bitsOf_congr {f g : Nat → Bool} (h : ∀ i, i < 64 → f i = g i) : bitsOf f = bitsOf g := List.filter_congr fun i hi => by rw [h i (by simpa using hi)]
theorem bitsOf_none {f : Nat → Bool} (h : ∀ i, i < 64 → f i = false) : bitsOf f = [] := by
  rw [bitsOf, List.filter_eq_nil_iff]
  intro i hi
  rw [h i (by simpa using hi)]
  simp
theorem range_parts (k : Nat) (hk : k < 64) : List.range 64 = List.range k ++ k :: List.range' (k + 1) (63 - k) := by
  have e1 : List.range 64 = List.range' 0 (k + (63 - k + 1)) := by rw [List.range_eq_range']; congr 1; omega
  rw [e1, ← List.range'_append_1, Nat.zero_add, List.range'_succ, ← List.range_eq_range']
/-- The lowest place first. -/
theorem bitsOf_low {f g : Nat → Bool} {k : Nat} (hk : k < 64) (h1 : f k = true) (h2 : ∀ i, i < k → f i = false) (hg : ∀ i, g i = (f i && !decide (i = k))) : bitsOf f = k :: bitsOf g := by
  have low : ∀ p : Nat → Bool, (∀ i, i < k → p i = false) → (List.range k).filter p = [] := fun p hp => by
    rw [List.filter_eq_nil_iff]
    intro i hi
    rw [hp i (by simpa using hi)]
    simp
  unfold bitsOf
  rw [range_parts k hk, List.filter_append, List.filter_append, low f h2, low g (fun i hi => by rw [hg, h2 i hi]; rfl), List.filter_cons_of_pos h1, List.filter_cons_of_neg (by rw [hg]; simp)]
  simp only [List.nil_append, List.cons.injEq, true_and]
  refine List.filter_congr fun i hi => ?_
  have : k + 1 ≤ i := (List.mem_range'_1.1 hi).1
  rw [hg]
  simp
  intro _
  omega
theorem tb_zero {n : Nat} (h : n ≠ 0) (hn : n < 18446744073709551616) : ∃ i, i < 64 ∧ n.testBit i = true := by
  obtain ⟨i, hi⟩ := Nat.exists_testBit_of_ne_zero h
  refine ⟨i, ?_, hi⟩
  rcases Nat.lt_or_ge i 64 with h' | h'
  · exact h'
  · rw [lt64 hn h'] at hi; cases hi

/-! ### The lowest bit taken away. -/
theorem clear_low (k m i : Nat) : ((2 ^ k * (2 * m + 1)) &&& (2 ^ k * (2 * m + 1) - 1)).testBit i = ((2 ^ k * (2 * m + 1)).testBit i && !decide (i = k)) := by
  have hp : 0 < 2 ^ k := Nat.two_pow_pos k
  have e : 2 ^ k * (2 * m + 1) - 1 = 2 ^ k * (2 * m) + (2 ^ k - 1) := by rw [Nat.mul_add, Nat.mul_one]; omega
  rw [Nat.testBit_and, e, Nat.testBit_two_pow_mul_add _ (by omega)]
  have h0 := Nat.testBit_two_pow_mul_add (2 * m + 1) hp i
  rw [Nat.add_zero] at h0
  rw [h0]
  by_cases h : i < k
  · rw [if_pos h, if_pos h]
    simp
  · rw [if_neg h, if_neg h]
    by_cases hik : i = k
    · subst hik
      simp
    · obtain ⟨j, hj⟩ : ∃ j, i - k = j + 1 := ⟨i - k - 1, by omega⟩
      rw [hj, Nat.testBit_succ, Nat.testBit_succ, show (2 * m + 1) / 2 = m by omega, show 2 * m / 2 = m by omega]
      simp [hik]
theorem low_at (k m : Nat) : (2 ^ k * (2 * m + 1)).testBit k = true ∧ ∀ i, i < k → (2 ^ k * (2 * m + 1)).testBit i = false := by
  have h0 := fun i => Nat.testBit_two_pow_mul_add (2 * m + 1) (Nat.two_pow_pos k) i
  simp only [Nat.add_zero] at h0
  refine ⟨?_, fun i hi => ?_⟩
  · rw [h0, if_neg (Nat.lt_irrefl _), Nat.sub_self]
    simp [Nat.testBit_zero]
  · rw [h0, if_pos hi]
    simp
theorem ctz_form {x : Nat} (h0 : x ≠ 0) (h : x < 18446744073709551616) : ∃ m, x = 2 ^ Lib.ctz 64 x * (2 * m + 1) ∧ Lib.ctz 64 x < 64 := by
  have := Lib.ctzFrom_spec 64 x (by omega) (by omega)
  unfold Lib.ctz
  rw [if_neg h0]
  exact this
/-- The bits of a number: the lowest, then those of the number without it. -/
theorem bits_step {x : Nat} (h0 : x ≠ 0) (h : x < 18446744073709551616) : bitsOf (fun i => x.testBit i) = Lib.ctz 64 x :: bitsOf (fun i => (x &&& (x - 1)).testBit i) := by
  obtain ⟨m, e, hk⟩ := ctz_form h0 h
  generalize Lib.ctz 64 x = k at *
  subst e
  exact bitsOf_low hk (low_at k m).1 (low_at k m).2 (fun i => clear_low k m i)

/-! ### How many bits are set: bits.OnesCount64's reckoning. -/
def cnt : Nat → Nat → Nat
  | 0, _ => 0
  | n + 1, x => x % 2 + cnt n (x / 2)
theorem cnt_split (a b : Nat) (ha : a < 256) (n : Nat) : cnt (8 + n) (256 * b + a) = cnt 8 a + cnt n b := by
  rw [Nat.add_comm 8 n]
  simp only [cnt]
  have e1 : (256 * b + a) / 2 / 2 / 2 / 2 / 2 / 2 / 2 / 2 = b := by omega
  rw [e1]
  omega
theorem cnt_filter : ∀ (n x s : Nat), cnt n x = ((List.range' s n).filter fun i => x.testBit (i - s)).length
  | 0, x, s => by simp [cnt]
  | n + 1, x, s => by
    have ih := cnt_filter n (x / 2) (s + 1)
    have e : ((List.range' (s + 1) n).filter fun i => (x / 2).testBit (i - (s + 1))) = (List.range' (s + 1) n).filter fun i => x.testBit (i - s) := List.filter_congr fun i hi => by
      have h1 : s + 1 ≤ i := (List.mem_range'_1.1 hi).1
      have h2 : i - s = i - (s + 1) + 1 := by omega
      rw [h2, Nat.testBit_succ]
    rw [e] at ih
    rw [List.range'_succ]
    unfold cnt
    rw [ih]
    by_cases h : x % 2 = 1
    · rw [List.filter_cons_of_pos (by simp [Nat.testBit_zero, h]), h, List.length_cons]
      omega
    · rw [List.filter_cons_of_neg (by simp [Nat.testBit_zero, h])]
      omega
theorem cnt_bits (x : Nat) : cnt 64 x = (bitsOf fun i => x.testBit i).length := by
  have := cnt_filter 64 x 0
  rw [this, bitsOf, List.range_eq_range']
  simp

theorem and_split (a b c d : Nat) (ha : a < 256) (hc : c < 256) : (256 * b + a) &&& (256 * d + c) = 256 * (b &&& d) + (a &&& c) := by
  have h8 : a &&& c < 2 ^ 8 := Nat.and_lt_two_pow _ (by omega)
  refine Nat.eq_of_testBit_eq fun i => ?_
  rw [Nat.testBit_and, show (256 : Nat) = 2 ^ 8 from rfl, Nat.testBit_two_pow_mul_add _ (by omega), Nat.testBit_two_pow_mul_add _ (by omega), Nat.testBit_two_pow_mul_add _ h8]
  split <;> simp
def rep (c : Nat) : Nat → Nat
  | 0 => 0
  | n + 1 => 256 * rep c n + c
def s1 (m : Nat) (x : Nat) : Nat := (x / 2 &&& m) + (x &&& m)
def s2 (m : Nat) (x : Nat) : Nat := (x / 4 &&& m) + (x &&& m)
def s3 (m : Nat) (x : Nat) : Nat := (x / 16 + x) &&& m
def ofD : List Nat → Nat
  | [] => 0
  | a :: l => 256 * ofD l + a
theorem b1 : ∀ a : Fin 256, ∀ c : Fin 2, (a.val / 2 + 128 * c.val) &&& 85 = a.val / 2 &&& 85 := by decide +kernel
theorem b2 : ∀ a : Fin 256, ∀ c : Fin 4, (a.val / 4 + 64 * c.val) &&& 51 = a.val / 4 &&& 51 := by decide +kernel
theorem b3 : ∀ a : Fin 256, (s1 85 a.val) < 256 ∧ s2 51 (s1 85 a.val) / 16 ≤ 4 ∧ s2 51 (s1 85 a.val) % 16 ≤ 4 ∧ s2 51 (s1 85 a.val) < 256 := by decide +kernel
theorem b4 : ∀ p : Fin 5, ∀ q : Fin 5, ∀ c : Fin 5, ((p.val + (16 * p.val + q.val) + 16 * c.val) &&& 15) = (p.val + (16 * p.val + q.val)) &&& 15 := by decide +kernel
theorem b5 : ∀ a : Fin 256, s3 15 (s2 51 (s1 85 a.val)) = cnt 8 a.val ∧ cnt 8 a.val ≤ 8 := by decide +kernel
theorem S1 : ∀ l : List Nat, (∀ a ∈ l, a < 256) → s1 (rep 85 l.length) (ofD l) = ofD (l.map (s1 85))
  | [], _ => rfl
  | a :: l, h => by
    have ha : a < 256 := h a (by simp)
    have ih := S1 l (fun x hx => h x (by simp [hx]))
    unfold s1 at ih ⊢
    simp only [ofD, List.map_cons, List.length_cons, rep]
    have e : (256 * ofD l + a) / 2 = 256 * (ofD l / 2) + (a / 2 + 128 * (ofD l % 2)) := by omega
    have hb := b1 ⟨a, ha⟩ ⟨ofD l % 2, by omega⟩
    simp only at hb
    rw [e, and_split _ _ _ _ (by omega) (by omega), and_split _ _ _ _ (by omega) (by omega), hb, ← ih]
    omega
theorem S2 : ∀ l : List Nat, (∀ a ∈ l, a < 256) → s2 (rep 51 l.length) (ofD l) = ofD (l.map (s2 51))
  | [], _ => rfl
  | a :: l, h => by
    have ha : a < 256 := h a (by simp)
    have ih := S2 l (fun x hx => h x (by simp [hx]))
    unfold s2 at ih ⊢
    simp only [ofD, List.map_cons, List.length_cons, rep]
    have e : (256 * ofD l + a) / 4 = 256 * (ofD l / 4) + (a / 4 + 64 * (ofD l % 4)) := by omega
    have hb := b2 ⟨a, ha⟩ ⟨ofD l % 4, by omega⟩
    simp only at hb
    rw [e, and_split _ _ _ _ (by omega) (by omega), and_split _ _ _ _ (by omega) (by omega), hb, ← ih]
    omega
theorem ofD_low : ∀ l : List Nat, (∀ a ∈ l, a % 16 ≤ 4) → ofD l % 16 ≤ 4
  | [], _ => by simp [ofD]
  | a :: l, h => by
    have := h a (by simp)
    simp only [ofD]
    omega
theorem S3 : ∀ l : List Nat, (∀ a ∈ l, a < 256 ∧ a / 16 ≤ 4 ∧ a % 16 ≤ 4) → s3 (rep 15 l.length) (ofD l) = ofD (l.map (s3 15))
  | [], _ => rfl
  | a :: l, h => by
    obtain ⟨ha, h1, h2⟩ := h a (by simp)
    have ih := S3 l (fun x hx => h x (by simp [hx]))
    have hl := ofD_low l (fun x hx => (h x (by simp [hx])).2.2)
    unfold s3 at ih ⊢
    simp only [ofD, List.map_cons, List.length_cons, rep]
    have hb := b4 ⟨a / 16, by omega⟩ ⟨a % 16, by omega⟩ ⟨ofD l % 16, by omega⟩
    simp only at hb
    rw [show a / 16 + (16 * (a / 16) + a % 16) = a / 16 + a by omega] at hb
    have e : (256 * ofD l + a) / 16 + (256 * ofD l + a) = 256 * (ofD l / 16 + ofD l) + (a / 16 + a + 16 * (ofD l % 16)) := by omega
    rw [e, and_split _ _ _ _ (by omega) (by omega), hb, ← ih]
def popN (x : Nat) : Nat :=
  let y := s3 1085102592571150095 (s2 3689348814741910323 (s1 6148914691236517205 x))
  let a := y + y / 256
  let b := a + a / 65536
  (b + b / 4294967296) % 128
def cntD : List Nat → Nat
  | [] => 0
  | a :: l => cnt 8 a + cntD l
theorem cnt_ofD : ∀ l : List Nat, (∀ a ∈ l, a < 256) → cnt (8 * l.length) (ofD l) = cntD l
  | [], _ => rfl
  | a :: l, h => by
    have ih := cnt_ofD l (fun x hx => h x (by simp [hx]))
    simp only [ofD, List.length_cons, cntD]
    rw [show 8 * (l.length + 1) = 8 + 8 * l.length by omega, cnt_split a (ofD l) (h a (by simp)), ih]
theorem pop_sum (p0 p1 p2 p3 p4 p5 p6 p7 : Nat) (h0 : p0 ≤ 8) (h1 : p1 ≤ 8) (h2 : p2 ≤ 8) (h3 : p3 ≤ 8) (h4 : p4 ≤ 8) (h5 : p5 ≤ 8) (h6 : p6 ≤ 8) (h7 : p7 ≤ 8) :
    (ofD [p0, p1, p2, p3, p4, p5, p6, p7] + ofD [p0, p1, p2, p3, p4, p5, p6, p7] / 256 + (ofD [p0, p1, p2, p3, p4, p5, p6, p7] + ofD [p0, p1, p2, p3, p4, p5, p6, p7] / 256) / 65536 + (ofD [p0, p1, p2, p3, p4, p5, p6, p7] + ofD [p0, p1, p2, p3, p4, p5, p6, p7] / 256 + (ofD [p0, p1, p2, p3, p4, p5, p6, p7] + ofD [p0, p1, p2, p3, p4, p5, p6, p7] / 256) / 65536) / 4294967296) % 128 = p0 + p1 + p2 + p3 + p4 + p5 + p6 + p7 := by
  have e0 : ofD [p0, p1, p2, p3, p4, p5, p6, p7] = p0 + 256 * p1 + 65536 * p2 + 16777216 * p3 + 4294967296 * p4 + 1099511627776 * p5 + 281474976710656 * p6 + 72057594037927936 * p7 := by simp only [ofD]; omega
  have e1 : ofD [p0, p1, p2, p3, p4, p5, p6, p7] / 256 = p1 + 256 * p2 + 65536 * p3 + 16777216 * p4 + 4294967296 * p5 + 1099511627776 * p6 + 281474976710656 * p7 := by omega
  rw [e1, e0]
  have e2 : (p0 + 256 * p1 + 65536 * p2 + 16777216 * p3 + 4294967296 * p4 + 1099511627776 * p5 + 281474976710656 * p6 + 72057594037927936 * p7 + (p1 + 256 * p2 + 65536 * p3 + 16777216 * p4 + 4294967296 * p5 + 1099511627776 * p6 + 281474976710656 * p7)) / 65536 = (p2 + p3) + 256 * (p3 + p4) + 65536 * (p4 + p5) + 16777216 * (p5 + p6) + 4294967296 * (p6 + p7) + 1099511627776 * p7 := by omega
  rw [e2]
  have e3 : (p0 + 256 * p1 + 65536 * p2 + 16777216 * p3 + 4294967296 * p4 + 1099511627776 * p5 + 281474976710656 * p6 + 72057594037927936 * p7 + (p1 + 256 * p2 + 65536 * p3 + 16777216 * p4 + 4294967296 * p5 + 1099511627776 * p6 + 281474976710656 * p7) + ((p2 + p3) + 256 * (p3 + p4) + 65536 * (p4 + p5) + 16777216 * (p5 + p6) + 4294967296 * (p6 + p7) + 1099511627776 * p7)) / 4294967296 = (p4 + p5 + p6 + p7) + 256 * (p5 + p6 + p7) + 65536 * (p6 + p7) + 16777216 * p7 := by
    have hA : p0 + p1 + p2 + p3 + 256 * (p1 + p2 + p3 + p4) + 65536 * (p2 + p3 + p4 + p5) + 16777216 * (p3 + p4 + p5 + p6) < 4294967296 := by omega
    generalize hB : (p4 + p5 + p6 + p7) + 256 * (p5 + p6 + p7) + 65536 * (p6 + p7) + 16777216 * p7 = B
    generalize hA' : p0 + p1 + p2 + p3 + 256 * (p1 + p2 + p3 + p4) + 65536 * (p2 + p3 + p4 + p5) + 16777216 * (p3 + p4 + p5 + p6) = A at hA
    clear e0 e1 e2 h0 h1 h2 h3 h4 h5 h6 h7
    have : p0 + 256 * p1 + 65536 * p2 + 16777216 * p3 + 4294967296 * p4 + 1099511627776 * p5 + 281474976710656 * p6 + 72057594037927936 * p7 + (p1 + 256 * p2 + 65536 * p3 + 16777216 * p4 + 4294967296 * p5 + 1099511627776 * p6 + 281474976710656 * p7) + ((p2 + p3) + 256 * (p3 + p4) + 65536 * (p4 + p5) + 16777216 * (p5 + p6) + 4294967296 * (p6 + p7) + 1099511627776 * p7) = A + 4294967296 * B := by omega
    rw [this, Nat.add_mul_div_left _ _ (by decide), Nat.div_eq_of_lt hA, Nat.zero_add]
  clear e0 e1 e2
  rw [e3]
  have e4 : p0 + 256 * p1 + 65536 * p2 + 16777216 * p3 + 4294967296 * p4 + 1099511627776 * p5 + 281474976710656 * p6 + 72057594037927936 * p7 + (p1 + 256 * p2 + 65536 * p3 + 16777216 * p4 + 4294967296 * p5 + 1099511627776 * p6 + 281474976710656 * p7) + ((p2 + p3) + 256 * (p3 + p4) + 65536 * (p4 + p5) + 16777216 * (p5 + p6) + 4294967296 * (p6 + p7) + 1099511627776 * p7) + ((p4 + p5 + p6 + p7) + 256 * (p5 + p6 + p7) + 65536 * (p6 + p7) + 16777216 * p7)
      = p0 + p1 + p2 + p3 + p4 + p5 + p6 + p7 + 128 * (2 * (p1 + p2 + p3 + p4 + p5 + p6 + p7) + 512 * (p2 + p3 + p4 + p5 + p6 + p7) + 131072 * (p3 + p4 + p5 + p6 + p7) + 33554432 * (p4 + p5 + p6 + p7) + 8589934592 * (p5 + p6 + p7) + 2199023255552 * (p6 + p7) + 562949953421312 * p7) := by omega
  rw [e4, Nat.add_mul_mod_self_left]
  exact Nat.mod_eq_of_lt (by omega)
def dig : Nat → Nat → List Nat
  | 0, _ => []
  | n + 1, x => x % 256 :: dig n (x / 256)
theorem dig_is : ∀ n x, x < 256 ^ n → (dig n x).length = n ∧ (∀ a ∈ dig n x, a < 256) ∧ ofD (dig n x) = x
  | 0, x, h => by
    have : x = 0 := by simpa using h
    subst this
    exact ⟨rfl, fun a ha => by simp [dig] at ha, rfl⟩
  | n + 1, x, h => by
    obtain ⟨h1, h2, h3⟩ := dig_is n (x / 256) (Nat.div_lt_of_lt_mul (by rw [Nat.mul_comm, ← Nat.pow_succ]; exact h))
    refine ⟨by simp [dig, h1], fun a ha => ?_, ?_⟩
    · rcases List.mem_cons.1 ha with rfl | ha
      · exact Nat.mod_lt _ (by decide)
      · exact h2 a ha
    · simp only [dig, ofD, h3]
      exact Nat.div_add_mod x 256
theorem bytes8 {x : Nat} (h : x < 18446744073709551616) : ∃ l : List Nat, l.length = 8 ∧ (∀ a ∈ l, a < 256) ∧ ofD l = x :=
  ⟨dig 8 x, (dig_is 8 x (Nat.lt_of_lt_of_eq h (by decide))).1, (dig_is 8 x (Nat.lt_of_lt_of_eq h (by decide))).2.1, (dig_is 8 x (Nat.lt_of_lt_of_eq h (by decide))).2.2⟩
end Go.Proofs.YtaehendpdfpibaaGreatDoor

/-
  Of no program: components and rows of them: which are right, what a row is, a row's component of a kind, a row with one and without one.
-/
namespace Go.Proofs.YtaehendpdfpibaaGreatDoor
set_option linter.unusedSimpArgs false
set_option linter.unusedVariables false

abbrev Vl := Int × Int × Int

/-! ### Components. -/
/-- The ranges of a kind's A and B. -/
def rngV (k : Int) : (Int × Int) × (Int × Int) :=
  if k = 0 ∨ k = 2 then ((-1048576, 1048576), (-1048576, 1048576))
  else if k = 1 then ((0, 1048576), (0, 1048576))
  else if k = 3 then ((0, 0), (0, 0))
  else if k = 4 then ((0, 255), (0, 0))
  else if k = 5 then ((0, 1048576), (0, 0))
  else ((-4194304, 4194304), (-4194304, 4194304))
def inV (n : Int) (r : Int × Int) : Bool := decide (r.1 ≤ n) && decide (n ≤ r.2)
/-- The error's number of a component. -/
def chk (x : Vl) : Nat := if kindB x.1 then (if inV x.2.1 (rngV x.1).1 && inV x.2.2 (rngV x.1).2 then 0 else 1) else 5
theorem chk_kind {x : Vl} (h : chk x = 0) : kindB x.1 = true := by
  unfold chk at h
  split at h
  · assumption
  · cases h
theorem chk_is (x : Vl) : chk x = 0 ∨ chk x = 1 ∨ chk x = 5 := by
  unfold chk
  repeat' split
  all_goals simp
theorem chk_yes {x : Vl} (h : chk x = 0) : (rngV x.1).1.1 ≤ x.2.1 ∧ x.2.1 ≤ (rngV x.1).1.2 ∧ (rngV x.1).2.1 ≤ x.2.2 ∧ x.2.2 ≤ (rngV x.1).2.2 := by
  unfold chk at h
  split at h
  · split at h
    · rename_i h2
      simp [inV] at h2
      exact ⟨h2.1.1, h2.1.2, h2.2.1, h2.2.2⟩
    · cases h
  · cases h
theorem chk_pos {a b : Int} : chk (0, a, b) = 0 ↔ (-1048576 ≤ a ∧ a ≤ 1048576) ∧ (-1048576 ≤ b ∧ b ≤ 1048576) := by
  simp [chk, kindB, rngV, inV]
  omega
theorem chk_ext {a b : Int} : chk (1, a, b) = 0 ↔ (0 ≤ a ∧ a ≤ 1048576) ∧ (0 ≤ b ∧ b ≤ 1048576) := by
  simp [chk, kindB, rngV, inV]
  omega

/-! ### Rows. -/
/-- The first error. -/
def firstE : List Vl → Nat
  | [] => 0
  | x :: r => if chk x = 0 then firstE r else chk x
theorem firstE_zero : ∀ l : List Vl, firstE l = 0 ↔ ∀ x ∈ l, chk x = 0
  | [] => by simp [firstE]
  | x :: r => by
    unfold firstE
    split
    · rename_i h; rw [firstE_zero r]; simp [h]
    · rename_i h; simp [h]
theorem firstE_is : ∀ l : List Vl, firstE l = 0 ∨ firstE l = 1 ∨ firstE l = 5
  | [] => .inl rfl
  | x :: r => by
    unfold firstE
    split
    · exact firstE_is r
    · exact chk_is x
theorem firstE_at {l : List Vl} {i : Nat} {x : Vl} (hi : l[i]? = some x) (hx : chk x ≠ 0) (hb : ∀ y ∈ l.take i, chk y = 0) : firstE l = chk x := by
  induction l generalizing i with
  | nil => simp at hi
  | cons y r ih =>
    cases i with
    | zero =>
      simp at hi
      subst hi
      simp [firstE, hx]
    | succ i =>
      simp at hi hb
      rw [firstE, if_pos hb.1]
      exact ih hi (fun y hy => hb.2 y.1 y.2.1 y.2.2 hy)

def ofKind (k : Nat) (l : List Vl) : List Vl := l.filter fun x => x.1 == (k : Int)
def rowTo (n : Nat) (l : List Vl) : List Vl := (List.range n).flatMap fun k => ofKind k l
theorem rowTo_succ (n : Nat) (l : List Vl) : rowTo (n + 1) l = rowTo n l ++ ofKind n l := by simp [rowTo, List.range_succ]
def dupB (l : List Vl) : Bool := (List.range 10).any fun k => decide (1 < (ofKind k l).length)
/-- The error's number of components put to a row. -/
def rowN (l : List Vl) : Nat := if firstE l ≠ 0 then firstE l else if dupB l then 4 else 0
def rowL (l : List Vl) : List Vl := if rowN l = 0 then rowTo 10 l else []
abbrev RiseK (l : List Vl) : Prop := l.Pairwise fun x y => x.1 < y.1

theorem dup_no (l : List Vl) : dupB l = false ↔ ∀ k, k < 10 → (ofKind k l).length ≤ 1 := by
  simp [dupB, List.any_eq_false]
theorem mem_ofKind (k : Nat) (l : List Vl) (x : Vl) : x ∈ ofKind k l ↔ x ∈ l ∧ x.1 = k := by simp [ofKind]
theorem mem_rowTo (n : Nat) (l : List Vl) (x : Vl) : x ∈ rowTo n l ↔ x ∈ l ∧ 0 ≤ x.1 ∧ x.1 < n := by
  simp only [rowTo, List.mem_flatMap, List.mem_range, mem_ofKind]
  constructor
  · rintro ⟨k, hk, hx, e⟩
    exact ⟨hx, by omega, by omega⟩
  · rintro ⟨hx, h0, hn⟩
    exact ⟨x.1.toNat, by omega, hx, by omega⟩
theorem rowTo_rise (l : List Vl) (h : dupB l = false) : ∀ n, n ≤ 10 → RiseK (rowTo n l)
  | 0, _ => by simp [rowTo, RiseK]
  | n + 1, hn => by
    rw [rowTo_succ]
    refine List.pairwise_append.2 ⟨rowTo_rise l h n (by omega), ?_, fun x hx y hy => ?_⟩
    · have := (dup_no l).1 h n (by omega)
      match ofKind n l, this with
      | [], _ => simp
      | [x], _ => simp
    · have h1 := (mem_rowTo n l x).1 hx
      have h2 := (mem_ofKind n l y).1 hy
      omega
theorem rkFilter {l : List Vl} (p : Vl → Bool) (h : RiseK l) : RiseK (l.filter p) := List.Pairwise.filter p h
theorem rkrise_nodup {l : List Vl} (h : RiseK l) : dupB l = false := (dup_no l).2 fun k _ => by
  have h1 : RiseK (ofKind k l) := rkFilter _ h
  have h2 : ∀ x ∈ ofKind k l, x.1 = k := fun x hx => ((mem_ofKind k l x).1 hx).2
  match ofKind k l, h1, h2 with
  | [], _, _ => simp
  | [x], _, _ => simp
  | x :: y :: r, h1, h2 =>
    have := (List.pairwise_cons.1 h1).1 y (by simp)
    have hx := h2 x (by simp)
    have hy := h2 y (by simp)
    omega
/-- TWO RISING ROWS OF THE SAME MEMBERS ARE ONE. -/
theorem rise_ext : ∀ (a b : List Vl), RiseK a → RiseK b → (∀ x, x ∈ a ↔ x ∈ b) → a = b
  | [], [], _, _, _ => rfl
  | [], y :: _, _, _, hm => absurd ((hm y).2 (by simp)) (by simp)
  | x :: _, [], _, _, hm => absurd ((hm x).1 (by simp)) (by simp)
  | x :: r, y :: s, ha, hb, hm => by
    obtain ⟨hx, ha'⟩ := List.pairwise_cons.1 ha
    obtain ⟨hy, hb'⟩ := List.pairwise_cons.1 hb
    have exy : x = y := by
      rcases List.mem_cons.1 ((hm x).1 (by simp)) with e | e
      · exact e
      · rcases List.mem_cons.1 ((hm y).2 (by simp)) with f | f
        · exact f.symm
        · have := hy x e; have := hx y f; omega
    subst exy
    congr 1
    refine rise_ext r s ha' hb' fun z => ?_
    constructor
    · intro hz
      rcases List.mem_cons.1 ((hm z).1 (List.mem_cons_of_mem _ hz)) with e | e
      · subst e; have := hx z hz; omega
      · exact e
    · intro hz
      rcases List.mem_cons.1 ((hm z).2 (List.mem_cons_of_mem _ hz)) with e | e
      · subst e; have := hy z hz; omega
      · exact e
/-- Sorted by kind, none twice: rising. -/
theorem rise_of_le : ∀ l : List Vl, (∀ x ∈ l, kindB x.1 = true) → dupB l = false → l.Pairwise (fun x y => x.1 ≤ y.1) → RiseK l
  | [], _, _, _ => by simp [RiseK]
  | x :: r, hk, hd, hp => by
    obtain ⟨hx, hr⟩ := List.pairwise_cons.1 hp
    have hn := (dup_no _).1 hd
    have hd' : dupB r = false := (dup_no _).2 fun k h => by
      have := hn k h
      have h2 : (ofKind k r).length ≤ (ofKind k (x :: r)).length := by
        unfold ofKind; rw [List.filter_cons]; split <;> simp
      omega
    refine List.pairwise_cons.2 ⟨fun y hy => ?_, rise_of_le r (fun z hz => hk z (by simp [hz])) hd' hr⟩
    have h1 := hx y hy
    rcases Int.lt_or_eq_of_le h1 with h | h
    · exact h
    · have hkx := (kindB_iff _).1 (hk x (by simp))
      have := hn x.1.toNat (by omega)
      have e : ((x.1.toNat : Nat) : Int) = x.1 := by omega
      have hm : y ∈ ofKind x.1.toNat r := (mem_ofKind _ _ _).2 ⟨hy, by omega⟩
      have hpos := List.length_pos_of_mem hm
      unfold ofKind at this hpos
      rw [List.filter_cons, if_pos (by simp [e]), List.length_cons] at this
      omega
theorem dup_perm {a b : List Vl} (h : a.Perm b) : dupB a = dupB b := by
  unfold dupB
  congr 1
  funext k
  have : (ofKind k a).length = (ofKind k b).length := (h.filter _).length_eq
  rw [this]
/-- What a sorted permutation is, where no error stands: rising just if none stands twice, and then the row. -/
theorem sorted_row {l d : List Vl} (hp : d.Perm l) (hs : d.Pairwise (fun x y => x.1 ≤ y.1)) (he : firstE l = 0) : (dupB l = true → ¬ RiseK d) ∧ (dupB l = false → RiseK d ∧ d = rowTo 10 l) := by
  have hk : ∀ x ∈ l, kindB x.1 = true := fun x hx => chk_kind ((firstE_zero l).1 he x hx)
  refine ⟨fun h hr => ?_, fun h => ?_⟩
  · have := rkrise_nodup hr
    rw [dup_perm hp, h] at this
    cases this
  · have hr := rise_of_le d (fun x hx => hk x (hp.mem_iff.1 hx)) (by rw [dup_perm hp]; exact h) hs
    refine ⟨hr, rise_ext _ _ hr (rowTo_rise l h 10 (Nat.le_refl _)) fun x => ?_⟩
    rw [mem_rowTo, hp.mem_iff]
    constructor
    · intro hx
      have := (kindB_iff _).1 (hk x hx)
      exact ⟨hx, this.1, this.2⟩
    · exact fun h => h.1
/-- A right row. -/
def RightV (l : List Vl) : Prop := RiseK l ∧ ∀ x ∈ l, chk x = 0
theorem right_row {l : List Vl} (h : RightV l) : rowN l = 0 ∧ rowL l = l := by
  have h1 := (firstE_zero l).2 h.2
  have h2 := rkrise_nodup h.1
  have h3 : rowN l = 0 := by simp [rowN, h1, h2]
  refine ⟨h3, ?_⟩
  rw [rowL, if_pos h3]
  have := (sorted_row (List.Perm.refl l) (h.1.imp (fun h => Int.le_of_lt h)) h1).2 h2
  exact this.2.symm
theorem row_right {l : List Vl} (h : rowN l = 0) : RightV (rowL l) ∧ firstE l = 0 ∧ dupB l = false := by
  have h1 : firstE l = 0 := by
    unfold rowN at h
    split at h
    · rename_i h2; exact absurd h h2
    · rename_i h2; simpa using h2
  have h2 : dupB l = false := by
    unfold rowN at h
    rw [if_neg (by simp [h1])] at h
    split at h
    · cases h
    · rename_i h2; simpa using h2
  refine ⟨?_, h1, h2⟩
  rw [rowL, if_pos h]
  exact ⟨rowTo_rise l h2 10 (Nat.le_refl _), fun x hx => (firstE_zero l).1 h1 x ((mem_rowTo 10 l x).1 hx).1⟩
theorem rowN_is (l : List Vl) : rowN l = 0 ∨ rowN l = 1 ∨ rowN l = 4 ∨ rowN l = 5 := by
  have := firstE_is l
  unfold rowN
  repeat' split
  all_goals omega
theorem rowL_len (l : List Vl) : (rowL l).length ≤ 10 := by
  unfold rowL
  split
  · rename_i h
    obtain ⟨_, _, h2⟩ := row_right h
    have : ∀ n, n ≤ 10 → (rowTo n l).length ≤ n := by
      intro n
      induction n with
      | zero => intro _; simp [rowTo]
      | succ n ih =>
        intro hn
        have h1 := ih (by omega)
        have h3 := (dup_no l).1 h2 n (by omega)
        rw [rowTo_succ, List.length_append]
        omega
    exact this 10 (Nat.le_refl _)
  · simp
/-- Whether a row is right, as the program asks it, and as the reference does. -/
def rightB (l : List Vl) : Bool := decide (RiseK l) && l.all (fun x => chk x == 0)
theorem rightB_iff (l : List Vl) : rightB l = true ↔ RightV l := by simp [rightB, RightV]
theorem rightB_ref (l : List Vl) : (rowN l == 0 && decide (l = rowL l)) = rightB l := by
  rw [Bool.eq_iff_iff, rightB_iff]
  constructor
  · intro h
    simp at h
    rw [h.2]
    exact (row_right h.1).1
  · intro h
    obtain ⟨h1, h2⟩ := right_row h
    simp [h1, h2]

/-- Rising, step by step. -/
theorem rise_take_one (l : List Vl) : RiseK (l.take 1) := by
  match l with
  | [] => simp [RiseK]
  | [x] => simp [RiseK]
  | x :: y :: r => simp [RiseK]
theorem take_snoc {α : Type} [Inhabited α] (l : List α) {i : Nat} (h : i < l.length) : l.take (i + 1) = l.take i ++ [l[i]!] := by
  rw [getElem!_pos l i h]
  exact List.take_succ_eq_append_getElem h
theorem rise_step {l : List Vl} {i : Nat} (h0 : 0 < i) (h : i < l.length) (hr : RiseK (l.take i)) (hlt : l[i - 1]!.1 < l[i]!.1) : RiseK (l.take (i + 1)) := by
  rw [take_snoc l h]
  refine List.pairwise_append.2 ⟨hr, by simp, fun x hx y hy => ?_⟩
  simp only [List.mem_singleton] at hy
  subst hy
  obtain ⟨j, rfl⟩ : ∃ j, i = j + 1 := ⟨i - 1, by omega⟩
  rw [take_snoc l (by omega)] at hx hr
  rcases List.mem_append.1 hx with e | e
  · have := (List.pairwise_append.1 hr).2.2 x e l[j]! (by simp)
    simp only [Nat.add_sub_cancel] at hlt
    omega
  · simp only [List.mem_singleton] at e
    subst e
    simpa using hlt
theorem rise_no {l : List Vl} {i : Nat} (h0 : 0 < i) (h : i < l.length) (hge : l[i]!.1 ≤ l[i - 1]!.1) : ¬ RiseK l := fun hr => by
  have := List.pairwise_iff_getElem.1 hr (i - 1) i (by omega) h (by omega)
  rw [getElem!_pos l i h, getElem!_pos l (i - 1) (by omega)] at hge
  omega

/-! ### A row's component of a kind. -/
def findV (l : List Vl) (k : Int) : Option Vl := l.find? fun x => x.1 == k
theorem find_at {l : List Vl} {k : Int} {i : Nat} (hi : i < l.length) (hx : l[i]!.1 = k) (hb : ∀ j, j < i → l[j]!.1 ≠ k) : findV l k = some l[i]! := by
  rw [getElem!_pos l i hi] at hx ⊢
  unfold findV
  rw [List.find?_eq_some_iff_getElem]
  refine ⟨by simp [hx], i, hi, rfl, fun j hj => ?_⟩
  have := hb j hj
  rw [getElem!_pos l j (by omega)] at this
  simpa using this
theorem find_no {l : List Vl} {k : Int} (hb : ∀ j, j < l.length → l[j]!.1 ≠ k) : findV l k = none := by
  unfold findV
  rw [List.find?_eq_none]
  intro x hx
  obtain ⟨j, hj, rfl⟩ := List.getElem_of_mem hx
  have := hb j hj
  rw [getElem!_pos l j hj] at this
  simpa using this
theorem find_some {l : List Vl} {k : Int} {x : Vl} (h : findV l k = some x) : x ∈ l ∧ x.1 = k := by
  unfold findV at h
  exact ⟨List.mem_of_find?_eq_some h, by simpa using List.find?_some h⟩
theorem find_rise {l : List Vl} (hr : RiseK l) {x : Vl} (hx : x ∈ l) : findV l x.1 = some x := by
  unfold findV
  induction l with
  | nil => cases hx
  | cons y r ih =>
    obtain ⟨hy, hr'⟩ := List.pairwise_cons.1 hr
    rw [List.find?_cons]
    rcases List.mem_cons.1 hx with e | e
    · subst e; simp
    · have := hy x e
      have hne : (y.1 == x.1) = false := by simp; omega
      rw [hne]
      exact ih hr' e

/-! ### A row without a kind, and with a component. -/
def dropV (l : List Vl) (k : Int) : List Vl := l.filter fun x => !(x.1 == k)
theorem mem_dropV (l : List Vl) (k : Int) (x : Vl) : x ∈ dropV l k ↔ x ∈ l ∧ x.1 ≠ k := by simp [dropV]
def lessK (k : Int) (l : List Vl) : Nat := (l.takeWhile fun x => decide (x.1 < k)).length
theorem lessK_le (k : Int) (l : List Vl) : lessK k l ≤ l.length := by
  unfold lessK
  exact (List.takeWhile_prefix _).length_le
theorem lessK_at {k : Int} {l : List Vl} {i : Nat} (hi : i ≤ l.length) (h1 : ∀ j, j < i → l[j]!.1 < k) (h2 : i < l.length → ¬ l[i]!.1 < k) : lessK k l = i := by
  unfold lessK
  induction l generalizing i with
  | nil => simp at hi; simp [hi]
  | cons x r ih =>
    cases i with
    | zero =>
      have := h2 (by simp)
      simp at this
      rw [List.takeWhile_cons, if_neg (by simpa using this)]
      rfl
    | succ i =>
      have h0 := h1 0 (by omega)
      simp at h0
      rw [List.takeWhile_cons, if_pos (by simpa using h0), List.length_cons, ih (by simpa using hi) (fun j hj => by have := h1 (j + 1) (by omega); simpa using this) (fun hj => by have := h2 (by simpa using hj); simpa using this)]
theorem lessK_take (k : Int) (l : List Vl) : ∀ x ∈ l.take (lessK k l), x.1 < k := by
  intro x hx
  have e : l.take (lessK k l) = l.takeWhile fun x => decide (x.1 < k) := by
    unfold lessK
    clear hx
    induction l with
    | nil => rfl
    | cons y r ih =>
      rw [List.takeWhile_cons]
      split
      · simp only [List.length_cons, List.take_succ_cons, ih]
      · simp
  rw [e] at hx
  have := List.all_takeWhile (l := l) (p := fun x => decide (x.1 < k))
  simpa using List.all_eq_true.1 this x hx
theorem lessK_drop {k : Int} {l : List Vl} (hr : RiseK l) : ∀ x ∈ l.drop (lessK k l), k ≤ x.1 := by
  unfold lessK
  induction l with
  | nil => intro x hx; simp at hx
  | cons y r ih =>
    obtain ⟨hy, hr'⟩ := List.pairwise_cons.1 hr
    intro x hx
    rw [List.takeWhile_cons] at hx
    split at hx
    · simp at hx
      exact ih hr' x hx
    · rename_i hn
      simp at hn hx
      rcases hx with e | e
      · subst e; exact hn
      · have := hy x e; omega
def putV (l : List Vl) (x : Vl) : List Vl := (dropV l x.1).take (lessK x.1 (dropV l x.1)) ++ [x] ++ (dropV l x.1).drop (lessK x.1 (dropV l x.1))
theorem mem_putV (l : List Vl) (x y : Vl) : y ∈ putV l x ↔ y = x ∨ (y ∈ l ∧ y.1 ≠ x.1) := by
  rw [← mem_dropV]
  unfold putV
  generalize dropV l x.1 = d
  have := List.take_append_drop (lessK x.1 d) d
  constructor
  · intro h
    rcases List.mem_append.1 h with h | h
    · rcases List.mem_append.1 h with h | h
      · exact .inr (List.mem_of_mem_take h)
      · exact .inl (by simpa using h)
    · exact .inr (List.mem_of_mem_drop h)
  · rintro (h | h)
    · simp [h]
    · rw [← this] at h
      rcases List.mem_append.1 h with h | h
      · simp [h]
      · simp [h]
theorem putV_rise {l : List Vl} (x : Vl) (hr : RiseK l) : RiseK (putV l x) := by
  have hd : RiseK (dropV l x.1) := rkFilter _ hr
  have h1 := lessK_take x.1 (dropV l x.1)
  have h2 := lessK_drop (k := x.1) hd
  have h3 : ∀ y ∈ dropV l x.1, y.1 ≠ x.1 := fun y hy => ((mem_dropV _ _ _).1 hy).2
  unfold putV
  refine List.pairwise_append.2 ⟨List.pairwise_append.2 ⟨List.Pairwise.sublist (List.take_sublist _ _) hd, by simp, fun y hy z hz => ?_⟩, List.Pairwise.sublist (List.drop_sublist _ _) hd, fun y hy z hz => ?_⟩
  · simp only [List.mem_singleton] at hz
    subst hz
    exact h1 y hy
  · have hz1 := h2 z hz
    have hz2 := h3 z (List.mem_of_mem_drop hz)
    rcases List.mem_append.1 hy with h | h
    · have := h1 y h; omega
    · simp only [List.mem_singleton] at h
      subst h
      omega
theorem putV_right {l : List Vl} {x : Vl} (h : RightV l) (hx : chk x = 0) : RightV (putV l x) :=
  ⟨putV_rise x h.1, fun y hy => by
    rcases (mem_putV l x y).1 hy with e | e
    · rw [e]; exact hx
    · exact h.2 y e.1⟩
theorem dropV_right {l : List Vl} (k : Int) (h : RightV l) : RightV (dropV l k) := ⟨rkFilter _ h.1, fun y hy => h.2 y ((mem_dropV _ _ _).1 hy).1⟩
theorem drop_putV {l : List Vl} (x : Vl) (hr : RiseK l) : dropV (putV l x) x.1 = dropV l x.1 := by
  refine rise_ext _ _ (rkFilter _ (putV_rise x hr)) (rkFilter _ hr) fun y => ?_
  rw [mem_dropV, mem_dropV, mem_putV]
  constructor
  · rintro ⟨h | h, hn⟩
    · subst h; exact absurd rfl hn
    · exact h
  · exact fun h => ⟨.inr h, h.2⟩
/-- The reference's Put: what is left, and the component, put to a row. -/
theorem putV_ref {l : List Vl} {x : Vl} (h : RightV l) (hx : chk x = 0) : rowL (dropV l x.1 ++ [x]) = putV l x := by
  have hd := dropV_right x.1 h
  have hf : firstE (dropV l x.1 ++ [x]) = 0 := (firstE_zero _).2 fun y hy => by
    rcases List.mem_append.1 hy with e | e
    · exact hd.2 y e
    · simp only [List.mem_singleton] at e
      subst e; exact hx
  have hp : (putV l x).Perm (dropV l x.1 ++ [x]) := by
    unfold putV
    refine (List.perm_append_right_iff _).2 List.perm_append_comm |>.trans ?_
    rw [List.append_assoc, List.take_append_drop]
    exact List.perm_append_comm
  have hn : dupB (dropV l x.1 ++ [x]) = false := by
    rw [← dup_perm hp]
    exact rkrise_nodup (putV_rise x h.1)
  have h0 : rowN (dropV l x.1 ++ [x]) = 0 := by simp [rowN, hf, hn]
  rw [rowL, if_pos h0]
  exact ((sorted_row hp ((putV_rise x h.1).imp fun h => Int.le_of_lt h) hf).2 hn).2.symm

/-! ### A row's mask and box. -/
def maskV (l : List Vl) : Nat := foldN true 0 (l.map fun x => x.1)
/-- A right row's box. -/
def boxV (l : List Vl) : Option (Int × Int × Int × Int) :=
  match findV l 0, findV l 1 with
  | some p, some e => some (p.2.1 - e.2.1, p.2.2 - e.2.2, p.2.1 + e.2.1, p.2.2 + e.2.2)
  | _, _ => none
def hasV (l : List Vl) (k : Int) : Bool := (findV l k).isSome
end Go.Proofs.YtaehendpdfpibaaGreatDoor

/-
  append onto a row of the call's own, of any slice that holds a list (nil, empty or not), in one law; numbers.
-/
namespace Go.Proofs.YtaehendpdfpibaaGreatDoor
set_option linter.unusedSimpArgs false
set_option linter.unusedVariables false
open Go.RowKit Go.Sort Go.Lib Go.Shelf

/-- What an append of a slice type asks of its types. -/
structure Ap {α : Type} (enc : α → List Value) (st et k : Nat) (z : Value) (bytes : Nat) : Prop where
  ht : Tryz.prog.underlying st = some (.slice et)
  hi : ∃ i, Tryz.prog.info? et = some i ∧ i.zero = some z ∧ i.size = k ∧ i.bytes = bytes
  zs : z.cells.size = k
  k0 : 0 < k
  by32 : bytes ≤ 1000
  hk : ∀ x, (enc x).length = k
  h1 : ∀ x, ∀ v ∈ enc x, v.oneCell' = true
theorem apI : Ap encI 80 3 1 (.int .i64 0) 8 :=
  ⟨Tryz.underlying80, info_parts (by kernel_rfl), by decide, by decide, by decide, lenI, oneI⟩

section
variable {α : Type} {enc : α → List Value} {st et k : Nat} {z : Value} {bytes : Nat}

theorem app_run (A : Ap enc st et k z bytes) (ty base : Nat) {w : World} {v vx : Value} {n : Nat} {la lb : List α} (hown : w.ownsRow base et k v n (flat enc la)) (hn : n = la.length) (hX : Sl enc w vx lb) (hlen : la.length + lb.length ≤ 1000000) (hbase : base ≤ w.heap.size) :
    ∃ v' w', (Builtin.append_ #[st, st] ty #[v, vx]).run Tryz.prog w = .ok v' w' ∧ w'.ownsRow base et k v' (la.length + lb.length) (flat enc (la ++ lb)) ∧ w.grownBy w' v.ownBlock ∧ (v' = .slice none 0 0 ↔ v = .slice none 0 0 ∧ lb = []) := by
  subst hn
  obtain ⟨i, hi, hz, hs, hb⟩ := A.hi
  obtain ⟨p, c, rfl, h1, h2, hX⟩ := hX
  by_cases hl : lb = []
  · subst hl
    refine ⟨v, w, ?_, by simpa using hown, ⟨rfl, rfl, rfl, Nat.le_refl _, fun _ _ _ => rfl⟩, by simp⟩
    have hc : ∀ W, (Builtin.firstCells k 0 (.slice p 0 c)).run Tryz.prog W = .ok #[] W := fun W => by
      cases p <;> simp [Builtin.firstCells, loadCells, loadCellsFrom]
    rcases hown.2 with ⟨rfl, h0⟩ | ⟨g, cap, cur, rfl, _, _, hnc, _⟩
    · exact run_append_nothing w st st ty et i A.ht hi none 0 0 (Nat.le_refl _) _ ⟨.inl ⟨et, A.ht⟩, fun w' => by simp [Builtin.lenOf], by rw [hs]; exact hc w, by rw [hs]; exact hc w.drew, by simp, fun u hu => by cases hu⟩
    · exact run_append_nothing w st st ty et i A.ht hi _ _ _ hnc _ ⟨.inl ⟨et, A.ht⟩, fun w' => by simp [Builtin.lenOf], by rw [hs]; exact hc w, by rw [hs]; exact hc w.drew, by simp, fun u hu => by cases hu⟩
  · have hpos : 0 < lb.length := List.length_pos_iff.2 hl
    obtain ⟨g, o, rfl, hg, hcells⟩ := hX hpos
    have hbytes : (la.length + lb.length) * bytes ≤ 140737488355328 := Nat.le_trans (Nat.mul_le_mul hlen A.by32) (by decide)
    obtain ⟨v', w', hr, ho, hgr, hnil, _⟩ := run_append_own_at (P := Tryz.prog) w base st ty et i z k bytes A.ht hi hz hs hb A.zs A.k0 v la.length (flat enc la) hown ⟨g, o, none⟩ lb.length c (flat enc lb) (flat_len A.hk lb)
      (fun j u hu => by rw [Addr.add_lit]; exact hcells j u hu) (flat_one A.h1 lb) (by unfold maxLen; omega) hbytes hbase
    refine ⟨v', w', hr, by rw [flat_append]; exact ho, hgr, hnil.trans ⟨fun h => ?_, fun h => absurd h.2 hl⟩⟩
    exact absurd h.2 (by omega)

theorem wp_app (A : Ap enc st et k z bytes) {w : World} {o : Oper} {a : Act} {K : Act → World → Prop} {Q : Exit → Act → World → Prop} (s x : Operand) (ho : o.op = .call { callee := .builtin .append, args := #[s, x], argTypes := #[st, st] }) (base : Nat)
    {v vx : Value} {n : Nat} {la lb : List α} (hs : a.eval s = v) (hx : a.eval x = vx) (hown : w.ownsRow base et k v n (flat enc la)) (hn : n = la.length) (hX : Sl enc w vx lb) (hlen : la.length + lb.length ≤ 1000000) (hbase : base ≤ w.heap.size)
    (h : ∀ v' w', w'.ownsRow base et k v' (la.length + lb.length) (flat enc (la ++ lb)) → w.grownBy w' v.ownBlock → (v' = .slice none 0 0 ↔ v = .slice none 0 0 ∧ lb = []) → K (a.put o.dst v') w') : o.wp Tryz.prog a w K Q := by
  obtain ⟨v', w', hr, h2, h3, h4⟩ := app_run A o.type base hown hn hX hlen hbase
  unfold Oper.wp execOp
  simp only [ho, resolve, invoke, builtin, Sem.run_bind, Sem.run_pure, Result.andThen_ok, List.map_toArray, List.map_cons, List.map_nil, hs, hx, hr]
  exact h v' w' h2 h3 h4

/-- At the list of a plain region's operations. -/
theorem wpl_app (A : Ap enc st et k z bytes) {w : World} {ops : Array Oper} {rest : List Oper} {o : Oper} {a : Act} {Q : Exit → Act → World → Prop} (hgd : o.guard = none) (s x : Operand) (ho : o.op = .call { callee := .builtin .append, args := #[s, x], argTypes := #[st, st] }) (base : Nat)
    {v vx : Value} {n : Nat} {la lb : List α} (hs : a.eval s = v) (hx : a.eval x = vx) (hown : w.ownsRow base et k v n (flat enc la)) (hn : n = la.length) (hX : Sl enc w vx lb) (hlen : la.length + lb.length ≤ 1000000) (hbase : base ≤ w.heap.size)
    (h : ∀ v' w', w'.ownsRow base et k v' (la.length + lb.length) (flat enc (la ++ lb)) → w.grownBy w' v.ownBlock → (v' = .slice none 0 0 ↔ v = .slice none 0 0 ∧ lb = []) → wpList Tryz.prog ops Q rest (a.put o.dst v') w') : wpList Tryz.prog ops Q (o :: rest) a w :=
  wpList_plain hgd fun _ hK => wp_app A s x ho base hs hx hown hn hX hlen hbase fun v' w' h2 h3 h4 => hK _ _ (h v' w' h2 h3 h4)

/-- At a step of a region that draws its order. -/
theorem step_app (A : Ap enc st et k z bytes) {w : World} {ops : Array Oper} {o : Oper} {a : Act} {K : Act → World → Prop} {Q : Exit → Act → World → Prop} {E : Prop} (hgd : o.guard = none) (s x : Operand) (ho : o.op = .call { callee := .builtin .append, args := #[s, x], argTypes := #[st, st] }) (base : Nat)
    {v vx : Value} {n : Nat} {la lb : List α} (hs : a.eval s = v) (hx : a.eval x = vx) (hown : w.ownsRow base et k v n (flat enc la)) (hn : n = la.length) (hX : Sl enc w vx lb) (hlen : la.length + lb.length ≤ 1000000) (hbase : base ≤ w.heap.size)
    (h : ∀ v' w', w'.ownsRow base et k v' (la.length + lb.length) (flat enc (la ++ lb)) → w.grownBy w' v.ownBlock → (v' = .slice none 0 0 ↔ v = .slice none 0 0 ∧ lb = []) → K (a.put o.dst v') w') :
    if Region.wanted o (yielded ops a.tmps) = true then Oper.wp Tryz.prog o a w K Q else E := by
  have hw : Region.wanted o (yielded ops a.tmps) = true := by simp [Region.wanted, hgd]
  rw [if_pos hw]
  exact wp_app A s x ho base hs hx hown hn hX hlen hbase h

/-- What the call owns, to be read. -/
theorem row_sl [Inhabited α] (hk : ∀ x, (enc x).length = k) {w : World} {base et : Nat} {v : Value} {n : Nat} {l : List α} (h : w.ownsRow base et k v n (flat enc l)) (hn : n = l.length) : Sl enc w v l := (own_of_row hk h hn).sl hk

/-- The form of a value that owns a row and isn't nil. -/
theorem row_form {w : World} {base et : Nat} {v : Value} {n : Nat} {xs : List Value} (h : w.ownsRow base et k v n xs) (hv : v ≠ .slice none 0 0) :
    ∃ g cap, v = .slice (some ⟨g, 0, none⟩) n cap ∧ base ≤ g ∧ g < w.heap.size ∧ n ≤ cap ∧ cap ≤ maxLen := by
  rcases h.2 with ⟨h, _⟩ | ⟨g, cap, cur, rfl, hb, hh, hc, hm, _⟩
  · exact absurd h hv
  · refine ⟨g, cap, rfl, hb, ?_, hc, hm⟩
    rcases Nat.lt_or_ge g w.heap.size with h' | h'
    · exact h'
    · rw [Array.getElem?_eq_none h'] at hh; cases hh

/-- A piece of a slice that holds a list, from its start: 's[:n]'. -/
theorem sl_take (hk : ∀ x, (enc x).length = k) {w : World} {g o cap : Nat} {l : List α} (n : Nat) (hn : n ≤ l.length) (h1 : l.length ≤ cap) (h2 : cap ≤ maxLen) (hg : g < w.heap.size) (hc : ∀ j u, (flat enc l)[j]? = some u → w.cell? ⟨g, o + j, none⟩ = some u) :
    Sl enc w (.slice (some ⟨g, o, none⟩) n cap) (l.take n) := by
  have e : (l.take n).length = n := by simp; omega
  refine ⟨_, cap, by rw [e], by rw [e]; omega, h2, fun _ => ⟨g, o, rfl, hg, fun j u hu => hc j u ?_⟩⟩
  rw [← flat_take hk, List.getElem?_take] at hu
  split at hu
  · exact hu
  · cases hu
/-- A piece of a slice that holds a list, to its end: 's[n:]'. -/
theorem sl_drop (hk : ∀ x, (enc x).length = k) {w : World} {g o cap : Nat} {l : List α} (n : Nat) (hn : n ≤ l.length) (h1 : l.length ≤ cap) (h2 : cap ≤ maxLen) (hg : g < w.heap.size) (hc : ∀ j u, (flat enc l)[j]? = some u → w.cell? ⟨g, o + j, none⟩ = some u) :
    Sl enc w (.slice (some ⟨g, o + n * k, none⟩) (l.length - n) (cap - n)) (l.drop n) := by
  have e : (l.drop n).length = l.length - n := by simp
  refine ⟨_, cap - n, by rw [e], by rw [e]; omega, by omega, fun _ => ⟨g, o + n * k, rfl, hg, fun j u hu => ?_⟩⟩
  rw [← flat_drop hk, List.getElem?_drop] at hu
  rw [Nat.add_assoc]
  exact hc _ u hu
end
theorem Sl.congr {α : Type} {enc : α → List Value} {w : World} {v : Value} {l l' : List α} (h : Sl enc w v l) (e : l = l') : Sl enc w v l' := e ▸ h

/-- The block of a literal, to be read. -/
theorem sl_lit {α : Type} [Inhabited α] {enc : α → List Value} {w : World} {cs : Array Value} {t b : Nat} (l : List α) (hb : b = w.heap.size) (hc : cs.toList = flat enc l) (hm : l.length ≤ maxLen) : Sl enc (w.alloc (.cells cs t)) (.slice (some ⟨b, 0, none⟩) l.length l.length) l := by
  subst hb
  refine ⟨_, l.length, rfl, Nat.le_refl _, hm, fun _ => ⟨w.heap.size, 0, rfl, by simp, fun j u hu => ?_⟩⟩
  rw [World.cell?_alloc_at (w := w) cs t w.heap.size _ rfl, Nat.zero_add]
  rw [← hc] at hu
  simpa using hu
/-- Behind an append onto a row of the call's own: what was there when 'a' was is as it was. -/
theorem grownB {a w w' : World} {e k n : Nat} {v : Value} {xs : List Value} (h : Below a.heap.size a w) (hown : w.ownsRow a.heap.size e k v n xs) (hg : w.grownBy w' v.ownBlock) : Below a.heap.size a w' := h.grown hg h.size (fun j hj => (hown.lt j hj).1)

theorem ret_bool {a b : Bool} (h : a = b) : Ending.returned (.bool a) = Ending.returned (.bool b) := by rw [h]
theorem ret_int {a b : Int} (h : a = b) : Ending.returned (.int .i64 a) = Ending.returned (.int .i64 b) := by rw [h]
theorem flatI (l : List Int) : flat encI l = l.map (Value.int .i64) := by
  induction l with
  | nil => rfl
  | cons x r ih => simp only [flat, List.flatMap_cons] at ih ⊢; rw [ih]; rfl
theorem flatI_get (l : List Int) (j : Nat) (h : j < l.length) : (flat encI l)[j]? = some (.int .i64 l[j]!) := by
  rw [flatI, List.getElem?_map, List.getElem?_eq_getElem h, getElem!_pos l j h]; rfl
theorem take_succ_eq {α : Type} [Inhabited α] [DecidableEq α] (a b : List α) (k : Nat) (hl : a.length = b.length) (hk : k < a.length) (h : a.take k = b.take k) : a.take (k + 1) = b.take (k + 1) ↔ a[k]! = b[k]! := by
  have ea : a.take (k + 1) = a.take k ++ [a[k]] := List.take_succ_eq_append_getElem hk
  have eb : b.take (k + 1) = b.take k ++ [b[k]'(by omega)] := List.take_succ_eq_append_getElem (by omega)
  rw [ea, eb, h, getElem!_pos a k hk, getElem!_pos b k (by omega), List.append_right_inj]
  simp
theorem frontI {w : World} {base et g n cap : Nat} {l : List Int} (h : w.ownsRow base et 1 (.slice (some ⟨g, 0, none⟩) n cap) n (flat encI l)) (hn : n = l.length) (j : Nat) (hj : j ≤ n) :
    w.ownsRow base et 1 (.slice (some ⟨g, 0, none⟩) j cap) j (flat encI (l.take j)) := by
  rcases h.2 with ⟨h', _⟩ | ⟨g', cap', cur, e, hb, hh, hc, hm, hs, ht⟩
  · simp at h'
  · simp only [Value.slice.injEq, Option.some.injEq, Addr.mk.injEq, and_true, true_and] at e
    obtain ⟨rfl, rfl⟩ := e
    refine ⟨by rw [flat_len lenI, List.length_take]; congr 1; omega, .inr ⟨g, cap, cur, rfl, hb, hh, by omega, hm, hs, ?_⟩⟩
    rw [← flat_take lenI, ← ht, List.take_take, Nat.min_eq_left (Nat.mul_le_mul_right 1 hj)]
theorem cellsI {w : World} {base et k g n cap : Nat} {xs : List Value} (h : w.ownsRow base et k (.slice (some ⟨g, 0, none⟩) n cap) n xs) : ∀ j u, xs[j]? = some u → w.cell? ⟨g, 0 + j, none⟩ = some u := fun j u hu => by
  have h1 := (List.getElem?_eq_some_iff.1 hu).1
  rw [Nat.zero_add, h.cellAt j (by rw [← h.1]; exact h1)]
  exact hu
end Go.Proofs.YtaehendpdfpibaaGreatDoor

/-
  append with its own block named; what a call leaves alone (Tch); rows of the call's own among blocks M, of elements of k cells.
-/
namespace Go.Proofs.YtaehendpdfpibaaGreatDoor
set_option linter.unusedSimpArgs false
set_option linter.unusedVariables false
open Go.RowKit Go.Sort Go.Lib Go.Shelf

/-! ### append, with the block that the new slice lies in. -/
section
variable {α : Type} {enc : α → List Value} {st et k : Nat} {z : Value} {bytes : Nat}

theorem app_run2 (A : Ap enc st et k z bytes) (ty base : Nat) {w : World} {v vx : Value} {n : Nat} {la lb : List α} (hown : w.ownsRow base et k v n (flat enc la)) (hn : n = la.length) (hX : Sl enc w vx lb) (hlen : la.length + lb.length ≤ 1000000) (hbase : base ≤ w.heap.size) :
    ∃ v' w', (Builtin.append_ #[st, st] ty #[v, vx]).run Tryz.prog w = .ok v' w' ∧ w'.ownsRow base et k v' (la ++ lb).length (flat enc (la ++ lb)) ∧ w.grownBy w' v.ownBlock ∧ (v'.ownBlock = v.ownBlock ∨ v'.ownBlock = some w.heap.size) ∧ (lb = [] → v' = v) := by
  subst hn
  obtain ⟨i, hi, hz, hs, hb⟩ := A.hi
  obtain ⟨p, c, rfl, h1, h2, hX⟩ := hX
  by_cases hl : lb = []
  · subst hl
    refine ⟨v, w, ?_, by simpa using hown, ⟨rfl, rfl, rfl, Nat.le_refl _, fun _ _ _ => rfl⟩, .inl rfl, fun _ => rfl⟩
    have hc : ∀ W, (Builtin.firstCells k 0 (.slice p 0 c)).run Tryz.prog W = .ok #[] W := fun W => by
      cases p <;> simp [Builtin.firstCells, loadCells, loadCellsFrom]
    rcases hown.2 with ⟨rfl, h0⟩ | ⟨g, cap, cur, rfl, _, _, hnc, _⟩
    · exact run_append_nothing w st st ty et i A.ht hi none 0 0 (Nat.le_refl _) _ ⟨.inl ⟨et, A.ht⟩, fun w' => by simp [Builtin.lenOf], by rw [hs]; exact hc w, by rw [hs]; exact hc w.drew, by simp, fun u hu => by cases hu⟩
    · exact run_append_nothing w st st ty et i A.ht hi _ _ _ hnc _ ⟨.inl ⟨et, A.ht⟩, fun w' => by simp [Builtin.lenOf], by rw [hs]; exact hc w, by rw [hs]; exact hc w.drew, by simp, fun u hu => by cases hu⟩
  · have hpos : 0 < lb.length := List.length_pos_iff.2 hl
    obtain ⟨g, o, rfl, hg, hcells⟩ := hX hpos
    have hbytes : (la.length + lb.length) * bytes ≤ 140737488355328 := Nat.le_trans (Nat.mul_le_mul hlen A.by32) (by decide)
    obtain ⟨v', w', hr, ho, hgr, hnil, hat⟩ := run_append_own_at (P := Tryz.prog) w base st ty et i z k bytes A.ht hi hz hs hb A.zs A.k0 v la.length (flat enc la) hown ⟨g, o, none⟩ lb.length c (flat enc lb) (flat_len A.hk lb)
      (fun j u hu => by rw [Addr.add_lit]; exact hcells j u hu) (flat_one A.h1 lb) (by unfold maxLen; omega) hbytes hbase
    exact ⟨v', w', hr, by rw [flat_append, List.length_append]; exact ho, hgr, hat, fun h => absurd h hl⟩

theorem wp_app2 (A : Ap enc st et k z bytes) {w : World} {o : Oper} {a : Act} {K : Act → World → Prop} {Q : Exit → Act → World → Prop} (s x : Operand) (ho : o.op = .call { callee := .builtin .append, args := #[s, x], argTypes := #[st, st] }) (base : Nat)
    {v vx : Value} {n : Nat} {la lb : List α} (hs : a.eval s = v) (hx : a.eval x = vx) (hown : w.ownsRow base et k v n (flat enc la)) (hn : n = la.length) (hX : Sl enc w vx lb) (hlen : la.length + lb.length ≤ 1000000) (hbase : base ≤ w.heap.size)
    (h : ∀ v' w', w'.ownsRow base et k v' (la ++ lb).length (flat enc (la ++ lb)) → w.grownBy w' v.ownBlock → (v'.ownBlock = v.ownBlock ∨ v'.ownBlock = some w.heap.size) → (lb = [] → v' = v) → K (a.put o.dst v') w') : o.wp Tryz.prog a w K Q := by
  obtain ⟨v', w', hr, h2, h3, h4, h5⟩ := app_run2 A o.type base hown hn hX hlen hbase
  unfold Oper.wp execOp
  simp only [ho, resolve, invoke, builtin, Sem.run_bind, Sem.run_pure, Result.andThen_ok, List.map_toArray, List.map_cons, List.map_nil, hs, hx, hr]
  exact h v' w' h2 h3 h4 h5

/-- At the list of a plain region's operations. -/
theorem wpl_app2 (A : Ap enc st et k z bytes) {w : World} {ops : Array Oper} {rest : List Oper} {o : Oper} {a : Act} {Q : Exit → Act → World → Prop} (hgd : o.guard = none) (s x : Operand) (ho : o.op = .call { callee := .builtin .append, args := #[s, x], argTypes := #[st, st] }) (base : Nat)
    {v vx : Value} {n : Nat} {la lb : List α} (hs : a.eval s = v) (hx : a.eval x = vx) (hown : w.ownsRow base et k v n (flat enc la)) (hn : n = la.length) (hX : Sl enc w vx lb) (hlen : la.length + lb.length ≤ 1000000) (hbase : base ≤ w.heap.size)
    (h : ∀ v' w', w'.ownsRow base et k v' (la ++ lb).length (flat enc (la ++ lb)) → w.grownBy w' v.ownBlock → (v'.ownBlock = v.ownBlock ∨ v'.ownBlock = some w.heap.size) → (lb = [] → v' = v) → wpList Tryz.prog ops Q rest (a.put o.dst v') w') : wpList Tryz.prog ops Q (o :: rest) a w :=
  wpList_plain hgd fun _ hK => wp_app2 A s x ho base hs hx hown hn hX hlen hbase fun v' w' h2 h3 h4 h5 => hK _ _ (h v' w' h2 h3 h4 h5)

/-- At a step of a region that draws its order. -/
theorem step_app2 (A : Ap enc st et k z bytes) {w : World} {ops : Array Oper} {o : Oper} {a : Act} {K : Act → World → Prop} {Q : Exit → Act → World → Prop} {E : Prop} (hgd : o.guard = none) (s x : Operand) (ho : o.op = .call { callee := .builtin .append, args := #[s, x], argTypes := #[st, st] }) (base : Nat)
    {v vx : Value} {n : Nat} {la lb : List α} (hs : a.eval s = v) (hx : a.eval x = vx) (hown : w.ownsRow base et k v n (flat enc la)) (hn : n = la.length) (hX : Sl enc w vx lb) (hlen : la.length + lb.length ≤ 1000000) (hbase : base ≤ w.heap.size)
    (h : ∀ v' w', w'.ownsRow base et k v' (la ++ lb).length (flat enc (la ++ lb)) → w.grownBy w' v.ownBlock → (v'.ownBlock = v.ownBlock ∨ v'.ownBlock = some w.heap.size) → (lb = [] → v' = v) → K (a.put o.dst v') w') :
    if Region.wanted o (yielded ops a.tmps) = true then Oper.wp Tryz.prog o a w K Q else E := by
  have hw : Region.wanted o (yielded ops a.tmps) = true := by simp [Region.wanted, hgd]
  rw [if_pos hw]
  exact wp_app2 A s x ho base hs hx hown hn hX hlen hbase h
end

/-! ### What a call leaves alone. -/
/-- Of the blocks that were there only those of M have changed. -/
structure Tch (M : Nat → Prop) (w w' : World) : Prop where
  os : w'.os = w.os
  tape : w'.tape = w.tape
  output : w'.output = w.output
  size : w.heap.size ≤ w'.heap.size
  block : ∀ k, k < w.heap.size → ¬ M k → w'.heap[k]? = w.heap[k]?
/-- The blocks of M, and those that are new. -/
def New (M : Nat → Prop) (w w' : World) : Nat → Prop := fun b => M b ∨ (w.heap.size ≤ b ∧ b < w'.heap.size)

variable {M R : Nat → Prop} {w w' w2 : World}

theorem Tch.refl (M : Nat → Prop) (w : World) : Tch M w w := ⟨rfl, rfl, rfl, Nat.le_refl _, fun _ _ _ => rfl⟩
theorem Tch.trans (h : Tch M w w') (k : Tch (New M w w') w' w2) : Tch M w w2 :=
  ⟨k.os.trans h.os, k.tape.trans h.tape, k.output.trans h.output, Nat.le_trans h.size k.size, fun i hi hn => (k.block i (Nat.lt_of_lt_of_le hi h.size) (fun e => e.elim hn (fun e => by omega))).trans (h.block i hi hn)⟩
theorem Tch.more (h : Tch M w w') (k : Tch M w' w2) : Tch M w w2 :=
  ⟨k.os.trans h.os, k.tape.trans h.tape, k.output.trans h.output, Nat.le_trans h.size k.size, fun i hi hn => (k.block i (Nat.lt_of_lt_of_le hi h.size) hn).trans (h.block i hi hn)⟩
theorem Tch.mono (h : Tch M w w') {M' : Nat → Prop} (hM : ∀ b, M b → M' b) : Tch M' w w' := ⟨h.os, h.tape, h.output, h.size, fun k hk hn => h.block k hk (fun e => hn (hM k e))⟩
theorem Tch.of (h : RowKit.Below w.heap.size w w') : Tch M w w' := ⟨h.os, h.tape, h.output, h.size, fun k hk _ => h.block k hk⟩
theorem Tch.gr (h : Gr w w') : Tch M w w' := Tch.of h.below
theorem Tch.grown {v : Value} (h : w.grownBy w' v.ownBlock) (hv : ∀ g, v.ownBlock = some g → M g) : Tch M w w' :=
  ⟨h.os, h.tape, h.output, h.size, fun k hk hn => h.block k hk (fun e => hn (hv k e.symm))⟩
theorem Tch.below (h : Tch M w w') {B : Nat} (hM : ∀ b, M b → B ≤ b) (hB : B ≤ w.heap.size) : RowKit.Below B w w' :=
  ⟨h.os, h.tape, h.output, h.size, fun k hk => h.block k (by omega) (fun e => by have := hM k e; omega)⟩
theorem Tch.set (w : World) {p : Addr} (hp : M p.block) (u : Value) : Tch M w (w.setCell p u) :=
  ⟨rfl, rfl, rfl, by simp, fun k _ hn => heap_setCell_other w p k u (fun e => hn (e ▸ hp))⟩
theorem Tch.cell (h : Tch M w w') {b o : Nat} {v : Value} (hl : b < w.heap.size) (hn : ¬ M b) (hc : w.cell? ⟨b, o, none⟩ = some v) : w'.cell? ⟨b, o, none⟩ = some v :=
  (World.cell?_of_block (w := w) (a := ⟨b, o, none⟩) (h.block b hl hn)).trans hc
theorem New.mono (h : w'.heap.size ≤ w2.heap.size) : ∀ b, New M w w' b → New M w w2 b := fun b e => e.elim .inl (fun e => .inr ⟨e.1, by omega⟩)
theorem New.step (h : w.heap.size ≤ w'.heap.size) (h2 : w'.heap.size ≤ w2.heap.size) : ∀ b, New (New M w w') w' w2 b → New M w w2 b := fun b e => by
  rcases e with (e | e) | e
  · exact .inl e
  · exact .inr ⟨e.1, by omega⟩
  · exact .inr ⟨by omega, e.2⟩

/-! ### A row of one's own, among the blocks M. -/
/-- A slice value that owns the list l, in a block of M (or is nil). -/
def RowAt {α : Type} (enc : α → List Value) (et k : Nat) (w : World) (M : Nat → Prop) (v : Value) (l : List α) : Prop :=
  w.ownsRow 0 et k v l.length (flat enc l) ∧ ∀ g, v.ownBlock = some g → M g

section
variable {α : Type} {enc : α → List Value} {et k : Nat} {v : Value} {l : List α}
theorem RowAt.mono {M' : Nat → Prop} (h : RowAt enc et k w M v l) (hM : ∀ b, M b → M' b) : RowAt enc et k w M' v l := ⟨h.1, fun g hg => hM g (h.2 g hg)⟩
theorem row_lt {base n : Nat} {xs : List Value} (h : w.ownsRow base et k v n xs) {g : Nat} (hg : v.ownBlock = some g) : g < w.heap.size := by
  rcases h.2 with ⟨rfl, _⟩ | ⟨g', cap, cur, rfl, hb, hh, _⟩
  · simp [Value.ownBlock] at hg
  · simp only [Value.ownBlock, Option.some.injEq] at hg
    subst hg
    exact (Array.getElem?_eq_some_iff.1 hh).1
/-- A row stays while its block does. -/
theorem row_keep {base n : Nat} {xs : List Value} (h : w.ownsRow base et k v n xs) (hk : ∀ g, v.ownBlock = some g → w'.heap[g]? = w.heap[g]?) : w'.ownsRow base et k v n xs := by
  refine ⟨h.1, ?_⟩
  rcases h.2 with h | ⟨g, cap, cur, rfl, hb, hh, r⟩
  · exact .inl h
  · exact .inr ⟨g, cap, cur, rfl, hb, (hk g rfl).trans hh, r⟩
theorem RowAt.kept (h : RowAt enc et k w R v l) (t : Tch M w w') (hd : ∀ b, R b → ¬ M b) : RowAt enc et k w' R v l :=
  ⟨row_keep h.1 (fun g hg => t.block g (row_lt h.1 hg) (hd g (h.2 g hg))), h.2⟩
theorem RowAt.below (h : RowAt enc et k w R v l) (t : RowKit.Below w.heap.size w w') : RowAt enc et k w' R v l :=
  ⟨row_keep h.1 (fun g hg => t.block g (row_lt h.1 hg)), h.2⟩
/-- The value's form. -/
theorem row_val {base n : Nat} {xs : List Value} (h : w.ownsRow base et k v n xs) : ∃ p cap, v = .slice p n cap ∧ n ≤ cap ∧ cap ≤ maxLen ∧ (0 < n → ∃ g, p = some ⟨g, 0, none⟩ ∧ g < w.heap.size ∧ v.ownBlock = some g) := by
  rcases h.2 with ⟨rfl, rfl⟩ | ⟨g, cap, cur, rfl, hb, hh, h1, h2, _⟩
  · exact ⟨none, 0, rfl, Nat.le_refl _, Nat.zero_le _, fun h => absurd h (Nat.lt_irrefl _)⟩
  · exact ⟨_, cap, rfl, h1, h2, fun _ => ⟨g, rfl, (Array.getElem?_eq_some_iff.1 hh).1, rfl⟩⟩
/-- A row's block is of cells of its type. -/
theorem row_type {base n : Nat} {xs : List Value} (h : w.ownsRow base et k v n xs) {g : Nat} (hg : v.ownBlock = some g) : ∃ cs, w.heap[g]? = some (.cells cs et (0, 0)) := by
  rcases h.2 with ⟨rfl, _⟩ | ⟨g', cap, cur, rfl, hb, hh, _⟩
  · simp [Value.ownBlock] at hg
  · simp only [Value.ownBlock, Option.some.injEq] at hg
    subst hg
    exact ⟨cur, hh⟩
theorem RowAt.sl [Inhabited α] (hk : ∀ x, (enc x).length = k) (h : RowAt enc et k w M v l) : Sl enc w v l := row_sl hk h.1 rfl
theorem row_empty (w : World) (et k : Nat) (M : Nat → Prop) (hM : M w.heap.size) : RowAt (α := α) enc et k (w.alloc (.cells #[] et)) M (.slice (some ⟨w.heap.size, 0, none⟩) 0 0) [] :=
  ⟨World.ownsRow_lit w #[] 0 (Nat.zero_le _) (Nat.zero_le _) (by simp), fun g hg => by simp only [Value.ownBlock, Option.some.injEq] at hg; exact hg ▸ hM⟩
theorem row_nil (w : World) (et k : Nat) (M : Nat → Prop) : RowAt (α := α) enc et k w M (.slice none 0 0) [] :=
  ⟨⟨by simp [flat], .inl ⟨rfl, rfl⟩⟩, fun g hg => by simp [Value.ownBlock] at hg⟩
end


section
variable {T pa : Nat} {M R : Nat → Prop} {w w' : World}
/-- The two cells of a block that is known whole. -/
theorem two_cells {a b : Value} {t : Nat} (h : w.heap[pa]? = some (.cells #[a, b] t (0, 0))) : w.cell? ⟨pa, 0, none⟩ = some a ∧ w.cell? ⟨pa, 1, none⟩ = some b ∧ w.frozen? ⟨pa, 0, none⟩ = false ∧ w.frozen? ⟨pa, 1, none⟩ = false := by
  simp [World.cell?, World.frozen?, h]
theorem type_apart {a b : Nat} {ca cb : Array Value} {ta tb : Nat} {fa fb : Nat × Nat} (ha : w.heap[a]? = some (.cells ca ta fa)) (hb : w.heap[b]? = some (.cells cb tb fb)) (ht : ta ≠ tb) : a ≠ b := fun e => by
  rw [e, hb] at ha
  simp at ha
  exact ht ha.2.1.symm
/-- A block behind a store elsewhere. -/
theorem blk_far {b : Nat} {o : Obj} (h : w.heap[b]? = some o) {p : Addr} (hp : b ≠ p.block) (u : Value) : (w.setCell p u).heap[b]? = some o := (heap_setCell_other w p b u hp).trans h
theorem blk_below {b : Nat} {o : Obj} (h : w.heap[b]? = some o) (t : RowKit.Below w.heap.size w w') : w'.heap[b]? = some o := (t.block b (Array.getElem?_eq_some_iff.1 h).1).trans h
/-- A block of another type behind an append onto a row. -/
theorem blk_grown {α : Type} {enc : α → List Value} {et k : Nat} {v : Value} {l : List α} (h : RowAt enc et k w M v l) (hg : w.grownBy w' v.ownBlock) {b : Nat} {c : Array Value} {t : Nat} {f : Nat × Nat} (hb : w.heap[b]? = some (.cells c t f)) (ht : t ≠ et) : w'.heap[b]? = some (.cells c t f) :=
  (hg.block b (Array.getElem?_eq_some_iff.1 hb).1 (fun e => by
    obtain ⟨c2, hc⟩ := row_type h.1 e.symm
    exact type_apart hb hc ht rfl)).trans hb
/-- Behind an append onto a row of M. -/
theorem row_grown {α : Type} {enc : α → List Value} {et k : Nat} {v v' : Value} {l' : List α} (hv : ∀ g, v.ownBlock = some g → M g) (hown : w'.ownsRow 0 et k v' l'.length (flat enc l')) (hg : w.grownBy w' v.ownBlock) (hat : v'.ownBlock = v.ownBlock ∨ v'.ownBlock = some w.heap.size) :
    RowAt enc et k w' (New M w w') v' l' ∧ Tch M w w' := by
  refine ⟨⟨hown, fun g e => ?_⟩, Tch.grown hg hv⟩
  rcases hat with h | h
  · exact .inl (hv g (by rw [← h]; exact e))
  · rw [h] at e
    simp only [Option.some.injEq] at e
    exact .inr ⟨by omega, row_lt hown (by rw [h, e])⟩
end

/-- An index out of any number: int(uint(n) % uint(len)). -/
theorem idx_any (n : Int) (l : Nat) (h0 : 0 < l) (h1 : l ≤ 9223372036854775807) : ∃ m : Nat, m < l ∧ wrap64 ((IntKind.u64.wrap n).tmod (l : Int)) = (m : Int) := by
  have hu : 0 ≤ IntKind.u64.wrap n := by
    unfold IntKind.wrap
    simp [IntKind.signed, IntKind.bits]
    omega
  have e : (IntKind.u64.wrap n).tmod (l : Int) = IntKind.u64.wrap n % (l : Int) := Int.tmod_eq_emod_of_nonneg hu
  have h2 : 0 ≤ IntKind.u64.wrap n % (l : Int) := Int.emod_nonneg _ (by omega)
  have h3 : IntKind.u64.wrap n % (l : Int) < l := Int.emod_lt_of_pos _ (by omega)
  refine ⟨(IntKind.u64.wrap n % (l : Int)).toNat, by omega, ?_⟩
  rw [e, IntWalk.wrap64_in _ ⟨by omega, by omega⟩]
  omega

/-! ### Elements of one cell. -/
section
variable {α : Type} {enc : α → List Value} {c : α → Value}
theorem flat1 (he : ∀ x, enc x = [c x]) (l : List α) : flat enc l = l.map c := by
  induction l with
  | nil => rfl
  | cons x r ih => simp only [flat, List.flatMap_cons] at ih ⊢; rw [ih, he]; rfl
theorem flat1_set (he : ∀ x, enc x = [c x]) (l : List α) (j : Nat) (x : α) : (flat enc l).set j (c x) = flat enc (l.set j x) := by
  rw [flat1 he, flat1 he, List.map_set]
theorem flat1_get [Inhabited α] (he : ∀ x, enc x = [c x]) (l : List α) (j : Nat) (h : j < l.length) : (flat enc l)[j]? = some (c l[j]!) := by
  rw [flat1 he, List.getElem?_map, List.getElem?_eq_getElem h, getElem!_pos l j h]; rfl
/-- A cell of a row of one's own. -/
theorem row_cell1 [Inhabited α] (he : ∀ x, enc x = [c x]) {w : World} {base et g n cap : Nat} {l : List α} (h : w.ownsRow base et 1 (.slice (some ⟨g, 0, none⟩) n cap) n (flat enc l)) (j : Nat) (hj : j < l.length) : w.cell? ⟨g, j, none⟩ = some (c l[j]!) := by
  have := cellsI h j _ (flat1_get he l j hj)
  rwa [Nat.zero_add] at this
/-- A cell of a slice that holds a list. -/
theorem sl_cell1 [Inhabited α] (he : ∀ x, enc x = [c x]) {w : World} {l : List α} {g o : Nat} (h : ∀ j u, (flat enc l)[j]? = some u → w.cell? ⟨g, o + j, none⟩ = some u) {j : Nat} (hj : j < l.length) : w.cell? ⟨g, o + j, none⟩ = some (c l[j]!) := h j _ (flat1_get he l j hj)
end
/-- The front of a row. -/
theorem row_front {α : Type} {enc : α → List Value} {k : Nat} (hk : ∀ x, (enc x).length = k) {w : World} {base et g n cap : Nat} {l : List α} (h : w.ownsRow base et k (.slice (some ⟨g, 0, none⟩) n cap) n (flat enc l)) (hn : n = l.length) (j : Nat) (hj : j ≤ n) :
    w.ownsRow base et k (.slice (some ⟨g, 0, none⟩) j cap) (l.take j).length (flat enc (l.take j)) := by
  have e : (l.take j).length = j := by simp; omega
  rw [e]
  rcases h.2 with ⟨h', _⟩ | ⟨g', cap', cur, e', hb, hh, hc, hm, hs, ht⟩
  · simp at h'
  · simp only [Value.slice.injEq, Option.some.injEq, Addr.mk.injEq, and_true, true_and] at e'
    obtain ⟨rfl, rfl⟩ := e'
    refine ⟨by rw [flat_len hk, e], .inr ⟨g, cap, cur, rfl, hb, hh, by omega, hm, hs, ?_⟩⟩
    rw [← flat_take hk, ← ht, List.take_take, Nat.min_eq_left (Nat.mul_le_mul_right k hj)]
theorem keepA {W0 w1 : World} (h : RowKit.Below W0.heap.size W0 w1 ∧ ∀ b o, b < W0.heap.size → w1.cell? ⟨b, o, none⟩ = W0.cell? ⟨b, o, none⟩) (o1 : Obj) :
    RowKit.Below W0.heap.size W0 (w1.alloc o1) ∧ ∀ b o, b < W0.heap.size → (w1.alloc o1).cell? ⟨b, o, none⟩ = W0.cell? ⟨b, o, none⟩ :=
  ⟨Ba h.1 o1, fun b o hl => ((Ba (Below.refl _ w1) o1).cell (p := ⟨b, o, none⟩) (Bl h.1 hl)).trans (h.2 b o hl)⟩
/-- The blocks that are new. -/
abbrev Fresh (w w' : World) : Nat → Prop := New (fun _ => False) w w'
theorem row_fresh {α : Type} {enc : α → List Value} {et k : Nat} {w w1 : World} {v : Value} {l : List α} (h : w1.ownsRow w.heap.size et k v l.length (flat enc l)) : RowAt enc et k w1 (Fresh w w1) v l :=
  ⟨row_mono h (Nat.zero_le _), fun g hg => .inr ⟨(h.lt g hg).1, (h.lt g hg).2⟩⟩
end Go.Proofs.YtaehendpdfpibaaGreatDoor

/-
  Package masks and its reference, what needs no memory: kinds, one bit, the closures of With and Without, Holds, Meets, Fits, Less, Right, Has.
-/
namespace Go.Proofs.YtaehendpdfpibaaGreatDoor
set_option linter.unusedSimpArgs false
set_option linter.unusedVariables false
open Go.RowKit Go.Sort Go.Lib Go.Shelf




theorem isKind_any (k : Int) (w : World) : Calls Tryz.prog 112 #[.int .i64 k] w fun e w' => e = .returned (.bool (kindB k)) ∧ w = w' := by
  go_enter Tryz.func112, Tryz.ntmps112
  go_wp2
  all_goals (go_ret; exact ⟨ret_bool (by simp [kindB, *] <;> omega), rfl⟩)
theorem bit_any (k : Nat) (hk : k < 64) (w : World) : Calls Tryz.prog 113 #[.int .i64 k] w fun e w' => e = .returned (.int .u64 ((2 ^ k : Nat) : Int)) ∧ w = w' := by
  have hw : IntKind.u64.wrap (2 ^ k) = ((2 ^ k : Nat) : Int) := by
    have h := pow64 hk
    have e : ((2 ^ k : Nat) : Int) = (2 : Int) ^ k := by rw [Int.natCast_pow]; rfl
    rw [IntKind.wrap_u64, ← e]
    generalize 2 ^ k = q at *
    omega
  go_enter Tryz.func113, Tryz.ntmps113
  go_wp2
  go_ret
  exact ⟨rfl, rfl⟩

theorem with1_any (a b : Nat) (ha : a < 18446744073709551616) (hb : b < 18446744073709551616) (w : World) : Calls Tryz.prog 70 #[.int .u64 a, .int .u64 b] w fun e w' => e = .returned (.int .u64 ((a ||| b : Nat) : Int)) ∧ w = w' := by
  have h := u64_or_nat a b ha hb
  go_enter Tryz.func70, Tryz.ntmps70
  go_wp2
  go_ret
  exact ⟨rfl, rfl⟩
theorem without1_any (a b : Nat) (ha : a < 18446744073709551616) (hb : b < 18446744073709551616) (w : World) : Calls Tryz.prog 136 #[.int .u64 a, .int .u64 b] w fun e w' => e = .returned (.int .u64 ((a &&& (18446744073709551615 - b) : Nat) : Int)) ∧ w = w' := by
  have h := u64_andNot_nat a b ha hb
  go_enter Tryz.func136, Tryz.ntmps136
  go_wp2
  go_ret
  exact ⟨rfl, rfl⟩
theorem eqN (a b : Nat) : ((a : Int) == (b : Int)) = (a == b) := by rw [Bool.eq_iff_iff]; simp; omega
theorem neN0 (a : Nat) : ((a : Int) != 0) = (a != 0) := by rw [Bool.eq_iff_iff]; simp
theorem holds_any (a b : Nat) (ha : a < 18446744073709551616) (hb : b < 18446744073709551616) (w : World) : Calls Tryz.prog 143 #[.int .u64 a, .int .u64 b] w fun e w' => e = .returned (.bool (a &&& b == b)) ∧ w = w' := by
  have h := u64_and_nat a b ha hb
  go_enter Tryz.func143, Tryz.ntmps143
  go_wp2
  go_ret
  exact ⟨ret_bool (eqN _ _), rfl⟩
theorem and_bit (m n : Nat) : (m &&& 2 ^ n != 0) = m.testBit n := by
  cases h : m.testBit n
  · have e : m &&& 2 ^ n = 0 := Nat.eq_of_testBit_eq fun i => by
      rw [Nat.testBit_and, Nat.testBit_two_pow, Nat.zero_testBit]
      by_cases hi : n = i
      · subst hi; simp [h]
      · simp [hi]
    rw [e]; rfl
  · have e : m &&& 2 ^ n ≠ 0 := fun e => by
      have := congrArg (fun q => q.testBit n) e
      simp [Nat.testBit_and, Nat.testBit_two_pow, h] at this
    simpa using e
theorem andN (a c : Nat) (A C : Int) (hA : A = a) (hC : C = c) (ha : a < 18446744073709551616) (hc : c < 18446744073709551616) : bits .and .u64 A C = ((a &&& c : Nat) : Int) := by
  subst hA hC
  exact u64_and_nat a c ha hc
theorem wrapN (a : Nat) (A : Int) (hA : A = a) (ha : a < 18446744073709551616) : IntKind.u64.wrap A = (a : Int) := by
  subst hA
  rw [IntKind.wrap_u64]
  omega
/-- With and Without, one kind after another. -/
def ErrK (w : World) (a : Addr) : Prop := w.cell? ⟨4, 0, none⟩ = some (.iface 258 (.pointer (some a)))
theorem ErrK.below {w w' : World} {a : Addr} (h : ErrK w a) (hb : RowKit.Below w.heap.size w w') : ErrK w' a := Bc hb (cell_lt h) h
theorem op_anyT (m k : Nat) (hm : m < 18446744073709551616) (hk : k < 64) (w : World) : Calls Tryz.prog 70 #[.int .u64 m, .int .u64 ((2 ^ k : Nat) : Int)] w fun e w' => e = .returned (.int .u64 (opN true m k : Nat)) ∧ w = w' := by
  simpa [opN] using with1_any m (2 ^ k) hm (pow64 hk) w
theorem op_any (on : Bool) (fn : Nat) (hfn : fn = if on then 70 else 136) (m k : Nat) (hm : m < 18446744073709551616) (hk : k < 64) (w : World) : Calls Tryz.prog fn #[.int .u64 m, .int .u64 ((2 ^ k : Nat) : Int)] w fun e w' => e = .returned (.int .u64 (opN on m k : Nat)) ∧ w = w' := by
  subst hfn
  cases on
  · simpa [opN] using without1_any m (2 ^ k) hm (pow64 hk) w
  · simpa [opN] using with1_any m (2 ^ k) hm (pow64 hk) w
end Go.Proofs.YtaehendpdfpibaaGreatDoor
