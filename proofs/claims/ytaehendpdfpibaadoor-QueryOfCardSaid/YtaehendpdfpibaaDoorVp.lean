/-
  Of no program: components and rows of them: which are right, what a row is, a row's component of a kind, a row with one and without one.
-/
import Derived.Test.YtaehendpdfpibaaDoorMm
namespace Go.Proofs.YtaehendpdfpibaaDoor
set_option linter.unusedSimpArgs false
set_option linter.unusedVariables false

abbrev Vl := Int × Int × Int

/-! ### Components. -/
/-- The ranges of a kind's A and B. -/
def rngV (k : Int) : (Int × Int) × (Int × Int) :=
  if k = 0 ∨ k = 2 then ((-1048576, 1048576), (-1048576, 1048576))
  else if k = 1 then ((0, 1048576), (0, 1048576))
  else if k = 3 then ((0, 0), (0, 0))
  else if k = 4 then ((0, 255), (0, 0))
  else if k = 5 then ((0, 1048576), (0, 0))
  else ((-4194304, 4194304), (-4194304, 4194304))
def inV (n : Int) (r : Int × Int) : Bool := decide (r.1 ≤ n) && decide (n ≤ r.2)
/-- The error's number of a component. -/
def chk (x : Vl) : Nat := if kindB x.1 then (if inV x.2.1 (rngV x.1).1 && inV x.2.2 (rngV x.1).2 then 0 else 1) else 5
theorem chk_kind {x : Vl} (h : chk x = 0) : kindB x.1 = true := by
  unfold chk at h
  split at h
  · assumption
  · cases h
theorem chk_is (x : Vl) : chk x = 0 ∨ chk x = 1 ∨ chk x = 5 := by
  unfold chk
  repeat' split
  all_goals simp
theorem chk_yes {x : Vl} (h : chk x = 0) : (rngV x.1).1.1 ≤ x.2.1 ∧ x.2.1 ≤ (rngV x.1).1.2 ∧ (rngV x.1).2.1 ≤ x.2.2 ∧ x.2.2 ≤ (rngV x.1).2.2 := by
  unfold chk at h
  split at h
  · split at h
    · rename_i h2
      simp [inV] at h2
      exact ⟨h2.1.1, h2.1.2, h2.2.1, h2.2.2⟩
    · cases h
  · cases h
theorem chk_pos {a b : Int} : chk (0, a, b) = 0 ↔ (-1048576 ≤ a ∧ a ≤ 1048576) ∧ (-1048576 ≤ b ∧ b ≤ 1048576) := by
  simp [chk, kindB, rngV, inV]
  omega
theorem chk_ext {a b : Int} : chk (1, a, b) = 0 ↔ (0 ≤ a ∧ a ≤ 1048576) ∧ (0 ≤ b ∧ b ≤ 1048576) := by
  simp [chk, kindB, rngV, inV]
  omega

/-! ### Rows. -/
/-- The first error. -/
def firstE : List Vl → Nat
  | [] => 0
  | x :: r => if chk x = 0 then firstE r else chk x
theorem firstE_zero : ∀ l : List Vl, firstE l = 0 ↔ ∀ x ∈ l, chk x = 0
  | [] => by simp [firstE]
  | x :: r => by
    unfold firstE
    split
    · rename_i h; rw [firstE_zero r]; simp [h]
    · rename_i h; simp [h]
theorem firstE_is : ∀ l : List Vl, firstE l = 0 ∨ firstE l = 1 ∨ firstE l = 5
  | [] => .inl rfl
  | x :: r => by
    unfold firstE
    split
    · exact firstE_is r
    · exact chk_is x
theorem firstE_at {l : List Vl} {i : Nat} {x : Vl} (hi : l[i]? = some x) (hx : chk x ≠ 0) (hb : ∀ y ∈ l.take i, chk y = 0) : firstE l = chk x := by
  induction l generalizing i with
  | nil => simp at hi
  | cons y r ih =>
    cases i with
    | zero =>
      simp at hi
      subst hi
      simp [firstE, hx]
    | succ i =>
      simp at hi hb
      rw [firstE, if_pos hb.1]
      exact ih hi (fun y hy => hb.2 y.1 y.2.1 y.2.2 hy)

def ofKind (k : Nat) (l : List Vl) : List Vl := l.filter fun x => x.1 == (k : Int)
def rowTo (n : Nat) (l : List Vl) : List Vl := (List.range n).flatMap fun k => ofKind k l
theorem rowTo_succ (n : Nat) (l : List Vl) : rowTo (n + 1) l = rowTo n l ++ ofKind n l := by simp [rowTo, List.range_succ]
def dupB (l : List Vl) : Bool := (List.range 10).any fun k => decide (1 < (ofKind k l).length)
/-- The error's number of components put to a row. -/
def rowN (l : List Vl) : Nat := if firstE l ≠ 0 then firstE l else if dupB l then 4 else 0
def rowL (l : List Vl) : List Vl := if rowN l = 0 then rowTo 10 l else []
abbrev RiseK (l : List Vl) : Prop := l.Pairwise fun x y => x.1 < y.1

theorem dup_no (l : List Vl) : dupB l = false ↔ ∀ k, k < 10 → (ofKind k l).length ≤ 1 := by
  simp [dupB, List.any_eq_false]
theorem mem_ofKind (k : Nat) (l : List Vl) (x : Vl) : x ∈ ofKind k l ↔ x ∈ l ∧ x.1 = k := by simp [ofKind]
theorem mem_rowTo (n : Nat) (l : List Vl) (x : Vl) : x ∈ rowTo n l ↔ x ∈ l ∧ 0 ≤ x.1 ∧ x.1 < n := by
  simp only [rowTo, List.mem_flatMap, List.mem_range, mem_ofKind]
  constructor
  · rintro ⟨k, hk, hx, e⟩
    exact ⟨hx, by omega, by omega⟩
  · rintro ⟨hx, h0, hn⟩
    exact ⟨x.1.toNat, by omega, hx, by omega⟩
theorem rowTo_rise (l : List Vl) (h : dupB l = false) : ∀ n, n ≤ 10 → RiseK (rowTo n l)
  | 0, _ => by simp [rowTo, RiseK]
  | n + 1, hn => by
    rw [rowTo_succ]
    refine List.pairwise_append.2 ⟨rowTo_rise l h n (by omega), ?_, fun x hx y hy => ?_⟩
    · have := (dup_no l).1 h n (by omega)
      match ofKind n l, this with
      | [], _ => simp
      | [x], _ => simp
    · have h1 := (mem_rowTo n l x).1 hx
      have h2 := (mem_ofKind n l y).1 hy
      omega
theorem rkFilter {l : List Vl} (p : Vl → Bool) (h : RiseK l) : RiseK (l.filter p) := List.Pairwise.filter p h
theorem rkrise_nodup {l : List Vl} (h : RiseK l) : dupB l = false := (dup_no l).2 fun k _ => by
  have h1 : RiseK (ofKind k l) := rkFilter _ h
  have h2 : ∀ x ∈ ofKind k l, x.1 = k := fun x hx => ((mem_ofKind k l x).1 hx).2
  match ofKind k l, h1, h2 with
  | [], _, _ => simp
  | [x], _, _ => simp
  | x :: y :: r, h1, h2 =>
    have := (List.pairwise_cons.1 h1).1 y (by simp)
    have hx := h2 x (by simp)
    have hy := h2 y (by simp)
    omega
/-- TWO RISING ROWS OF THE SAME MEMBERS ARE ONE. -/
theorem rise_ext : ∀ (a b : List Vl), RiseK a → RiseK b → (∀ x, x ∈ a ↔ x ∈ b) → a = b
  | [], [], _, _, _ => rfl
  | [], y :: _, _, _, hm => absurd ((hm y).2 (by simp)) (by simp)
  | x :: _, [], _, _, hm => absurd ((hm x).1 (by simp)) (by simp)
  | x :: r, y :: s, ha, hb, hm => by
    obtain ⟨hx, ha'⟩ := List.pairwise_cons.1 ha
    obtain ⟨hy, hb'⟩ := List.pairwise_cons.1 hb
    have exy : x = y := by
      rcases List.mem_cons.1 ((hm x).1 (by simp)) with e | e
      · exact e
      · rcases List.mem_cons.1 ((hm y).2 (by simp)) with f | f
        · exact f.symm
        · have := hy x e; have := hx y f; omega
    subst exy
    congr 1
    refine rise_ext r s ha' hb' fun z => ?_
    constructor
    · intro hz
      rcases List.mem_cons.1 ((hm z).1 (List.mem_cons_of_mem _ hz)) with e | e
      · subst e; have := hx z hz; omega
      · exact e
    · intro hz
      rcases List.mem_cons.1 ((hm z).2 (List.mem_cons_of_mem _ hz)) with e | e
      · subst e; have := hy z hz; omega
      · exact e
/-- Sorted by kind, none twice: rising. -/
theorem rise_of_le : ∀ l : List Vl, (∀ x ∈ l, kindB x.1 = true) → dupB l = false → l.Pairwise (fun x y => x.1 ≤ y.1) → RiseK l
  | [], _, _, _ => by simp [RiseK]
  | x :: r, hk, hd, hp => by
    obtain ⟨hx, hr⟩ := List.pairwise_cons.1 hp
    have hn := (dup_no _).1 hd
    have hd' : dupB r = false := (dup_no _).2 fun k h => by
      have := hn k h
      have h2 : (ofKind k r).length ≤ (ofKind k (x :: r)).length := by
        unfold ofKind; rw [List.filter_cons]; split <;> simp
      omega
    refine List.pairwise_cons.2 ⟨fun y hy => ?_, rise_of_le r (fun z hz => hk z (by simp [hz])) hd' hr⟩
    have h1 := hx y hy
    rcases Int.lt_or_eq_of_le h1 with h | h
    · exact h
    · have hkx := (kindB_iff _).1 (hk x (by simp))
      have := hn x.1.toNat (by omega)
      have e : ((x.1.toNat : Nat) : Int) = x.1 := by omega
      have hm : y ∈ ofKind x.1.toNat r := (mem_ofKind _ _ _).2 ⟨hy, by omega⟩
      have hpos := List.length_pos_of_mem hm
      unfold ofKind at this hpos
      rw [List.filter_cons, if_pos (by simp [e]), List.length_cons] at this
      omega
theorem dup_perm {a b : List Vl} (h : a.Perm b) : dupB a = dupB b := by
  unfold dupB
  congr 1
  funext k
  have : (ofKind k a).length = (ofKind k b).length := (h.filter _).length_eq
  rw [this]
/-- What a sorted permutation is, where no error stands: rising just if none stands twice, and then the row. -/
theorem sorted_row {l d : List Vl} (hp : d.Perm l) (hs : d.Pairwise (fun x y => x.1 ≤ y.1)) (he : firstE l = 0) : (dupB l = true → ¬ RiseK d) ∧ (dupB l = false → RiseK d ∧ d = rowTo 10 l) := by
  have hk : ∀ x ∈ l, kindB x.1 = true := fun x hx => chk_kind ((firstE_zero l).1 he x hx)
  refine ⟨fun h hr => ?_, fun h => ?_⟩
  · have := rkrise_nodup hr
    rw [dup_perm hp, h] at this
    cases this
  · have hr := rise_of_le d (fun x hx => hk x (hp.mem_iff.1 hx)) (by rw [dup_perm hp]; exact h) hs
    refine ⟨hr, rise_ext _ _ hr (rowTo_rise l h 10 (Nat.le_refl _)) fun x => ?_⟩
    rw [mem_rowTo, hp.mem_iff]
    constructor
    · intro hx
      have := (kindB_iff _).1 (hk x hx)
      exact ⟨hx, this.1, this.2⟩
    · exact fun h => h.1
/-- A right row. -/
def RightV (l : List Vl) : Prop := RiseK l ∧ ∀ x ∈ l, chk x = 0
theorem right_row {l : List Vl} (h : RightV l) : rowN l = 0 ∧ rowL l = l := by
  have h1 := (firstE_zero l).2 h.2
  have h2 := rkrise_nodup h.1
  have h3 : rowN l = 0 := by simp [rowN, h1, h2]
  refine ⟨h3, ?_⟩
  rw [rowL, if_pos h3]
  have := (sorted_row (List.Perm.refl l) (h.1.imp (fun h => Int.le_of_lt h)) h1).2 h2
  exact this.2.symm
theorem row_right {l : List Vl} (h : rowN l = 0) : RightV (rowL l) ∧ firstE l = 0 ∧ dupB l = false := by
  have h1 : firstE l = 0 := by
    unfold rowN at h
    split at h
    · rename_i h2; exact absurd h h2
    · rename_i h2; simpa using h2
  have h2 : dupB l = false := by
    unfold rowN at h
    rw [if_neg (by simp [h1])] at h
    split at h
    · cases h
    · rename_i h2; simpa using h2
  refine ⟨?_, h1, h2⟩
  rw [rowL, if_pos h]
  exact ⟨rowTo_rise l h2 10 (Nat.le_refl _), fun x hx => (firstE_zero l).1 h1 x ((mem_rowTo 10 l x).1 hx).1⟩
theorem rowN_is (l : List Vl) : rowN l = 0 ∨ rowN l = 1 ∨ rowN l = 4 ∨ rowN l = 5 := by
  have := firstE_is l
  unfold rowN
  repeat' split
  all_goals omega
theorem rowL_len (l : List Vl) : (rowL l).length ≤ 10 := by
  unfold rowL
  split
  · rename_i h
    obtain ⟨_, _, h2⟩ := row_right h
    have : ∀ n, n ≤ 10 → (rowTo n l).length ≤ n := by
      intro n
      induction n with
      | zero => intro _; simp [rowTo]
      | succ n ih =>
        intro hn
        have h1 := ih (by omega)
        have h3 := (dup_no l).1 h2 n (by omega)
        rw [rowTo_succ, List.length_append]
        omega
    exact this 10 (Nat.le_refl _)
  · simp
/-- Whether a row is right, as the program asks it, and as the reference does. -/
def rightB (l : List Vl) : Bool := decide (RiseK l) && l.all (fun x => chk x == 0)
theorem rightB_iff (l : List Vl) : rightB l = true ↔ RightV l := by simp [rightB, RightV]
theorem rightB_ref (l : List Vl) : (rowN l == 0 && decide (l = rowL l)) = rightB l := by
  rw [Bool.eq_iff_iff, rightB_iff]
  constructor
  · intro h
    simp at h
    rw [h.2]
    exact (row_right h.1).1
  · intro h
    obtain ⟨h1, h2⟩ := right_row h
    simp [h1, h2]

/-- Rising, step by step. -/
theorem rise_take_one (l : List Vl) : RiseK (l.take 1) := by
  match l with
  | [] => simp [RiseK]
  | [x] => simp [RiseK]
  | x :: y :: r => simp [RiseK]
theorem take_snoc {α : Type} [Inhabited α] (l : List α) {i : Nat} (h : i < l.length) : l.take (i + 1) = l.take i ++ [l[i]!] := by
  rw [getElem!_pos l i h]
  exact List.take_succ_eq_append_getElem h
theorem rise_step {l : List Vl} {i : Nat} (h0 : 0 < i) (h : i < l.length) (hr : RiseK (l.take i)) (hlt : l[i - 1]!.1 < l[i]!.1) : RiseK (l.take (i + 1)) := by
  rw [take_snoc l h]
  refine List.pairwise_append.2 ⟨hr, by simp, fun x hx y hy => ?_⟩
  simp only [List.mem_singleton] at hy
  subst hy
  obtain ⟨j, rfl⟩ : ∃ j, i = j + 1 := ⟨i - 1, by omega⟩
  rw [take_snoc l (by omega)] at hx hr
  rcases List.mem_append.1 hx with e | e
  · have := (List.pairwise_append.1 hr).2.2 x e l[j]! (by simp)
    simp only [Nat.add_sub_cancel] at hlt
    omega
  · simp only [List.mem_singleton] at e
    subst e
    simpa using hlt
theorem rise_no {l : List Vl} {i : Nat} (h0 : 0 < i) (h : i < l.length) (hge : l[i]!.1 ≤ l[i - 1]!.1) : ¬ RiseK l := fun hr => by
  have := List.pairwise_iff_getElem.1 hr (i - 1) i (by omega) h (by omega)
  rw [getElem!_pos l i h, getElem!_pos l (i - 1) (by omega)] at hge
  omega

/-! ### A row's component of a kind. -/
def findV (l : List Vl) (k : Int) : Option Vl := l.find? fun x => x.1 == k
theorem find_at {l : List Vl} {k : Int} {i : Nat} (hi : i < l.length) (hx : l[i]!.1 = k) (hb : ∀ j, j < i → l[j]!.1 ≠ k) : findV l k = some l[i]! := by
  rw [getElem!_pos l i hi] at hx ⊢
  unfold findV
  rw [List.find?_eq_some_iff_getElem]
  refine ⟨by simp [hx], i, hi, rfl, fun j hj => ?_⟩
  have := hb j hj
  rw [getElem!_pos l j (by omega)] at this
  simpa using this
theorem find_no {l : List Vl} {k : Int} (hb : ∀ j, j < l.length → l[j]!.1 ≠ k) : findV l k = none := by
  unfold findV
  rw [List.find?_eq_none]
  intro x hx
  obtain ⟨j, hj, rfl⟩ := List.getElem_of_mem hx
  have := hb j hj
  rw [getElem!_pos l j hj] at this
  simpa using this
theorem find_some {l : List Vl} {k : Int} {x : Vl} (h : findV l k = some x) : x ∈ l ∧ x.1 = k := by
  unfold findV at h
  exact ⟨List.mem_of_find?_eq_some h, by simpa using List.find?_some h⟩
theorem find_rise {l : List Vl} (hr : RiseK l) {x : Vl} (hx : x ∈ l) : findV l x.1 = some x := by
  unfold findV
  induction l with
  | nil => cases hx
  | cons y r ih =>
    obtain ⟨hy, hr'⟩ := List.pairwise_cons.1 hr
    rw [List.find?_cons]
    rcases List.mem_cons.1 hx with e | e
    · subst e; simp
    · have := hy x e
      have hne : (y.1 == x.1) = false := by simp; omega
      rw [hne]
      exact ih hr' e

/-! ### A row without a kind, and with a component. -/
def dropV (l : List Vl) (k : Int) : List Vl := l.filter fun x => !(x.1 == k)
theorem mem_dropV (l : List Vl) (k : Int) (x : Vl) : x ∈ dropV l k ↔ x ∈ l ∧ x.1 ≠ k := by simp [dropV]
def lessK (k : Int) (l : List Vl) : Nat := (l.takeWhile fun x => decide (x.1 < k)).length
theorem lessK_le (k : Int) (l : List Vl) : lessK k l ≤ l.length := by
  unfold lessK
  exact (List.takeWhile_prefix _).length_le
theorem lessK_at {k : Int} {l : List Vl} {i : Nat} (hi : i ≤ l.length) (h1 : ∀ j, j < i → l[j]!.1 < k) (h2 : i < l.length → ¬ l[i]!.1 < k) : lessK k l = i := by
  unfold lessK
  induction l generalizing i with
  | nil => simp at hi; simp [hi]
  | cons x r ih =>
    cases i with
    | zero =>
      have := h2 (by simp)
      simp at this
      rw [List.takeWhile_cons, if_neg (by simpa using this)]
      rfl
    | succ i =>
      have h0 := h1 0 (by omega)
      simp at h0
      rw [List.takeWhile_cons, if_pos (by simpa using h0), List.length_cons, ih (by simpa using hi) (fun j hj => by have := h1 (j + 1) (by omega); simpa using this) (fun hj => by have := h2 (by simpa using hj); simpa using this)]
theorem lessK_take (k : Int) (l : List Vl) : ∀ x ∈ l.take (lessK k l), x.1 < k := by
  intro x hx
  have e : l.take (lessK k l) = l.takeWhile fun x => decide (x.1 < k) := by
    unfold lessK
    clear hx
    induction l with
    | nil => rfl
    | cons y r ih =>
      rw [List.takeWhile_cons]
      split
      · simp only [List.length_cons, List.take_succ_cons, ih]
      · simp
  rw [e] at hx
  have := List.all_takeWhile (l := l) (p := fun x => decide (x.1 < k))
  simpa using List.all_eq_true.1 this x hx
theorem lessK_drop {k : Int} {l : List Vl} (hr : RiseK l) : ∀ x ∈ l.drop (lessK k l), k ≤ x.1 := by
  unfold lessK
  induction l with
  | nil => intro x hx; simp at hx
  | cons y r ih =>
    obtain ⟨hy, hr'⟩ := List.pairwise_cons.1 hr
    intro x hx
    rw [List.takeWhile_cons] at hx
    split at hx
    · simp at hx
      exact ih hr' x hx
    · rename_i hn
      simp at hn hx
      rcases hx with e | e
      · subst e; exact hn
      · have := hy x e; omega
def putV (l : List Vl) (x : Vl) : List Vl := (dropV l x.1).take (lessK x.1 (dropV l x.1)) ++ [x] ++ (dropV l x.1).drop (lessK x.1 (dropV l x.1))
theorem mem_putV (l : List Vl) (x y : Vl) : y ∈ putV l x ↔ y = x ∨ (y ∈ l ∧ y.1 ≠ x.1) := by
  rw [← mem_dropV]
  unfold putV
  generalize dropV l x.1 = d
  have := List.take_append_drop (lessK x.1 d) d
  constructor
  · intro h
    rcases List.mem_append.1 h with h | h
    · rcases List.mem_append.1 h with h | h
      · exact .inr (List.mem_of_mem_take h)
      · exact .inl (by simpa using h)
    · exact .inr (List.mem_of_mem_drop h)
  · rintro (h | h)
    · simp [h]
    · rw [← this] at h
      rcases List.mem_append.1 h with h | h
      · simp [h]
      · simp [h]
theorem putV_rise {l : List Vl} (x : Vl) (hr : RiseK l) : RiseK (putV l x) := by
  have hd : RiseK (dropV l x.1) := rkFilter _ hr
  have h1 := lessK_take x.1 (dropV l x.1)
  have h2 := lessK_drop (k := x.1) hd
  have h3 : ∀ y ∈ dropV l x.1, y.1 ≠ x.1 := fun y hy => ((mem_dropV _ _ _).1 hy).2
  unfold putV
  refine List.pairwise_append.2 ⟨List.pairwise_append.2 ⟨List.Pairwise.sublist (List.take_sublist _ _) hd, by simp, fun y hy z hz => ?_⟩, List.Pairwise.sublist (List.drop_sublist _ _) hd, fun y hy z hz => ?_⟩
  · simp only [List.mem_singleton] at hz
    subst hz
    exact h1 y hy
  · have hz1 := h2 z hz
    have hz2 := h3 z (List.mem_of_mem_drop hz)
    rcases List.mem_append.1 hy with h | h
    · have := h1 y h; omega
    · simp only [List.mem_singleton] at h
      subst h
      omega
theorem putV_right {l : List Vl} {x : Vl} (h : RightV l) (hx : chk x = 0) : RightV (putV l x) :=
  ⟨putV_rise x h.1, fun y hy => by
    rcases (mem_putV l x y).1 hy with e | e
    · rw [e]; exact hx
    · exact h.2 y e.1⟩
theorem dropV_right {l : List Vl} (k : Int) (h : RightV l) : RightV (dropV l k) := ⟨rkFilter _ h.1, fun y hy => h.2 y ((mem_dropV _ _ _).1 hy).1⟩
theorem drop_putV {l : List Vl} (x : Vl) (hr : RiseK l) : dropV (putV l x) x.1 = dropV l x.1 := by
  refine rise_ext _ _ (rkFilter _ (putV_rise x hr)) (rkFilter _ hr) fun y => ?_
  rw [mem_dropV, mem_dropV, mem_putV]
  constructor
  · rintro ⟨h | h, hn⟩
    · subst h; exact absurd rfl hn
    · exact h
  · exact fun h => ⟨.inr h, h.2⟩
/-- The reference's Put: what is left, and the component, put to a row. -/
theorem putV_ref {l : List Vl} {x : Vl} (h : RightV l) (hx : chk x = 0) : rowL (dropV l x.1 ++ [x]) = putV l x := by
  have hd := dropV_right x.1 h
  have hf : firstE (dropV l x.1 ++ [x]) = 0 := (firstE_zero _).2 fun y hy => by
    rcases List.mem_append.1 hy with e | e
    · exact hd.2 y e
    · simp only [List.mem_singleton] at e
      subst e; exact hx
  have hp : (putV l x).Perm (dropV l x.1 ++ [x]) := by
    unfold putV
    refine (List.perm_append_right_iff _).2 List.perm_append_comm |>.trans ?_
    rw [List.append_assoc, List.take_append_drop]
    exact List.perm_append_comm
  have hn : dupB (dropV l x.1 ++ [x]) = false := by
    rw [← dup_perm hp]
    exact rkrise_nodup (putV_rise x h.1)
  have h0 : rowN (dropV l x.1 ++ [x]) = 0 := by simp [rowN, hf, hn]
  rw [rowL, if_pos h0]
  exact ((sorted_row hp ((putV_rise x h.1).imp fun h => Int.le_of_lt h) hf).2 hn).2.symm

/-! ### A row's mask and box. -/
def maskV (l : List Vl) : Nat := foldN true 0 (l.map fun x => x.1)
/-- A right row's box. -/
def boxV (l : List Vl) : Option (Int × Int × Int × Int) :=
  match findV l 0, findV l 1 with
  | some p, some e => some (p.2.1 - e.2.1, p.2.2 - e.2.2, p.2.1 + e.2.1, p.2.2 + e.2.2)
  | _, _ => none
def hasV (l : List Vl) (k : Int) : Bool := (findV l k).isSome
end Go.Proofs.YtaehendpdfpibaaDoor
