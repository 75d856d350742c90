import Derived.Test.YtahichjiphjapaaGreatDoorZ0

/-
  Of no program: boxes at the handles 0, 1, ..; those that meet a box over the whole world.
-/
namespace Go.Proofs.YtahichjiphjapaaGreatDoor
set_option linter.unusedSimpArgs false
set_option linter.unusedVariables false

/-- The first i boxes of l, at the handles from 0 on. -/
def bl (l : List Bx4) (i : Nat) : List Bxd := (List.range i).map fun j => ((((j : Nat) : Int), 1), l[j]!)
theorem bl_zero (l : List Bx4) : bl l 0 = [] := rfl
theorem bl_succ (l : List Bx4) (i : Nat) : bl l (i + 1) = bl l i ++ [(((i : Int), 1), l[i]!)] := by
  unfold bl
  rw [List.range_succ, List.map_append]
  rfl
theorem bl_len (l : List Bx4) (i : Nat) : (bl l i).length = i := by simp [bl]
theorem mem_bl {l : List Bx4} {i : Nat} {y : Bxd} : y ∈ bl l i ↔ ∃ j : Nat, j < i ∧ y = (((j : Int), 1), l[j]!) := by
  unfold bl
  rw [List.mem_map]
  simp only [List.mem_range]
  exact ⟨fun ⟨j, h, e⟩ => ⟨j, h, e.symm⟩, fun ⟨j, h, e⟩ => ⟨j, h, e.symm⟩⟩
theorem bl_none {l : List Bx4} {i k : Nat} (h : i ≤ k) : boxF (bl l i) ((k : Int), 1) = none := boxF_none.2 fun b hb e => by
  obtain ⟨j, hj, rfl⟩ := mem_bl.1 hb
  have := congrArg Prod.fst e
  dsimp only at this
  omega
theorem bl_put (l : List Bx4) (i : Nat) : woB (bl l i) ((i : Int), 1) ++ [(((i : Int), 1), l[i]!)] = bl l (i + 1) := by
  rw [woB_none (bl_none (Nat.le_refl i)), bl_succ]
theorem bl_once (l : List Bx4) : ∀ i, OnceB (bl l i)
  | 0 => List.nodup_nil
  | i + 1 => by
    rw [← bl_put]
    exact once_put (bl_once l i) _ _
/-- Those from i on. -/
theorem bl_drop {l : List Bx4} {n i : Nat} (hi : i < n) : (bl l n).drop i = (((i : Int), 1), l[i]!) :: (bl l n).drop (i + 1) := by
  rw [List.drop_eq_getElem_cons (by rw [bl_len]; exact hi)]
  congr 1
  simp [bl]
theorem bl_wo {l : List Bx4} {n i : Nat} (hi : i < n) : woB ((bl l n).drop i) ((i : Int), 1) = (bl l n).drop (i + 1) := by
  have ho : OnceB ((bl l n).drop i) := List.Sublist.nodup (List.Sublist.map _ (List.drop_sublist i _)) (bl_once l n)
  rw [bl_drop hi] at ho ⊢
  obtain ⟨h1, _⟩ := List.nodup_cons.1 ho
  unfold woB
  rw [List.filter_cons, if_neg (by simp)]
  exact List.filter_eq_self.2 fun b hb => by
    have : b.1 ≠ ((i : Int), 1) := fun e => h1 (List.mem_map.2 ⟨b, hb, e⟩)
    simpa using this
theorem srt_nodup {α : Type} [DecidableEq α] {lt : α → α → Bool} (h : STO lt) {l : List α} (hn : l.Nodup) : (srt lt l).length = l.length :=
  Nat.le_antisymm (srt_len lt l) (nodup_sub_len hn fun x hx => (mem_srt h l x).2 hx)
theorem meets_self {b : Bx4} (h : okR b = true) : meets4 b b = true := by
  obtain ⟨_, _, _, _, _, _, _, _, h1, h2⟩ := okR_iff.1 h
  simp [meets4]
  omega
theorem meets_all {b : Bx4} (h : okR b = true) : meets4 b (-4194304, -4194304, 4194304, 4194304) = true := by
  obtain ⟨h1, h2, h3, h4, h5, h6, h7, h8, _, _⟩ := okR_iff.1 h
  simp [meets4]
  omega
theorem meetL_all {B : List Bxd} (ho : OnceB B) (h : ∀ b ∈ B, okR b.2 = true) : (meetL B (-4194304, -4194304, 4194304, 4194304)).length = B.length := by
  have e : (B.filter fun b => meets4 b.2 (-4194304, -4194304, 4194304, 4194304)) = B := List.filter_eq_self.2 fun b hb => meets_all (h b hb)
  unfold meetL
  rw [e, srt_nodup sto_hd ho, List.length_map]
/-- What a tree holds behind the second filling: the first i of those turned by k. -/
def P2 (l : List Bx4) (k i : Nat) (y : Bxd) : Prop := ∃ j : Nat, j < i ∧ y = (((((j + k) % l.length : Nat) : Int), 1), l[(j + k) % l.length]!)
theorem P2_zero (l : List Bx4) (k : Nat) (y : Bxd) : P2 l k 0 y ↔ False := ⟨fun ⟨_, h, _⟩ => by omega, False.elim⟩
theorem mod_ne {j i k n : Nat} (hj : j < i) (hi : i < n) : (j + k) % n ≠ (i + k) % n := fun e => by
  have h1 : (i + k) - (j + k) = i - j := by omega
  have h2 : ((i + k) - (j + k)) % n = 0 := Nat.sub_mod_eq_zero_of_mod_eq e.symm
  rw [h1, Nat.mod_eq_of_lt (by omega)] at h2
  omega
theorem P2_step {l : List Bx4} {k i : Nat} (hi : i < l.length) (y : Bxd) : P2 l k (i + 1) y ↔ (P2 l k i y ∧ y.1 ≠ ((((i + k) % l.length : Nat) : Int), 1)) ∨ y = (((((i + k) % l.length : Nat) : Int), 1), l[(i + k) % l.length]!) := by
  constructor
  · rintro ⟨j, hj, rfl⟩
    rcases Nat.lt_or_ge j i with h | h
    · refine .inl ⟨⟨j, h, rfl⟩, fun e => mod_ne (k := k) h hi ?_⟩
      have := congrArg Prod.fst e
      dsimp only at this
      omega
    · obtain rfl : j = i := by omega
      exact .inr rfl
  · rintro (⟨⟨j, hj, rfl⟩, _⟩ | rfl)
    · exact ⟨j, by omega, rfl⟩
    · exact ⟨i, by omega, rfl⟩
theorem P2_end {l : List Bx4} {k : Nat} (y : Bxd) : P2 l k l.length y ↔ y ∈ bl l l.length := by
  rw [mem_bl]
  constructor
  · rintro ⟨j, hj, rfl⟩
    exact ⟨(j + k) % l.length, Nat.mod_lt _ (by omega), rfl⟩
  · rintro ⟨j, hj, rfl⟩
    refine ⟨(j + (l.length - k % l.length)) % l.length, Nat.mod_lt _ (by omega), ?_⟩
    have e : ((j + (l.length - k % l.length)) % l.length + k) % l.length = j := by
      rw [Nat.mod_add_mod]
      have hk := Nat.mod_lt k (show 0 < l.length by omega)
      have e2 : j + (l.length - k % l.length) + k = j + (l.length + (k - k % l.length)) := by
        have := Nat.mod_le k l.length
        omega
      rw [e2, show k - k % l.length = l.length * (k / l.length) by have := Nat.div_add_mod k l.length; omega, ← Nat.add_assoc, Nat.add_mul_mod_self_left, Nat.add_mod_right, Nat.mod_eq_of_lt hj]
    rw [e]
end Go.Proofs.YtahichjiphjapaaGreatDoor

/-
  Of no program: which boxes a walk meets; the handles that are wanted, and those that were met.
-/
namespace Go.Proofs.YtahichjiphjapaaGreatDoor
set_option linter.unusedSimpArgs false
set_option linter.unusedVariables false

/-- A cell and all above it are entered. -/
def allUp (p : Cl → Bool) : Nat → Int → Int → Bool
  | 0, x, y => p (0, x, y)
  | k + 1, x, y => p (((k + 1 : Nat) : Int), x, y) && allUp p k (x / 2) (y / 2)
/-- A box is met: its cell and all above it are entered. -/
def seenB (p : Cl → Bool) (b : Bx4) : Bool := p (0, 0, 0) && (chainB b).all p
theorem pw_half {k : Nat} (hk : k < 8) {x : Int} (h0 : 0 ≤ x) (h1 : x < pwI (k + 1)) : 0 ≤ x / 2 ∧ x / 2 < pwI k := by
  rcases (show k = 0 ∨ k = 1 ∨ k = 2 ∨ k = 3 ∨ k = 4 ∨ k = 5 ∨ k = 6 ∨ k = 7 by omega) with rfl | rfl | rfl | rfl | rfl | rfl | rfl | rfl <;> simp [pwI] at h1 ⊢ <;> omega
theorem allUp_chain (p : Cl → Bool) : ∀ (k : Nat) (x y : Int), k ≤ 8 → 0 ≤ x → x < pwI k → 0 ≤ y → y < pwI k → allUp p k x y = (p (0, 0, 0) && (chain k x y).all p)
  | 0, x, y, _, h1, h2, h3, h4 => by
    have e1 : x = 0 := by simp [pwI] at h2; omega
    have e2 : y = 0 := by simp [pwI] at h4; omega
    subst e1 e2
    simp [allUp, chain]
  | k + 1, x, y, hk, h1, h2, h3, h4 => by
    obtain ⟨a1, a2⟩ := pw_half (by omega) h1 h2
    obtain ⟨b1, b2⟩ := pw_half (by omega) h3 h4
    have := allUp_chain p k (x / 2) (y / 2) (by omega) a1 a2 b1 b2
    unfold allUp chain
    rw [this, List.all_cons]
    cases p (((k + 1 : Nat) : Int), x, y) <;> cases p (0, 0, 0) <;> simp
/-- The handles of the first i boxes that are met. -/
def wantL (p : Cl → Bool) (l : List Bx4) (i : Nat) : List Hd := ((List.range i).filter fun j => seenB p l[j]!).map fun j => (((j : Nat) : Int), 1)
theorem mem_wantL {p : Cl → Bool} {l : List Bx4} {i : Nat} {h : Hd} : h ∈ wantL p l i ↔ ∃ j : Nat, j < i ∧ seenB p l[j]! = true ∧ h = ((j : Int), 1) := by
  unfold wantL
  rw [List.mem_map]
  simp only [List.mem_filter, List.mem_range]
  exact ⟨fun ⟨j, h, e⟩ => ⟨j, h.1, h.2, e.symm⟩, fun ⟨j, h1, h2, e⟩ => ⟨j, ⟨h1, h2⟩, e.symm⟩⟩
theorem wantL_succ (p : Cl → Bool) (l : List Bx4) (i : Nat) : wantL p l (i + 1) = wantL p l i ++ (if seenB p l[i]! = true then [((i : Int), 1)] else []) := by
  unfold wantL
  rw [List.range_succ, List.filter_append, List.map_append]
  by_cases h : seenB p l[i]! = true
  · rw [if_pos h, List.filter_cons, if_pos h]
    rfl
  · rw [if_neg h, List.filter_cons, if_neg h]
    rfl
theorem wantL_not (p : Cl → Bool) (l : List Bx4) (i : Nat) : ((i : Int), 1) ∉ wantL p l i := fun h => by
  obtain ⟨j, hj, _, e⟩ := mem_wantL.1 h
  have := congrArg Prod.fst e
  dsimp only at this
  omega
theorem wantL_len (p : Cl → Bool) (l : List Bx4) (i : Nat) : (wantL p l i).length ≤ i := by
  unfold wantL
  rw [List.length_map]
  have := List.length_filter_le (fun j => seenB p l[j]!) (List.range i)
  rwa [List.length_range] at this
theorem wantL_nodup (p : Cl → Bool) (l : List Bx4) : ∀ i, (wantL p l i).Nodup
  | 0 => List.nodup_nil
  | i + 1 => by
    rw [wantL_succ]
    split
    · rw [List.nodup_append]
      refine ⟨wantL_nodup p l i, by simp, fun a ha b hb e => ?_⟩
      rw [List.mem_singleton] at hb
      subst hb
      subst e
      exact wantL_not p l i ha
    · rw [List.append_nil]
      exact wantL_nodup p l i
/-- What the map of those wanted says: those that are not yet met. -/
def wantF (L : List Hd) (s : List Bxd) (h : Hd) : Option Bool := if h ∈ L ∧ h ∉ s.map (·.1) then some true else none
theorem wantF_put (L : List Hd) (x z : Hd) : (if z = x then some true else wantF L [] z) = wantF (L ++ [x]) [] z := by
  unfold wantF
  by_cases e : z = x
  · subst e
    simp
  · simp [e]
theorem wantF_met (L : List Hd) (s : List Bxd) (b : Bxd) (z : Hd) : (if z = b.1 then none else wantF L s z) = wantF L (s ++ [b]) z := by
  unfold wantF
  have hm : z ∈ (s ++ [b]).map (·.1) ↔ z ∈ s.map (·.1) ∨ z = b.1 := by rw [List.map_append, List.mem_append]; exact or_congr_right List.mem_singleton
  by_cases e : z = b.1
  · rw [if_pos e, if_neg (fun q => q.2 (hm.2 (.inr e)))]
  · rw [if_neg e]
    by_cases q : z ∈ L ∧ z ∉ s.map (·.1)
    · rw [if_pos q, if_pos ⟨q.1, fun r => (hm.1 r).elim q.2 e⟩]
    · rw [if_neg q, if_neg (fun r => q ⟨r.1, fun t => r.2 (hm.2 (.inl t))⟩)]
/-- All that are to be met were met: as many as are wanted. -/
theorem met_all {p : Cl → Bool} {l : List Bx4} {s : List Bxd} (hn : s.Nodup) (hs : ∀ b, b ∈ s ↔ b ∈ bl l l.length ∧ seenB p b.2 = true) : s.length = (wantL p l l.length).length := by
  have h1 : (s.map (·.1)).Nodup := by
    rw [List.Nodup, List.pairwise_map]
    refine hn.imp_of_mem fun {a b} ha hb hab e => hab ((bl_once l l.length).eq ((hs a).1 ha).1 ((hs b).1 hb).1 e)
  have h2 : ∀ h, h ∈ s.map (·.1) ↔ h ∈ wantL p l l.length := fun h => by
    rw [List.mem_map, mem_wantL]
    constructor
    · rintro ⟨b, hb, rfl⟩
      obtain ⟨h3, h4⟩ := (hs b).1 hb
      obtain ⟨j, hj, rfl⟩ := mem_bl.1 h3
      exact ⟨j, hj, h4, rfl⟩
    · rintro ⟨j, hj, h4, rfl⟩
      exact ⟨(((j : Int), 1), l[j]!), (hs _).2 ⟨mem_bl.2 ⟨j, hj, rfl⟩, h4⟩, rfl⟩
  rw [show s.length = (s.map (·.1)).length from by simp]
  exact Nat.le_antisymm (nodup_sub_len h1 fun x hx => (h2 x).1 hx) (nodup_sub_len (wantL_nodup p l l.length) fun x hx => (h2 x).2 hx)
end Go.Proofs.YtahichjiphjapaaGreatDoor

/-
  Of no program: one goes up from a cell; which of the cells above it are entered.
-/
namespace Go.Proofs.YtahichjiphjapaaGreatDoor
set_option linter.unusedSimpArgs false
set_option linter.unusedVariables false

/-- On the way up: so far the answer is b; if there is more, the next cell is c. -/
def UpR (p : Cl → Bool) (tot b mo : Bool) (c : Cl) : Prop :=
  (mo = true → ∃ k : Nat, k ≤ 8 ∧ c.1 = (k : Int) ∧ 0 ≤ c.2.1 ∧ c.2.1 < pwI k ∧ 0 ≤ c.2.2 ∧ c.2.2 < pwI k ∧ (b && allUp p k c.2.1 c.2.2) = tot) ∧ (mo = false → b = tot)
/-- What Up answers at a cell that is one. -/
theorem UpR.next {p : Cl → Bool} {tot b : Bool} {k : Nat} (hk : k ≤ 8) {x y : Int} (h1 : 0 ≤ x) (h2 : x < pwI k) (h3 : 0 ≤ y) (h4 : y < pwI k) (h : (b && allUp p k x y) = tot) :
    UpR p tot (b && p ((k : Int), x, y)) (rightC ((k : Int), x, y) && decide (0 < (k : Int))) (if rightC ((k : Int), x, y) && decide (0 < (k : Int)) then upC ((k : Int), x, y) else (0, 0, 0)) := by
  have hr : rightC ((k : Int), x, y) = true := by
    unfold rightC
    simp only [Bool.and_eq_true, decide_eq_true_eq, Int.toNat_natCast]
    omega
  rw [hr]
  cases k with
  | zero =>
    refine ⟨fun e => by simp at e, fun _ => ?_⟩
    exact h
  | succ k =>
    refine ⟨fun _ => ⟨k, by omega, ?_⟩, fun e => by simp at e⟩
    obtain ⟨a1, a2⟩ := pw_half (by omega) h1 h2
    obtain ⟨b1, b2⟩ := pw_half (by omega) h3 h4
    rw [if_pos (by simp)]
    unfold upC
    dsimp only
    refine ⟨by omega, a1, a2, b1, b2, ?_⟩
    rw [← h, Bool.and_assoc]
    rfl
theorem cellE_fine {x : Bx4} (he : errB x = 0) (p : Cl → Bool) : ∃ (k : Nat) (c2 c3 : Int), k ≤ 8 ∧ cellE x = ((k : Int), c2, c3) ∧ 0 ≤ c2 ∧ c2 < pwI k ∧ 0 ≤ c3 ∧ c3 < pwI k ∧ allUp p k c2 c3 = seenB p x := by
  obtain ⟨hR, hW⟩ := errB_zero.1 he
  have hc := cell_right hR hW
  have e1 : cellE x = cellB x := by unfold cellE; rw [if_pos he]
  have hs : seenB p x = (p (0, 0, 0) && (chain (cellB x).1.toNat (cellB x).2.1 (cellB x).2.2).all p) := by unfold seenB chainB; rw [e1]
  have hd : (cellB x).1 = ((depthB x : Nat) : Int) := rfl
  have hk := depth_le x
  rw [e1, hs]
  generalize cellB x = q at *
  obtain ⟨c1, c2, c3⟩ := q
  dsimp only at hd hs ⊢
  subst hd
  unfold rightC at hc
  simp only [Bool.and_eq_true, decide_eq_true_eq, Int.toNat_natCast] at hc
  refine ⟨depthB x, c2, c3, hk, rfl, by omega, by omega, by omega, by omega, ?_⟩
  rw [allUp_chain p (depthB x) c2 c3 hk (by omega) (by omega) (by omega) (by omega), Int.toNat_natCast]
theorem pw_255 {k : Nat} (hk : k ≤ 8) {x : Int} (h : x < pwI k) : x ≤ 255 := by
  obtain ⟨_, _, _, _, h5⟩ := side_pw hk
  omega
/-- As long as the way up is. -/
def upN (mo : Bool) (c : Cl) : Nat := if mo then c.1.toNat + 1 else 0
theorem upN_next {k : Nat} {x y : Int} : upN (rightC ((k : Int), x, y) && decide (0 < (k : Int))) (if rightC ((k : Int), x, y) && decide (0 < (k : Int)) then upC ((k : Int), x, y) else (0, 0, 0)) < k + 1 := by
  unfold upN
  cases h : rightC ((k : Int), x, y) && decide (0 < (k : Int)) with
  | false => simp
  | true =>
    simp only [Bool.and_eq_true, decide_eq_true_eq] at h
    simp only [if_true, upC]
    omega
end Go.Proofs.YtahichjiphjapaaGreatDoor

/-
  Of no program: ways to cells; a tree's rows by their ways; what a walk meets.
-/
namespace Go.Proofs.YtahichjiphjapaaGreatDoor
set_option linter.unusedSimpArgs false
set_option linter.unusedVariables false

/-- The quarters that lead to a cell from the whole square. -/
def wayC : Nat → Int → Int → List Nat
  | 0, _, _ => []
  | d + 1, x, y => wayC d (x / 2) (y / 2) ++ [(x % 2 + 2 * (y % 2)).toNat]
theorem wayC_len : ∀ (d : Nat) (x y : Int), (wayC d x y).length = d
  | 0, _, _ => rfl
  | d + 1, x, y => by simp [wayC, wayC_len d]
theorem wayC_lt : ∀ (d : Nat) (x y : Int), ∀ i ∈ wayC d x y, i < 4
  | 0, _, _, i, h => by simp [wayC] at h
  | d + 1, x, y, i, h => by
    unfold wayC at h
    rcases List.mem_append.1 h with h | h
    · exact wayC_lt d _ _ i h
    · rw [List.mem_singleton.1 h]
      omega
theorem rev_ind {α : Type} {P : List α → Prop} (h0 : P []) (h1 : ∀ u i, P u → P (u ++ [i])) (u : List α) : P u := by
  have : ∀ v : List α, P v.reverse := fun v => by
    induction v with
    | nil => exact h0
    | cons i v ih => rw [List.reverse_cons]; exact h1 _ i ih
  have h := this u.reverse
  rwa [List.reverse_reverse] at h
def quarC (c : Cl) (i : Nat) : Cl := (c.1 + 1, 2 * c.2.1 + ((i % 2 : Nat) : Int), 2 * c.2.2 + ((i / 2 : Nat) : Int))
/-- The cell that a way leads to. -/
def cellU (u : List Nat) : Cl := u.foldl quarC (0, 0, 0)
theorem cellU_snoc (u : List Nat) (i : Nat) : cellU (u ++ [i]) = quarC (cellU u) i := by simp [cellU]
theorem cellU_depth : ∀ u : List Nat, (cellU u).1 = (u.length : Int) := by
  intro u
  induction u using rev_ind with
  | h0 => rfl
  | h1 u i ih => rw [cellU_snoc]; simp [quarC, ih]
theorem cellU_nonneg : ∀ u : List Nat, 0 ≤ (cellU u).2.1 ∧ 0 ≤ (cellU u).2.2 := by
  intro u
  induction u using rev_ind with
  | h0 => exact ⟨Int.le_refl _, Int.le_refl _⟩
  | h1 u i ih => rw [cellU_snoc]; unfold quarC; dsimp only; omega
/-- A cell's way leads to it. -/
theorem cellU_wayC : ∀ (d : Nat) (x y : Int), d ≤ 8 → 0 ≤ x → x < pwI d → 0 ≤ y → y < pwI d → cellU (wayC d x y) = ((d : Int), x, y)
  | 0, x, y, _, h1, h2, h3, h4 => by
    have e1 : x = 0 := by simp [pwI] at h2; omega
    have e2 : y = 0 := by simp [pwI] at h4; omega
    subst e1 e2
    rfl
  | d + 1, x, y, hd, h1, h2, h3, h4 => by
    obtain ⟨a1, a2⟩ := pw_half (by omega) h1 h2
    obtain ⟨b1, b2⟩ := pw_half (by omega) h3 h4
    unfold wayC
    rw [cellU_snoc, cellU_wayC d (x / 2) (y / 2) (by omega) a1 a2 b1 b2]
    unfold quarC
    refine Prod.ext ?_ (Prod.ext ?_ ?_) <;> dsimp only <;> omega
/-- A way of quarters is its cell's. -/
theorem wayC_cellU : ∀ u : List Nat, (∀ i ∈ u, i < 4) → wayC u.length (cellU u).2.1 (cellU u).2.2 = u := by
  intro u
  induction u using rev_ind with
  | h0 => intro _; rfl
  | h1 u i ih =>
    intro h
    have h4 : i < 4 := h i (by simp)
    have ih := ih fun j hj => h j (by simp [hj])
    rw [cellU_snoc, List.length_append, List.length_singleton]
    obtain ⟨n1, n2⟩ := cellU_nonneg u
    unfold quarC
    dsimp only
    rw [show ∀ x y, wayC (u.length + 1) x y = wayC u.length (x / 2) (y / 2) ++ [(x % 2 + 2 * (y % 2)).toNat] from fun _ _ => rfl]
    have e1 : (2 * (cellU u).2.1 + ((i % 2 : Nat) : Int)) / 2 = (cellU u).2.1 := by omega
    have e2 : (2 * (cellU u).2.2 + ((i / 2 : Nat) : Int)) / 2 = (cellU u).2.2 := by omega
    rw [e1, e2, ih]
    congr 2
    omega
theorem cellU_inj {u v : List Nat} (hu : ∀ i ∈ u, i < 4) (hv : ∀ i ∈ v, i < 4) (e : cellU u = cellU v) : u = v := by
  have hl : u.length = v.length := by
    have h1 := cellU_depth u
    have h2 := cellU_depth v
    rw [e] at h1
    omega
  rw [← wayC_cellU u hu, ← wayC_cellU v hv, e, hl]
theorem cellU_in : ∀ u : List Nat, (∀ i ∈ u, i < 4) → u.length ≤ 8 → (cellU u).2.1 < pwI u.length ∧ (cellU u).2.2 < pwI u.length := by
  intro u
  induction u using rev_ind with
  | h0 => intro _ _; exact ⟨by decide, by decide⟩
  | h1 u i ih =>
    intro h hl
    have h4 : i < 4 := h i (by simp)
    rw [List.length_append, List.length_singleton] at hl
    have ih := ih (fun j hj => h j (by simp [hj])) (by omega)
    rw [cellU_snoc, List.length_append, List.length_singleton]
    have h2 : pwI (u.length + 1) = 2 * pwI u.length := by
      rcases (show u.length = 0 ∨ u.length = 1 ∨ u.length = 2 ∨ u.length = 3 ∨ u.length = 4 ∨ u.length = 5 ∨ u.length = 6 ∨ u.length = 7 by omega) with h | h | h | h | h | h | h | h <;> rw [h] <;> decide
    rw [h2]
    unfold quarC
    dsimp only
    omega
/-- The cells on the way to a cell are it, those above it, and the whole square. -/
theorem pre_chain (p : Cl → Prop) : ∀ (d : Nat) (x y : Int), d ≤ 8 → 0 ≤ x → x < pwI d → 0 ≤ y → y < pwI d → ((∀ q, q <+: wayC d x y → p (cellU q)) ↔ p (0, 0, 0) ∧ ∀ c ∈ chain d x y, p c)
  | 0, x, y, _, h1, h2, h3, h4 => by
    constructor
    · intro h
      exact ⟨h [] (List.nil_prefix), fun c hc => by simp [chain] at hc⟩
    · rintro ⟨h, _⟩ q hq
      rw [show q = [] from List.prefix_nil.1 hq]
      exact h
  | d + 1, x, y, hd, h1, h2, h3, h4 => by
    obtain ⟨a1, a2⟩ := pw_half (by omega) h1 h2
    obtain ⟨b1, b2⟩ := pw_half (by omega) h3 h4
    have ih := pre_chain p d (x / 2) (y / 2) (by omega) a1 a2 b1 b2
    have hc := cellU_wayC (d + 1) x y hd h1 h2 h3 h4
    have e : ∀ q, q <+: wayC (d + 1) x y ↔ q = wayC (d + 1) x y ∨ q <+: wayC d (x / 2) (y / 2) := by
      intro q
      rw [show wayC (d + 1) x y = wayC d (x / 2) (y / 2) ++ [(x % 2 + 2 * (y % 2)).toNat] from rfl]
      exact List.prefix_concat_iff
    constructor
    · intro h
      have := ih.1 fun q hq => h q ((e q).2 (.inr hq))
      refine ⟨this.1, fun c hcm => ?_⟩
      unfold chain at hcm
      rcases List.mem_cons.1 hcm with rfl | hcm
      · rw [← hc]
        exact h _ (List.prefix_refl _)
      · exact this.2 c hcm
    · rintro ⟨h0, hch⟩ q hq
      unfold chain at hch
      rcases (e q).1 hq with rfl | hq
      · rw [hc]
        exact hch _ List.mem_cons_self
      · exact ih.2 ⟨h0, fun c hcm => hch c (List.mem_cons_of_mem _ hcm)⟩ q hq
theorem cell_fine {b : Bx4} (hR : okR b = true) (hW : okW b = true) : ∃ (d : Nat) (x y : Int), d ≤ 8 ∧ cellE b = ((d : Int), x, y) ∧ 0 ≤ x ∧ x < pwI d ∧ 0 ≤ y ∧ y < pwI d := by
  have hc := cell_right hR hW
  have e1 : cellE b = cellB b := by unfold cellE; rw [if_pos (errB_zero.2 ⟨hR, hW⟩)]
  have hd : (cellB b).1 = ((depthB b : Nat) : Int) := rfl
  have hk := depth_le b
  rw [e1]
  generalize cellB b = q at *
  obtain ⟨c1, c2, c3⟩ := q
  dsimp only at hd ⊢
  subst hd
  unfold rightC at hc
  simp only [Bool.and_eq_true, decide_eq_true_eq, Int.toNat_natCast] at hc
  exact ⟨depthB b, c2, c3, hk, rfl, by omega, by omega, by omega, by omega⟩
/-- A box's way. -/
def wayB (b : Bx4) : List Nat := wayC (cellE b).1.toNat (cellE b).2.1 (cellE b).2.2
theorem wayB_lt (b : Bx4) : ∀ i ∈ wayB b, i < 4 := wayC_lt _ _ _
theorem wayB_len {b : Bx4} (hR : okR b = true) (hW : okW b = true) : (wayB b).length ≤ 8 := by
  obtain ⟨d, x, y, h1, h2, _⟩ := cell_fine hR hW
  unfold wayB
  rw [wayC_len, h2]
  dsimp only
  omega
theorem wayB_pre {b : Bx4} (hR : okR b = true) (hW : okW b = true) (p : Cl → Prop) : (∀ q, q <+: wayB b → p (cellU q)) ↔ p (0, 0, 0) ∧ ∀ c ∈ chainB b, p c := by
  obtain ⟨d, x, y, h1, h2, h3, h4, h5, h6⟩ := cell_fine hR hW
  unfold wayB chainB
  rw [h2]
  exact pre_chain p d x y h1 h3 h4 h5 h6
theorem wayB_seen {b : Bx4} (hR : okR b = true) (hW : okW b = true) (p : Cl → Bool) : (∀ q, q <+: wayB b → p (cellU q) = true) ↔ seenB p b = true := by
  rw [wayB_pre hR hW fun c => p c = true]
  unfold seenB
  rw [Bool.and_eq_true, List.all_eq_true]

theorem boxF_wo {B : List Bxd} (ho : OnceB B) (h z : Hd) : (if z = h then none else boxF B z) = boxF (woB B h) z := by
  by_cases e : z = h
  · rw [if_pos e]
    exact (boxF_none.2 fun b hb => by rw [e]; exact (mem_woB.1 hb).2).symm
  · rw [if_neg e]
    cases c : boxF B z with
    | none => exact (boxF_none.2 fun b hb => boxF_none.1 c b (mem_woB.1 hb).1).symm
    | some x => exact (boxF_mem (once_wo ho h) (mem_woB.2 ⟨boxF_some c, e⟩)).symm
theorem boxF_put {B : List Bxd} (ho : OnceB B) {h : Hd} (hn : boxF B h = none) (x : Bx4) (z : Hd) : (if z = h then some x else boxF B z) = boxF (B ++ [(h, x)]) z := by
  have ho2 : OnceB (B ++ [(h, x)]) := by
    have := once_put ho h x
    rwa [woB_none hn] at this
  by_cases e : z = h
  · rw [if_pos e, e]
    exact (boxF_mem ho2 (by simp)).symm
  · rw [if_neg e]
    cases c : boxF B z with
    | none =>
      refine (boxF_none.2 fun b hb => ?_).symm
      rcases List.mem_append.1 hb with hb | hb
      · exact boxF_none.1 c b hb
      · rw [List.mem_singleton.1 hb]
        exact fun k => e k.symm
    | some y => exact (boxF_mem ho2 (List.mem_append_left _ (boxF_some c))).symm

/-! ### Rows by their ways. -/
abbrev Rw := List Nat → List Bxd
def noR (R : Rw) : Prop := ∀ u, R u = []
def subR (R : Rw) (i : Nat) : Rw := fun u => R (i :: u)
def setR (R : Rw) (p : List Nat) (l : List Bxd) : Rw := fun u => if u = p then l else R u
theorem sub_set (R : Rw) (i : Nat) (p : List Nat) (l : List Bxd) : subR (setR R (i :: p) l) i = setR (subR R i) p l := by
  funext u
  simp [subR, setR]
theorem sub_set_ne (R : Rw) {i j : Nat} (h : j ≠ i) (p : List Nat) (l : List Bxd) : subR (setR R (i :: p) l) j = subR R j := by
  funext u
  simp [subR, setR, h]
theorem sub_set_nil (R : Rw) (j : Nat) (l : List Bxd) : subR (setR R [] l) j = subR R j := by
  funext u
  simp [subR, setR]
theorem set_nil_here (R : Rw) (l : List Bxd) : setR R [] l [] = l := by simp [setR]
theorem set_cons_here (R : Rw) (i : Nat) (p : List Nat) (l : List Bxd) : setR R (i :: p) l [] = R [] := by simp [setR]
def ltB (x y : Bxd) : Bool := ltH x.1 y.1
/-- The rows hold just the boxes, each in its own cell's, by handle. -/
structure RowsOf (R : Rw) (B : List Bxd) : Prop where
  rise : ∀ u, Rise ltB (R u)
  mem : ∀ u y, y ∈ R u ↔ y ∈ B ∧ wayB y.2 = u
theorem rows_none : RowsOf (fun _ => []) [] := ⟨fun _ => List.Pairwise.nil, fun u y => by simp⟩
/-- Where a handle stands in a row. -/
def placeL (l : List Bxd) (h : Hd) : Nat := (l.takeWhile fun y => ltH y.1 h).length
theorem placeL_le (l : List Bxd) (h : Hd) : placeL l h ≤ l.length := (List.takeWhile_sublist _).length_le
theorem placeL_step : ∀ (l : List Bxd) (h : Hd), Rise ltB l → ∀ i (hi : i < l.length), (ltH l[i].1 h = true ↔ i < placeL l h)
  | [], h, _, i, hi => absurd hi (Nat.not_lt_zero _)
  | y :: r, h, hr, i, hi => by
    have hr' := List.pairwise_cons.1 hr
    unfold placeL
    rw [List.takeWhile_cons]
    cases hy : ltH y.1 h with
    | true =>
      simp only [if_true, List.length_cons]
      cases i with
      | zero => simpa using hy
      | succ i =>
        have := placeL_step r h hr'.2 i (by simpa using hi)
        simp only [List.getElem_cons_succ]
        rw [this]
        unfold placeL
        omega
    | false =>
      simp only [Bool.false_eq_true, if_false, List.length_nil, Nat.not_lt_zero, iff_false, Bool.not_eq_true]
      cases i with
      | zero => simpa using hy
      | succ i =>
        have hi' : i < r.length := by simpa using hi
        simp only [List.getElem_cons_succ]
        have h1 : ltH y.1 r[i].1 = true := hr'.1 _ (List.getElem_mem _)
        cases h2 : ltH r[i].1 h with
        | false => rfl
        | true => rw [sto_hd.trans _ _ _ h1 h2] at hy; cases hy
theorem placeL_split : ∀ (l : List Bxd) (h : Hd), Rise ltB l → (∀ y ∈ l.take (placeL l h), ltH y.1 h = true) ∧ ∀ y ∈ l.drop (placeL l h), ltH y.1 h = false := by
  intro l h hr
  constructor
  · intro y hy
    obtain ⟨i, hi, rfl⟩ := List.getElem_of_mem hy
    rw [List.getElem_take]
    have : i < placeL l h := by rw [List.length_take] at hi; omega
    exact (placeL_step l h hr i (by have := placeL_le l h; omega)).2 this
  · intro y hy
    obtain ⟨i, hi, rfl⟩ := List.getElem_of_mem hy
    rw [List.getElem_drop]
    rw [List.length_drop] at hi
    cases e : ltH (l[placeL l h + i]'(by omega)).1 h with
    | false => rfl
    | true =>
      have := (placeL_step l h hr (placeL l h + i) (by omega)).1 e
      omega
/-- A box more in a row. -/
def insL (l : List Bxd) (y : Bxd) : List Bxd := l.take (placeL l y.1) ++ [y] ++ l.drop (placeL l y.1)
/-- One less. -/
def delL (l : List Bxd) (h : Hd) : List Bxd := l.take (placeL l h) ++ l.drop (placeL l h + 1)
theorem mem_insL {l : List Bxd} {y z : Bxd} : z ∈ insL l y ↔ z = y ∨ z ∈ l := by
  unfold insL
  conv => rhs; rw [← List.take_append_drop (placeL l y.1) l]
  simp only [List.mem_append, List.mem_singleton]
  constructor
  · rintro ((h | h) | h)
    · exact .inr (.inl h)
    · exact .inl h
    · exact .inr (.inr h)
  · rintro (h | h | h)
    · exact .inl (.inr h)
    · exact .inl (.inl h)
    · exact .inr h
theorem insL_len (l : List Bxd) (y : Bxd) : (insL l y).length = l.length + 1 := by
  have := placeL_le l y.1
  simp [insL]
  omega
theorem rise_insL {l : List Bxd} {y : Bxd} (hr : Rise ltB l) (hn : ∀ z ∈ l, z.1 ≠ y.1) : Rise ltB (insL l y) := by
  obtain ⟨h1, h2⟩ := placeL_split l y.1 hr
  have hall := hr
  unfold Rise at hall
  rw [← List.take_append_drop (placeL l y.1) l, List.pairwise_append] at hall
  unfold insL Rise
  rw [List.append_assoc, List.pairwise_append]
  refine ⟨hall.1, ?_, ?_⟩
  · rw [List.singleton_append, List.pairwise_cons]
    refine ⟨fun z hz => ?_, hall.2.1⟩
    have e := h2 z hz
    have hne := hn z (List.mem_of_mem_drop hz)
    cases c : ltH y.1 z.1 with
    | true => exact c
    | false => exact absurd (sto_hd.total _ _ e c) hne
  · intro a ha b hb
    rcases List.mem_append.1 hb with hb | hb
    · rw [List.mem_singleton.1 hb]
      exact h1 a ha
    · exact hall.2.2 a ha b hb
theorem drop_placeL {l : List Bxd} {h : Hd} {b : Bx4} (hr : Rise ltB l) (hm : (h, b) ∈ l) : ∃ hp : placeL l h < l.length, (l[placeL l h]'hp).1 = h := by
  obtain ⟨i, hi, e⟩ := List.getElem_of_mem hm
  have h0 : ¬ i < placeL l h := fun c => by
    have := (placeL_step l h hr i hi).2 c
    have h9 : ltH h h = true := by simpa [e] using this
    rw [sto_hd.irrefl] at h9
    cases h9
  have hp : placeL l h < l.length := by omega
  refine ⟨hp, ?_⟩
  have h1 : ltH (l[placeL l h]'hp).1 h = false := by
    cases c : ltH (l[placeL l h]'hp).1 h with
    | false => rfl
    | true => exact absurd ((placeL_step l h hr _ hp).1 c) (Nat.lt_irrefl _)
  rcases Nat.lt_or_ge (placeL l h) i with c | c
  · have := rise_lt hr c hi
    rw [e] at this
    unfold ltB at this
    rw [this] at h1
    cases h1
  · have : placeL l h = i := by omega
    simp only [this, e]
theorem mem_delL {l : List Bxd} {h : Hd} {b : Bx4} (hr : Rise ltB l) (hm : (h, b) ∈ l) {z : Bxd} : z ∈ delL l h ↔ z ∈ l ∧ z.1 ≠ h := by
  obtain ⟨hp, e⟩ := drop_placeL hr hm
  have hs : l = l.take (placeL l h) ++ l[placeL l h] :: l.drop (placeL l h + 1) := by
    rw [← List.drop_eq_getElem_cons hp, List.take_append_drop]
  have hall : Rise ltB (l.take (placeL l h) ++ l[placeL l h] :: l.drop (placeL l h + 1)) := hs ▸ hr
  unfold Rise at hall
  rw [List.pairwise_append, List.pairwise_cons] at hall
  have ne : ∀ {x y : Bxd}, ltB x y = true → x.1 ≠ y.1 := fun {x y} c e => by unfold ltB at c; rw [e, sto_hd.irrefl] at c; cases c
  unfold delL
  rw [List.mem_append]
  constructor
  · rintro (c | c)
    · refine ⟨List.mem_of_mem_take c, fun k => ?_⟩
      exact ne (hall.2.2 z c _ List.mem_cons_self) (k.trans e.symm)
    · refine ⟨List.mem_of_mem_drop c, fun k => ?_⟩
      exact ne (hall.2.1.1 z c) (e.trans k.symm)
  · rintro ⟨c, k⟩
    rw [hs] at c
    rcases List.mem_append.1 c with c | c
    · exact .inl c
    · rcases List.mem_cons.1 c with rfl | c
      · exact absurd e k
      · exact .inr c
theorem rise_delL {l : List Bxd} {h : Hd} (hr : Rise ltB l) : Rise ltB (delL l h) := by
  unfold delL
  refine List.Pairwise.sublist ?_ hr
  conv => rhs; rw [← List.take_append_drop (placeL l h) l]
  refine List.Sublist.append (List.Sublist.refl _) ?_
  rw [← List.drop_drop]
  exact List.drop_sublist _ _
/-- A new handle's box is put. -/
theorem RowsOf.put {R : Rw} {B : List Bxd} (h : RowsOf R B) (y : Bxd) (hn : ∀ z ∈ B, z.1 ≠ y.1) : RowsOf (setR R (wayB y.2) (insL (R (wayB y.2)) y)) (B ++ [y]) where
  rise u := by
    unfold setR
    split
    · exact rise_insL (h.rise _) fun z hz => hn z ((h.mem _ z).1 hz).1
    · exact h.rise u
  mem u z := by
    unfold setR
    rw [List.mem_append, List.mem_singleton]
    split
    · rename_i e
      rw [mem_insL, h.mem, ← e]
      constructor
      · rintro (rfl | c)
        · exact ⟨.inr rfl, e.symm⟩
        · exact ⟨.inl c.1, c.2⟩
      · rintro ⟨c | c, k⟩
        · exact .inr ⟨c, k⟩
        · exact .inl c
    · rename_i e
      rw [h.mem]
      constructor
      · rintro ⟨c, k⟩
        exact ⟨.inl c, k⟩
      · rintro ⟨c | c, k⟩
        · exact ⟨c, k⟩
        · subst c
          exact absurd k.symm e
/-- A handle's box is dropped. -/
theorem RowsOf.drop {R : Rw} {B : List Bxd} (h : RowsOf R B) (ho : OnceB B) {x : Hd} {b : Bx4} (hm : (x, b) ∈ B) : RowsOf (setR R (wayB b) (delL (R (wayB b)) x)) (woB B x) where
  rise u := by
    unfold setR
    split
    · exact rise_delL (h.rise _)
    · exact h.rise u
  mem u z := by
    unfold setR
    rw [mem_woB]
    split
    · rename_i e
      rw [mem_delL (h.rise _) ((h.mem _ _).2 ⟨hm, rfl⟩), h.mem, e]
      exact ⟨fun c => ⟨⟨c.1.1, c.2⟩, c.1.2⟩, fun c => ⟨⟨c.1.1, c.2⟩, c.1.2⟩⟩
    · rename_i e
      rw [h.mem]
      constructor
      · rintro ⟨c, k⟩
        refine ⟨⟨c, fun g => ?_⟩, k⟩
        have := ho.eq c hm g
        subst this
        exact e k.symm
      · rintro ⟨⟨c, _⟩, k⟩
        exact ⟨c, k⟩
end Go.Proofs.YtahichjiphjapaaGreatDoor

/-
  Of no program: what a walk over a tree asks and tells.
-/
namespace Go.Proofs.YtahichjiphjapaaGreatDoor
set_option linter.unusedSimpArgs false
set_option linter.unusedVariables false

inductive Ev where
  | ask (c : Cl)
  | tell (b : Bxd)
/-- The rows under a way. -/
def atR (R : Rw) (u : List Nat) : Rw := fun t => R (u ++ t)
theorem sub_at (R : Rw) (u : List Nat) (i : Nat) : subR (atR R u) i = atR R (u ++ [i]) := by
  funext t
  simp [subR, atR]
open Classical in
noncomputable def evs (p : Cl → Bool) (R : Rw) : Nat → List Nat → List Ev
  | 0, _ => []
  | n + 1, u => .ask (cellU u) :: (if p (cellU u) = true then (R u).map .tell ++ (List.range 4).flatMap fun i => if noR (atR R (u ++ [i])) then [] else evs p R n (u ++ [i]) else [])
open Classical in
/-- The first i quarters' share. -/
noncomputable def evsQ (p : Cl → Bool) (R : Rw) (n : Nat) (u : List Nat) (i : Nat) : List Ev := (List.range i).flatMap fun i => if noR (atR R (u ++ [i])) then [] else evs p R n (u ++ [i])
theorem evsQ_zero (p : Cl → Bool) (R : Rw) (n : Nat) (u : List Nat) : evsQ p R n u 0 = [] := rfl
theorem evsQ_no {p : Cl → Bool} {R : Rw} {n : Nat} {u : List Nat} {i : Nat} (h : noR (atR R (u ++ [i]))) : evsQ p R n u (i + 1) = evsQ p R n u i := by
  unfold evsQ
  rw [List.range_succ, List.flatMap_append]
  simp [h]
theorem evsQ_yes {p : Cl → Bool} {R : Rw} {n : Nat} {u : List Nat} {i : Nat} (h : ¬ noR (atR R (u ++ [i]))) : evsQ p R n u (i + 1) = evsQ p R n u i ++ evs p R n (u ++ [i]) := by
  unfold evsQ
  rw [List.range_succ, List.flatMap_append]
  simp [h]
theorem evsQ_pre (p : Cl → Bool) (R : Rw) (n : Nat) (u : List Nat) {k : Nat} (hk : k ≤ 4) : ∃ rest, evsQ p R n u 4 = evsQ p R n u k ++ rest := by
  have e : List.range 4 = List.range k ++ (List.range 4).drop k := by
    conv => lhs; rw [← List.take_append_drop k (List.range 4)]
    rw [List.take_range, Nat.min_eq_left hk]
  unfold evsQ
  rw [e, List.flatMap_append]
  exact ⟨_, rfl⟩
theorem evs_no {p : Cl → Bool} {R : Rw} {n : Nat} {u : List Nat} (h : p (cellU u) = false) : evs p R (n + 1) u = [.ask (cellU u)] := by
  simp [evs, h]
theorem evs_yes {p : Cl → Bool} {R : Rw} {n : Nat} {u : List Nat} (h : p (cellU u) = true) : evs p R (n + 1) u = .ask (cellU u) :: ((R u).map .tell ++ evsQ p R n u 4) := by
  simp [evs, evsQ, h]
/-- Which boxes are told. -/
theorem tell_evs {p : Cl → Bool} {R : Rw} {b : Bxd} : ∀ (n : Nat) (u : List Nat), Ev.tell b ∈ evs p R n u ↔ ∃ t, b ∈ R (u ++ t) ∧ (∀ q, q <+: t → p (cellU (u ++ q)) = true) ∧ t.length < n ∧ ∀ i ∈ t, i < 4
  | 0, u => by
    constructor
    · intro h; simp [evs] at h
    · rintro ⟨t, _, _, h, _⟩; exact absurd h (Nat.not_lt_zero _)
  | n + 1, u => by
    cases hp : p (cellU u) with
    | false =>
      rw [evs_no hp]
      constructor
      · intro h; simp at h
      · rintro ⟨t, _, h, _⟩
        have := h [] List.nil_prefix
        rw [List.append_nil, hp] at this
        cases this
    | true =>
      rw [evs_yes hp]
      unfold evsQ
      simp only [List.mem_cons, reduceCtorEq, false_or, List.mem_append, List.mem_map, Ev.tell.injEq, exists_eq_right, List.mem_flatMap, List.mem_range]
      constructor
      · rintro (h | ⟨i, hi, h⟩)
        · refine ⟨[], by simpa using h, fun q hq => ?_, Nat.succ_pos _, fun i hi => by cases hi⟩
          rw [List.prefix_nil.1 hq, List.append_nil]
          exact hp
        · by_cases hn : noR (atR R (u ++ [i]))
          · rw [if_pos hn] at h; cases h
          · rw [if_neg hn] at h
            obtain ⟨t, h1, h2, h3, h4⟩ := (tell_evs n (u ++ [i])).1 h
            refine ⟨i :: t, by simpa using h1, fun q hq => ?_, by simpa using h3, fun j hj => ?_⟩
            · cases q with
              | nil => rw [List.append_nil]; exact hp
              | cons j q =>
                obtain ⟨rfl, hq'⟩ := List.cons_prefix_cons.1 hq
                simpa using h2 q hq'
            · rcases List.mem_cons.1 hj with rfl | hj
              · exact hi
              · exact h4 j hj
      · rintro ⟨t, h1, h2, h3, h4⟩
        cases t with
        | nil => left; simpa using h1
        | cons i t =>
          right
          refine ⟨i, h4 i List.mem_cons_self, ?_⟩
          rw [if_neg fun hn => ?_]
          · refine (tell_evs n (u ++ [i])).2 ⟨t, by simpa using h1, fun q hq => ?_, by simpa using h3, fun j hj => h4 j (List.mem_cons_of_mem _ hj)⟩
            simpa using h2 (i :: q) (List.cons_prefix_cons.2 ⟨rfl, hq⟩)
          · have := hn t
            unfold atR at this
            rw [List.append_assoc, List.singleton_append] at this
            rw [this] at h1
            cases h1
/-- Which cells are asked of. -/
theorem ask_evs {p : Cl → Bool} {R : Rw} {c : Cl} : ∀ (n : Nat) (u : List Nat), (Ev.ask c ∈ evs p R n u ↔ ∃ t, c = cellU (u ++ t) ∧ (t = [] ∨ ∃ s, R (u ++ t ++ s) ≠ []) ∧ (∀ q, q <+: t → q ≠ t → p (cellU (u ++ q)) = true) ∧ t.length < n ∧ ∀ i ∈ t, i < 4)
  | 0, u => by
    constructor
    · intro h; simp [evs] at h
    · rintro ⟨t, _, _, _, h, _⟩; exact absurd h (Nat.not_lt_zero _)
  | n + 1, u => by
    have first : ∃ t, cellU u = cellU (u ++ t) ∧ (t = [] ∨ ∃ s, R (u ++ t ++ s) ≠ []) ∧ (∀ q, q <+: t → q ≠ t → p (cellU (u ++ q)) = true) ∧ t.length < n + 1 ∧ ∀ i ∈ t, i < 4 :=
      ⟨[], by simp, .inl rfl, fun q hq hne => absurd (List.prefix_nil.1 hq) hne, Nat.succ_pos _, fun i hi => by cases hi⟩
    cases hp : p (cellU u) with
    | false =>
      rw [evs_no hp]
      simp only [List.mem_singleton, Ev.ask.injEq]
      constructor
      · rintro rfl
        exact first
      · rintro ⟨t, rfl, h0, h, _⟩
        cases t with
        | nil => simp
        | cons i t =>
          have := h [] List.nil_prefix (by simp)
          rw [List.append_nil, hp] at this
          cases this
    | true =>
      rw [evs_yes hp]
      unfold evsQ
      simp only [List.mem_cons, List.mem_append, List.mem_map, reduceCtorEq, and_false, exists_false, false_or, Ev.ask.injEq, List.mem_flatMap, List.mem_range]
      constructor
      · rintro (rfl | ⟨i, hi, h⟩)
        · exact first
        · by_cases hn : noR (atR R (u ++ [i]))
          · rw [if_pos hn] at h; cases h
          · rw [if_neg hn] at h
            obtain ⟨t, h1, h0, h2, h3, h4⟩ := (ask_evs n (u ++ [i])).1 h
            refine ⟨i :: t, by simpa using h1, .inr ?_, fun q hq hne => ?_, by simpa using h3, fun j hj => ?_⟩
            · rcases h0 with rfl | ⟨s, hs⟩
              · have : ∃ s, atR R (u ++ [i]) s ≠ [] := by
                  apply Classical.byContradiction
                  intro hc
                  exact hn fun s => Classical.byContradiction fun hk => hc ⟨s, hk⟩
                obtain ⟨s, hs⟩ := this
                exact ⟨s, hs⟩
              · exact ⟨s, by simpa using hs⟩
            · cases q with
              | nil => rw [List.append_nil]; exact hp
              | cons j q =>
                obtain ⟨rfl, hq'⟩ := List.cons_prefix_cons.1 hq
                simpa using h2 q hq' fun e => hne (by rw [e])
            · rcases List.mem_cons.1 hj with rfl | hj
              · exact hi
              · exact h4 j hj
      · rintro ⟨t, h1, h0, h2, h3, h4⟩
        cases t with
        | nil => left; simpa using h1
        | cons i t =>
          right
          have hs : ∃ s, R (u ++ [i] ++ t ++ s) ≠ [] := by
            rcases h0 with h0 | ⟨s, hs⟩
            · cases h0
            · exact ⟨s, by simpa using hs⟩
          refine ⟨i, h4 i List.mem_cons_self, ?_⟩
          rw [if_neg fun hn => ?_]
          · refine (ask_evs n (u ++ [i])).2 ⟨t, by simpa using h1, ?_, fun q hq hne => ?_, by simpa using h3, fun j hj => h4 j (List.mem_cons_of_mem _ hj)⟩
            · exact .inr hs
            · simpa using h2 (i :: q) (List.cons_prefix_cons.2 ⟨rfl, hq⟩) fun e => hne (by cases e; rfl)
          · obtain ⟨s, hs⟩ := hs
            have := hn (t ++ s)
            unfold atR at this
            rw [← List.append_assoc] at this
            exact hs this
open Classical in
/-- Nothing is asked or told twice. -/
theorem nodup_evs {p : Cl → Bool} {R : Rw} (hR : ∀ u, (R u).Nodup) (hd : ∀ u v b, b ∈ R u → b ∈ R v → u = v) : ∀ (n : Nat) (u : List Nat), (∀ i ∈ u, i < 4) → (evs p R n u).Nodup
  | 0, u, _ => by simp [evs]
  | n + 1, u, hu => by
    cases hp : p (cellU u) with
    | false => rw [evs_no hp]; simp
    | true =>
      have kid : ∀ i, i < 4 → ∀ j ∈ u ++ [i], j < 4 := fun i hi j hj => by
        rcases List.mem_append.1 hj with h | h
        · exact hu j h
        · rw [List.mem_singleton.1 h]; exact hi
      have inkid : ∀ {i : Nat} {e : Ev}, e ∈ (if noR (atR R (u ++ [i])) then [] else evs p R n (u ++ [i])) → e ∈ evs p R n (u ++ [i]) := fun {i e} h => by
        by_cases hn : noR (atR R (u ++ [i]))
        · rw [if_pos hn] at h; cases h
        · rwa [if_neg hn] at h
      rw [evs_yes hp, List.nodup_cons, List.nodup_append]
      refine ⟨?_, ?_, ?_, ?_⟩
      · intro h
        rcases List.mem_append.1 h with h | h
        · simp at h
        · unfold evsQ at h
          obtain ⟨i, hi, h⟩ := List.mem_flatMap.1 h
          obtain ⟨t, h1, _⟩ := (ask_evs n (u ++ [i])).1 (inkid h)
          have e1 := cellU_depth u
          have e2 := cellU_depth (u ++ [i] ++ t)
          rw [← h1, e1] at e2
          simp only [List.length_append, List.length_singleton] at e2
          omega
      · unfold List.Nodup
        rw [List.pairwise_map]
        exact (hR u).imp fun h e => h (by cases e; rfl)
      · unfold evsQ List.Nodup
        rw [List.pairwise_flatMap]
        refine ⟨fun i hi => ?_, ?_⟩
        · split
          · exact List.Pairwise.nil
          · exact nodup_evs hR hd n (u ++ [i]) (kid i (List.mem_range.1 hi))
        · refine (List.nodup_range (n := 4)).imp_of_mem fun {i j} hi hj hij x hx y hy e => ?_
          have hi := List.mem_range.1 hi
          have hj := List.mem_range.1 hj
          have hx := inkid hx
          have hy := inkid hy
          subst e
          cases x with
          | ask c =>
            obtain ⟨t, h1, _, _, _, h2⟩ := (ask_evs n (u ++ [i])).1 hx
            obtain ⟨s, k1, _, _, _, k2⟩ := (ask_evs n (u ++ [j])).1 hy
            have := cellU_inj (u := u ++ [i] ++ t) (v := u ++ [j] ++ s) (fun z hz => (List.mem_append.1 hz).elim (kid i hi z) (h2 z)) (fun z hz => (List.mem_append.1 hz).elim (kid j hj z) (k2 z)) (h1.symm.trans k1)
            simp only [List.append_assoc, List.append_cancel_left_eq, List.singleton_append, List.cons.injEq] at this
            exact hij this.1
          | tell b =>
            obtain ⟨t, h1, _⟩ := (tell_evs n (u ++ [i])).1 hx
            obtain ⟨s, k1, _⟩ := (tell_evs n (u ++ [j])).1 hy
            have := hd _ _ b h1 k1
            simp only [List.append_assoc, List.append_cancel_left_eq, List.singleton_append, List.cons.injEq] at this
            exact hij this.1
      · intro x hx y hy e
        subst e
        obtain ⟨b, hb, rfl⟩ := List.mem_map.1 hx
        unfold evsQ at hy
        obtain ⟨i, hi, h⟩ := List.mem_flatMap.1 hy
        obtain ⟨t, h1, _⟩ := (tell_evs n (u ++ [i])).1 (inkid h)
        have := congrArg List.length (hd _ _ b hb h1)
        simp only [List.length_append, List.length_singleton] at this
        omega
def tellL (s : List Ev) : List Bxd := s.filterMap fun e => match e with | .tell b => some b | .ask _ => none
def askL (s : List Ev) : List Cl := s.filterMap fun e => match e with | .ask c => some c | .tell _ => none
theorem tellL_ask (s : List Ev) (c : Cl) : tellL (s ++ [.ask c]) = tellL s := by simp [tellL]
theorem tellL_tell (s : List Ev) (b : Bxd) : tellL (s ++ [.tell b]) = tellL s ++ [b] := by simp [tellL]
theorem askL_ask (s : List Ev) (c : Cl) : askL (s ++ [.ask c]) = askL s ++ [c] := by simp [askL]
theorem askL_tell (s : List Ev) (b : Bxd) : askL (s ++ [.tell b]) = askL s := by simp [askL]
theorem mem_tellL {s : List Ev} {b : Bxd} : b ∈ tellL s ↔ Ev.tell b ∈ s := by
  unfold tellL
  rw [List.mem_filterMap]
  constructor
  · rintro ⟨e, h1, h2⟩
    cases e with
    | ask c => cases h2
    | tell x => cases h2; exact h1
  · intro h; exact ⟨_, h, rfl⟩
theorem mem_askL {s : List Ev} {c : Cl} : c ∈ askL s ↔ Ev.ask c ∈ s := by
  unfold askL
  rw [List.mem_filterMap]
  constructor
  · rintro ⟨e, h1, h2⟩
    cases e with
    | tell c => cases h2
    | ask x => cases h2; exact h1
  · intro h; exact ⟨_, h, rfl⟩
theorem nodup_tellL {s : List Ev} (h : s.Nodup) : (tellL s).Nodup := by
  unfold tellL List.Nodup
  rw [List.pairwise_filterMap]
  refine h.imp fun {x y} hxy a ha b hb e => ?_
  cases x <;> cases y <;> simp at ha hb
  subst ha hb e
  exact hxy rfl
theorem nodup_askL {s : List Ev} (h : s.Nodup) : (askL s).Nodup := by
  unfold askL List.Nodup
  rw [List.pairwise_filterMap]
  refine h.imp fun {x y} hxy a ha b hb e => ?_
  cases x <;> cases y <;> simp at ha hb
  subst ha hb e
  exact hxy rfl
/-- All boxes are right. -/
def OkB (B : List Bxd) : Prop := ∀ y ∈ B, okR y.2 = true ∧ okW y.2 = true
section
variable {R : Rw} {B : List Bxd}
theorem ltB_ne {x y : Bxd} (c : ltB x y = true) : x ≠ y := fun e => by
  unfold ltB at c
  rw [e, sto_hd.irrefl] at c
  cases c
theorem RowsOf.nodup (h : RowsOf R B) (u : List Nat) : (R u).Nodup := (h.rise u).imp fun c => ltB_ne c
theorem RowsOf.apart (h : RowsOf R B) (u v : List Nat) (b : Bxd) (h1 : b ∈ R u) (h2 : b ∈ R v) : u = v := ((h.mem u b).1 h1).2.symm.trans ((h.mem v b).1 h2).2
theorem RowsOf.evs_nodup (h : RowsOf R B) (p : Cl → Bool) : (evs p R 9 []).Nodup := nodup_evs h.nodup h.apart 9 [] fun i hi => by cases hi
theorem RowsOf.tells (h : RowsOf R B) (hok : OkB B) (p : Cl → Bool) (b : Bxd) : Ev.tell b ∈ evs p R 9 [] ↔ b ∈ B ∧ seenB p b.2 = true := by
  rw [tell_evs]
  constructor
  · rintro ⟨t, h1, h2, _⟩
    rw [List.nil_append] at h1
    obtain ⟨h3, h4⟩ := (h.mem t b).1 h1
    subst h4
    refine ⟨h3, (wayB_seen (hok b h3).1 (hok b h3).2 p).1 fun q hq => ?_⟩
    simpa using h2 q hq
  · rintro ⟨h1, h2⟩
    refine ⟨wayB b.2, ?_, fun q hq => ?_, ?_, wayB_lt b.2⟩
    · rw [List.nil_append]
      exact (h.mem _ b).2 ⟨h1, rfl⟩
    · rw [List.nil_append]
      exact (wayB_seen (hok b h1).1 (hok b h1).2 p).2 h2 q hq
    · have := wayB_len (hok b h1).1 (hok b h1).2
      omega
theorem RowsOf.asks (h : RowsOf R B) (hok : OkB B) (c : Cl) : Ev.ask c ∈ evs (fun _ => true) R 9 [] ↔ c = (0, 0, 0) ∨ ∃ b ∈ B, c ∈ chainB b.2 := by
  rw [ask_evs]
  constructor
  · rintro ⟨t, h1, h0, _⟩
    rw [List.nil_append] at h1
    rcases h0 with rfl | ⟨s, hs⟩
    · exact .inl h1
    · cases e : R ([] ++ t ++ s) with
      | nil => exact absurd e hs
      | cons b r =>
        rw [List.nil_append] at e
        obtain ⟨h3, h4⟩ := (h.mem (t ++ s) b).1 (by rw [e]; exact List.mem_cons_self)
        have := (wayB_pre (hok b h3).1 (hok b h3).2 fun c => c = (0, 0, 0) ∨ ∃ b ∈ B, c ∈ chainB b.2).2 ⟨.inl rfl, fun c hc => .inr ⟨b, h3, hc⟩⟩ t (by rw [h4]; exact List.prefix_append _ _)
        rw [h1]
        exact this
  · rintro (rfl | ⟨b, hb, hc⟩)
    · exact ⟨[], rfl, .inl rfl, fun _ _ _ => rfl, by decide, fun i hi => by cases hi⟩
    · obtain ⟨q, hq, rfl⟩ := ((wayB_pre (hok b hb).1 (hok b hb).2 fun c => ∃ q, q <+: wayB b.2 ∧ c = cellU q).1 fun q hq => ⟨q, hq, rfl⟩).2 c hc
      obtain ⟨s, hs⟩ := hq
      refine ⟨q, rfl, .inr ⟨s, ?_⟩, fun _ _ _ => rfl, ?_, fun i hi => ?_⟩
      · rw [List.nil_append, hs]
        exact List.ne_nil_of_mem ((h.mem _ b).2 ⟨hb, rfl⟩)
      · have := wayB_len (hok b hb).1 (hok b hb).2
        rw [← hs, List.length_append] at this
        omega
      · exact wayB_lt b.2 i (by rw [← hs]; exact List.mem_append_left _ hi)
/-- The nodes, in order. -/
theorem RowsOf.nodes (h : RowsOf R B) (hok : OkB B) : srt ltC (askL (evs (fun _ => true) R 9 [])) = nodesB B := by
  unfold nodesB
  refine srt_eq sto_cl (rise_srt sto_cl _) fun z => ?_
  have h1 := mem_nodesB (B := B) (c := z)
  unfold nodesB at h1
  rw [h1, mem_askL, h.asks hok]
end
end Go.Proofs.YtahichjiphjapaaGreatDoor

/-
  Of no program: what is near a point, of boxes at their handles.
-/
namespace Go.Proofs.YtahichjiphjapaaGreatDoor
set_option linter.unusedSimpArgs false
set_option linter.unusedVariables false

abbrev Pt := Int × Int
abbrev Fa := Int × Hd
/-- A box's centre; the square of a distance; may a point be asked for? -/
def ctrB (b : Bx4) : Pt := (halfI (b.1 + b.2.2.1), halfI (b.2.1 + b.2.2.2))
def sqI (p q : Pt) : Int := (p.1 - q.1) * (p.1 - q.1) + (p.2 - q.2) * (p.2 - q.2)
def inM (n : Int) : Bool := decide (n ≤ 1048576) && decide (-1048576 ≤ n)
def placeB (p : Pt) : Bool := inM p.1 && inM p.2
def okRad (r : Int) : Bool := decide (0 ≤ r) && decide (r ≤ 4194304)
/-- By the square, of one square by handle. -/
def ltF (a b : Fa) : Bool := decide (a.1 < b.1) || (decide (a.1 = b.1) && ltH a.2 b.2)
theorem sto_fa : STO ltF where
  irrefl x := by simp [ltF, sto_hd.irrefl]
  trans x y z h1 h2 := by
    simp only [ltF, Bool.or_eq_true, decide_eq_true_eq, Bool.and_eq_true] at *
    rcases h1 with h1 | ⟨e1, h1⟩ <;> rcases h2 with h2 | ⟨e2, h2⟩
    · exact .inl (by omega)
    · exact .inl (by omega)
    · exact .inl (by omega)
    · exact .inr ⟨e1.trans e2, sto_hd.trans _ _ _ h1 h2⟩
  total x y h1 h2 := by
    simp only [ltF, Bool.or_eq_false_iff, Bool.and_eq_false_iff, decide_eq_false_iff_not] at h1 h2
    have e : x.1 = y.1 := by omega
    exact Prod.ext e (sto_hd.total _ _ (h1.2.resolve_left fun k => k e) (h2.2.resolve_left fun k => k e.symm))
def faB (p : Pt) (b : Bxd) : Fa := (sqI p (ctrB b.2), b.1)
def farL (B : List Bxd) (p : Pt) : List Fa := srt ltF (B.map (faB p))
/-- All handles, the nearest one first. -/
def allN (B : List Bxd) (p : Pt) : List Hd := (farL B p).map (·.2)
/-- Those within a radius, rising. -/
def radL (B : List Bxd) (p : Pt) (r : Int) : List Hd := srt ltH ((B.filter fun b => decide (sqI p (ctrB b.2) ≤ r * r)).map (·.1))
theorem mem_farL {B : List Bxd} {p : Pt} {z : Fa} : z ∈ farL B p ↔ ∃ b ∈ B, faB p b = z := by rw [farL, mem_srt sto_fa, List.mem_map]
theorem mem_allN {B : List Bxd} {p : Pt} {h : Hd} : h ∈ allN B p ↔ ∃ b ∈ B, b.1 = h := by
  unfold allN
  rw [List.mem_map]
  constructor
  · rintro ⟨z, hz, rfl⟩
    obtain ⟨b, hb, rfl⟩ := mem_farL.1 hz
    exact ⟨b, hb, rfl⟩
  · rintro ⟨b, hb, rfl⟩
    exact ⟨_, mem_farL.2 ⟨b, hb, rfl⟩, rfl⟩
theorem mem_radL {B : List Bxd} {p : Pt} {r : Int} {h : Hd} : h ∈ radL B p r ↔ ∃ b ∈ B, b.1 = h ∧ sqI p (ctrB b.2) ≤ r * r := by
  unfold radL
  rw [mem_srt sto_hd, List.mem_map]
  constructor
  · rintro ⟨b, hb, rfl⟩
    obtain ⟨h1, h2⟩ := List.mem_filter.1 hb
    exact ⟨b, h1, rfl, of_decide_eq_true h2⟩
  · rintro ⟨b, hb, rfl, h2⟩
    exact ⟨b, List.mem_filter.2 ⟨hb, decide_eq_true h2⟩, rfl⟩
theorem fa_nodup {B : List Bxd} (ho : OnceB B) (p : Pt) : (B.map (faB p)).Nodup := by
  have h2 : ((B.map (faB p)).map (·.2)).Nodup := by rw [List.map_map]; exact ho
  exact List.Pairwise.of_map (·.2) (fun a b h e => h (by rw [e])) h2
theorem allN_nodup {B : List Bxd} (ho : OnceB B) (p : Pt) : (allN B p).Nodup := by
  unfold allN
  rw [List.Nodup, List.pairwise_map]
  refine List.Pairwise.imp_of_mem (fun {a b} ha hb hlt e => ?_) (rise_srt sto_fa (B.map (faB p)))
  obtain ⟨x, hx, rfl⟩ := mem_farL.1 ha
  obtain ⟨y, hy, rfl⟩ := mem_farL.1 hb
  have : x = y := ho.eq hx hy e
  subst this
  rw [sto_fa.irrefl] at hlt
  cases hlt
theorem farL_len {B : List Bxd} (ho : OnceB B) (p : Pt) : (farL B p).length = B.length := by rw [farL, srt_nodup sto_fa (fa_nodup ho p), List.length_map]
theorem allN_len {B : List Bxd} (ho : OnceB B) (p : Pt) : (allN B p).length = B.length := by rw [allN, List.length_map, farL_len ho]
theorem radL_len (B : List Bxd) (p : Pt) (r : Int) : (radL B p r).length ≤ B.length :=
  Nat.le_trans (srt_len _ _) (by rw [List.length_map]; exact List.length_filter_le _ _)
/-- One more is put where it belongs. -/
theorem farL_snoc {B : List Bxd} {b : Bxd} (ho : OnceB (B ++ [b])) (p : Pt) : farL (B ++ [b]) p = (farL B p).take (headLess ltF (faB p b) (farL B p)) ++ [faB p b] ++ (farL B p).drop (headLess ltF (faB p b) (farL B p)) := by
  have hn : faB p b ∉ farL B p := fun h => by
    obtain ⟨x, hx, e⟩ := mem_farL.1 h
    have e2 : x.1 = b.1 := congrArg (·.2) e
    unfold OnceB at ho
    rw [List.map_append, List.nodup_append] at ho
    exact ho.2.2 x.1 (List.mem_map.2 ⟨x, hx, rfl⟩) b.1 (by simp) e2
  rw [← put_new sto_fa _ hn, farL, List.map_append, List.map_cons, List.map_nil, srt_snoc]
  rfl
/-- What lies below a bound at the head of a list. -/
theorem down_cut {c : Int} : ∀ {L : List Fa}, (∀ i j (hij : i < j) (hj : j < L.length), L[j].1 ≤ c → (L[i]'(Nat.lt_trans hij hj)).1 ≤ c) → ∃ n, n ≤ L.length ∧ ∀ i (hi : i < L.length), L[i].1 ≤ c ↔ i < n
  | [], _ => ⟨0, Nat.le_refl _, fun i hi => absurd hi (Nat.not_lt_zero i)⟩
  | z :: t, hdown => by
    obtain ⟨n, hn, hi⟩ := down_cut (L := t) fun i j hij hj h => by
      have := hdown (i + 1) (j + 1) (by omega) (by simpa using hj) (by simpa using h)
      simpa using this
    by_cases hz : z.1 ≤ c
    · refine ⟨n + 1, by simpa using hn, fun i hil => ?_⟩
      cases i with
      | zero => simp [hz]
      | succ i =>
        have := hi i (by simpa using hil)
        simpa using this
    · refine ⟨0, Nat.zero_le _, fun i hil => ⟨fun h => ?_, fun h => absurd h (Nat.not_lt_zero i)⟩⟩
      cases i with
      | zero => exact absurd (by simpa using h) hz
      | succ i => exact absurd (by simpa using hdown 0 (i + 1) (by omega) hil h) hz
/-- Those within a radius are the first ones. -/
theorem rad_first {B : List Bxd} (ho : OnceB B) (p : Pt) (r : Int) (h : Hd) : h ∈ (allN B p).take (radL B p r).length ↔ h ∈ radL B p r := by
  have hr : Rise ltF (farL B p) := rise_srt sto_fa _
  have hN : (radL B p r).Nodup := rise_nodup sto_hd (rise_srt sto_hd _)
  have hAN := allN_nodup ho p
  -- whatever stands ahead of one within the radius is within it
  have hdown : ∀ i j (hij : i < j) (hj : j < (farL B p).length), (farL B p)[j].1 ≤ r * r → ((farL B p)[i]'(Nat.lt_trans hij hj)).1 ≤ r * r := fun i j hij hj h => by
    have := rise_lt hr hij hj
    simp only [ltF, Bool.or_eq_true, decide_eq_true_eq, Bool.and_eq_true] at this
    rcases this with c | ⟨c, _⟩ <;> omega
  have hmem : ∀ h, h ∈ radL B p r ↔ ∃ z ∈ farL B p, z.2 = h ∧ z.1 ≤ r * r := fun h => by
    rw [mem_radL]
    constructor
    · rintro ⟨b, hb, rfl, h2⟩
      exact ⟨_, mem_farL.2 ⟨b, hb, rfl⟩, rfl, h2⟩
    · rintro ⟨z, hz, rfl, h2⟩
      obtain ⟨b, hb, rfl⟩ := mem_farL.1 hz
      exact ⟨b, hb, rfl, h2⟩
  have hlen : ∀ n, n ≤ (farL B p).length → (∀ i (hi : i < (farL B p).length), (farL B p)[i].1 ≤ r * r ↔ i < n) → (radL B p r).length = n := fun n hn hi => by
    have e : ∀ h, h ∈ radL B p r ↔ h ∈ ((farL B p).take n).map (·.2) := fun h => by
      rw [hmem, List.mem_map]
      constructor
      · rintro ⟨z, hz, rfl, h2⟩
        obtain ⟨i, hil, rfl⟩ := List.getElem_of_mem hz
        exact ⟨_, List.mem_take_iff_getElem.2 ⟨i, by have := (hi i hil).1 h2; omega, rfl⟩, rfl⟩
      · rintro ⟨z, hz, rfl⟩
        obtain ⟨i, hil, rfl⟩ := List.mem_take_iff_getElem.1 hz
        exact ⟨_, List.getElem_mem _, rfl, (hi i (by omega)).2 (by omega)⟩
    have hnd : (((farL B p).take n).map (·.2)).Nodup := by
      rw [List.map_take]
      exact hAN.sublist (List.take_sublist _ _)
    have h1 := Nat.le_antisymm (nodup_sub_len hN fun x hx => (e x).1 hx) (nodup_sub_len hnd fun x hx => (e x).2 hx)
    rw [h1, List.length_map, List.length_take]
    omega
  obtain ⟨n, hn, hi⟩ := down_cut hdown
  rw [hlen n hn hi, hmem]
  unfold allN
  rw [← List.map_take, List.mem_map]
  constructor
  · rintro ⟨z, hz, rfl⟩
    obtain ⟨i, hil, rfl⟩ := List.mem_take_iff_getElem.1 hz
    exact ⟨_, List.getElem_mem _, rfl, (hi i (by omega)).2 (by omega)⟩
  · rintro ⟨z, hz, rfl, h2⟩
    obtain ⟨i, hil, rfl⟩ := List.getElem_of_mem hz
    exact ⟨_, List.mem_take_iff_getElem.2 ⟨i, by have := (hi i hil).1 h2; omega, rfl⟩, rfl⟩
theorem rad_grow {B : List Bxd} {p : Pt} {r : Int} (hr : 0 ≤ r) {h : Hd} (hh : h ∈ radL B p r) : h ∈ radL B p (r + 1) := by
  obtain ⟨b, hb, e, h2⟩ := mem_radL.1 hh
  refine mem_radL.2 ⟨b, hb, e, Int.le_trans h2 ?_⟩
  have : r * r ≤ (r + 1) * (r + 1) := Int.mul_le_mul (by omega) (by omega) hr (by omega)
  exact this
theorem rad_more {B : List Bxd} {p : Pt} {r : Int} (hr : 0 ≤ r) : (radL B p r).length ≤ (radL B p (r + 1)).length :=
  nodup_sub_len (rise_nodup sto_hd (rise_srt sto_hd _)) fun _ hx => rad_grow hr hx
/-- The first one that isn't among the first ones. -/
theorem find_first {l : List Hd} (hn : l.Nodup) (k : Nat) : l.find? (fun h => !decide (h ∈ l.take k)) = l[k]? := by
  induction l generalizing k with
  | nil => simp
  | cons x r ih =>
    obtain ⟨h1, h2⟩ := List.nodup_cons.1 hn
    cases k with
    | zero => simp
    | succ k =>
      rw [List.take_succ_cons, List.find?_cons]
      simp only [List.mem_cons, true_or, decide_true, Bool.not_true, List.getElem?_cons_succ]
      rw [← ih h2 k]
      have : ∀ h ∈ r, (!decide (h = x ∨ h ∈ r.take k)) = (!decide (h ∈ r.take k)) := fun h hh => by
        have : h ≠ x := fun e => h1 (e ▸ hh)
        simp [this]
      clear ih
      generalize r.take k = t at *
      induction r with
      | nil => rfl
      | cons y s ih => 
        rw [List.find?_cons, List.find?_cons, this y (by simp)]
        split
        · rfl
        · exact ih (by simpa using (List.nodup_cons.2 ⟨fun c => h1 (List.mem_cons_of_mem _ c), (List.nodup_cons.1 h2).2⟩)) (fun c => h1 (List.mem_cons_of_mem _ c)) (List.nodup_cons.1 h2).2 (fun h hh => this h (List.mem_cons_of_mem _ hh))

/-! ### The tree that the laws fill. -/
def hd13 (j : Nat) : Hd := (((j * 7 % 61 : Nat) : Int), 1)
theorem hd13_inj {i j : Nat} (hi : i < 61) (hj : j < 61) (e : hd13 i = hd13 j) : i = j := by
  have := congrArg Prod.fst e
  unfold hd13 at this
  dsimp only at this
  omega
theorem hd13_ok (j : Nat) : 0 ≤ (hd13 j).1 ∧ (hd13 j).1 ≤ 60 := by unfold hd13; dsimp only; omega
def fl (l : List Bx4) (i : Nat) : List Bxd := (List.range i).map fun j => (hd13 j, l[j]!)
theorem fl_succ (l : List Bx4) (i : Nat) : fl l (i + 1) = fl l i ++ [(hd13 i, l[i]!)] := by
  unfold fl
  rw [List.range_succ, List.map_append]
  rfl
theorem fl_len (l : List Bx4) (i : Nat) : (fl l i).length = i := by simp [fl]
theorem mem_fl {l : List Bx4} {i : Nat} {y : Bxd} : y ∈ fl l i ↔ ∃ j : Nat, j < i ∧ y = (hd13 j, l[j]!) := by
  unfold fl
  rw [List.mem_map]
  simp only [List.mem_range]
  exact ⟨fun ⟨j, h, e⟩ => ⟨j, h, e.symm⟩, fun ⟨j, h, e⟩ => ⟨j, h, e.symm⟩⟩
theorem fl_none {l : List Bx4} {i : Nat} (h : i < 61) : boxF (fl l i) (hd13 i) = none := boxF_none.2 fun b hb e => by
  obtain ⟨j, hj, rfl⟩ := mem_fl.1 hb
  have := hd13_inj (by omega) h e
  omega
theorem fl_put {l : List Bx4} {i : Nat} (h : i < 61) : woB (fl l i) (hd13 i) ++ [(hd13 i, l[i]!)] = fl l (i + 1) := by
  rw [woB_none (fl_none h), fl_succ]
theorem fl_once (l : List Bx4) : ∀ i, i ≤ 61 → OnceB (fl l i)
  | 0, _ => List.nodup_nil
  | i + 1, h => by
    rw [← fl_put (by omega)]
    exact once_put (fl_once l i (by omega)) _ _
/-- May they all be put? -/
def fillB (l : List Bx4) : Bool := decide (l.length ≤ 60) && l.all fun b => decide (errB b = 0)
theorem fillB_iff {l : List Bx4} : fillB l = true ↔ l.length ≤ 60 ∧ ∀ j, j < l.length → errB l[j]! = 0 := by
  unfold fillB
  rw [Bool.and_eq_true, decide_eq_true_eq, List.all_eq_true]
  constructor
  · rintro ⟨h1, h2⟩
    refine ⟨h1, fun j hj => ?_⟩
    rw [getElem!_pos l j hj]
    exact of_decide_eq_true (h2 _ (List.getElem_mem hj))
  · rintro ⟨h1, h2⟩
    refine ⟨h1, fun b hb => ?_⟩
    obtain ⟨j, hj, rfl⟩ := List.getElem_of_mem hb
    have := h2 j hj
    rw [getElem!_pos l j hj] at this
    exact decide_eq_true this
/-- All moved by the same way. -/
def mvB (d : Pt) (b : Bx4) : Bx4 := (b.1 + d.1, b.2.1 + d.2, b.2.2.1 + d.1, b.2.2.2 + d.2)
theorem ctr_mv (d : Pt) (b : Bx4) : ctrB (mvB d b) = ((ctrB b).1 + d.1, (ctrB b).2 + d.2) := by
  unfold ctrB mvB halfI
  dsimp only
  refine Prod.ext ?_ ?_ <;> dsimp only <;> omega
theorem sq_mv (d p q : Pt) : sqI (p.1 + d.1, p.2 + d.2) (q.1 + d.1, q.2 + d.2) = sqI p q := by
  unfold sqI
  dsimp only
  rw [show p.1 + d.1 - (q.1 + d.1) = p.1 - q.1 by omega, show p.2 + d.2 - (q.2 + d.2) = p.2 - q.2 by omega]
theorem allN_mv (d p : Pt) (l : List Bx4) (n : Nat) (hn : n ≤ l.length) : allN (fl (l.map (mvB d)) n) (p.1 + d.1, p.2 + d.2) = allN (fl l n) p := by
  unfold allN farL
  congr 2
  unfold fl
  rw [List.map_map, List.map_map]
  refine List.map_congr_left fun j hj => ?_
  have hjl : j < l.length := by have := List.mem_range.1 hj; omega
  unfold faB Function.comp
  dsimp only
  rw [getElem!_pos l j hjl, getElem!_pos (l.map (mvB d)) j (by simpa using hjl), List.getElem_map, ctr_mv, sq_mv]
end Go.Proofs.YtahichjiphjapaaGreatDoor

/-
  Of no program: how near a cell is; which boxes a walk for a radius is told; the first ones of those found.
-/
namespace Go.Proofs.YtahichjiphjapaaGreatDoor
set_option linter.unusedSimpArgs false
set_option linter.unusedVariables false

/-- The number from lo to hi that is nearest. -/
def nearK (n lo hi : Int) : Int := if n < lo then lo else if hi < n then hi else n
/-- A cell's square. -/
def sqC (c : Cl) : Bx4 := (c.2.1 * sideI c.1.toNat - 2097152, c.2.2 * sideI c.1.toNat - 2097152, c.2.1 * sideI c.1.toNat - 2097152 + sideI c.1.toNat, c.2.2 * sideI c.1.toNat - 2097152 + sideI c.1.toNat)
def gapI (p : Pt) (b : Bx4) : Int := sqI p (nearK p.1 b.1 b.2.2.1, nearK p.2 b.2.1 b.2.2.2)
/-- Cells that a walk for a radius goes into. -/
def entN (p : Pt) (r : Int) (c : Cl) : Bool := decide (gapI p (sqC c) ≤ r * r)
theorem sq_nn (a : Int) : 0 ≤ a * a := by
  rcases Int.le_total 0 a with h | h
  · exact Int.mul_nonneg h h
  · have := Int.mul_nonneg (Int.neg_nonneg_of_nonpos h) (Int.neg_nonneg_of_nonpos h)
    rwa [Int.neg_mul_neg] at this
theorem sq_le {a b : Int} (h : 0 ≤ a) (k : a ≤ b) : a * a ≤ b * b := Int.mul_le_mul k k h (by omega)
theorem sq_sub (a b : Int) : (a - b) * (a - b) = (b - a) * (b - a) := by rw [← Int.neg_mul_neg, Int.neg_sub]
theorem near_in {n lo hi c : Int} (h1 : lo ≤ c) (h2 : c ≤ hi) : (n - nearK n lo hi) * (n - nearK n lo hi) ≤ (n - c) * (n - c) := by
  unfold nearK
  split
  · rw [sq_sub n lo, sq_sub n c]
    exact sq_le (by omega) (by omega)
  split
  · exact sq_le (by omega) (by omega)
  · rw [Int.sub_self]
    exact sq_nn _
def insP (q : Pt) (b : Bx4) : Prop := b.1 ≤ q.1 ∧ b.2.1 ≤ q.2 ∧ q.1 ≤ b.2.2.1 ∧ q.2 ≤ b.2.2.2
theorem gap_le {p q : Pt} {b : Bx4} (h : insP q b) : gapI p b ≤ sqI p q := by
  unfold gapI sqI
  dsimp only
  exact Int.add_le_add (near_in h.1 h.2.2.1) (near_in h.2.1 h.2.2.2)
/-- A box's centre lies in its cell. -/
theorem in_sq {b : Bx4} (hR : okR b = true) (hW : okW b = true) : insP (ctrB b) (sqC (cellB b)) := by
  obtain ⟨w1, w2, w3, w4, w5, w6, w7, w8⟩ := okW_iff.1 hW
  have h1 := depth_le b
  have h2 := col_in h1 (show -2097152 ≤ halfI (b.1 + b.2.2.1) by unfold halfI; omega) (by unfold halfI; omega)
  have h3 := col_in h1 (show -2097152 ≤ halfI (b.2.1 + b.2.2.2) by unfold halfI; omega) (by unfold halfI; omega)
  unfold insP ctrB sqC cellB
  simp only [Int.toNat_natCast]
  omega
/-- And in all cells above it. -/
theorem in_upS {q : Pt} {c : Cl} (h : rightC c = true) (hd : 0 < c.1) (hq : insP q (sqC c)) : insP q (sqC (upC c)) := by
  obtain ⟨d, x, y⟩ := c
  unfold rightC at h
  unfold insP sqC upC at *
  simp only [Bool.and_eq_true, decide_eq_true_eq] at *
  obtain ⟨⟨⟨⟨⟨h1, h2⟩, h3⟩, h4⟩, h5⟩, h6⟩ := h
  obtain ⟨k, rfl⟩ : ∃ k : Nat, d = (k : Int) := ⟨d.toNat, by omega⟩
  have hk : k ≤ 8 := by omega
  rcases le8 hk with rfl | rfl | rfl | rfl | rfl | rfl | rfl | rfl | rfl
  all_goals
    simp [sideI] at *
    try omega
theorem all_near {p q : Pt} {r : Int} (h : sqI p q ≤ r * r) : ∀ (k : Nat) (x y : Int), rightC ((k : Int), x, y) = true → insP q (sqC ((k : Int), x, y)) → allUp (entN p r) k x y = true
  | 0, x, y, hr, hi => decide_eq_true (Int.le_trans (gap_le hi) h)
  | k + 1, x, y, hr, hi => by
    have hd : (0 : Int) < ((k + 1 : Nat) : Int) := by omega
    have h1 := up_right hr hd
    have h2 := in_upS hr hd hi
    unfold upC at h1 h2
    dsimp only at h1 h2
    rw [show (((k + 1 : Nat) : Int) - 1) = ((k : Nat) : Int) from by omega] at h1 h2
    have he : entN p r (((k + 1 : Nat) : Int), x, y) = true := decide_eq_true (Int.le_trans (gap_le hi) h)
    unfold allUp
    rw [he, all_near h k (x / 2) (y / 2) h1 h2]
    rfl
/-- A box within the radius is told. -/
theorem seen_near {p : Pt} {r : Int} {b : Bx4} (hR : okR b = true) (hW : okW b = true) (h : sqI p (ctrB b) ≤ r * r) : seenB (entN p r) b = true := by
  have he := errB_zero.2 ⟨hR, hW⟩
  obtain ⟨k, c2, c3, hk, hce, h1, h2, h3, h4, h5⟩ := cellE_fine he (entN p r)
  rw [← h5]
  have hc := cell_right hR hW
  have hl := in_sq hR hW
  have e1 : cellE b = cellB b := by unfold cellE; rw [if_pos he]
  rw [← e1, hce] at hc hl
  exact all_near h k c2 c3 hc hl

/-! ### What is found. -/
/-- What a walk has found so far. -/
def hitL (p : Pt) (r : Int) (cnt : Hd → Bool) (l : List Bxd) : List Fa := (l.filter fun b => decide (sqI p (ctrB b.2) ≤ r * r) && cnt b.1).map (faB p)
theorem hitL_snoc (p : Pt) (r : Int) (cnt : Hd → Bool) (l : List Bxd) (b : Bxd) : hitL p r cnt (l ++ [b]) = hitL p r cnt l ++ (if sqI p (ctrB b.2) ≤ r * r ∧ cnt b.1 = true then [faB p b] else []) := by
  unfold hitL
  rw [List.filter_append, List.map_append]
  congr 1
  by_cases h : sqI p (ctrB b.2) ≤ r * r ∧ cnt b.1 = true
  · rw [if_pos h, List.filter_cons, if_pos (by simp [h.1, h.2])]
    rfl
  · rw [if_neg h, List.filter_cons, if_neg (by simpa using h)]
    rfl
theorem hitL_len (p : Pt) (r : Int) (cnt : Hd → Bool) (l : List Bxd) : (hitL p r cnt l).length ≤ l.length := by
  unfold hitL
  rw [List.length_map]
  exact List.length_filter_le _ _
theorem mem_hitL {p : Pt} {r : Int} {cnt : Hd → Bool} {l : List Bxd} {z : Fa} : z ∈ hitL p r cnt l ↔ ∃ b ∈ l, faB p b = z ∧ sqI p (ctrB b.2) ≤ r * r ∧ cnt b.1 = true := by
  unfold hitL
  rw [List.mem_map]
  constructor
  · rintro ⟨b, hb, rfl⟩
    obtain ⟨h1, h2⟩ := List.mem_filter.1 hb
    simp only [Bool.and_eq_true, decide_eq_true_eq] at h2
    exact ⟨b, h1, rfl, h2⟩
  · rintro ⟨b, hb, rfl, h2⟩
    exact ⟨b, List.mem_filter.2 ⟨hb, by simpa using h2⟩, rfl⟩
theorem hitL_nodup {l : List Bxd} (ho : OnceB l) (p : Pt) (r : Int) (cnt : Hd → Bool) : (hitL p r cnt l).Nodup :=
  (fa_nodup ho p).sublist (List.Sublist.map _ List.filter_sublist)
/-- All that count, the nearest one first. -/
def farC (B : List Bxd) (p : Pt) (cnt : Hd → Bool) : List Fa := (farL B p).filter fun z => cnt z.2
theorem rise_farC (B : List Bxd) (p : Pt) (cnt : Hd → Bool) : Rise ltF (farC B p cnt) := List.Pairwise.filter _ (rise_srt sto_fa _)
theorem mem_farC {B : List Bxd} {p : Pt} {cnt : Hd → Bool} {z : Fa} : z ∈ farC B p cnt ↔ ∃ b ∈ B, faB p b = z ∧ cnt b.1 = true := by
  unfold farC
  rw [List.mem_filter, mem_farL]
  constructor
  · rintro ⟨⟨b, hb, rfl⟩, h⟩
    exact ⟨b, hb, rfl, h⟩
  · rintro ⟨b, hb, rfl, h⟩
    exact ⟨⟨b, hb, rfl⟩, h⟩
theorem rise_pre {c : Int} : ∀ {F : List Fa}, Rise ltF F → (F.filter fun z => decide (z.1 ≤ c)) <+: F
  | [], _ => List.nil_prefix
  | z :: t, h => by
    obtain ⟨h1, h2⟩ := List.pairwise_cons.1 h
    rw [List.filter_cons]
    by_cases hz : z.1 ≤ c
    · rw [if_pos (by simpa using hz)]
      exact List.cons_prefix_cons.2 ⟨rfl, rise_pre h2⟩
    · rw [if_neg (by simpa using hz)]
      have e : (t.filter fun z => decide (z.1 ≤ c)) = [] := List.filter_eq_nil_iff.2 fun y hy => by
        have := h1 y hy
        simp only [ltF, Bool.or_eq_true, decide_eq_true_eq, Bool.and_eq_true] at this ⊢
        omega
      rw [e]
      exact List.nil_prefix
theorem hit_srt {B l : List Bxd} {p : Pt} {r : Int} {cnt : Hd → Bool} (hl : ∀ b, b ∈ l ↔ b ∈ B ∧ seenB (entN p r) b.2 = true) (hok : OkB B) : srt ltF (hitL p r cnt l) = (farC B p cnt).filter fun z => decide (z.1 ≤ r * r) := by
  refine srt_eq sto_fa (List.Pairwise.filter _ (rise_farC B p cnt)) fun z => ?_
  rw [mem_hitL, List.mem_filter, mem_farC, decide_eq_true_eq]
  constructor
  · rintro ⟨⟨b, hb, rfl, h2⟩, h1⟩
    exact ⟨b, (hl b).2 ⟨hb, seen_near (hok b hb).1 (hok b hb).2 h1⟩, rfl, h1, h2⟩
  · rintro ⟨b, hb, rfl, h1, h2⟩
    exact ⟨⟨b, ((hl b).1 hb).1, rfl, h2⟩, h1⟩
/-- If enough are found, the first ones are the first of all. -/
theorem take_pre {α : Type} {a b : List α} (h : a <+: b) {k : Nat} (hk : k ≤ a.length) : a.take k = b.take k := by
  obtain ⟨t, rfl⟩ := h
  rw [List.take_append_of_le_length hk]
theorem hit_take {B : List Bxd} {p : Pt} {r : Int} {cnt : Hd → Bool} {k : Nat} (hk : k ≤ ((farC B p cnt).filter fun z => decide (z.1 ≤ r * r)).length ∨ ∀ b ∈ B, sqI p (ctrB b.2) ≤ r * r) :
    ((farC B p cnt).filter fun z => decide (z.1 ≤ r * r)).take k = (farC B p cnt).take k := by
  rcases hk with h | h
  · exact take_pre (rise_pre (rise_farC B p cnt)) h
  · congr 1
    refine List.filter_eq_self.2 fun z hz => ?_
    obtain ⟨b, hb, rfl, _⟩ := mem_farC.1 hz
    exact decide_eq_true (h b hb)
/-- Nothing lies beyond the greatest radius. -/
theorem far_all {B : List Bxd} (hok : OkB B) {p : Pt} (hp : placeB p = true) : ∀ b ∈ B, sqI p (ctrB b.2) ≤ 8388608 * 8388608 := fun b hb => by
  obtain ⟨w1, w2, w3, w4, w5, w6, w7, w8⟩ := okW_iff.1 (hok b hb).2
  simp only [placeB, inM, Bool.and_eq_true, decide_eq_true_eq] at hp
  have one : ∀ d : Int, -3145728 ≤ d → d ≤ 3145728 → d * d ≤ 3145728 * 3145728 := fun d h1 h2 => by
    rcases Int.le_total 0 d with h | h
    · exact sq_le h h2
    · have := sq_le (show 0 ≤ -d by omega) (show -d ≤ 3145728 by omega)
      rwa [Int.neg_mul_neg] at this
  have h1 := one (p.1 - (ctrB b.2).1) (by unfold ctrB halfI; dsimp only; omega) (by unfold ctrB halfI; dsimp only; omega)
  have h2 := one (p.2 - (ctrB b.2).2) (by unfold ctrB halfI; dsimp only; omega) (by unfold ctrB halfI; dsimp only; omega)
  unfold sqI
  omega
theorem farC_all (B : List Bxd) (p : Pt) : farC B p (fun _ => true) = farL B p := List.filter_eq_self.2 fun _ _ => rfl
theorem farC_len {B : List Bxd} (ho : OnceB B) (p : Pt) (cnt : Hd → Bool) : (farC B p cnt).length ≤ B.length := by
  rw [← farL_len ho p]
  exact List.length_filter_le _ _
/-- Those found within a radius are as many as are told. -/
theorem hit_len {l : List Bxd} (ho : OnceB l) (p : Pt) (r : Int) (cnt : Hd → Bool) : (srt ltF (hitL p r cnt l)).length = (hitL p r cnt l).length := srt_nodup sto_fa (hitL_nodup ho p r cnt)
/-- The handles of those within a radius. -/
theorem hit_rad {B l : List Bxd} {p : Pt} {r : Int} (hl : ∀ b, b ∈ l ↔ b ∈ B ∧ seenB (entN p r) b.2 = true) (hok : OkB B) : srt ltH ((hitL p r (fun _ => true) l).map (·.2)) = radL B p r := by
  refine srt_eq sto_hd (rise_srt sto_hd _) fun z => ?_
  have := mem_radL (B := B) (p := p) (r := r) (h := z)
  rw [this, List.mem_map]
  constructor
  · rintro ⟨b, hb, rfl, h1⟩
    exact ⟨_, mem_hitL.2 ⟨b, (hl b).2 ⟨hb, seen_near (hok b hb).1 (hok b hb).2 h1⟩, rfl, h1, rfl⟩, rfl⟩
  · rintro ⟨y, hy, rfl⟩
    obtain ⟨b, hb, rfl, h1, _⟩ := mem_hitL.1 hy
    exact ⟨b, ((hl b).1 hb).1, rfl, h1⟩
/-- The nearest one that counts. -/
theorem near_one (B : List Bxd) (p : Pt) (cnt : Hd → Bool) : ((farC B p cnt).head?).map (·.2) = (allN B p).find? cnt := by
  unfold farC allN
  rw [List.head?_filter, List.find?_map]
  rfl
end Go.Proofs.YtahichjiphjapaaGreatDoor
