/-
  Of no program: which free tiles hang together; labels by rounds.
-/
import Derived.Test.YtklpemcchfmdjaaDoorSrt
namespace Go.Proofs.YtklpemcchfmdjaaDoor
set_option linter.unusedSimpArgs false
set_option linter.unusedVariables false

/-- The tiles next to one, in the order in which they are asked. -/
def nextT (W n t : Nat) : List Nat := (if 0 < t % W then [t - 1] else []) ++ ((if t % W + 1 < W then [t + 1] else []) ++ ((if W ≤ t then [t - W] else []) ++ (if t + W < n then [t + W] else [])))
theorem mem_next {W n t k : Nat} : k ∈ nextT W n t ↔ (0 < t % W ∧ k = t - 1) ∨ (t % W + 1 < W ∧ k = t + 1) ∨ (W ≤ t ∧ k = t - W) ∨ (t + W < n ∧ k = t + W) := by
  unfold nextT
  simp only [List.mem_append]
  by_cases h1 : 0 < t % W <;> by_cases h2 : t % W + 1 < W <;> by_cases h3 : W ≤ t <;> by_cases h4 : t + W < n <;> simp [h1, h2, h3, h4]
/-- A tile's row and column. -/
theorem rowcol {W : Nat} (hW : 0 < W) (t : Nat) : t / W * W + t % W = t ∧ t % W < W := ⟨by rw [Nat.mul_comm]; exact Nat.div_add_mod t W, Nat.mod_lt _ hW⟩
theorem next_lt {W H t k : Nat} (hW : 0 < W) (ht : t < H * W) (h : k ∈ nextT W (H * W) t) : k < H * W ∧ k ≠ t := by
  obtain ⟨e, hm⟩ := rowcol hW t
  rcases mem_next.1 h with ⟨a, rfl⟩ | ⟨a, rfl⟩ | ⟨a, rfl⟩ | ⟨a, rfl⟩
  · have : 0 < t := by
      rcases Nat.eq_zero_or_pos t with h0 | h0
      · rw [h0] at a; simp at a
      · exact h0
    omega
  · have hr : t / W < H := Nat.div_lt_of_lt_mul (by rw [Nat.mul_comm]; exact ht)
    have := Nat.mul_le_mul_right W (show t / W + 1 ≤ H by omega)
    rw [Nat.add_mul] at this
    omega
  · omega
  · omega
theorem next_symm {W H t k : Nat} (hW : 0 < W) (ht : t < H * W) (h : k ∈ nextT W (H * W) t) : t ∈ nextT W (H * W) k := by
  obtain ⟨e, hm⟩ := rowcol hW t
  obtain ⟨hk, _⟩ := next_lt hW ht h
  rw [mem_next]
  rcases mem_next.1 h with ⟨a, rfl⟩ | ⟨a, rfl⟩ | ⟨a, rfl⟩ | ⟨a, rfl⟩
  · have h0 : 0 < t := by
      rcases Nat.eq_zero_or_pos t with h0 | h0
      · rw [h0] at a; simp at a
      · exact h0
    have : (t - 1) % W = t % W - 1 := by
      have e2 : t - 1 = W * (t / W) + (t % W - 1) := by rw [Nat.mul_comm]; omega
      rw [e2, Nat.mul_add_mod, Nat.mod_eq_of_lt (by omega)]
    exact .inr (.inl ⟨by omega, by omega⟩)
  · have : (t + 1) % W = t % W + 1 := by
      have e2 : t + 1 = W * (t / W) + (t % W + 1) := by rw [Nat.mul_comm]; omega
      rw [e2, Nat.mul_add_mod, Nat.mod_eq_of_lt a]
    exact .inl ⟨by omega, by omega⟩
  · exact .inr (.inr (.inr ⟨by omega, by omega⟩))
  · exact .inr (.inr (.inl ⟨by omega, by omega⟩))

/-! ### What hangs together, on any ground: the tiles below n that are free, next to each other. -/
structure Ground where
  n : Nat
  nx : Nat → List Nat
  bl : Nat → Bool
  lt : ∀ t k, t < n → k ∈ nx t → k < n ∧ k ≠ t
  sym : ∀ t k, t < n → k ∈ nx t → t ∈ nx k
def Ground.fr (G : Ground) (t : Nat) : Prop := t < G.n ∧ G.bl t = false
inductive Hang (G : Ground) : Nat → Nat → Prop
  | one {t : Nat} : G.fr t → Hang G t t
  | step {t k u : Nat} : G.fr t → k ∈ G.nx t → Hang G k u → Hang G t u
section
variable {G : Ground} {t k u : Nat}
theorem Hang.left (h : Hang G t u) : G.fr t := by cases h <;> assumption
theorem Hang.right (h : Hang G t u) : G.fr u := by
  induction h with
  | one h => exact h
  | step _ _ _ ih => exact ih
theorem Hang.trans (h : Hang G t k) (h2 : Hang G k u) : Hang G t u := by
  induction h with
  | one _ => exact h2
  | step a b _ ih => exact .step a b (ih h2)
theorem Hang.edge (ht : G.fr t) (hk : G.fr k) (h : k ∈ G.nx t) : Hang G t k := .step ht h (.one hk)
theorem Hang.symm (h : Hang G t u) : Hang G u t := by
  induction h with
  | one h => exact .one h
  | step a b c ih => exact ih.trans (.edge c.left a (G.sym _ _ a.1 b))
/-- The least tile that hangs together with it. -/
theorem least_ex (ht : G.fr t) : ∃ m, Hang G t m ∧ ∀ u, Hang G t u → m ≤ u := by
  have : ∀ d m, m ≤ d → Hang G t m → ∃ m, Hang G t m ∧ ∀ u, Hang G t u → m ≤ u := by
    intro d
    induction d with
    | zero => exact fun m hm h => ⟨m, h, fun u _ => by omega⟩
    | succ d ih =>
      intro m hm h
      by_cases he : ∃ u, Hang G t u ∧ u < m
      · obtain ⟨u, hu, hlt⟩ := he
        exact ih u (by omega) hu
      · exact ⟨m, h, fun u hu => by
          rcases Nat.lt_or_ge u m with hq | hq
          · exact absurd ⟨u, hu, hq⟩ he
          · exact hq⟩
  exact this t t (Nat.le_refl _) (.one ht)
noncomputable def Ground.lab (G : Ground) (t : Nat) : Nat := open Classical in if h : G.fr t then (least_ex h).choose else 0
theorem lab_hang (ht : G.fr t) : Hang G t (G.lab t) := by unfold Ground.lab; rw [dif_pos ht]; exact (least_ex ht).choose_spec.1
theorem lab_le (h : Hang G t u) : G.lab t ≤ u := by unfold Ground.lab; rw [dif_pos h.left]; exact (least_ex h.left).choose_spec.2 u h
theorem lab_self (ht : G.fr t) : G.lab t ≤ t := lab_le (.one ht)
theorem lab_eq (h : Hang G t u) : G.lab t = G.lab u := Nat.le_antisymm (lab_le (h.trans (lab_hang h.right))) (lab_le (h.symm.trans (lab_hang h.left)))
theorem lab_lab (ht : G.fr t) : G.lab (G.lab t) = G.lab t := (lab_eq (lab_hang ht)).symm
/-- Together: the same label. -/
theorem hang_iff (ht : G.fr t) (hu : G.fr u) : Hang G t u ↔ G.lab t = G.lab u := ⟨lab_eq, fun h => (lab_hang ht).trans (by rw [h]; exact (lab_hang hu).symm)⟩
/-- All labels, by number. -/
noncomputable def Ground.labI (G : Ground) (t : Nat) : Int := if G.bl t then -1 else (G.lab t : Int)
noncomputable def Ground.labs (G : Ground) : List Int := (List.range G.n).map G.labI
theorem labs_len (G : Ground) : G.labs.length = G.n := by simp [Ground.labs]
theorem labs_get (ht : t < G.n) : G.labs[t]! = G.labI t := by
  unfold Ground.labs
  rw [getElem!_pos _ t (by simpa using ht)]
  simp
end
/-! ### By rounds. -/
/-- Each label is of a tile that hangs together with it, none greater than itself. -/
structure LInv (G : Ground) (l : List Int) : Prop where
  len : l.length = G.n
  no : ∀ t, t < G.n → G.bl t = true → l[t]! = -1
  yes : ∀ t, G.fr t → ∃ m : Nat, l[t]! = (m : Int) ∧ m ≤ t ∧ Hang G t m
noncomputable def badN (G : Ground) (l : List Int) : Nat := ((List.range G.n).filter fun t => !G.bl t && !decide (l[t]! = G.labI t)).length
section
variable {G : Ground} {l l0 l1 : List Int} {t k : Nat}
theorem LInv.ge (h : LInv G l) (ht : G.fr t) : (G.lab t : Int) ≤ l[t]! := by
  obtain ⟨m, e, _, hm⟩ := h.yes t ht
  have := lab_le hm
  omega
theorem LInv.neg (h : LInv G l) (ht : t < G.n) : l[t]! < 0 ↔ G.bl t = true := by
  cases hb : G.bl t
  · obtain ⟨m, e, _, hm⟩ := h.yes t ⟨ht, hb⟩
    simp
    simp at e
    omega
  · have := h.no t ht hb
    simp
    simp at this
    omega
theorem set_at {l : List Int} (ht : t < l.length) (x : Int) (j : Nat) (hj : j < l.length) : (l.set t x)[j]! = if j = t then x else l[j]! := by
  rw [getElem!_pos _ j (by simpa using hj), List.getElem_set]
  by_cases e : t = j
  · subst e; simp
  · rw [if_neg e, if_neg (fun q => e q.symm), getElem!_pos l j hj]
/-- A label goes from tile to tile. -/
theorem LInv.step (h : LInv G l) (ht : G.fr t) (hk : k ∈ G.nx t) (h0 : 0 ≤ l[k]!) (hlt : l[k]! < l[t]!) : LInv G (l.set t l[k]!) := by
  have hkn := (G.lt t k ht.1 hk).1
  have hfk : G.fr k := ⟨hkn, by
    cases hb : G.bl k
    · rfl
    · have := h.no k hkn hb; omega⟩
  have htl : t < l.length := by rw [h.len]; exact ht.1
  refine ⟨by rw [List.length_set, h.len], fun j hj hb => ?_, fun j hj => ?_⟩
  · rw [set_at htl _ j (by rw [h.len]; exact hj), if_neg (fun e => by rw [e, ht.2] at hb; cases hb)]
    exact h.no j hj hb
  · rw [set_at htl _ j (by rw [h.len]; exact hj.1)]
    by_cases e : j = t
    · rw [if_pos e, e]
      obtain ⟨m, hm, _, hh⟩ := h.yes k hfk
      obtain ⟨q, hq, hqt, _⟩ := h.yes t ht
      exact ⟨m, hm, by omega, .step ht hk hh⟩
    · rw [if_neg e]
      exact h.yes j hj
/-- Behind a round: no label is greater than one next to it was ahead of the round. -/
structure RoundT (G : Ground) (l0 l1 : List Int) (T : Nat) : Prop where
  inv : LInv G l1
  le : ∀ t, t < G.n → l1[t]! ≤ l0[t]!
  done : ∀ t, t < T → G.fr t → ∀ k, k ∈ G.nx t → G.fr k → l1[t]! ≤ l0[k]!
theorem RoundT.start (h : LInv G l0) : RoundT G l0 l0 0 := ⟨h, fun _ _ => Int.le_refl _, fun t ht => absurd ht (Nat.not_lt_zero t)⟩
theorem RoundT.skip (h : RoundT G l0 l1 t) (hb : G.bl t = true) : RoundT G l0 l1 (t + 1) := ⟨h.inv, h.le, fun u hu hf => by
  rcases Nat.lt_or_ge u t with hq | hq
  · exact h.done u hq hf
  · obtain rfl : u = t := by omega
    rw [hf.2] at hb; cases hb⟩
/-- Within a tile's own neighbours: those of ks have been asked. -/
structure RoundK (G : Ground) (l0 l1 : List Int) (T : Nat) (ks : List Nat) : Prop where
  r : RoundT G l0 l1 T
  seen : ∀ k, k ∈ ks → G.fr k → l1[T]! ≤ l0[k]!
theorem RoundT.open (h : RoundT G l0 l1 t) : RoundK G l0 l1 t [] := ⟨h, fun k hk => by cases hk⟩
theorem RoundK.shut (h : RoundK G l0 l1 t (G.nx t)) : RoundT G l0 l1 (t + 1) := ⟨h.r.inv, h.r.le, fun u hu hf k hk hfk => by
  rcases Nat.lt_or_ge u t with hq | hq
  · exact h.r.done u hq hf k hk hfk
  · obtain rfl : u = t := by omega
    exact h.seen k hk hfk⟩
theorem RoundK.keep {ks : List Nat} (h : RoundK G l0 l1 t ks) (ht : G.fr t) (hk : k ∈ G.nx t) (hc : ¬ (0 ≤ l1[k]! ∧ l1[k]! < l1[t]!)) : RoundK G l0 l1 t (ks ++ [k]) := ⟨h.r, fun u hu hf => by
  rcases List.mem_append.1 hu with hq | hq
  · exact h.seen u hq hf
  · obtain rfl : u = k := by simpa using hq
    have h1 := h.r.inv.ge hf
    have h2 := h.r.le u hf.1
    omega⟩
theorem RoundK.turn {ks : List Nat} (h : RoundK G l0 l1 t ks) (ht : G.fr t) (hk : k ∈ G.nx t) (hc : 0 ≤ l1[k]! ∧ l1[k]! < l1[t]!) : RoundK G l0 (l1.set t l1[k]!) t (ks ++ [k]) := by
  have htl : t < l1.length := by rw [h.r.inv.len]; exact ht.1
  have hkt := (G.lt t k ht.1 hk).2
  have hkn := (G.lt t k ht.1 hk).1
  have e := fun j (hj : j < G.n) => set_at htl l1[k]! j (by rw [h.r.inv.len]; exact hj)
  refine ⟨⟨h.r.inv.step ht hk hc.1 hc.2, fun j hj => ?_, fun u hu hf q hq hfq => ?_⟩, fun u hu hf => ?_⟩
  · rw [e j hj]
    have := h.r.le j hj
    by_cases hjt : j = t
    · subst hjt; rw [if_pos rfl]; omega
    · rw [if_neg hjt]; exact this
  · rw [e u hf.1, if_neg (by omega)]
    exact h.r.done u hu hf q hq hfq
  · rw [e t ht.1, if_pos rfl]
    rcases List.mem_append.1 hu with hq | hq
    · have := h.seen u hq hf; omega
    · obtain rfl : u = k := by simpa using hq
      exact h.r.le u hf.1
theorem filter_le {p q : Nat → Bool} (L : List Nat) (hpq : ∀ x ∈ L, q x = true → p x = true) : (L.filter q).length ≤ (L.filter p).length := by
  induction L with
  | nil => simp
  | cons b s ih =>
    have h3 := ih (fun y hy => hpq y (List.mem_cons_of_mem _ hy))
    have h4 := hpq b List.mem_cons_self
    rw [List.filter_cons, List.filter_cons]
    cases hq : q b
    · rw [if_neg (by simp)]
      cases hp : p b
      · rw [if_neg (by simp)]; exact h3
      · rw [if_pos rfl, List.length_cons]; omega
    · rw [if_pos rfl, if_pos (h4 hq), List.length_cons, List.length_cons]; omega
theorem filter_lt {p q : Nat → Bool} (L : List Nat) (hpq : ∀ x ∈ L, q x = true → p x = true) {x : Nat} (hx : x ∈ L) (h1 : p x = true) (h2 : q x = false) : (L.filter q).length < (L.filter p).length := by
  induction L with
  | nil => cases hx
  | cons a r ih =>
    have hle := filter_le r (fun y hy => hpq y (List.mem_cons_of_mem _ hy))
    rw [List.filter_cons, List.filter_cons]
    rcases List.mem_cons.1 hx with e | e
    · subst e
      rw [if_neg (by simp [h2]), if_pos h1, List.length_cons]
      omega
    · have h5 := ih (fun y hy => hpq y (List.mem_cons_of_mem _ hy)) e
      have h6 := hpq a List.mem_cons_self
      cases hq : q a
      · rw [if_neg (by simp)]
        cases hp : p a
        · rw [if_neg (by simp)]; exact h5
        · rw [if_pos rfl, List.length_cons]; omega
      · rw [if_pos rfl, if_pos (h6 hq), List.length_cons, List.length_cons]; omega
/-- A wrong label lies next to a right one, as long as there is one. -/
theorem bad_edge (h : LInv G l) {m : Nat} (hh : Hang G t m) (hm : l[m]! = (G.lab m : Int)) (hb : l[t]! ≠ (G.lab t : Int)) : ∃ u k, G.fr u ∧ G.fr k ∧ k ∈ G.nx u ∧ l[u]! ≠ (G.lab u : Int) ∧ l[k]! = (G.lab k : Int) := by
  induction hh with
  | one _ => exact absurd hm hb
  | @step t k u a b c ih =>
    by_cases e : l[k]! = (G.lab k : Int)
    · exact ⟨t, k, a, c.left, b, hb, e⟩
    · exact ih hm e
theorem labI_free (ht : G.fr t) : G.labI t = (G.lab t : Int) := by unfold Ground.labI; rw [ht.2]; rfl
theorem bad_pos (h : LInv G l) (hb : 0 < badN G l) : ∃ u k, G.fr u ∧ G.fr k ∧ k ∈ G.nx u ∧ l[u]! ≠ (G.lab u : Int) ∧ l[k]! = (G.lab k : Int) := by
  unfold badN at hb
  obtain ⟨t, ht⟩ := List.exists_mem_of_length_pos hb
  rw [List.mem_filter, List.mem_range, Bool.and_eq_true, Bool.not_eq_true', Bool.not_eq_true', decide_eq_false_iff_not] at ht
  have hf : G.fr t := ⟨ht.1, ht.2.1⟩
  rw [labI_free hf] at ht
  have hl := lab_hang hf
  refine bad_edge h hl ?_ ht.2.2
  obtain ⟨m, e, hle, hm⟩ := h.yes _ hl.right
  have h1 := lab_le hm
  rw [lab_lab hf] at h1 ⊢
  omega
/-- A round sets a label right, as long as one is wrong. -/
theorem round_prog (h0 : LInv G l0) (h : RoundT G l0 l1 G.n) (hb : 0 < badN G l0) : badN G l1 < badN G l0 := by
  obtain ⟨u, k, hu, hk, hn, hw, hr⟩ := bad_pos h0 hb
  have h1 := h.done u hu.1 hu k hn hk
  have h2 := h.inv.ge hu
  have h3 := lab_eq (Hang.edge hu hk hn)
  have hgood : l1[u]! = (G.lab u : Int) := by rw [hr, ← h3] at h1; omega
  unfold badN
  refine filter_lt (List.range G.n) (fun x hx hq => ?_) (x := u) (List.mem_range.2 hu.1) ?_ ?_
  · rw [Bool.and_eq_true, Bool.not_eq_true', Bool.not_eq_true', decide_eq_false_iff_not] at hq ⊢
    refine ⟨hq.1, fun e => hq.2 ?_⟩
    have hfx : G.fr x := ⟨List.mem_range.1 hx, hq.1⟩
    rw [labI_free hfx] at e ⊢
    have h4 := h.le x hfx.1
    have h5 := h.inv.ge hfx
    omega
  · rw [Bool.and_eq_true, Bool.not_eq_true', Bool.not_eq_true', decide_eq_false_iff_not, labI_free hu]
    exact ⟨hu.2, hw⟩
  · rw [labI_free hu, hgood]
    simp
theorem bad_mono {T : Nat} (h : RoundT G l0 l1 T) : badN G l1 ≤ badN G l0 := by
  unfold badN
  refine filter_le (List.range G.n) fun x hx hq => ?_
  rw [Bool.and_eq_true, Bool.not_eq_true', Bool.not_eq_true', decide_eq_false_iff_not] at hq ⊢
  refine ⟨hq.1, fun e => hq.2 ?_⟩
  have hfx : G.fr x := ⟨List.mem_range.1 hx, hq.1⟩
  rw [labI_free hfx] at e ⊢
  have h4 := h.le x hfx.1
  have h5 := h.inv.ge hfx
  omega
theorem bad_next (h0 : LInv G l0) (h : RoundT G l0 l1 G.n) {r : Nat} (hb : badN G l0 ≤ G.n - r) : badN G l1 ≤ G.n - (r + 1) := by
  rcases Nat.eq_zero_or_pos (badN G l0) with e | e
  · have := bad_mono h; omega
  · have := round_prog h0 h e; omega
/-- A round that changes nothing: all are right. -/
theorem round_still (h0 : LInv G l0) (h : RoundT G l0 l0 G.n) : badN G l0 = 0 := by
  rcases Nat.eq_zero_or_pos (badN G l0) with e | e
  · exact e
  · have := round_prog h0 h e; omega
theorem bad_zero (h : LInv G l) (hb : badN G l = 0) : l = G.labs := by
  refine List.ext_getElem (by rw [h.len, labs_len]) fun t h1 h2 => ?_
  have ht : t < G.n := by rw [← h.len]; exact h1
  rw [← getElem!_pos l t h1, ← getElem!_pos _ t h2, labs_get ht]
  cases hbl : G.bl t
  · rcases Decidable.em (l[t]! = G.labI t) with e | e
    · exact e
    · have hm : t ∈ (List.range G.n).filter fun t => !G.bl t && !decide (l[t]! = G.labI t) := by
        rw [List.mem_filter, List.mem_range, Bool.and_eq_true, Bool.not_eq_true', Bool.not_eq_true', decide_eq_false_iff_not]
        exact ⟨ht, hbl, e⟩
      unfold badN at hb
      rw [List.eq_nil_of_length_eq_zero hb] at hm
      cases hm
  · rw [h.no t ht hbl]
    unfold Ground.labI
    rw [hbl]
    rfl
theorem bad_le (G : Ground) (l : List Int) : badN G l ≤ G.n := by
  unfold badN
  exact Nat.le_trans (List.length_filter_le _ _) (by simp)
/-- The labels at the start: each tile's own. -/
def ownI (G : Ground) (t : Nat) : Int := if G.bl t then -1 else (t : Int)
theorem own_inv (h : l.length = G.n) (ho : ∀ t, t < G.n → l[t]! = ownI G t) : LInv G l :=
  ⟨h, fun t ht hb => by rw [ho t ht]; unfold ownI; rw [hb]; rfl, fun t ht => ⟨t, by rw [ho t ht.1]; unfold ownI; rw [ht.2]; rfl, Nat.le_refl _, .one ht⟩⟩
/-- What is right for all is the labels. -/
theorem labs_of (h : l.length = G.n) (h1 : ∀ t, t < G.n → G.bl t = true → l[t]! = -1) (h2 : ∀ t, G.fr t → ∃ m : Nat, l[t]! = (m : Int) ∧ Hang G t m ∧ ∀ u, Hang G t u → m ≤ u) : l = G.labs := by
  refine List.ext_getElem (by rw [h, labs_len]) fun t h3 h4 => ?_
  have ht : t < G.n := by rw [← h]; exact h3
  rw [← getElem!_pos l t h3, ← getElem!_pos _ t h4, labs_get ht]
  cases hbl : G.bl t
  · obtain ⟨m, e, hm, hl⟩ := h2 t ⟨ht, hbl⟩
    rw [e, labI_free ⟨ht, hbl⟩]
    have a := lab_le hm
    have b := hl _ (lab_hang (G := G) ⟨ht, hbl⟩)
    omega
  · rw [h1 t ht hbl]
    unfold Ground.labI
    rw [hbl]
    rfl
end
/-- A grid's ground. -/
def gridG (W H : Nat) (hW : 0 < W) (bl : Nat → Bool) : Ground := ⟨H * W, nextT W (H * W), bl, fun _ _ ht h => next_lt hW ht h, fun _ _ ht h => next_symm hW ht h⟩
end Go.Proofs.YtklpemcchfmdjaaDoor
