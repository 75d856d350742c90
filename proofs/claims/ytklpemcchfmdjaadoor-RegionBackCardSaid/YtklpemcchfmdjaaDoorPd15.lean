/-
  Of no program: tiles blocked all but some, in any order.
-/
import Derived.Test.YtklpemcchfmdjaaDoorRg15
namespace Go.Proofs.YtklpemcchfmdjaaDoor
set_option linter.unusedSimpArgs false
set_option linter.unusedVariables false
open Go.RowKit Go.Sort Go.Lib Go.Shelf

/-- A row of n truth values by a rule. -/
def rowBy (n : Nat) (p : Nat → Bool) : List Bool := (List.range n).map p
theorem rowBy_len (n : Nat) (p : Nat → Bool) : (rowBy n p).length = n := by simp [rowBy]
theorem rowBy_get {n x : Nat} (p : Nat → Bool) (hx : x < n) : (rowBy n p)[x]! = p x := by
  unfold rowBy
  rw [getElem!_pos _ x (by simpa using hx)]
  simp
theorem rowBy_set {n : Nat} {p q : Nat → Bool} {t : Nat} (v : Bool) (ht : t < n) (h : ∀ x, x < n → q x = if x = t then v else p x) : (rowBy n p).set t v = rowBy n q := by
  refine List.ext_getElem (by simp [rowBy]) fun x h1 h2 => ?_
  have hx : x < n := by rw [rowBy_len] at h2; exact h2
  rw [← getElem!_pos _ x h1, ← getElem!_pos _ x h2, rowBy_get q hx, h x hx]
  rw [getElem!_pos _ x h1, List.getElem_set]
  by_cases e : t = x
  · rw [if_pos e, if_pos e.symm]
  · rw [if_neg e, if_neg (fun q => e q.symm), ← getElem!_pos _ x (by rw [rowBy_len]; exact hx), rowBy_get p hx]
theorem rowBy_congr {n : Nat} {p q : Nat → Bool} (h : ∀ x, x < n → p x = q x) : rowBy n p = rowBy n q := List.map_congr_left fun x hx => h x (List.mem_range.1 hx)
theorem rowBy_nots (n : Nat) : nots n = rowBy n (fun _ => false) := by
  refine List.ext_getElem (by simp [rowBy, nots]) fun x h1 h2 => ?_
  simp [rowBy, nots]
/-- One tile that isn't so yet: it is changed. -/
theorem askB_one {b : List Bool} {t : Nat} {now : Bool} (wrong : Int) (ht : t < b.length) (h : b[t]! = now) : askT b [(t : Int)] now wrong = 0 := by
  unfold askT outT twiceT
  rw [if_neg (by simp; omega), if_neg]
  simp [badT, List.range_succ]
  rw [getElem!_pos b t ht] at h
  simp [ht, h]
theorem changeB_one {b : List Bool} {t : Nat} {now : Bool} (wrong : Int) (ht : t < b.length) (h : b[t]! = now) : changeT b [(t : Int)] now wrong = b.set t (!now) := by
  unfold changeT
  rw [if_pos (askB_one wrong ht h)]
  rfl
/-- Tiles each once, none blocked: they are blocked. -/
theorem ask_list {n : Nat} {l : List Int} (h : ∀ t ∈ l, 0 ≤ t ∧ t < (n : Int)) (hn : l.Nodup) (wrong : Int) : askT (nots n) l false wrong = 0 := by
  unfold askT
  rw [nots_len, if_neg, if_neg]
  · unfold twiceT
    rw [List.any_eq_true]
    rintro ⟨k, hk, hb⟩
    have hk := List.mem_range.1 hk
    unfold badT at hb
    have hm : l[k]! ∈ l := by rw [getElem!_pos l k hk]; exact List.getElem_mem hk
    obtain ⟨h0, h1⟩ := h _ hm
    rw [nots_get (by omega), Bool.or_eq_true, decide_eq_true_eq] at hb
    rcases hb with hb | hb
    · simp at hb
    · obtain ⟨i, hi, e⟩ := List.getElem_of_mem hb
      rw [List.length_take] at hi
      rw [List.getElem_take, getElem!_pos l k hk] at e
      exact List.pairwise_iff_getElem.1 hn i k (by omega) hk (by omega) e
  · unfold outT
    rw [List.any_eq_true]
    rintro ⟨t, ht, hb⟩
    obtain ⟨h0, h1⟩ := h t ht
    simp at hb
    omega
theorem change_list {n : Nat} {l : List Int} (h : ∀ t ∈ l, 0 ≤ t ∧ t < (n : Int)) (hn : l.Nodup) (wrong : Int) : changeT (nots n) l false wrong = rowBy n (fun x => decide ((x : Int) ∈ l)) := by
  unfold changeT
  rw [if_pos (ask_list h hn wrong)]
  refine List.ext_getElem (by rw [setT_len, nots_len, rowBy_len]) fun x h1 h2 => ?_
  have hx : x < n := by rw [rowBy_len] at h2; exact h2
  rw [← getElem!_pos _ x h1, ← getElem!_pos _ x h2, rowBy_get _ hx, setT_get _ l (nots n) (fun t ht => (h t ht).1) (by rw [nots_len]; exact hx), nots_get hx]
  by_cases e : (x : Int) ∈ l
  · rw [if_pos e, decide_eq_true e]; rfl
  · rw [if_neg e, decide_eq_false e]
/-- All blocked: no label. -/
theorem labs_none {G : Ground} (h : ∀ t, t < G.n → G.bl t = true) (k : Nat) (hk : k ≤ G.n) : rootN G.labs k = 0 := by
  unfold rootN
  rw [List.filter_eq_nil_iff.2]
  · rfl
  · intro j hj
    have hj := List.mem_range.1 hj
    have hjn : j < G.n := by omega
    rw [labs_get hjn]
    unfold Ground.labI
    rw [h j hjn]
    simp <;> omega
theorem root_none {g : Gd} (hg : grOk g = true) : rootN (labG g (rowBy (ntl g) fun _ => true)) (ntl g) = 0 := by
  have hn := grG_n hg (rowBy (ntl g) fun _ => true)
  refine labs_none (fun t ht => ?_) _ (by rw [hn]; exact Nat.le_refl _)
  rw [grG_bl hg, rowBy_get _ (by rw [← hn]; exact ht)]
/-- The tiles visited by the first k rounds from f on. -/
def vis (n f k x : Nat) : Bool := (List.range k).any fun i => decide ((i + f) % n = x)
theorem vis_zero (n f x : Nat) : vis n f 0 x = false := rfl
theorem vis_succ (n f k x : Nat) : vis n f (k + 1) x = (vis n f k x || decide ((k + f) % n = x)) := by
  unfold vis
  rw [List.range_succ, List.any_append]
  simp
theorem vis_new {n f k : Nat} (hk : k < n) : vis n f k ((k + f) % n) = false := by
  unfold vis
  rw [List.any_eq_false]
  intro i hi
  have hi := List.mem_range.1 hi
  simp only [decide_eq_true_eq]
  intro e
  have h1 := Nat.div_add_mod (i + f) n
  have h2 := Nat.div_add_mod (k + f) n
  rw [e] at h1
  have h3 : n * ((i + f) / n) + (k - i) = n * ((k + f) / n) := by omega
  have h4 : (i + f) / n < (k + f) / n ∨ (k + f) / n ≤ (i + f) / n := Nat.lt_or_ge _ _
  rcases h4 with h4 | h4
  · have := Nat.mul_le_mul_left n (show (i + f) / n + 1 ≤ (k + f) / n from h4)
    rw [Nat.mul_add] at this
    omega
  · have := Nat.mul_le_mul_left n h4
    omega
theorem vis_all {n f x : Nat} (hn : 0 < n) (hf : f < n) (hx : x < n) : vis n f n x = true := by
  unfold vis
  rw [List.any_eq_true]
  rcases Nat.lt_or_ge x f with h | h
  · refine ⟨x + n - f, List.mem_range.2 (by omega), ?_⟩
    rw [decide_eq_true_eq, show x + n - f + f = x + n by omega, Nat.add_mod_right, Nat.mod_eq_of_lt hx]
  · refine ⟨x - f, List.mem_range.2 (by omega), ?_⟩
    rw [decide_eq_true_eq, show x - f + f = x by omega, Nat.mod_eq_of_lt hx]
end Go.Proofs.YtklpemcchfmdjaaDoor
