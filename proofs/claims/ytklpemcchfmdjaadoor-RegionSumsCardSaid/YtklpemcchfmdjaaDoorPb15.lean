/-
  Of no program: sizes and counts of labels; tiles blocked and freed; a tile that is blocked cuts its own region alone.
-/
import Derived.Test.YtklpemcchfmdjaaDoorPa15
namespace Go.Proofs.YtklpemcchfmdjaaDoor
set_option linter.unusedSimpArgs false
set_option linter.unusedVariables false

/-! ### How often a label stands in a row. -/
def cntL (L : List Int) (x : Int) : Nat := (L.filter fun y => decide (y = x)).length
theorem cntL_take {L : List Int} {k : Nat} (hk : k < L.length) (x : Int) : cntL (L.take (k + 1)) x = cntL (L.take k) x + if L[k]! = x then 1 else 0 := by
  unfold cntL
  rw [List.take_succ_eq_append_getElem hk, List.filter_append, List.length_append, getElem!_pos L k hk]
  congr 1
  by_cases e : L[k] = x <;> simp [List.filter_cons, e]
theorem cntL_pos {L : List Int} {x : Int} : 0 < cntL L x ↔ x ∈ L := by
  unfold cntL
  rw [List.length_pos_iff_exists_mem]
  simp
/-- How many labels are their own tile's number, below k. -/
def rootN (L : List Int) (k : Nat) : Nat := ((List.range k).filter fun j : Nat => decide (L[j]! = (j : Int))).length
theorem rootN_succ (L : List Int) (k : Nat) : rootN L (k + 1) = rootN L k + if L[k]! = (k : Int) then 1 else 0 := by
  unfold rootN
  rw [List.range_succ, List.filter_append, List.length_append]
  congr 1
  by_cases e : L[k]! = (k : Int)
  · rw [List.filter_cons, if_pos (decide_eq_true e), if_pos e]; rfl
  · rw [List.filter_cons, if_neg (by rw [decide_eq_false e]; simp), if_neg e]; rfl
/-- How many labels are 0 to k - 1. -/
def lowN (L : List Int) (k : Int) : Nat := (L.filter fun y => decide (0 ≤ y) && decide (y < k)).length
theorem lowN_succ (L : List Int) (k : Nat) : lowN L ((k : Int) + 1) = lowN L k + cntL L k := by
  unfold lowN cntL
  induction L with
  | nil => rfl
  | cons a r ih =>
    rw [List.filter_cons, List.filter_cons, List.filter_cons]
    by_cases h1 : a = (k : Int)
    · subst h1
      rw [if_pos (by simp; omega), if_neg (by simp), if_pos (by simp), List.length_cons, List.length_cons, ih]
      omega
    · rw [if_neg (c := decide (a = (k : Int)) = true) (by simpa using h1)]
      by_cases h2 : 0 ≤ a ∧ a < (k : Int)
      · rw [if_pos (by simp; omega), if_pos (by simp; omega), List.length_cons, List.length_cons, ih]
        omega
      · rw [if_neg (by simp; omega), if_neg (by simp; omega), ih]
/-- What a label row is: each label is a tile's that bears it itself, none after its own tile. -/
structure Rooted (L : List Int) : Prop where
  lo : ∀ t, t < L.length → -1 ≤ L[t]! ∧ L[t]! ≤ (t : Int)
  root : ∀ t, t < L.length → 0 ≤ L[t]! → L[(L[t]!).toNat]! = L[t]!
theorem labs_rooted (G : Ground) : Rooted G.labs := by
  refine ⟨fun t ht => ?_, fun t ht h0 => ?_⟩
  · rw [labs_len] at ht
    rw [labs_get ht]
    unfold Ground.labI
    cases hb : G.bl t
    · have := lab_self (G := G) ⟨ht, hb⟩
      simp
      omega
    · simp only [if_pos]
      omega
  · rw [labs_len] at ht
    rw [labs_get ht] at h0 ⊢
    unfold Ground.labI at h0 ⊢
    cases hb : G.bl t
    · rw [hb] at h0
      have hf : G.fr t := ⟨ht, hb⟩
      have hl := lab_hang hf
      simp only [if_neg (Bool.false_ne_true), Bool.false_eq_true, if_false, Int.toNat_natCast]
      rw [labs_get hl.right.1, labI_free hl.right, lab_lab hf]
    · rw [hb] at h0
      simp at h0
/-- The first tile of a label is its own. -/
theorem first_root {L : List Int} (h : Rooted L) {j : Nat} (hj : j < L.length) (h0 : 0 ≤ L[j]!) : L[j]! ∈ L.take j ↔ L[j]! ≠ (j : Int) := by
  constructor
  · intro hm e
    obtain ⟨i, hi, he⟩ := List.getElem_of_mem hm
    rw [List.length_take] at hi
    rw [List.getElem_take] at he
    have := (h.lo i (by omega)).2
    rw [getElem!_pos L i (by omega), he, e] at this
    omega
  · intro hne
    have h1 := (h.lo j hj).2
    have h2 := h.root j hj h0
    have hi : (L[j]!).toNat < j := by omega
    rw [← h2]
    rw [getElem!_pos L _ (by omega)]
    rw [← List.getElem_take (j := j) (h := by rw [List.length_take]; omega)]
    exact List.getElem_mem _
theorem cntL_none {L : List Int} (h : Rooted L) {k : Nat} (hk : k < L.length) (hne : L[k]! ≠ (k : Int)) : cntL L k = 0 := by
  rcases Nat.eq_zero_or_pos (cntL L k) with e | e
  · exact e
  · exfalso
    obtain ⟨i, hi, he⟩ := List.getElem_of_mem (cntL_pos.1 e)
    have h2 := h.root i hi (by rw [getElem!_pos L i hi, he]; omega)
    rw [getElem!_pos L i hi, he, Int.toNat_natCast] at h2
    exact hne h2
/-- The sizes of all regions ahead of k together. -/
def sumR (L : List Int) : Nat → Nat
  | 0 => 0
  | k + 1 => sumR L k + if L[k]! = (k : Int) then cntL L k else 0
theorem sumR_low {L : List Int} (h : Rooted L) : ∀ k, k ≤ L.length → sumR L k = lowN L k
  | 0, _ => by
    unfold sumR lowN
    rw [List.filter_eq_nil_iff.2 (by simp)]
    rfl
  | k + 1, hk => by
    have := sumR_low h k (by omega)
    unfold sumR
    rw [this, Int.natCast_add, show ((1 : Nat) : Int) = 1 from rfl, lowN_succ]
    by_cases e : L[k]! = (k : Int)
    · rw [if_pos e]
    · rw [if_neg e, cntL_none h hk e]
/-- How many of a row's labels are no 'None', below k. -/
def freeN (L : List Int) (k : Nat) : Nat := ((L.take k).filter fun y => decide (0 ≤ y)).length
theorem free_low {L : List Int} (h : Rooted L) : lowN L L.length = freeN L L.length := by
  unfold lowN freeN
  rw [List.take_length]
  congr 1
  refine List.filter_congr fun x hx => ?_
  obtain ⟨i, hi, rfl⟩ := List.getElem_of_mem hx
  have := (h.lo i hi).2
  rw [getElem!_pos L i hi] at this
  have e : decide (L[i] < (L.length : Int)) = true := decide_eq_true (by omega)
  rw [e, Bool.and_true]
theorem freeN_succ {L : List Int} {k : Nat} (hk : k < L.length) : freeN L (k + 1) = freeN L k + if 0 ≤ L[k]! then 1 else 0 := by
  unfold freeN
  rw [List.take_succ_eq_append_getElem hk, List.filter_append, List.length_append, getElem!_pos L k hk]
  congr 1
  by_cases e : 0 ≤ L[k] <;> simp [List.filter_cons, e]

/-! ### Tiles blocked and freed. -/
def setT (v : Bool) (b : List Bool) (l : List Int) : List Bool := l.foldl (fun b t => b.set t.toNat v) b
theorem setT_len (v : Bool) (b : List Bool) (l : List Int) : (setT v b l).length = b.length := by
  unfold setT
  induction l generalizing b with
  | nil => rfl
  | cons t r ih => rw [List.foldl_cons, ih, List.length_set]
theorem setT_take {l : List Int} {k : Nat} (hk : k < l.length) (v : Bool) (b : List Bool) : setT v b (l.take (k + 1)) = (setT v b (l.take k)).set (l[k]!).toNat v := by
  rw [List.take_succ_eq_append_getElem hk, getElem!_pos l k hk]
  unfold setT
  rw [List.foldl_append]
  rfl
theorem setT_get (v : Bool) : ∀ (l : List Int) (b : List Bool), (∀ t ∈ l, 0 ≤ t) → ∀ {i : Nat}, i < b.length → (setT v b l)[i]! = if (i : Int) ∈ l then v else b[i]!
  | [], b, _, i, _ => by simp [setT]
  | t :: r, b, h, i, hi => by
    have := setT_get v r (b.set t.toNat v) (fun u hu => h u (List.mem_cons_of_mem _ hu)) (i := i) (by rw [List.length_set]; exact hi)
    unfold setT at this ⊢
    rw [List.foldl_cons, this]
    have ht := h t List.mem_cons_self
    by_cases h1 : (i : Int) ∈ r
    · rw [if_pos h1, if_pos (List.mem_cons_of_mem _ h1)]
    · rw [if_neg h1]
      rw [getElem!_pos _ i (by rw [List.length_set]; exact hi), List.getElem_set, getElem!_pos b i hi]
      by_cases h2 : t.toNat = i
      · rw [if_pos h2, if_pos (by rw [show (i : Int) = t by omega]; exact List.mem_cons_self)]
      · rw [if_neg h2, if_neg (by rw [List.mem_cons, not_or]; exact ⟨by omega, h1⟩)]
/-- The error of tiles that are to change: 1, if one is none; 'wrong', if one isn't so or is told twice; else 0. -/
def outT (n : Nat) (l : List Int) : Bool := l.any fun t => decide (t < 0) || decide ((n : Int) ≤ t)
def badT (b : List Bool) (now : Bool) (l : List Int) (i : Nat) : Bool := (b[(l[i]!).toNat]! != now) || decide (l[i]! ∈ l.take i)
def twiceT (b : List Bool) (now : Bool) (l : List Int) (k : Nat) : Bool := (List.range k).any (badT b now l)
theorem twiceT_succ (b : List Bool) (now : Bool) (l : List Int) (k : Nat) : twiceT b now l (k + 1) = (twiceT b now l k || badT b now l k) := by
  unfold twiceT
  rw [List.range_succ, List.any_append]
  simp
theorem twiceT_hit {b : List Bool} {now : Bool} {l : List Int} {k n : Nat} (hk : k < n) (h : badT b now l k = true) : twiceT b now l n = true := by
  unfold twiceT
  rw [List.any_eq_true]
  exact ⟨k, List.mem_range.2 hk, h⟩
def askT (b : List Bool) (l : List Int) (now : Bool) (wrong : Int) : Int := if outT b.length l then 1 else if twiceT b now l l.length then wrong else 0
def changeT (b : List Bool) (l : List Int) (now : Bool) (wrong : Int) : List Bool := if askT b l now wrong = 0 then setT (!now) b l else b

/-! ### A tile is blocked. -/
section
variable {G G' : Ground} {t k u : Nat}
/-- The ground with t blocked. -/
structure Cut (G G' : Ground) (t : Nat) : Prop where
  n : G'.n = G.n
  nx : G'.nx = G.nx
  bl : ∀ k, k < G.n → G'.bl k = (G.bl k || decide (k = t))
theorem Cut.fr (h : Cut G G' t) : G'.fr k ↔ G.fr k ∧ k ≠ t := by
  unfold Ground.fr
  rw [h.n]
  constructor
  · rintro ⟨h1, h2⟩
    rw [h.bl k h1, Bool.or_eq_false_iff, decide_eq_false_iff_not] at h2
    exact ⟨⟨h1, h2.1⟩, h2.2⟩
  · rintro ⟨⟨h1, h2⟩, h3⟩
    exact ⟨h1, by rw [h.bl k h1, h2, decide_eq_false h3]; rfl⟩
theorem Cut.down (h : Cut G G' t) (hh : Hang G' k u) : Hang G k u := by
  induction hh with
  | one a => exact .one ((h.fr).1 a).1
  | step a b _ ih => exact .step ((h.fr).1 a).1 (by rw [← h.nx]; exact b) ih
theorem Cut.up (h : Cut G G' t) (hh : Hang G k u) (hn : ¬ Hang G k t) : Hang G' k u := by
  induction hh with
  | one a => exact .one ((h.fr).2 ⟨a, fun e => hn (by rw [e] at a ⊢; exact .one a)⟩)
  | @step k q u a b c ih =>
    refine .step ((h.fr).2 ⟨a, fun e => hn (by rw [← e]; exact .one a)⟩) (by rw [h.nx]; exact b) (ih fun hq => hn ?_)
    exact .step a b hq
/-- Other regions keep their labels. -/
theorem Cut.lab (h : Cut G G' t) (hk : G.fr k) (hn : ¬ Hang G k t) : G'.lab k = G.lab k := by
  have h1 := h.up (lab_hang hk) hn
  have h2 := lab_le h1
  have h3 := lab_le (h.down (lab_hang h1.left))
  omega
end
end Go.Proofs.YtklpemcchfmdjaaDoor
