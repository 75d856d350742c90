/-
  Of no program: counts on tiles.
-/
import Derived.Test.YtklpemcchfmdjaaDoorPa14
namespace Go.Proofs.YtklpemcchfmdjaaDoor
set_option linter.unusedSimpArgs false
set_option linter.unusedVariables false

def bmp (d : Int) (c : List Int) (t : Int) : List Int := c.set t.toNat (c[t.toNat]! + d)
def upd (d : Int) (c : List Int) (l : List Int) : List Int := l.foldl (bmp d) c
theorem bmp_len (d : Int) (c : List Int) (t : Int) : (bmp d c t).length = c.length := by simp [bmp]
theorem upd_len (d : Int) (c l : List Int) : (upd d c l).length = c.length := by
  unfold upd
  induction l generalizing c with
  | nil => rfl
  | cons t r ih => rw [List.foldl_cons, ih, bmp_len]
theorem upd_take {l : List Int} {k : Nat} (hk : k < l.length) (d : Int) (c : List Int) : upd d c (l.take (k + 1)) = bmp d (upd d c (l.take k)) l[k]! := by
  rw [List.take_succ_eq_append_getElem hk, getElem!_pos l k hk]
  unfold upd
  rw [List.foldl_append]
  rfl
theorem bmp_get (d : Int) (c : List Int) {t : Int} (h0 : 0 ≤ t) {i : Nat} (hi : i < c.length) : (bmp d c t)[i]! = c[i]! + if (i : Int) = t then d else 0 := by
  rw [getElem!_pos _ i (by rw [bmp_len]; exact hi), getElem!_pos c i hi]
  unfold bmp
  rw [List.getElem_set]
  by_cases e : t.toNat = i
  · rw [if_pos e, if_pos (by omega)]
    subst e
    rw [getElem!_pos c t.toNat hi]
  · rw [if_neg e, if_neg (by omega)]
    omega
theorem upd_get (d : Int) {l : List Int} : ∀ (c : List Int), l.Nodup → (∀ t ∈ l, 0 ≤ t) → ∀ {i : Nat}, i < c.length → (upd d c l)[i]! = c[i]! + if (i : Int) ∈ l then d else 0 := by
  induction l with
  | nil => intro c _ _ i _; simp [upd]
  | cons t r ih =>
    intro c hn h0 i hi
    obtain ⟨h1, h2⟩ := List.nodup_cons.1 hn
    have := ih (bmp d c t) h2 (fun u hu => h0 u (List.mem_cons_of_mem _ hu)) (by rw [bmp_len]; exact hi)
    unfold upd at this ⊢
    rw [List.foldl_cons, this, bmp_get d c (h0 t List.mem_cons_self) hi]
    by_cases e : (i : Int) = t
    · have : ¬ (i : Int) ∈ r := by rw [e]; exact h1
      rw [if_pos e, if_neg this, if_pos (by rw [e]; exact List.mem_cons_self)]
      omega
    · rw [if_neg e]
      by_cases e2 : (i : Int) ∈ r
      · rw [if_pos e2, if_pos (List.mem_cons_of_mem _ e2)]; omega
      · rw [if_neg e2, if_neg (by simp [e, e2])]; omega
/-- A tile that stands later in the row has still its count. -/
theorem upd_before {l : List Int} {k : Nat} (hk : k < l.length) (hn : l.Nodup) (d : Int) {c : List Int} (h0 : ∀ t ∈ l, 0 ≤ t ∧ t.toNat < c.length) : (upd d c (l.take k))[l[k]!.toNat]! = c[l[k]!.toNat]! := by
  have hm : l[k]! ∈ l := by rw [getElem!_pos l k hk]; exact List.getElem_mem hk
  have := upd_get d (l := l.take k) c (hn.sublist (List.take_sublist _ _)) (fun t ht => (h0 t (List.mem_of_mem_take ht)).1) (h0 _ hm).2
  rw [this, if_neg, Int.add_zero]
  intro e
  have h1 : ((l[k]!.toNat : Nat) : Int) = l[k]! := by have := (h0 _ hm).1; omega
  rw [h1] at e
  obtain ⟨j, hj, he⟩ := List.getElem_of_mem e
  rw [List.length_take] at hj
  rw [List.getElem_take, getElem!_pos l k hk] at he
  have := (List.getElem_inj hn).1 he
  omega
/-- In memory: counts that are small. -/
def Bdd (c : List Int) (K : Int) : Prop := ∀ i, i < c.length → 0 ≤ c[i]! ∧ c[i]! ≤ K
theorem Bdd.mono {c : List Int} {K K' : Int} (h : Bdd c K) (hk : K ≤ K') : Bdd c K' := fun i hi => ⟨(h i hi).1, Int.le_trans (h i hi).2 hk⟩
theorem Bdd.up {c l : List Int} {K : Int} (h : Bdd c K) (hn : l.Nodup) (h0 : ∀ t ∈ l, 0 ≤ t) : Bdd (upd 1 c l) (K + 1) := fun i hi => by
  rw [upd_len] at hi
  rw [upd_get 1 c hn h0 hi]
  have := h i hi
  split <;> omega
theorem Bdd.down {c l : List Int} {K : Int} (h : Bdd c K) (hn : l.Nodup) (h0 : ∀ t ∈ l, 0 ≤ t) (hd : ∀ t ∈ l, c[t.toNat]! ≠ 0) : Bdd (upd (-1) c l) K := fun i hi => by
  rw [upd_len] at hi
  rw [upd_get (-1) c hn h0 hi]
  have := h i hi
  split
  · rename_i hm
    have := hd _ hm
    rw [Int.toNat_natCast] at this
    omega
  · omega
theorem Bdd.zero (n : Nat) : Bdd (List.replicate n 0) 0 := fun i hi => by
  rw [getElem!_pos _ i hi]; simp
def zs (n : Nat) : List Int := List.replicate n 0
theorem zs_len (n : Nat) : (zs n).length = n := by simp [zs]
theorem zs_get {n i : Nat} (hi : i < n) : (zs n)[i]! = 0 := by
  unfold zs
  rw [getElem!_pos _ i (by simpa using hi)]; simp
/-- Of these tiles those that are free. -/
def freeL (c l : List Int) : List Int := l.filter fun t => decide (c[t.toNat]! = 0)
def anyL (c l : List Int) : Bool := l.any fun t => decide (c[t.toNat]! = 0)
def blkK (c : List Int) (k : Nat) : List Int := ((List.range k).filter fun i : Nat => decide ((0 : Int) < c[i]!)).map fun t : Nat => (t : Int)
def blkL (c : List Int) : List Int := blkK c c.length
def allT (k : Nat) : List Int := (List.range k).map fun t : Nat => (t : Int)
theorem allT_succ (k : Nat) : allT (k + 1) = allT k ++ [(k : Int)] := by simp [allT, List.range_succ]
theorem allT_len (k : Nat) : (allT k).length = k := by simp [allT]
theorem allT_mem {k : Nat} {x : Int} : x ∈ allT k ↔ 0 ≤ x ∧ x < k := by
  unfold allT
  rw [List.mem_map]
  constructor
  · rintro ⟨t, ht, rfl⟩; rw [List.mem_range] at ht; omega
  · rintro ⟨h1, h2⟩; exact ⟨x.toNat, by rw [List.mem_range]; omega, by omega⟩
theorem blk_all (c : List Int) : blkL c = (allT c.length).filter fun t : Int => decide ((0 : Int) < c[t.toNat]!) := by
  unfold blkL blkK allT
  rw [List.filter_map]
  congr 1
theorem blkK_succ (c : List Int) (k : Nat) : blkK c (k + 1) = blkK c k ++ if (0 : Int) < c[k]! then [(k : Int)] else [] := by
  unfold blkK
  rw [List.range_succ, List.filter_append, List.map_append]
  congr 1
  by_cases h : (0 : Int) < c[k]!
  · rw [List.filter_cons, if_pos (decide_eq_true h), if_pos h]; rfl
  · rw [List.filter_cons, if_neg (by rw [decide_eq_false h]; simp), if_neg h]; rfl
theorem blkK_len (c : List Int) (k : Nat) : (blkK c k).length ≤ k := by
  unfold blkK
  rw [List.length_map]
  exact Nat.le_trans (List.length_filter_le _ _) (by simp)
theorem filter_take {l : List Int} {k : Nat} (hk : k < l.length) (f : Int → Bool) : (l.take (k + 1)).filter f = (l.take k).filter f ++ if f l[k]! = true then [l[k]!] else [] := by
  rw [List.take_succ_eq_append_getElem hk, List.filter_append, getElem!_pos l k hk]
  congr 1
  by_cases e : f l[k] = true <;> simp [List.filter_cons, e]
/-! ### Sums. -/
def sumL (c : List Int) : Int := c.foldr (· + ·) 0
theorem sumL_set : ∀ (c : List Int) (i : Nat) (x : Int), i < c.length → sumL (c.set i x) = sumL c - c[i]! + x
  | [], i, _, h => absurd h (Nat.not_lt_zero i)
  | a :: r, 0, x, _ => by simp [sumL]; omega
  | a :: r, i + 1, x, h => by
    have := sumL_set r i x (by simpa using h)
    simp only [sumL, List.set_cons_succ, List.foldr_cons, List.getElem!_cons_succ] at this ⊢
    omega
theorem sumL_upd (d : Int) : ∀ (l c : List Int), (∀ t ∈ l, t.toNat < c.length) → sumL (upd d c l) = sumL c + d * l.length
  | [], c, _ => by simp [upd]
  | t :: r, c, h => by
    have := sumL_upd d r (bmp d c t) (fun u hu => by rw [bmp_len]; exact h u (List.mem_cons_of_mem _ hu))
    unfold upd at this ⊢
    rw [List.foldl_cons, this]
    unfold bmp
    rw [sumL_set c _ _ (h t List.mem_cons_self), List.length_cons, Int.natCast_add, Int.mul_add]
    simp
    omega
theorem sumL_take {c : List Int} {k : Nat} (hk : k < c.length) : sumL (c.take (k + 1)) = sumL (c.take k) + c[k]! := by
  have hs : ∀ a b : List Int, sumL (a ++ b) = sumL a + sumL b := by
    intro a b
    induction a with
    | nil => simp [sumL]
    | cons x r ih => simp only [sumL, List.cons_append, List.foldr_cons] at ih ⊢; omega
  rw [List.take_succ_eq_append_getElem hk, hs, getElem!_pos c k hk]
  simp [sumL]
theorem sumL_zs (n : Nat) : sumL (zs n) = 0 := by
  unfold zs
  induction n with
  | zero => rfl
  | succ n ih => simp only [sumL, List.replicate_succ, List.foldr_cons] at ih ⊢; omega
def lensL (g : Gd) (B : List Bx4) : Int := sumL (B.map fun b => ((und g b).length : Int))
/-! ### How many boxes cover a tile. -/
def covN (g : Gd) (B : List Bx4) (i : Nat) : Int := ((B.filter fun b => decide ((i : Int) ∈ und g b)).length : Int)
theorem covN_nil (g : Gd) (i : Nat) : covN g [] i = 0 := rfl
theorem covN_cons (g : Gd) (b : Bx4) (B : List Bx4) (i : Nat) : covN g (b :: B) i = covN g B i + if (i : Int) ∈ und g b then 1 else 0 := by
  unfold covN
  rw [List.filter_cons]
  by_cases h : (i : Int) ∈ und g b
  · rw [if_pos (by simpa using h), if_pos h, List.length_cons]; omega
  · rw [if_neg (by simpa using h), if_neg h]; omega
theorem covN_app (g : Gd) (A B : List Bx4) (i : Nat) : covN g (A ++ B) i = covN g A i + covN g B i := by
  unfold covN
  rw [List.filter_append, List.length_append]; omega
theorem covN_pos (g : Gd) (B : List Bx4) (i : Nat) : 0 ≤ covN g B i := by unfold covN; omega
theorem covN_le (g : Gd) (B : List Bx4) (i : Nat) : covN g B i ≤ B.length := by
  unfold covN
  have := List.length_filter_le (fun b => decide ((i : Int) ∈ und g b)) B
  omega
/-- The counts when just these boxes stand there. -/
def Stand (g : Gd) (c : List Int) (B : List Bx4) : Prop := c.length = ntl g ∧ ∀ i, i < ntl g → c[i]! = covN g B i
theorem Stand.none (g : Gd) : Stand g (zs (ntl g)) [] := ⟨zs_len _, fun i hi => by rw [zs_get hi, covN_nil]⟩
theorem Stand.congr {g : Gd} {c : List Int} {A B : List Bx4} (h : Stand g c A) (he : ∀ i, covN g A i = covN g B i) : Stand g c B := ⟨h.1, fun i hi => by rw [h.2 i hi, he]⟩
theorem Stand.put {g : Gd} {c : List Int} {B : List Bx4} (h : Stand g c B) (b : Bx4) : Stand g (upd 1 c (und g b)) (b :: B) :=
  ⟨by rw [upd_len, h.1], fun i hi => by rw [upd_get 1 c (und_nodup g b) (fun t ht => (und_mem ht).1) (by rw [h.1]; exact hi), h.2 i hi, covN_cons]⟩
theorem Stand.drop {g : Gd} {c : List Int} {B : List Bx4} {b : Bx4} (h : Stand g c (b :: B)) : anyL c (und g b) = false ∧ Stand g (upd (-1) c (und g b)) B := by
  refine ⟨?_, by rw [upd_len, h.1], fun i hi => ?_⟩
  · unfold anyL
    rw [List.any_eq_false]
    intro t ht
    obtain ⟨h0, h1⟩ := und_mem ht
    have h5 := h.2 t.toNat (by omega)
    rw [covN_cons, if_pos (by rw [show ((t.toNat : Nat) : Int) = t by omega]; exact ht)] at h5
    have h6 := covN_pos g B t.toNat
    simp only [decide_eq_true_eq]
    omega
  · rw [upd_get (-1) c (und_nodup g b) (fun t ht => (und_mem ht).1) (by rw [h.1]; exact hi), h.2 i hi, covN_cons]
    split <;> omega
theorem Stand.bd {g : Gd} {c : List Int} {B : List Bx4} (h : Stand g c B) : Bdd c B.length := fun i hi => by
  rw [h.2 i (by rw [← h.1]; exact hi)]
  exact ⟨covN_pos _ _ _, covN_le _ _ _⟩
theorem Stand.free {g : Gd} {c : List Int} (h : Stand g c []) : blkL c = [] := by
  unfold blkL blkK
  rw [List.map_eq_nil_iff, List.filter_eq_nil_iff]
  intro i hi
  rw [List.mem_range, h.1] at hi
  rw [h.2 i hi, covN_nil]
  simp
/-- Boxes turned round by k. -/
def rotB (B : List Bx4) (k : Nat) : List Bx4 := B.drop k ++ B.take k
theorem rotB_len (B : List Bx4) (k : Nat) : (rotB B k).length = B.length := by
  unfold rotB
  rw [List.length_append, List.length_drop, List.length_take]; omega
theorem rotB_get {B : List Bx4} {k i : Nat} (hk : k < B.length) (hi : i < B.length) : (rotB B k)[i]! = B[(i + k) % B.length]! := by
  have hm : (i + k) % B.length < B.length := Nat.mod_lt _ (by omega)
  rw [getElem!_pos _ i (by rw [rotB_len]; exact hi), getElem!_pos B _ hm]
  unfold rotB
  rw [List.getElem_append]
  split
  · rename_i h
    rw [List.length_drop] at h
    rw [List.getElem_drop]
    congr 1
    rw [Nat.mod_eq_of_lt (by omega), Nat.add_comm]
  · rename_i h
    rw [List.length_drop] at h
    rw [List.getElem_take]
    congr 1
    rw [List.length_drop, Nat.mod_eq_sub_mod (by omega), Nat.mod_eq_of_lt (by omega)]
    omega
theorem rotB_cov (g : Gd) (B : List Bx4) (k i : Nat) : covN g (rotB B k) i = covN g B i := by
  unfold rotB
  rw [covN_app, Int.add_comm, ← covN_app, List.take_append_drop]
theorem drop_step {l : List Bx4} {j : Nat} (hj : j < l.length) : l.drop j = l[j]! :: l.drop (j + 1) := by
  rw [List.drop_eq_getElem_cons hj, getElem!_pos l j hj]
theorem covN_take (g : Gd) {B : List Bx4} {k : Nat} (hk : k < B.length) (i : Nat) : covN g (B[k]! :: B.take k) i = covN g (B.take (k + 1)) i := by
  rw [List.take_succ_eq_append_getElem hk, covN_app, covN_cons, getElem!_pos B k hk, covN_cons, covN_nil]
  omega
end Go.Proofs.YtklpemcchfmdjaaDoor
