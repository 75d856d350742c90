/-
  Of no program: a grid's tiles, which a box covers, counts on them.
-/
import Derived.Test.YtklpemcchfmdjaaDoorPb12
namespace Go.Proofs.YtklpemcchfmdjaaDoor
set_option linter.unusedSimpArgs false
set_option linter.unusedVariables false

structure Gd where
  w : Int
  h : Int
  s : Int
  x : Int
  y : Int
deriving DecidableEq
def grOk (g : Gd) : Bool := (decide (1 ≤ g.w) && decide (g.w ≤ 32)) && ((decide (1 ≤ g.h) && decide (g.h ≤ 32)) && ((decide (1 ≤ g.s) && decide (g.s ≤ 65536)) && ((decide (-1048576 ≤ g.x) && decide (g.x ≤ 1048576)) && (decide (-1048576 ≤ g.y) && decide (g.y ≤ 1048576)))))
theorem grOk_iff {g : Gd} : grOk g = true ↔ (1 ≤ g.w ∧ g.w ≤ 32) ∧ (1 ≤ g.h ∧ g.h ≤ 32) ∧ (1 ≤ g.s ∧ g.s ≤ 65536) ∧ (-1048576 ≤ g.x ∧ g.x ≤ 1048576) ∧ -1048576 ≤ g.y ∧ g.y ≤ 1048576 := by
  simp only [grOk, Bool.and_eq_true, decide_eq_true_eq]
def okX (b : Bx4) : Bool := (decide (-4194304 ≤ b.1) && decide (b.1 ≤ b.2.2.1) && decide (b.2.2.1 ≤ 4194304)) && (decide (-4194304 ≤ b.2.1) && decide (b.2.1 ≤ b.2.2.2) && decide (b.2.2.2 ≤ 4194304))
theorem okX_iff {b : Bx4} : okX b = true ↔ (-4194304 ≤ b.1 ∧ b.1 ≤ b.2.2.1 ∧ b.2.2.1 ≤ 4194304) ∧ -4194304 ≤ b.2.1 ∧ b.2.1 ≤ b.2.2.2 ∧ b.2.2.2 ≤ 4194304 := by
  simp only [okX, Bool.and_eq_true, decide_eq_true_eq, and_assoc]
def tlX (g : Gd) (t : Nat) : Int := g.x + (t : Int) % g.w * g.s
def tlY (g : Gd) (t : Nat) : Int := g.y + (t : Int) / g.w * g.s
def tlB (g : Gd) (t : Nat) : Bx4 := (tlX g t, tlY g t, tlX g t + g.s - 1, tlY g t + g.s - 1)
def hitT (g : Gd) (b : Bx4) (t : Nat) : Bool := meets4 (tlB g t) b
def ntl (g : Gd) : Nat := (g.w * g.h).toNat
def undK (g : Gd) (b : Bx4) (k : Nat) : List Int := ((List.range k).filter (hitT g b)).map fun t : Nat => (t : Int)
def und (g : Gd) (b : Bx4) : List Int := if grOk g && okX b then undK g b (ntl g) else []
def ptB (p : Int × Int) : Bx4 := (p.1, p.2, p.1, p.2)
def atG (g : Gd) (p : Int × Int) : Int := if grOk g then (undK g (ptB p) (ntl g)).headD (-1) else -1

theorem undK_succ (g : Gd) (b : Bx4) (k : Nat) : undK g b (k + 1) = undK g b k ++ if hitT g b k = true then [(k : Int)] else [] := by
  unfold undK
  rw [List.range_succ, List.filter_append, List.map_append]
  congr 1
  by_cases h : hitT g b k = true <;> simp [List.filter_cons, h]
theorem undK_yes {g : Gd} {b : Bx4} {k : Nat} (h : hitT g b k = true) : undK g b (k + 1) = undK g b k ++ [(k : Int)] := by rw [undK_succ, if_pos h]
theorem undK_no {g : Gd} {b : Bx4} {k : Nat} (h : hitT g b k = false) : undK g b (k + 1) = undK g b k := by rw [undK_succ, if_neg (by simp [h])]; simp
theorem undK_skip {g : Gd} {b : Bx4} {a c : Nat} (h : a ≤ c) (hn : ∀ t, a ≤ t → t < c → hitT g b t = false) : undK g b c = undK g b a := by
  induction c with
  | zero => obtain rfl : a = 0 := by omega
            rfl
  | succ c ih =>
    rcases Nat.lt_or_ge c a with h' | h'
    · obtain rfl : a = c + 1 := by omega
      rfl
    · rw [undK_no (hn c h' (Nat.lt_succ_self c))]
      exact ih h' fun t h1 h2 => hn t h1 (by omega)
theorem undK_pre {g : Gd} {b : Bx4} {a c : Nat} (h : a ≤ c) : ∃ r, undK g b c = undK g b a ++ r := by
  induction c with
  | zero => exact ⟨[], by obtain rfl : a = 0 := by omega
                          simp⟩
  | succ c ih =>
    rcases Nat.lt_or_ge c a with h' | h'
    · obtain rfl : a = c + 1 := by omega
      exact ⟨[], by simp⟩
    · obtain ⟨r, hr⟩ := ih h'
      exact ⟨r ++ _, by rw [undK_succ, hr, List.append_assoc]⟩
theorem mem_undK {g : Gd} {b : Bx4} {k : Nat} {x : Int} : x ∈ undK g b k ↔ 0 ≤ x ∧ x < k ∧ hitT g b x.toNat = true := by
  unfold undK
  rw [List.mem_map]
  constructor
  · rintro ⟨t, ht, rfl⟩
    rw [List.mem_filter, List.mem_range] at ht
    exact ⟨by omega, by omega, by simpa using ht.2⟩
  · rintro ⟨h1, h2, h3⟩
    exact ⟨x.toNat, by rw [List.mem_filter, List.mem_range]; exact ⟨by omega, h3⟩, by omega⟩
theorem undK_nodup (g : Gd) (b : Bx4) (k : Nat) : (undK g b k).Nodup := by
  unfold undK
  exact List.Pairwise.map _ (fun a c h e => h (by have e2 : (a : Int) = (c : Int) := e; omega)) (List.Pairwise.filter _ List.nodup_range)
theorem undK_len (g : Gd) (b : Bx4) (k : Nat) : (undK g b k).length ≤ k := by
  unfold undK
  rw [List.length_map]
  exact Nat.le_trans (List.length_filter_le _ _) (by simp)
theorem undK_one {g : Gd} {b : Bx4} {n t : Nat} (ht : t < n) (h : ∀ u, u < n → (hitT g b u = true ↔ u = t)) : undK g b n = [(t : Int)] := by
  have h0 : undK g b t = [] := by
    have := undK_skip (g := g) (b := b) (Nat.zero_le t) (fun u _ hu => by
      have := h u (by omega)
      cases hh : hitT g b u
      · rfl
      · have := this.1 hh; omega)
    rw [this]; rfl
  have h1 := undK_yes ((h t ht).2 rfl)
  have h2 := undK_skip (g := g) (b := b) (show t + 1 ≤ n by omega) (fun u h1 hu => by
      have := h u hu
      cases hh : hitT g b u
      · rfl
      · have := this.1 hh; omega)
  rw [h2, h1, h0]; rfl
theorem ntl_cast {g : Gd} (h : grOk g = true) : ((ntl g : Nat) : Int) = g.w * g.h ∧ ntl g ≤ 1024 ∧ 1 ≤ ntl g := by
  have k := grOk_iff.1 h
  have h1 : 0 < g.w * g.h := Int.mul_pos (by omega) (by omega)
  have h2 : g.w * g.h ≤ 32 * g.h := Int.mul_le_mul_of_nonneg_right k.1.2 (by omega)
  unfold ntl
  omega

/-! ### Rows and columns. -/
def seg (low high at_ size c : Int) : Prop := low ≤ at_ + c * size + size - 1 ∧ at_ + c * size ≤ high
theorem hit_seg (g : Gd) (b : Bx4) (t : Nat) : hitT g b t = true ↔ seg b.1 b.2.2.1 g.x g.s ((t : Int) % g.w) ∧ seg b.2.1 b.2.2.2 g.y g.s ((t : Int) / g.w) := by
  unfold hitT meets4 tlB tlX tlY seg
  simp only [Bool.not_eq_true', Bool.or_eq_false_iff, decide_eq_false_iff_not]
  omega
theorem mod_rc {W : Nat} {r c : Nat} (hc : c < W) : (r * W + c) % W = c ∧ (r * W + c) / W = r := by
  refine ⟨by rw [Nat.mul_comm, Nat.mul_add_mod, Nat.mod_eq_of_lt hc], ?_⟩
  rw [Nat.mul_comm, Nat.mul_add_div (by omega), Nat.div_eq_of_lt hc, Nat.add_zero]
/-- The first and the last that a box covers, in a line. -/
def covI (low high at_ size n : Int) : Int × Int := if max low at_ > min high (at_ + n * size - 1) then (0, -1) else ((max low at_ - at_) / size, (min high (at_ + n * size - 1) - at_) / size)
theorem mul_line {c n s : Int} (hs : 1 ≤ s) (h0 : 0 ≤ c) (hc : c < n) : 0 ≤ c * s ∧ c * s + s ≤ n * s := by
  have h1 := Int.mul_nonneg h0 (show 0 ≤ s by omega)
  have h2 := Int.mul_le_mul_of_nonneg_right (show c + 1 ≤ n by omega) (show 0 ≤ s by omega)
  rw [Int.add_mul] at h2
  omega
theorem cov_nat {low high at_ size : Int} {n : Nat} (hs : 1 ≤ size) (hn : 1 ≤ n) (hl : low ≤ high) :
    ∃ f l : Nat, covI low high at_ size n = ((f : Int), (l : Int) - 1) ∧ f ≤ l ∧ l ≤ n ∧ ∀ c : Nat, c < n → (seg low high at_ size c ↔ f ≤ c ∧ c < l) := by
  have hN : size ≤ (n : Int) * size := by
    have := mul_line (c := 0) (n := n) hs (by omega) (by omega)
    omega
  unfold covI
  by_cases h : max low at_ > min high (at_ + n * size - 1)
  · rw [if_pos h]
    refine ⟨0, 0, by simp, by omega, by omega, fun c hc => ?_⟩
    have hm := mul_line (c := c) (n := n) hs (by omega) (by omega)
    unfold seg
    generalize (n : Int) * size = N at *
    generalize (c : Int) * size = m at *
    constructor
    · intro h1; exfalso; omega
    · omega
  · rw [if_neg h]
    have h1 : 0 ≤ (max low at_ - at_) / size := Int.ediv_nonneg (by omega) (by omega)
    have h2 : (max low at_ - at_) / size ≤ (min high (at_ + n * size - 1) - at_) / size := Int.ediv_le_ediv (by omega) (by omega)
    have h3 : (min high (at_ + n * size - 1) - at_) / size < n := (Int.ediv_lt_iff_lt_mul (by omega)).2 (by omega)
    refine ⟨((max low at_ - at_) / size).toNat, ((min high (at_ + n * size - 1) - at_) / size).toNat + 1, ?_, by omega, by omega, fun c hc => ?_⟩
    · rw [Prod.mk.injEq]; constructor <;> omega
    · have hm := mul_line (c := c) (n := n) hs (by omega) (by omega)
      have e1 : (max low at_ - at_) / size < (c : Int) + 1 ↔ max low at_ - at_ < ((c : Int) + 1) * size := Int.ediv_lt_iff_lt_mul (by omega)
      have e2 : (c : Int) ≤ (min high (at_ + n * size - 1) - at_) / size ↔ (c : Int) * size ≤ min high (at_ + n * size - 1) - at_ := Int.le_ediv_iff_mul_le (by omega)
      rw [Int.add_mul, Int.one_mul] at e1
      unfold seg
      generalize (max low at_ - at_) / size = A at *
      generalize (min high (at_ + n * size - 1) - at_) / size = B at *
      generalize (n : Int) * size = N at *
      generalize (c : Int) * size = m at *
      constructor
      · intro k
        have k1 := e1.2 (by omega)
        have k2 := e2.2 (by omega)
        omega
      · intro k
        have k1 := e1.1 (by omega)
        have k2 := e2.1 (by omega)
        omega
/-- The tiles that a box covers, row by row: columns f to l - 1 of rows p to q - 1. -/
structure Cov (g : Gd) (b : Bx4) (W H f l p q : Nat) : Prop where
  hw : g.w = W
  hh : g.h = H
  w1 : 1 ≤ W ∧ W ≤ 32
  h1 : 1 ≤ H ∧ H ≤ 32
  fl : f ≤ l ∧ l ≤ W
  pq : p ≤ q ∧ q ≤ H
  cx : covI b.1 b.2.2.1 g.x g.s W = ((f : Int), (l : Int) - 1)
  cy : covI b.2.1 b.2.2.2 g.y g.s H = ((p : Int), (q : Int) - 1)
  hit : ∀ r c, r < H → c < W → (hitT g b (r * W + c) = true ↔ (f ≤ c ∧ c < l) ∧ p ≤ r ∧ r < q)
theorem cov_of {g : Gd} {b : Bx4} (hg : grOk g = true) (hb : okX b = true) : ∃ W H f l p q, Cov g b W H f l p q := by
  have k := grOk_iff.1 hg
  have m := okX_iff.1 hb
  obtain ⟨W, hW⟩ : ∃ W : Nat, g.w = W := ⟨g.w.toNat, by omega⟩
  obtain ⟨H, hH⟩ : ∃ H : Nat, g.h = H := ⟨g.h.toNat, by omega⟩
  obtain ⟨f, l, c1, c2, c3, c4⟩ := cov_nat (low := b.1) (high := b.2.2.1) (at_ := g.x) (size := g.s) (n := W) (by omega) (by omega) (by omega)
  obtain ⟨p, q, d1, d2, d3, d4⟩ := cov_nat (low := b.2.1) (high := b.2.2.2) (at_ := g.y) (size := g.s) (n := H) (by omega) (by omega) (by omega)
  refine ⟨W, H, f, l, p, q, hW, hH, by omega, by omega, ⟨c2, c3⟩, ⟨d2, d3⟩, c1, d1, fun r c hr hc => ?_⟩
  obtain ⟨e1, e2⟩ := mod_rc (r := r) hc
  rw [hit_seg, hW, show ((r * W + c : Nat) : Int) % (W : Int) = (c : Int) from by rw [← Int.natCast_emod, e1], show ((r * W + c : Nat) : Int) / (W : Int) = (r : Int) from by rw [← Int.natCast_ediv, e2], c4 c hc, d4 r hr]
section
variable {g : Gd} {b : Bx4} {W H f l p q : Nat}
theorem Cov.n (h : Cov g b W H f l p q) : ntl g = H * W := by
  unfold ntl
  rw [h.hw, h.hh, ← Int.natCast_mul, Int.toNat_natCast, Nat.mul_comm]
theorem Cov.nohit (h : Cov g b W H f l p q) {t : Nat} (ht : t < H * W) (hn : ¬ ((f ≤ t % W ∧ t % W < l) ∧ p ≤ t / W ∧ t / W < q)) : hitT g b t = false := by
  have hW := h.w1.1
  have e : t / W * W + t % W = t := by rw [Nat.mul_comm]; exact Nat.div_add_mod t W
  have := h.hit (t / W) (t % W) (Nat.div_lt_of_lt_mul (by rw [Nat.mul_comm]; exact ht)) (Nat.mod_lt _ (by omega))
  rw [e] at this
  cases hh : hitT g b t
  · rfl
  · exact absurd (this.1 hh) hn
theorem row_le {r W H : Nat} (hr : r < H) : r * W + W ≤ H * W := by
  have := Nat.mul_le_mul_right W (show r + 1 ≤ H by omega)
  rw [Nat.add_mul] at this
  omega
theorem Cov.begin (h : Cov g b W H f l p q) : undK g b (p * W) = [] := by
  have e : undK g b 0 = [] := rfl
  rw [← e]
  refine undK_skip (Nat.zero_le _) fun t _ ht => h.nohit (Nat.lt_of_lt_of_le ht (Nat.mul_le_mul_right W (by have := h.pq; omega))) fun k => ?_
  have : t / W < p := Nat.div_lt_of_lt_mul (by rw [Nat.mul_comm]; exact ht)
  omega
theorem Cov.finish (h : Cov g b W H f l p q) : undK g b (q * W) = undK g b (ntl g) := by
  rw [h.n]
  refine (undK_skip (Nat.mul_le_mul_right W h.pq.2) fun t h1 ht => h.nohit ht fun k => ?_).symm
  have : q ≤ t / W := (Nat.le_div_iff_mul_le (by have := h.w1; omega)).2 h1
  omega
theorem Cov.left (h : Cov g b W H f l p q) {r : Nat} (hr : r < q) : undK g b (r * W + f) = undK g b (r * W) := by
  have hrH : r < H := by have := h.pq; omega
  have := row_le (W := W) hrH
  have h3 := h.fl
  refine undK_skip (by omega) fun t h1 ht => h.nohit (by omega) fun k => ?_
  obtain ⟨u, rfl⟩ : ∃ u, t = r * W + u := ⟨t - r * W, by omega⟩
  rw [(mod_rc (r := r) (show u < W by omega)).1] at k
  omega
theorem Cov.right (h : Cov g b W H f l p q) {r : Nat} (hr : r < q) : undK g b ((r + 1) * W) = undK g b (r * W + l) := by
  have hrH : r < H := by have := h.pq; omega
  have := row_le (W := W) hrH
  have h3 := h.fl
  rw [Nat.add_mul, Nat.one_mul]
  refine undK_skip (by omega) fun t h1 ht => h.nohit (by omega) fun k => ?_
  obtain ⟨u, rfl⟩ : ∃ u, t = r * W + u := ⟨t - r * W, by omega⟩
  rw [(mod_rc (r := r) (show u < W by omega)).1] at k
  omega
theorem Cov.step (h : Cov g b W H f l p q) {r c : Nat} (hr : p ≤ r ∧ r < q) (hc : f ≤ c ∧ c < l) : undK g b (r * W + (c + 1)) = undK g b (r * W + c) ++ [((r * W + c : Nat) : Int)] := by
  have h3 := h.fl
  have h4 := h.pq
  exact undK_yes ((h.hit r c (by omega) (by omega)).2 ⟨hc, hr⟩)
end

/-! ### A tile's own points. -/
theorem tl_line {g : Gd} (h : grOk g = true) {t : Nat} (ht : t < ntl g) : (0 ≤ (t : Int) % g.w ∧ (t : Int) % g.w < g.w) ∧ 0 ≤ (t : Int) / g.w ∧ (t : Int) / g.w < g.h := by
  have k := grOk_iff.1 h
  have n := ntl_cast h
  refine ⟨⟨Int.emod_nonneg _ (by omega), Int.emod_lt_of_pos _ (by omega)⟩, Int.ediv_nonneg (by omega) (by omega), (Int.ediv_lt_iff_lt_mul (by omega)).2 ?_⟩
  rw [Int.mul_comm, ← n.1]
  omega
theorem tl_bd {g : Gd} (h : grOk g = true) {t : Nat} (ht : t < ntl g) : ((0 ≤ (t : Int) % g.w * g.s ∧ (t : Int) % g.w * g.s ≤ 2031616) ∧ 0 ≤ (t : Int) / g.w * g.s ∧ (t : Int) / g.w * g.s ≤ 2031616) ∧ (-1048576 ≤ tlX g t ∧ tlX g t ≤ 3080192) ∧ -1048576 ≤ tlY g t ∧ tlY g t ≤ 3080192 := by
  have k := grOk_iff.1 h
  obtain ⟨⟨a1, a2⟩, a3, a4⟩ := tl_line h ht
  have hb : ∀ c : Int, 0 ≤ c → c ≤ 31 → 0 ≤ c * g.s ∧ c * g.s ≤ 2031616 := fun c h0 h1 => by
    have e1 := Int.mul_nonneg h0 (show 0 ≤ g.s by omega)
    have e2 := Int.mul_le_mul_of_nonneg_right h1 (show 0 ≤ g.s by omega)
    omega
  have b1 := hb _ a1 (by omega)
  have b2 := hb _ a3 (by omega)
  unfold tlX tlY
  omega
theorem okX_tl {g : Gd} (h : grOk g = true) {t : Nat} (ht : t < ntl g) : okX (tlB g t) = true := by
  have k := grOk_iff.1 h
  have m := tl_bd h ht
  rw [okX_iff]
  unfold tlB
  dsimp only
  omega
theorem seg_own {low high at_ s c d : Int} (hs : 1 ≤ s) (h1 : at_ + c * s ≤ low) (h2 : high ≤ at_ + c * s + s - 1) (h3 : low ≤ high) : seg low high at_ s d ↔ d = c := by
  unfold seg
  constructor
  · intro k
    rcases Int.lt_trichotomy d c with e | e | e
    · have := Int.mul_le_mul_of_nonneg_right (show d + 1 ≤ c by omega) (show 0 ≤ s by omega)
      rw [Int.add_mul] at this
      omega
    · exact e
    · have := Int.mul_le_mul_of_nonneg_right (show c + 1 ≤ d by omega) (show 0 ≤ s by omega)
      rw [Int.add_mul] at this
      omega
  · rintro rfl
    omega
theorem hit_own {g : Gd} (h : grOk g = true) {t : Nat} {b : Bx4} (h1 : tlX g t ≤ b.1 ∧ b.1 ≤ b.2.2.1 ∧ b.2.2.1 ≤ tlX g t + g.s - 1) (h2 : tlY g t ≤ b.2.1 ∧ b.2.1 ≤ b.2.2.2 ∧ b.2.2.2 ≤ tlY g t + g.s - 1) (u : Nat) : hitT g b u = true ↔ u = t := by
  have k := grOk_iff.1 h
  unfold tlX at h1
  unfold tlY at h2
  rw [hit_seg, seg_own (c := (t : Int) % g.w) (by omega) h1.1 h1.2.2 h1.2.1, seg_own (c := (t : Int) / g.w) (by omega) h2.1 h2.2.2 h2.2.1]
  constructor
  · rintro ⟨e1, e2⟩
    have a := Int.emod_add_ediv_mul (u : Int) g.w
    have b := Int.emod_add_ediv_mul (t : Int) g.w
    rw [e1, e2] at a
    omega
  · rintro rfl
    exact ⟨rfl, rfl⟩
/-- All of a tile's own points cover it alone. -/
theorem undK_own {g : Gd} (h : grOk g = true) {t : Nat} (ht : t < ntl g) {b : Bx4} (h1 : tlX g t ≤ b.1 ∧ b.1 ≤ b.2.2.1 ∧ b.2.2.1 ≤ tlX g t + g.s - 1) (h2 : tlY g t ≤ b.2.1 ∧ b.2.1 ≤ b.2.2.2 ∧ b.2.2.2 ≤ tlY g t + g.s - 1) : undK g b (ntl g) = [(t : Int)] :=
  undK_one ht fun u _ => hit_own h h1 h2 u
theorem at_own {g : Gd} (h : grOk g = true) {t : Nat} (ht : t < ntl g) {p : Int × Int} (h1 : tlX g t ≤ p.1 ∧ p.1 ≤ tlX g t + g.s - 1) (h2 : tlY g t ≤ p.2 ∧ p.2 ≤ tlY g t + g.s - 1) : atG g p = t := by
  unfold atG
  rw [if_pos h, undK_own (b := ptB p) h ht (by unfold ptB; dsimp only; omega) (by unfold ptB; dsimp only; omega)]
  rfl
theorem at_before {g : Gd} (h : grOk g = true) {t : Nat} (ht : t < ntl g) : atG g (tlX g t - 1, tlY g t) ≠ t := by
  unfold atG
  rw [if_pos h]
  intro e
  have hm : (t : Int) ∈ undK g (ptB (tlX g t - 1, tlY g t)) (ntl g) := by
    cases hq : undK g (ptB (tlX g t - 1, tlY g t)) (ntl g) with
    | nil => rw [hq] at e; exact absurd e (by simp)
    | cons a r => rw [hq] at e; simp at e; rw [e]; exact List.mem_cons_self
  have := (mem_undK.1 hm).2.2
  rw [Int.toNat_natCast] at this
  unfold hitT meets4 tlB ptB at this
  simp only [Bool.not_eq_true', Bool.or_eq_false_iff, decide_eq_false_iff_not] at this
  omega
theorem und_tl {g : Gd} (h : grOk g = true) {t : Nat} (ht : t < ntl g) : und g (tlB g t) = [(t : Int)] := by
  have k := grOk_iff.1 h
  unfold und
  rw [h, okX_tl h ht]
  exact undK_own h ht (by unfold tlB; dsimp only; omega) (by unfold tlB; dsimp only; omega)
/-- A point that a tile has makes a right box. -/
theorem pt_ok {g : Gd} (h : grOk g = true) {p : Int × Int} {t : Nat} (ht : t < ntl g) (hh : hitT g (ptB p) t = true) : okX (ptB p) = true := by
  have k := grOk_iff.1 h
  have m := tl_bd h ht
  unfold hitT meets4 tlB ptB at hh
  simp only [Bool.not_eq_true', Bool.or_eq_false_iff, decide_eq_false_iff_not] at hh
  rw [okX_iff]
  unfold ptB
  dsimp only
  omega
theorem at_und (g : Gd) (p : Int × Int) : atG g p = (und g (ptB p)).headD (-1) := by
  unfold atG und
  cases hg : grOk g
  · simp
  · cases hb : okX (ptB p)
    · have e : undK g (ptB p) 0 = [] := rfl
      rw [undK_skip (a := 0) (Nat.zero_le _) (fun t _ ht => by
        cases hh : hitT g (ptB p) t
        · rfl
        · rw [pt_ok hg ht hh] at hb; cases hb), e]
      simp
    · simp
theorem at_pos (g : Gd) (p : Int × Int) : 0 ≤ atG g p ↔ und g (ptB p) ≠ [] := by
  rw [at_und]
  cases hq : und g (ptB p) with
  | nil => simp
  | cons a r =>
    have hm : a ∈ und g (ptB p) := by rw [hq]; exact List.mem_cons_self
    unfold und at hm
    split at hm
    · have := (mem_undK.1 hm).1
      simp [this]
    · cases hm
theorem und_mem {g : Gd} {b : Bx4} {x : Int} (h : x ∈ und g b) : 0 ≤ x ∧ x < ntl g := by
  unfold und at h
  split at h
  · have := mem_undK.1 h; exact ⟨this.1, this.2.1⟩
  · cases h
theorem und_nodup (g : Gd) (b : Bx4) : (und g b).Nodup := by
  unfold und
  split
  · exact undK_nodup _ _ _
  · exact List.nodup_nil
theorem und_len (g : Gd) (b : Bx4) : (und g b).length ≤ ntl g := by
  unfold und
  split
  · exact undK_len _ _ _
  · exact Nat.zero_le _
theorem und_off {g : Gd} {b : Bx4} (h : (grOk g && okX b) = false) : und g b = [] := by unfold und; rw [h]; rfl
end Go.Proofs.YtklpemcchfmdjaaDoor
