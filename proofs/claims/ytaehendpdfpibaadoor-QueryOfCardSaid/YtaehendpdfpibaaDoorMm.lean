/-
  Pure: masks as numbers and as rows of 64 yes and no; kinds set one after another; the number of a row; the bits of a number; how many they are.
-/
import Derived.WalkKit
import Derived.Lib.TrailingZeros
namespace Go.Proofs.YtaehendpdfpibaaDoor
set_option linter.unusedSimpArgs false
set_option linter.unusedVariables false

theorem lt64 {n i : Nat} (h : n < 18446744073709551616) (hi : 64 ≤ i) : n.testBit i = false := Nat.testBit_lt_two_pow (Nat.lt_of_lt_of_le h (by
  have : 2 ^ 64 ≤ 2 ^ i := Nat.pow_le_pow_right (by decide) hi
  omega))
theorem tb_ext {a b : Nat} (ha : a < 18446744073709551616) (hb : b < 18446744073709551616) (h : ∀ i, i < 64 → a.testBit i = b.testBit i) : a = b := Nat.eq_of_testBit_eq fun i => by
  rcases Nat.lt_or_ge i 64 with hi | hi
  · exact h i hi
  · rw [lt64 ha hi, lt64 hb hi]
theorem pow64 {k : Nat} (hk : k < 64) : 2 ^ k < 18446744073709551616 := by
  have : 2 ^ k < 2 ^ 64 := Nat.pow_lt_pow_right (by decide) hk
  omega

/-- One kind put to a mask, or taken away. -/
def opN (on : Bool) (m k : Nat) : Nat := if on then m ||| 2 ^ k else m &&& (18446744073709551615 - 2 ^ k)
theorem opN_lt (on : Bool) {m k : Nat} (hm : m < 18446744073709551616) (hk : k < 64) : opN on m k < 18446744073709551616 := by
  have h1 : m < 2 ^ 64 := by omega
  have h2 : 2 ^ k < 2 ^ 64 := by have := pow64 hk; omega
  cases on
  · have : m &&& (18446744073709551615 - 2 ^ k) < 2 ^ 64 := Nat.and_lt_two_pow _ (Nat.lt_of_le_of_lt (Nat.sub_le _ _) (by decide))
    unfold opN; simp; omega
  · have : m ||| 2 ^ k < 2 ^ 64 := Nat.or_lt_two_pow h1 h2
    unfold opN; simp; omega
theorem opN_bit (on : Bool) {m k : Nat} (hm : m < 18446744073709551616) (hk : k < 64) (i : Nat) : (opN on m k).testBit i = if i = k then on else m.testBit i := by
  have h2 : 2 ^ k < 2 ^ 64 := by have := pow64 hk; omega
  cases on
  · unfold opN
    simp only [Bool.false_eq_true, if_false]
    rw [Nat.testBit_and, show 18446744073709551615 - 2 ^ k = 2 ^ 64 - (2 ^ k + 1) by omega, Nat.testBit_two_pow_sub_succ h2, Nat.testBit_two_pow]
    by_cases h : i = k
    · subst h; simp
    · have h' : ¬ k = i := fun e => h e.symm
      rw [if_neg h]
      rcases Nat.lt_or_ge i 64 with hi | hi
      · simp [hi, h']
      · simp [lt64 hm hi]
  · unfold opN
    simp only [if_true]
    rw [Nat.testBit_or, Nat.testBit_two_pow]
    by_cases h : i = k
    · subst h; simp
    · have h' : ¬ k = i := fun e => h e.symm
      simp [h, h']

def kindB (k : Int) : Bool := decide (0 ≤ k) && decide (k < 10)
theorem kindB_iff (k : Int) : kindB k = true ↔ 0 ≤ k ∧ k < 10 := by simp [kindB]
def foldN (on : Bool) (m : Nat) (ks : List Int) : Nat := ks.foldl (fun m k => opN on m k.toNat) m
def putF (on : Bool) (f : Nat → Bool) (k : Nat) : Nat → Bool := fun i => if i = k then on else f i
def foldF (on : Bool) (f : Nat → Bool) (ks : List Int) : Nat → Bool := ks.foldl (fun f k => putF on f k.toNat) f
theorem fold_both (on : Bool) : ∀ (ks : List Int) (m : Nat) (f : Nat → Bool), m < 18446744073709551616 → (∀ i, m.testBit i = f i) → (∀ k ∈ ks, kindB k = true) → foldN on m ks < 18446744073709551616 ∧ ∀ i, (foldN on m ks).testBit i = foldF on f ks i
  | [], m, f, hm, hf, _ => ⟨hm, hf⟩
  | k :: r, m, f, hm, hf, hk => by
    have h0 := (kindB_iff k).1 (hk k (by simp))
    have hk64 : k.toNat < 64 := by omega
    exact fold_both on r _ _ (opN_lt on hm hk64) (fun i => by rw [opN_bit on hm hk64]; unfold putF; rw [hf]) (fun x hx => hk x (by simp [hx]))
theorem foldN_snoc (on : Bool) (m : Nat) (l : List Int) (k : Int) : foldN on m (l ++ [k]) = opN on (foldN on m l) k.toNat := by simp [foldN]
theorem foldF_snoc (on : Bool) (f : Nat → Bool) (l : List Int) (k : Int) : foldF on f (l ++ [k]) = putF on (foldF on f l) k.toNat := by simp [foldF]
theorem foldN_lt (on : Bool) (m : Nat) (l : List Int) (hm : m < 18446744073709551616) (hk : ∀ k ∈ l, kindB k = true) : foldN on m l < 18446744073709551616 := (fold_both on l m (fun i => m.testBit i) hm (fun _ => rfl) hk).1

/-! ### The number of a row, from its highest place down. -/
def valN (f : Nat → Bool) : Nat → Nat
  | 0 => 0
  | t + 1 => 2 * valN f t + (f (63 - t)).toNat
theorem valN_succ (f : Nat → Bool) (t : Nat) : valN f (t + 1) = 2 * valN f t + (f (63 - t)).toNat := rfl
theorem valN_bit (f : Nat → Bool) : ∀ t, t ≤ 64 → ∀ i, (valN f t).testBit i = (decide (i < t) && f (64 - t + i))
  | 0, _, i => by simp [valN]
  | t + 1, ht, i => by
    have ih := valN_bit f t (by omega)
    cases i with
    | zero =>
      have e : 64 - (t + 1) + 0 = 63 - t := by omega
      rw [e]
      rw [valN_succ]
      cases h : f (63 - t) <;> simp [Nat.testBit_zero] <;> omega
    | succ i =>
      have e : 64 - (t + 1) + (i + 1) = 64 - t + i := by omega
      rw [e, Nat.testBit_succ]
      have h2 : valN f (t + 1) / 2 = valN f t := by
        rw [valN_succ]
        have := Bool.toNat_le (f (63 - t))
        omega
      rw [h2, ih]
      simp
theorem valN_lt (f : Nat → Bool) : ∀ t, valN f t < 2 ^ t
  | 0 => by simp [valN]
  | t + 1 => by
    have := valN_lt f t
    have h := Bool.toNat_le (f (63 - t))
    rw [Nat.pow_succ, valN_succ]
    omega
theorem valN_full (f : Nat → Bool) (i : Nat) (hi : i < 64) : (valN f 64).testBit i = f i := by rw [valN_bit f 64 (by omega)]; simp [hi]
theorem valN_of {m : Nat} {f : Nat → Bool} (hm : m < 18446744073709551616) (h : ∀ i, i < 64 → m.testBit i = f i) : valN f 64 = m := tb_ext (by have := valN_lt f 64; omega) hm fun i hi => by rw [valN_full f i hi, h i hi]

/-! ### The places of the bits that are set. -/
def bitsOf (f : Nat → Bool) : List Nat := (List.range 64).filter f
def kindsOf (f : Nat → Bool) : List Int := (bitsOf f).map Int.ofNat
theorem mem_bitsOf (f : Nat → Bool) (i : Nat) : i ∈ bitsOf f ↔ i < 64 ∧ f i = true := by simp [bitsOf]
theorem bitsOf_congr {f g : Nat → Bool} (h : ∀ i, i < 64 → f i = g i) : bitsOf f = bitsOf g := List.filter_congr fun i hi => by rw [h i (by simpa using hi)]
theorem bitsOf_none {f : Nat → Bool} (h : ∀ i, i < 64 → f i = false) : bitsOf f = [] := by
  rw [bitsOf, List.filter_eq_nil_iff]
  intro i hi
  rw [h i (by simpa using hi)]
  simp
theorem range_parts (k : Nat) (hk : k < 64) : List.range 64 = List.range k ++ k :: List.range' (k + 1) (63 - k) := by
  have e1 : List.range 64 = List.range' 0 (k + (63 - k + 1)) := by rw [List.range_eq_range']; congr 1; omega
  rw [e1, ← List.range'_append_1, Nat.zero_add, List.range'_succ, ← List.range_eq_range']
/-- The lowest place first. -/
theorem bitsOf_low {f g : Nat → Bool} {k : Nat} (hk : k < 64) (h1 : f k = true) (h2 : ∀ i, i < k → f i = false) (hg : ∀ i, g i = (f i && !decide (i = k))) : bitsOf f = k :: bitsOf g := by
  have low : ∀ p : Nat → Bool, (∀ i, i < k → p i = false) → (List.range k).filter p = [] := fun p hp => by
    rw [List.filter_eq_nil_iff]
    intro i hi
    rw [hp i (by simpa using hi)]
    simp
  unfold bitsOf
  rw [range_parts k hk, List.filter_append, List.filter_append, low f h2, low g (fun i hi => by rw [hg, h2 i hi]; rfl), List.filter_cons_of_pos h1, List.filter_cons_of_neg (by rw [hg]; simp)]
  simp only [List.nil_append, List.cons.injEq, true_and]
  refine List.filter_congr fun i hi => ?_
  have : k + 1 ≤ i := (List.mem_range'_1.1 hi).1
  rw [hg]
  simp
  intro _
  omega
theorem tb_zero {n : Nat} (h : n ≠ 0) (hn : n < 18446744073709551616) : ∃ i, i < 64 ∧ n.testBit i = true := by
  obtain ⟨i, hi⟩ := Nat.exists_testBit_of_ne_zero h
  refine ⟨i, ?_, hi⟩
  rcases Nat.lt_or_ge i 64 with h' | h'
  · exact h'
  · rw [lt64 hn h'] at hi; cases hi

/-! ### The lowest bit taken away. -/
theorem clear_low (k m i : Nat) : ((2 ^ k * (2 * m + 1)) &&& (2 ^ k * (2 * m + 1) - 1)).testBit i = ((2 ^ k * (2 * m + 1)).testBit i && !decide (i = k)) := by
  have hp : 0 < 2 ^ k := Nat.two_pow_pos k
  have e : 2 ^ k * (2 * m + 1) - 1 = 2 ^ k * (2 * m) + (2 ^ k - 1) := by rw [Nat.mul_add, Nat.mul_one]; omega
  rw [Nat.testBit_and, e, Nat.testBit_two_pow_mul_add _ (by omega)]
  have h0 := Nat.testBit_two_pow_mul_add (2 * m + 1) hp i
  rw [Nat.add_zero] at h0
  rw [h0]
  by_cases h : i < k
  · rw [if_pos h, if_pos h]
    simp
  · rw [if_neg h, if_neg h]
    by_cases hik : i = k
    · subst hik
      simp
    · obtain ⟨j, hj⟩ : ∃ j, i - k = j + 1 := ⟨i - k - 1, by omega⟩
      rw [hj, Nat.testBit_succ, Nat.testBit_succ, show (2 * m + 1) / 2 = m by omega, show 2 * m / 2 = m by omega]
      simp [hik]
theorem low_at (k m : Nat) : (2 ^ k * (2 * m + 1)).testBit k = true ∧ ∀ i, i < k → (2 ^ k * (2 * m + 1)).testBit i = false := by
  have h0 := fun i => Nat.testBit_two_pow_mul_add (2 * m + 1) (Nat.two_pow_pos k) i
  simp only [Nat.add_zero] at h0
  refine ⟨?_, fun i hi => ?_⟩
  · rw [h0, if_neg (Nat.lt_irrefl _), Nat.sub_self]
    simp [Nat.testBit_zero]
  · rw [h0, if_pos hi]
    simp
theorem ctz_form {x : Nat} (h0 : x ≠ 0) (h : x < 18446744073709551616) : ∃ m, x = 2 ^ Lib.ctz 64 x * (2 * m + 1) ∧ Lib.ctz 64 x < 64 := by
  have := Lib.ctzFrom_spec 64 x (by omega) (by omega)
  unfold Lib.ctz
  rw [if_neg h0]
  exact this
/-- The bits of a number: the lowest, then those of the number without it. -/
theorem bits_step {x : Nat} (h0 : x ≠ 0) (h : x < 18446744073709551616) : bitsOf (fun i => x.testBit i) = Lib.ctz 64 x :: bitsOf (fun i => (x &&& (x - 1)).testBit i) := by
  obtain ⟨m, e, hk⟩ := ctz_form h0 h
  generalize Lib.ctz 64 x = k at *
  subst e
  exact bitsOf_low hk (low_at k m).1 (low_at k m).2 (fun i => clear_low k m i)

/-! ### How many bits are set: bits.OnesCount64's reckoning. -/
def cnt : Nat → Nat → Nat
  | 0, _ => 0
  | n + 1, x => x % 2 + cnt n (x / 2)
theorem cnt_split (a b : Nat) (ha : a < 256) (n : Nat) : cnt (8 + n) (256 * b + a) = cnt 8 a + cnt n b := by
  rw [Nat.add_comm 8 n]
  simp only [cnt]
  have e1 : (256 * b + a) / 2 / 2 / 2 / 2 / 2 / 2 / 2 / 2 = b := by omega
  rw [e1]
  omega
theorem cnt_filter : ∀ (n x s : Nat), cnt n x = ((List.range' s n).filter fun i => x.testBit (i - s)).length
  | 0, x, s => by simp [cnt]
  | n + 1, x, s => by
    have ih := cnt_filter n (x / 2) (s + 1)
    have e : ((List.range' (s + 1) n).filter fun i => (x / 2).testBit (i - (s + 1))) = (List.range' (s + 1) n).filter fun i => x.testBit (i - s) := List.filter_congr fun i hi => by
      have h1 : s + 1 ≤ i := (List.mem_range'_1.1 hi).1
      have h2 : i - s = i - (s + 1) + 1 := by omega
      rw [h2, Nat.testBit_succ]
    rw [e] at ih
    rw [List.range'_succ]
    unfold cnt
    rw [ih]
    by_cases h : x % 2 = 1
    · rw [List.filter_cons_of_pos (by simp [Nat.testBit_zero, h]), h, List.length_cons]
      omega
    · rw [List.filter_cons_of_neg (by simp [Nat.testBit_zero, h])]
      omega
theorem cnt_bits (x : Nat) : cnt 64 x = (bitsOf fun i => x.testBit i).length := by
  have := cnt_filter 64 x 0
  rw [this, bitsOf, List.range_eq_range']
  simp

theorem and_split (a b c d : Nat) (ha : a < 256) (hc : c < 256) : (256 * b + a) &&& (256 * d + c) = 256 * (b &&& d) + (a &&& c) := by
  have h8 : a &&& c < 2 ^ 8 := Nat.and_lt_two_pow _ (by omega)
  refine Nat.eq_of_testBit_eq fun i => ?_
  rw [Nat.testBit_and, show (256 : Nat) = 2 ^ 8 from rfl, Nat.testBit_two_pow_mul_add _ (by omega), Nat.testBit_two_pow_mul_add _ (by omega), Nat.testBit_two_pow_mul_add _ h8]
  split <;> simp
def rep (c : Nat) : Nat → Nat
  | 0 => 0
  | n + 1 => 256 * rep c n + c
def s1 (m : Nat) (x : Nat) : Nat := (x / 2 &&& m) + (x &&& m)
def s2 (m : Nat) (x : Nat) : Nat := (x / 4 &&& m) + (x &&& m)
def s3 (m : Nat) (x : Nat) : Nat := (x / 16 + x) &&& m
def ofD : List Nat → Nat
  | [] => 0
  | a :: l => 256 * ofD l + a
theorem b1 : ∀ a : Fin 256, ∀ c : Fin 2, (a.val / 2 + 128 * c.val) &&& 85 = a.val / 2 &&& 85 := by decide +kernel
theorem b2 : ∀ a : Fin 256, ∀ c : Fin 4, (a.val / 4 + 64 * c.val) &&& 51 = a.val / 4 &&& 51 := by decide +kernel
theorem b3 : ∀ a : Fin 256, (s1 85 a.val) < 256 ∧ s2 51 (s1 85 a.val) / 16 ≤ 4 ∧ s2 51 (s1 85 a.val) % 16 ≤ 4 ∧ s2 51 (s1 85 a.val) < 256 := by decide +kernel
theorem b4 : ∀ p : Fin 5, ∀ q : Fin 5, ∀ c : Fin 5, ((p.val + (16 * p.val + q.val) + 16 * c.val) &&& 15) = (p.val + (16 * p.val + q.val)) &&& 15 := by decide +kernel
theorem b5 : ∀ a : Fin 256, s3 15 (s2 51 (s1 85 a.val)) = cnt 8 a.val ∧ cnt 8 a.val ≤ 8 := by decide +kernel
theorem S1 : ∀ l : List Nat, (∀ a ∈ l, a < 256) → s1 (rep 85 l.length) (ofD l) = ofD (l.map (s1 85))
  | [], _ => rfl
  | a :: l, h => by
    have ha : a < 256 := h a (by simp)
    have ih := S1 l (fun x hx => h x (by simp [hx]))
    unfold s1 at ih ⊢
    simp only [ofD, List.map_cons, List.length_cons, rep]
    have e : (256 * ofD l + a) / 2 = 256 * (ofD l / 2) + (a / 2 + 128 * (ofD l % 2)) := by omega
    have hb := b1 ⟨a, ha⟩ ⟨ofD l % 2, by omega⟩
    simp only at hb
    rw [e, and_split _ _ _ _ (by omega) (by omega), and_split _ _ _ _ (by omega) (by omega), hb, ← ih]
    omega
theorem S2 : ∀ l : List Nat, (∀ a ∈ l, a < 256) → s2 (rep 51 l.length) (ofD l) = ofD (l.map (s2 51))
  | [], _ => rfl
  | a :: l, h => by
    have ha : a < 256 := h a (by simp)
    have ih := S2 l (fun x hx => h x (by simp [hx]))
    unfold s2 at ih ⊢
    simp only [ofD, List.map_cons, List.length_cons, rep]
    have e : (256 * ofD l + a) / 4 = 256 * (ofD l / 4) + (a / 4 + 64 * (ofD l % 4)) := by omega
    have hb := b2 ⟨a, ha⟩ ⟨ofD l % 4, by omega⟩
    simp only at hb
    rw [e, and_split _ _ _ _ (by omega) (by omega), and_split _ _ _ _ (by omega) (by omega), hb, ← ih]
    omega
theorem ofD_low : ∀ l : List Nat, (∀ a ∈ l, a % 16 ≤ 4) → ofD l % 16 ≤ 4
  | [], _ => by simp [ofD]
  | a :: l, h => by
    have := h a (by simp)
    simp only [ofD]
    omega
theorem S3 : ∀ l : List Nat, (∀ a ∈ l, a < 256 ∧ a / 16 ≤ 4 ∧ a % 16 ≤ 4) → s3 (rep 15 l.length) (ofD l) = ofD (l.map (s3 15))
  | [], _ => rfl
  | a :: l, h => by
    obtain ⟨ha, h1, h2⟩ := h a (by simp)
    have ih := S3 l (fun x hx => h x (by simp [hx]))
    have hl := ofD_low l (fun x hx => (h x (by simp [hx])).2.2)
    unfold s3 at ih ⊢
    simp only [ofD, List.map_cons, List.length_cons, rep]
    have hb := b4 ⟨a / 16, by omega⟩ ⟨a % 16, by omega⟩ ⟨ofD l % 16, by omega⟩
    simp only at hb
    rw [show a / 16 + (16 * (a / 16) + a % 16) = a / 16 + a by omega] at hb
    have e : (256 * ofD l + a) / 16 + (256 * ofD l + a) = 256 * (ofD l / 16 + ofD l) + (a / 16 + a + 16 * (ofD l % 16)) := by omega
    rw [e, and_split _ _ _ _ (by omega) (by omega), hb, ← ih]
def popN (x : Nat) : Nat :=
  let y := s3 1085102592571150095 (s2 3689348814741910323 (s1 6148914691236517205 x))
  let a := y + y / 256
  let b := a + a / 65536
  (b + b / 4294967296) % 128
def cntD : List Nat → Nat
  | [] => 0
  | a :: l => cnt 8 a + cntD l
theorem cnt_ofD : ∀ l : List Nat, (∀ a ∈ l, a < 256) → cnt (8 * l.length) (ofD l) = cntD l
  | [], _ => rfl
  | a :: l, h => by
    have ih := cnt_ofD l (fun x hx => h x (by simp [hx]))
    simp only [ofD, List.length_cons, cntD]
    rw [show 8 * (l.length + 1) = 8 + 8 * l.length by omega, cnt_split a (ofD l) (h a (by simp)), ih]
theorem pop_sum (p0 p1 p2 p3 p4 p5 p6 p7 : Nat) (h0 : p0 ≤ 8) (h1 : p1 ≤ 8) (h2 : p2 ≤ 8) (h3 : p3 ≤ 8) (h4 : p4 ≤ 8) (h5 : p5 ≤ 8) (h6 : p6 ≤ 8) (h7 : p7 ≤ 8) :
    (ofD [p0, p1, p2, p3, p4, p5, p6, p7] + ofD [p0, p1, p2, p3, p4, p5, p6, p7] / 256 + (ofD [p0, p1, p2, p3, p4, p5, p6, p7] + ofD [p0, p1, p2, p3, p4, p5, p6, p7] / 256) / 65536 + (ofD [p0, p1, p2, p3, p4, p5, p6, p7] + ofD [p0, p1, p2, p3, p4, p5, p6, p7] / 256 + (ofD [p0, p1, p2, p3, p4, p5, p6, p7] + ofD [p0, p1, p2, p3, p4, p5, p6, p7] / 256) / 65536) / 4294967296) % 128 = p0 + p1 + p2 + p3 + p4 + p5 + p6 + p7 := by
  have e0 : ofD [p0, p1, p2, p3, p4, p5, p6, p7] = p0 + 256 * p1 + 65536 * p2 + 16777216 * p3 + 4294967296 * p4 + 1099511627776 * p5 + 281474976710656 * p6 + 72057594037927936 * p7 := by simp only [ofD]; omega
  have e1 : ofD [p0, p1, p2, p3, p4, p5, p6, p7] / 256 = p1 + 256 * p2 + 65536 * p3 + 16777216 * p4 + 4294967296 * p5 + 1099511627776 * p6 + 281474976710656 * p7 := by omega
  rw [e1, e0]
  have e2 : (p0 + 256 * p1 + 65536 * p2 + 16777216 * p3 + 4294967296 * p4 + 1099511627776 * p5 + 281474976710656 * p6 + 72057594037927936 * p7 + (p1 + 256 * p2 + 65536 * p3 + 16777216 * p4 + 4294967296 * p5 + 1099511627776 * p6 + 281474976710656 * p7)) / 65536 = (p2 + p3) + 256 * (p3 + p4) + 65536 * (p4 + p5) + 16777216 * (p5 + p6) + 4294967296 * (p6 + p7) + 1099511627776 * p7 := by omega
  rw [e2]
  have e3 : (p0 + 256 * p1 + 65536 * p2 + 16777216 * p3 + 4294967296 * p4 + 1099511627776 * p5 + 281474976710656 * p6 + 72057594037927936 * p7 + (p1 + 256 * p2 + 65536 * p3 + 16777216 * p4 + 4294967296 * p5 + 1099511627776 * p6 + 281474976710656 * p7) + ((p2 + p3) + 256 * (p3 + p4) + 65536 * (p4 + p5) + 16777216 * (p5 + p6) + 4294967296 * (p6 + p7) + 1099511627776 * p7)) / 4294967296 = (p4 + p5 + p6 + p7) + 256 * (p5 + p6 + p7) + 65536 * (p6 + p7) + 16777216 * p7 := by
    have hA : p0 + p1 + p2 + p3 + 256 * (p1 + p2 + p3 + p4) + 65536 * (p2 + p3 + p4 + p5) + 16777216 * (p3 + p4 + p5 + p6) < 4294967296 := by omega
    generalize hB : (p4 + p5 + p6 + p7) + 256 * (p5 + p6 + p7) + 65536 * (p6 + p7) + 16777216 * p7 = B
    generalize hA' : p0 + p1 + p2 + p3 + 256 * (p1 + p2 + p3 + p4) + 65536 * (p2 + p3 + p4 + p5) + 16777216 * (p3 + p4 + p5 + p6) = A at hA
    clear e0 e1 e2 h0 h1 h2 h3 h4 h5 h6 h7
    have : p0 + 256 * p1 + 65536 * p2 + 16777216 * p3 + 4294967296 * p4 + 1099511627776 * p5 + 281474976710656 * p6 + 72057594037927936 * p7 + (p1 + 256 * p2 + 65536 * p3 + 16777216 * p4 + 4294967296 * p5 + 1099511627776 * p6 + 281474976710656 * p7) + ((p2 + p3) + 256 * (p3 + p4) + 65536 * (p4 + p5) + 16777216 * (p5 + p6) + 4294967296 * (p6 + p7) + 1099511627776 * p7) = A + 4294967296 * B := by omega
    rw [this, Nat.add_mul_div_left _ _ (by decide), Nat.div_eq_of_lt hA, Nat.zero_add]
  clear e0 e1 e2
  rw [e3]
  have e4 : p0 + 256 * p1 + 65536 * p2 + 16777216 * p3 + 4294967296 * p4 + 1099511627776 * p5 + 281474976710656 * p6 + 72057594037927936 * p7 + (p1 + 256 * p2 + 65536 * p3 + 16777216 * p4 + 4294967296 * p5 + 1099511627776 * p6 + 281474976710656 * p7) + ((p2 + p3) + 256 * (p3 + p4) + 65536 * (p4 + p5) + 16777216 * (p5 + p6) + 4294967296 * (p6 + p7) + 1099511627776 * p7) + ((p4 + p5 + p6 + p7) + 256 * (p5 + p6 + p7) + 65536 * (p6 + p7) + 16777216 * p7)
      = p0 + p1 + p2 + p3 + p4 + p5 + p6 + p7 + 128 * (2 * (p1 + p2 + p3 + p4 + p5 + p6 + p7) + 512 * (p2 + p3 + p4 + p5 + p6 + p7) + 131072 * (p3 + p4 + p5 + p6 + p7) + 33554432 * (p4 + p5 + p6 + p7) + 8589934592 * (p5 + p6 + p7) + 2199023255552 * (p6 + p7) + 562949953421312 * p7) := by omega
  rw [e4, Nat.add_mul_mod_self_left]
  exact Nat.mod_eq_of_lt (by omega)
def dig : Nat → Nat → List Nat
  | 0, _ => []
  | n + 1, x => x % 256 :: dig n (x / 256)
theorem dig_is : ∀ n x, x < 256 ^ n → (dig n x).length = n ∧ (∀ a ∈ dig n x, a < 256) ∧ ofD (dig n x) = x
  | 0, x, h => by
    have : x = 0 := by simpa using h
    subst this
    exact ⟨rfl, fun a ha => by simp [dig] at ha, rfl⟩
  | n + 1, x, h => by
    obtain ⟨h1, h2, h3⟩ := dig_is n (x / 256) (Nat.div_lt_of_lt_mul (by rw [Nat.mul_comm, ← Nat.pow_succ]; exact h))
    refine ⟨by simp [dig, h1], fun a ha => ?_, ?_⟩
    · rcases List.mem_cons.1 ha with rfl | ha
      · exact Nat.mod_lt _ (by decide)
      · exact h2 a ha
    · simp only [dig, ofD, h3]
      exact Nat.div_add_mod x 256
theorem bytes8 {x : Nat} (h : x < 18446744073709551616) : ∃ l : List Nat, l.length = 8 ∧ (∀ a ∈ l, a < 256) ∧ ofD l = x :=
  ⟨dig 8 x, (dig_is 8 x (Nat.lt_of_lt_of_eq h (by decide))).1, (dig_is 8 x (Nat.lt_of_lt_of_eq h (by decide))).2.1, (dig_is 8 x (Nat.lt_of_lt_of_eq h (by decide))).2.2⟩
end Go.Proofs.YtaehendpdfpibaaDoor
