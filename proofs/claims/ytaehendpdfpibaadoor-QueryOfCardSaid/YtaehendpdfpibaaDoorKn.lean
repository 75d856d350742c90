/-
  Right and Kinds of a mask; the kinds of a row of its mask.
-/
import Derived.Test.YtaehendpdfpibaaDoorMc6
import Derived.Test.YtaehendpdfpibaaDoorVp
import Derived.Lib.TrailingZeros
namespace Go.Proofs.YtaehendpdfpibaaDoor
set_option linter.unusedSimpArgs false
set_option linter.unusedVariables false
open Go.RowKit Go.Sort Go.Lib Go.Shelf

theorem kinds_len (f : Nat → Bool) : (kindsOf f).length ≤ 64 := by
  unfold kindsOf bitsOf
  rw [List.length_map]
  exact Nat.le_trans (List.length_filter_le _ _) (by simp)
theorem kindsOf_step {x : Nat} (h0 : x ≠ 0) (h : x < 18446744073709551616) : kindsOf (fun i => x.testBit i) = ((Lib.ctz 64 x : Nat) : Int) :: kindsOf (fun i => (x &&& (x - 1)).testBit i) := by
  unfold kindsOf
  rw [bits_step h0 h]
  rfl
theorem kindsOf_zero : kindsOf (fun i => (0 : Nat).testBit i) = [] := by
  unfold kindsOf
  rw [bitsOf_none (fun i _ => Nat.zero_testBit i)]
  rfl

theorem kinds_pair (f : Nat → Bool) : (kindsOf f).Pairwise (· < ·) := by
  unfold kindsOf bitsOf
  rw [List.pairwise_map]
  exact (List.Pairwise.filter _ List.pairwise_lt_range).imp fun h => by show Int.ofNat _ < Int.ofNat _; simp only [Int.ofNat_eq_natCast]; omega
theorem foldF_or : ∀ (l : List Int) (f : Nat → Bool), (∀ k ∈ l, kindB k = true) → ∀ i, foldF true f l i = (f i || decide ((i : Int) ∈ l))
  | [], f, _, i => by simp [foldF]
  | k :: r, f, hk, i => by
    have h0 := (kindB_iff k).1 (hk k (by simp))
    have ih := foldF_or r (putF true f k.toNat) (fun x hx => hk x (by simp [hx])) i
    show foldF true (putF true f k.toNat) r i = _
    rw [ih]
    unfold putF
    by_cases h : i = k.toNat
    · rw [if_pos h]
      have : (i : Int) = k := by omega
      simp [this]
    · rw [if_neg h]
      have : ¬ (i : Int) = k := by omega
      simp [this]
theorem order_bits {m : Nat} {l : List Int} (hm : m < 18446744073709551616) (hk : ∀ k ∈ l, kindB k = true) (i : Nat) : (foldN true m l).testBit i = (m.testBit i || decide ((i : Int) ∈ l)) := by
  rw [(fold_both true l m (fun i => m.testBit i) hm (fun _ => rfl) hk).2 i, foldF_or l _ hk i]
theorem kinds_right {q : Nat} (hq : q < 1024) : (kindsOf fun i => q.testBit i).all kindB = true := by
  rw [List.all_eq_true]
  intro k hk
  unfold kindsOf at hk
  obtain ⟨i, hi, rfl⟩ := List.mem_map.1 hk
  have h1 := ((mem_bitsOf _ i).1 hi).2
  rw [kindB_iff]
  rcases Nat.lt_or_ge i 10 with h | h
  · exact ⟨Int.natCast_nonneg i, by show (i : Int) < 10; omega⟩
  · have h2 : q < 2 ^ i := Nat.lt_of_lt_of_le hq (by
      have : 2 ^ 10 ≤ 2 ^ i := Nat.pow_le_pow_right (by decide) h
      omega)
    rw [Nat.testBit_lt_two_pow h2] at h1
    cases h1
theorem mem_kindsOf (f : Nat → Bool) (i : Nat) : (i : Int) ∈ kindsOf f ↔ i < 64 ∧ f i = true := by
  unfold kindsOf
  rw [← mem_bitsOf, List.mem_map]
  constructor
  · rintro ⟨j, hj, e⟩
    have : j = i := Int.ofNat.inj e
    exact this ▸ hj
  · exact fun h => ⟨i, h, rfl⟩
theorem back_is {q : Nat} (hq : q < 1024) : foldN true 0 (kindsOf fun i => q.testBit i) = q := by
  have hk : ∀ k ∈ kindsOf fun i => q.testBit i, kindB k = true := fun k h => List.all_eq_true.1 (kinds_right hq) k h
  refine tb_ext (foldN_lt true 0 _ (by decide) hk) (by omega) fun i hi => ?_
  rw [order_bits (by decide) hk, Nat.zero_testBit, Bool.false_or]
  cases h : q.testBit i
  · exact decide_eq_false fun hm => by rw [((mem_kindsOf _ i).1 hm).2] at h; cases h
  · exact decide_eq_true ((mem_kindsOf _ i).2 ⟨hi, h⟩)


/-- The kinds of a mask, rising. -/
def Ks (q : Nat) : List Int := kindsOf fun i => q.testBit i
theorem rise_int {a b : List Int} (ha : a.Pairwise (· < ·)) (hb : b.Pairwise (· < ·)) (h : ∀ x, x ∈ a ↔ x ∈ b) : a = b := by
  have f : ∀ l : List Int, (l.map fun k => ((k, 0, 0) : Vl)).map (fun x => x.1) = l := fun l => by
    rw [List.map_map]; exact List.map_id' l
  have e : (a.map fun k => ((k, 0, 0) : Vl)) = b.map fun k => (k, 0, 0) := rise_ext _ _ (List.pairwise_map.2 ha) (List.pairwise_map.2 hb) (fun x => by
    simp only [List.mem_map]
    constructor
    · rintro ⟨k, hk, rfl⟩; exact ⟨k, (h k).1 hk, rfl⟩
    · rintro ⟨k, hk, rfl⟩; exact ⟨k, (h k).2 hk, rfl⟩)
  rw [← f a, e, f]
theorem Ks_kind {q : Nat} (hq : q < 1024) : ∀ k ∈ Ks q, kindB k = true := fun k hk => List.all_eq_true.1 (kinds_right hq) k hk
theorem Ks_len (q : Nat) : (Ks q).length ≤ 64 := kinds_len _
theorem Ks_rise (q : Nat) : (Ks q).Pairwise (· < ·) := kinds_pair _
theorem kinds_mem {l : List Int} (hl : ∀ k ∈ l, kindB k = true) (k : Int) : k ∈ Ks (foldN true 0 l) ↔ k ∈ l := by
  constructor
  · intro h
    unfold Ks kindsOf at h
    obtain ⟨i, hi, rfl⟩ := List.mem_map.1 h
    have h1 := (mem_bitsOf _ i).1 hi
    have h2 := order_bits (m := 0) (l := l) (by decide) hl i
    rw [h1.2, Nat.zero_testBit, Bool.false_or] at h2
    exact of_decide_eq_true h2.symm
  · intro h
    have hk := (kindB_iff k).1 (hl k h)
    obtain ⟨i, rfl⟩ : ∃ i : Nat, k = i := ⟨k.toNat, by omega⟩
    refine (mem_kindsOf _ i).2 ⟨by omega, ?_⟩
    rw [order_bits (m := 0) (l := l) (by decide) hl i, Nat.zero_testBit, Bool.false_or]
    exact decide_eq_true h
/-- A right row is of the mask just where its kinds are the mask's. -/
theorem row_of_mask {l : List Vl} {q : Nat} (h : RightV l) (hq : q < 1024) : maskV l = q ↔ l.map (fun x => x.1) = Ks q := by
  have hl : ∀ k ∈ l.map (fun x => x.1), kindB k = true := fun k hk => by
    obtain ⟨x, hx, rfl⟩ := List.mem_map.1 hk
    exact chk_kind (h.2 x hx)
  constructor
  · intro e
    have e2 : q = foldN true 0 (l.map fun x => x.1) := e.symm
    refine rise_int (List.pairwise_map.2 h.1) (Ks_rise q) fun k => ?_
    rw [e2]
    exact (kinds_mem hl k).symm
  · intro e
    unfold maskV
    rw [e]
    exact back_is hq
theorem mask_lt {l : List Vl} (h : RightV l) : maskV l < 1024 := by
  have hl : ∀ k ∈ l.map (fun x => x.1), kindB k = true := fun k hk => by
    obtain ⟨x, hx, rfl⟩ := List.mem_map.1 hk
    exact chk_kind (h.2 x hx)
  refine Nat.lt_of_not_le fun hge => ?_
  obtain ⟨i, hi, hb⟩ := Nat.exists_ge_and_testBit_of_ge_two_pow (n := 10) (x := maskV l) (by simpa using hge)
  have hlt := foldN_lt true 0 (l.map fun x => x.1) (by decide) hl
  have hi64 : i < 64 := by
    refine Nat.lt_of_not_le fun h64 => ?_
    have : maskV l < 2 ^ i := Nat.lt_of_lt_of_le hlt (Nat.le_trans (show 18446744073709551616 ≤ 2 ^ 64 by decide) (Nat.pow_le_pow_right (by decide) h64))
    rw [Nat.testBit_lt_two_pow this] at hb
    cases hb
  have hm : (i : Int) ∈ Ks (maskV l) := (mem_kindsOf _ i).2 ⟨hi64, hb⟩
  have := (kindB_iff _).1 (hl _ ((kinds_mem hl i).1 hm))
  omega
end Go.Proofs.YtaehendpdfpibaaDoor
