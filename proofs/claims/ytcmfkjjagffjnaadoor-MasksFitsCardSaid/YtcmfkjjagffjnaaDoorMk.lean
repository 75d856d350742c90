/-
  Package masks and its reference, what needs no memory: kinds, one bit, the closures of With and Without, Holds, Meets, Fits, Less, Right, Has.
-/
import Derived.Test.YtcmfkjjagffjnaaDoorNums
import Derived.Test.YtcmfkjjagffjnaaDoorMp
import Derived.Laws.BitsAllLaws
import Derived.Laws.Bits64b
import Derived.Laws.Bits128
import Derived.Laws.Shifts
namespace Go.Proofs.YtcmfkjjagffjnaaDoor
set_option linter.unusedSimpArgs false
set_option linter.unusedVariables false
open Go.RowKit Go.Sort Go.Lib Go.Shelf




theorem isKind_any (k : Int) (w : World) : Calls Tryd.prog 39 #[.int .i64 k] w fun e w' => e = .returned (.bool (kindB k)) ∧ w = w' := by
  go_enter Tryd.func39, Tryd.ntmps39
  go_wp2
  all_goals (go_ret; exact ⟨ret_bool (by simp [kindB, *] <;> omega), rfl⟩)
theorem rkind_any (k : Int) (w : World) : Calls Tryd.prog 25 #[.int .i64 k] w fun e w' => e = .returned (.bool (kindB k)) ∧ w = w' := by
  go_enter Tryd.func25, Tryd.ntmps25
  go_wp2
  all_goals (go_ret; exact ⟨ret_bool (by simp [kindB, *] <;> omega), rfl⟩)

theorem bit_any (k : Nat) (hk : k < 64) (w : World) : Calls Tryd.prog 38 #[.int .i64 k] w fun e w' => e = .returned (.int .u64 ((2 ^ k : Nat) : Int)) ∧ w = w' := by
  have hw : IntKind.u64.wrap (2 ^ k) = ((2 ^ k : Nat) : Int) := by
    have h := pow64 hk
    have e : ((2 ^ k : Nat) : Int) = (2 : Int) ^ k := by rw [Int.natCast_pow]; rfl
    rw [IntKind.wrap_u64, ← e]
    generalize 2 ^ k = q at *
    omega
  go_enter Tryd.func38, Tryd.ntmps38
  go_wp2
  go_ret
  exact ⟨rfl, rfl⟩

theorem with1_any (a b : Nat) (ha : a < 18446744073709551616) (hb : b < 18446744073709551616) (w : World) : Calls Tryd.prog 33 #[.int .u64 a, .int .u64 b] w fun e w' => e = .returned (.int .u64 ((a ||| b : Nat) : Int)) ∧ w = w' := by
  have h := u64_or_nat a b ha hb
  go_enter Tryd.func33, Tryd.ntmps33
  go_wp2
  go_ret
  exact ⟨rfl, rfl⟩
theorem without1_any (a b : Nat) (ha : a < 18446744073709551616) (hb : b < 18446744073709551616) (w : World) : Calls Tryd.prog 34 #[.int .u64 a, .int .u64 b] w fun e w' => e = .returned (.int .u64 ((a &&& (18446744073709551615 - b) : Nat) : Int)) ∧ w = w' := by
  have h := u64_andNot_nat a b ha hb
  go_enter Tryd.func34, Tryd.ntmps34
  go_wp2
  go_ret
  exact ⟨rfl, rfl⟩
theorem eqN (a b : Nat) : ((a : Int) == (b : Int)) = (a == b) := by rw [Bool.eq_iff_iff]; simp; omega
theorem neN0 (a : Nat) : ((a : Int) != 0) = (a != 0) := by rw [Bool.eq_iff_iff]; simp
theorem holds_any (a b : Nat) (ha : a < 18446744073709551616) (hb : b < 18446744073709551616) (w : World) : Calls Tryd.prog 29 #[.int .u64 a, .int .u64 b] w fun e w' => e = .returned (.bool (a &&& b == b)) ∧ w = w' := by
  have h := u64_and_nat a b ha hb
  go_enter Tryd.func29, Tryd.ntmps29
  go_wp2
  go_ret
  exact ⟨ret_bool (eqN _ _), rfl⟩
theorem meets_any (a b : Nat) (ha : a < 18446744073709551616) (hb : b < 18446744073709551616) (w : World) : Calls Tryd.prog 30 #[.int .u64 a, .int .u64 b] w fun e w' => e = .returned (.bool (a &&& b != 0)) ∧ w = w' := by
  have h := u64_and_nat a b ha hb
  go_enter Tryd.func30, Tryd.ntmps30
  go_wp2
  go_ret
  exact ⟨ret_bool (neN0 _), rfl⟩
theorem fits_any (m a b : Nat) (hm : m < 18446744073709551616) (ha : a < 18446744073709551616) (hb : b < 18446744073709551616) (w : World) : Calls Tryd.prog 27 #[.int .u64 m, .int .u64 a, .int .u64 b] w fun e w' => e = .returned (.bool ((m &&& a == a) && !(m &&& b != 0))) ∧ w = w' := by
  go_enter Tryd.func27, Tryd.ntmps27
  go_wp2_with (first | (go_at_call 29; refine (holds_any _ _ hm ha _).mono ?_; rintro e w1 ⟨rfl, rfl⟩) | (go_at_call 30; refine (meets_any _ _ hm hb _).mono ?_; rintro e w1 ⟨rfl, rfl⟩))
  all_goals (go_ret; exact ⟨ret_bool (by simp_all), rfl⟩)
theorem mless_any (a b : Nat) (w : World) : Calls Tryd.prog 31 #[.int .u64 a, .int .u64 b] w fun e w' => e = .returned (.bool (decide (a < b))) ∧ w = w' := by
  go_enter Tryd.func31, Tryd.ntmps31
  go_wp2
  go_ret
  exact ⟨ret_bool (by simp), rfl⟩
theorem mright_any (a : Nat) (w : World) : Calls Tryd.prog 23 #[.int .u64 a] w fun e w' => e = .returned (.bool (decide (a < 1024))) ∧ w = w' := by
  go_enter Tryd.func23, Tryd.ntmps23
  go_wp2_with (go_at_call 38; refine (bit_any 10 (by decide) _).mono ?_; rintro e w1 ⟨rfl, rfl⟩)
  go_ret
  exact ⟨ret_bool (by rw [Bool.eq_iff_iff]; simp; omega), rfl⟩
theorem and_bit (m n : Nat) : (m &&& 2 ^ n != 0) = m.testBit n := by
  cases h : m.testBit n
  · have e : m &&& 2 ^ n = 0 := Nat.eq_of_testBit_eq fun i => by
      rw [Nat.testBit_and, Nat.testBit_two_pow, Nat.zero_testBit]
      by_cases hi : n = i
      · subst hi; simp [h]
      · simp [hi]
    rw [e]; rfl
  · have e : m &&& 2 ^ n ≠ 0 := fun e => by
      have := congrArg (fun q => q.testBit n) e
      simp [Nat.testBit_and, Nat.testBit_two_pow, h] at this
    simpa using e
theorem mhas_any (m : Nat) (hm : m < 18446744073709551616) (k : Int) (w : World) : Calls Tryd.prog 24 #[.int .u64 m, .int .i64 k] w fun e w' => e = .returned (.bool (kindB k && m.testBit k.toNat)) ∧ w = w' := by
  cases hk : kindB k
  · go_enter Tryd.func24, Tryd.ntmps24
    go_wp2_with (go_at_call 39; refine (isKind_any _ _).mono ?_; rintro e w1 ⟨rfl, rfl⟩)
    go_ret
    exact ⟨rfl, rfl⟩
  · have hb := (kindB_iff k).1 hk
    obtain ⟨n, rfl⟩ : ∃ n : Nat, k = n := ⟨k.toNat, by omega⟩
    have hn : n < 64 := by omega
    have hp := pow64 hn
    clear hb
    go_enter Tryd.func24, Tryd.ntmps24
    go_wp2_with (first | (go_at_call 39; refine (isKind_any _ _).mono ?_; rintro e w1 ⟨rfl, rfl⟩) | (go_at_call 38; refine (bit_any n hn _).mono ?_; rintro e w1 ⟨rfl, rfl⟩) | (go_at_call 30; refine (meets_any _ _ hm hp _).mono ?_; rintro e w1 ⟨rfl, rfl⟩))
    go_ret
    exact ⟨ret_bool (by
      rw [Bool.true_and, Int.toNat_natCast]
      exact and_bit m n), rfl⟩

theorem andN (a c : Nat) (A C : Int) (hA : A = a) (hC : C = c) (ha : a < 18446744073709551616) (hc : c < 18446744073709551616) : bits .and .u64 A C = ((a &&& c : Nat) : Int) := by
  subst hA hC
  exact u64_and_nat a c ha hc
theorem wrapN (a : Nat) (A : Int) (hA : A = a) (ha : a < 18446744073709551616) : IntKind.u64.wrap A = (a : Int) := by
  subst hA
  rw [IntKind.wrap_u64]
  omega
set_option maxHeartbeats 1000000 in
/-- bits.OnesCount64: how many bits are set. -/
theorem count_any (x : Nat) (hx : x < 18446744073709551616) (w : World) : Calls Tryd.prog 37 #[.int .u64 x] w fun e w' => e = .returned (.int .i64 (cnt 64 x : Nat)) ∧ w = w' := by
  obtain ⟨hp, hy⟩ := pop_is x hx
  unfold popN at hp
  obtain ⟨X1, hX1⟩ : ∃ X1, X1 = x / 2 &&& 6148914691236517205 := ⟨_, rfl⟩
  obtain ⟨X2, hX2⟩ : ∃ X2, X2 = x &&& 6148914691236517205 := ⟨_, rfl⟩
  obtain ⟨Y, hY⟩ : ∃ Y, Y = s1 6148914691236517205 x := ⟨_, rfl⟩
  obtain ⟨Y1, hY1⟩ : ∃ Y1, Y1 = Y / 4 &&& 3689348814741910323 := ⟨_, rfl⟩
  obtain ⟨Y2, hY2⟩ : ∃ Y2, Y2 = Y &&& 3689348814741910323 := ⟨_, rfl⟩
  obtain ⟨Z, hZ⟩ : ∃ Z, Z = s2 3689348814741910323 Y := ⟨_, rfl⟩
  obtain ⟨V, hV⟩ : ∃ V, V = s3 1085102592571150095 Z := ⟨_, rfl⟩
  have eY : Y = X1 + X2 := by rw [hY, hX1, hX2]; rfl
  have eZ : Z = Y1 + Y2 := by rw [hZ, hY1, hY2]; rfl
  have lX1 : X1 < 6148914691236517206 := by rw [hX1]; have := Nat.and_le_right (n := x / 2) (m := 6148914691236517205); omega
  have lX2 : X2 < 6148914691236517206 := by rw [hX2]; have := Nat.and_le_right (n := x) (m := 6148914691236517205); omega
  have lY1 : Y1 < 3689348814741910324 := by rw [hY1]; have := Nat.and_le_right (n := Y / 4) (m := 3689348814741910323); omega
  have lY2 : Y2 < 3689348814741910324 := by rw [hY2]; have := Nat.and_le_right (n := Y) (m := 3689348814741910323); omega
  rw [← hY, ← hZ, ← hV] at hy hp
  have c1 := andN (x / 2) 6148914691236517205 ((x : Int) / 2) 6148914691236517205 (by omega) rfl (by omega) (by decide)
  have c2 := andN x 6148914691236517205 (x : Int) 6148914691236517205 rfl rfl hx (by decide)
  rw [← hX1] at c1
  rw [← hX2] at c2
  have c3 := wrapN Y ((X1 : Int) + (X2 : Int)) (by omega) (by omega)
  have c4 := andN (Y / 4) 3689348814741910323 ((Y : Int) / 4) 3689348814741910323 (by omega) rfl (by omega) (by decide)
  have c5 := andN Y 3689348814741910323 (Y : Int) 3689348814741910323 rfl rfl (by omega) (by decide)
  rw [← hY1] at c4
  rw [← hY2] at c5
  have c6 := wrapN Z ((Y1 : Int) + (Y2 : Int)) (by omega) (by omega)
  have c7 := wrapN (Z / 16 + Z) ((Z : Int) / 16 + (Z : Int)) (by omega) (by omega)
  have c8 := andN (Z / 16 + Z) 1085102592571150095 ((Z / 16 + Z : Nat) : Int) 1085102592571150095 rfl rfl (by omega) (by decide)
  have e8 : (Z / 16 + Z) &&& 1085102592571150095 = V := by rw [hV]; rfl
  rw [e8] at c8
  obtain ⟨U, hU⟩ : ∃ U, U = Z / 16 + Z := ⟨_, rfl⟩
  rw [← hU] at c7 c8
  obtain ⟨A, hA⟩ : ∃ A, A = V + V / 256 := ⟨_, rfl⟩
  obtain ⟨B, hB⟩ : ∃ B, B = A + A / 65536 := ⟨_, rfl⟩
  obtain ⟨C, hC⟩ : ∃ C, C = B + B / 4294967296 := ⟨_, rfl⟩
  have c9 := wrapN A ((V : Int) + (V : Int) / 256) (by omega) (by omega)
  have c10 := wrapN B ((A : Int) + (A : Int) / 65536) (by omega) (by omega)
  have c11 := wrapN C ((B : Int) + (B : Int) / 4294967296) (by omega) (by omega)
  simp only [← hA, ← hB, ← hC] at hp
  have HP := Lib.hid hp
  have lC : C < 9223372036854775808 := by omega
  clear hp hX1 hX2 hY1 hY2 eY eZ lX1 lX2 lY1 lY2 hy e8 hU hA hB hC hV hZ hY
  have c12 := i64_and127 (C : Int)
  go_enter Tryd.func37, Tryd.ntmps37
  go_wp2
  go_ret
  exact ⟨ret_int (by rw [← HP.out]; omega), rfl⟩
theorem mcount_any (x : Nat) (hx : x < 18446744073709551616) (w : World) : Calls Tryd.prog 22 #[.int .u64 x] w fun e w' => e = .returned (.int .i64 (cnt 64 x : Nat)) ∧ w = w' := by
  go_enter Tryd.func22, Tryd.ntmps22
  go_wp2_with (go_at_call 37; refine (count_any _ hx _).mono ?_; rintro e w1 ⟨rfl, rfl⟩)
  go_ret
  exact ⟨rfl, rfl⟩

/-- bits.TrailingZeros64's table, as its initialiser lays it. -/
def TabW (w : World) : Prop := ∀ j, j < 64 → w.cell? ⟨10, j, none⟩ = some (.int .u8 ((Lib.deBruijn64tab.getD j 0 : Nat) : Int))
theorem TabW.below {w w' : World} (h : TabW w) (hb : RowKit.Below w.heap.size w w') : TabW w' := fun j hj => Bc hb (cell_lt (h j hj)) (h j hj)

set_option maxHeartbeats 1000000 in
theorem tz_any (x : Nat) (h0 : x ≠ 0) (hx : x < 18446744073709551616) (w : World) (hT : TabW w) : Calls Tryd.prog 36 #[.int .u64 x] w fun e w' => e = .returned (.int .i64 (Lib.ctz 64 x : Nat)) ∧ w = w' := by
  obtain ⟨hlow, hk⟩ := Lib.lowest_bit 64 x h0 (by omega)
  obtain ⟨hi, htab⟩ := Lib.deBruijn64_at _ hk
  generalize Lib.ctz 64 x = k at *
  obtain ⟨a, ha⟩ : ∃ a, a = 2 ^ k := ⟨_, rfl⟩
  rw [← ha] at hlow hi htab
  obtain ⟨q, hq⟩ : ∃ q, q = a * 285870213051353865 % 18446744073709551616 := ⟨_, rfl⟩
  rw [← hq] at hi htab
  obtain ⟨i, hI⟩ : ∃ i, i = q / 288230376151711744 := ⟨_, rfl⟩
  rw [← hI] at hi htab
  have hcell := hT i hi
  rw [htab] at hcell
  have n1 : IntKind.u64.wrap (-(x : Int)) = ((18446744073709551616 - x : Nat) : Int) := by rw [IntKind.wrap_u64]; omega
  have n2 := andN x (18446744073709551616 - x) (x : Int) ((18446744073709551616 - x : Nat) : Int) rfl rfl hx (by omega)
  rw [hlow] at n2
  have n3 : IntKind.u64.wrap ((a : Int) * 285870213051353865) = (q : Int) := by rw [IntKind.wrap_u64, hq]; omega
  have n4 : (q : Int) / 288230376151711744 = (i : Int) := by rw [hI]; omega
  have hz : ((x : Int) == 0) = false := by simp; omega
  obtain ⟨y, hy⟩ : ∃ y, y = 18446744073709551616 - x := ⟨_, rfl⟩
  rw [← hy] at n1 n2
  clear hlow hq hI ha htab hT hy h0
  go_enter Tryd.func36, Tryd.ntmps36
  go_wp2
  go_ret
  exact ⟨rfl, rfl⟩

/-- With and Without, one kind after another. -/
def ErrK (w : World) (a : Addr) : Prop := w.cell? ⟨4, 0, none⟩ = some (.iface 73 (.pointer (some a)))
theorem ErrK.below {w w' : World} {a : Addr} (h : ErrK w a) (hb : RowKit.Below w.heap.size w w') : ErrK w' a := Bc hb (cell_lt h) h
theorem op_any (on : Bool) (fn : Nat) (hfn : fn = if on then 33 else 34) (m k : Nat) (hm : m < 18446744073709551616) (hk : k < 64) (w : World) : Calls Tryd.prog fn #[.int .u64 m, .int .u64 ((2 ^ k : Nat) : Int)] w fun e w' => e = .returned (.int .u64 (opN on m k : Nat)) ∧ w = w' := by
  subst hfn
  cases on
  · simpa [opN] using without1_any m (2 ^ k) hm (pow64 hk) w
  · simpa [opN] using with1_any m (2 ^ k) hm (pow64 hk) w
end Go.Proofs.YtcmfkjjagffjnaaDoor
