/-
  MasksBack: a right mask comes back from its kinds, and what is put to it is taken away again.
-/
import Derived.Test.YtcmfkjjagffjnaaDoorMor
namespace Go.Proofs.YtcmfkjjagffjnaaDoor
set_option linter.unusedSimpArgs false
set_option linter.unusedVariables false
open Go.RowKit Go.Sort Go.Lib Go.Shelf

theorem kinds_right {q : Nat} (hq : q < 1024) : (kindsOf fun i => q.testBit i).all kindB = true := by
  rw [List.all_eq_true]
  intro k hk
  unfold kindsOf at hk
  obtain ⟨i, hi, rfl⟩ := List.mem_map.1 hk
  have h1 := ((mem_bitsOf _ i).1 hi).2
  rw [kindB_iff]
  rcases Nat.lt_or_ge i 10 with h | h
  · exact ⟨Int.natCast_nonneg i, by show (i : Int) < 10; omega⟩
  · have h2 : q < 2 ^ i := Nat.lt_of_lt_of_le hq (by
      have : 2 ^ 10 ≤ 2 ^ i := Nat.pow_le_pow_right (by decide) h
      omega)
    rw [Nat.testBit_lt_two_pow h2] at h1
    cases h1
theorem mem_kindsOf (f : Nat → Bool) (i : Nat) : (i : Int) ∈ kindsOf f ↔ i < 64 ∧ f i = true := by
  unfold kindsOf
  rw [← mem_bitsOf, List.mem_map]
  constructor
  · rintro ⟨j, hj, e⟩
    have : j = i := Int.ofNat.inj e
    exact this ▸ hj
  · exact fun h => ⟨i, h, rfl⟩
theorem back_is {q : Nat} (hq : q < 1024) : foldN true 0 (kindsOf fun i => q.testBit i) = q := by
  have hk : ∀ k ∈ kindsOf fun i => q.testBit i, kindB k = true := fun k h => List.all_eq_true.1 (kinds_right hq) k h
  refine tb_ext (foldN_lt true 0 _ (by decide) hk) (by omega) fun i hi => ?_
  rw [order_bits (by decide) hk, Nat.zero_testBit, Bool.false_or]
  cases h : q.testBit i
  · exact decide_eq_false fun hm => by rw [((mem_kindsOf _ i).1 hm).2] at h; cases h
  · exact decide_eq_true ((mem_kindsOf _ i).2 ⟨hi, h⟩)

set_option maxHeartbeats 4000000 in
set_option maxRecDepth 100000 in
theorem masksBack_walk (m : Nat) (x : Int) (hm : m < 18446744073709551616) (w : World) (A : Addr) (hE : ErrK w A) (hT : TabW w) :
    Calls Tryd.prog 6 #[.int .u64 m, .int .i64 x] w fun e w' => e = .returned (.bool true) ∧ RowKit.Below w.heap.size w w' := by
  have HE := Lib.hid hE
  have HT := Lib.hid hT
  clear hE hT
  obtain ⟨q, hq⟩ : ∃ q, q = m % 1024 := ⟨_, rfl⟩
  have e1 : (m : Int) % 1024 = (q : Int) := by rw [hq]; omega
  have hql : q < 1024 := by rw [hq]; omega
  obtain ⟨n, hn⟩ : ∃ n : Nat, (n : Int) = x % 18446744073709551616 % 10 := ⟨(x % 18446744073709551616 % 10).toNat, by omega⟩
  have e2 : wrap64 ((IntKind.u64.wrap x).tmod 10) = (n : Int) := by
    rw [IntKind.wrap_u64, Int.tmod_eq_emod_of_nonneg (by omega), ← hn]
    unfold wrap64
    omega
  have hnl : n < 10 := by omega
  have hk : kindB (n : Int) = true := by rw [kindB_iff]; omega
  have hq64 : q < 18446744073709551616 := by omega
  have hn64 : n < 64 := by omega
  obtain ⟨K, hK⟩ : ∃ K, K = kindsOf fun i => q.testBit i := ⟨_, rfl⟩
  have k1 : ∀ W, TabW W → Calls Tryd.prog 19 #[.int .u64 q] W fun e w' => ∃ v', e = .returned v' ∧ w'.ownsRow W.heap.size 3 1 v' K.length (flat encI K) ∧ RowKit.Below W.heap.size W w' := fun W hW => by rw [hK]; exact mkinds_call q hq64 W hW
  have k2 : resK true 0 K A = .tuple #[.int .u64 q, .nilIface] := by rw [hK, resK_yes (kinds_right hql), back_is hql]
  obtain ⟨a, ha⟩ : ∃ a, a = opN true q n := ⟨_, rfl⟩
  have hal : a < 18446744073709551616 := by rw [ha]; exact opN_lt true hq64 hn64
  obtain ⟨b, hb⟩ : ∃ b, b = opN false a n := ⟨_, rfl⟩
  have hbl : b < 18446744073709551616 := by rw [hb]; exact opN_lt false hal hn64
  have k3 : resK true q [(n : Int)] A = .tuple #[.int .u64 a, .nilIface] := by rw [resK_yes (by simp [hk]), ha]; rfl
  have k4 : resK false a [(n : Int)] A = .tuple #[.int .u64 b, .nilIface] := by rw [resK_yes (by simp [hk]), hb]; rfl
  have hbits : ∀ i, b.testBit i = if i = n then false else q.testBit i := fun i => by
    rw [hb, opN_bit false hal hn64, ha, opN_bit true hq64 hn64]
    split <;> rfl
  have hbq : opN false q n = b := tb_ext (opN_lt false hq64 hn64) hbl fun i _ => by rw [opN_bit false hq64 hn64, hbits]
  have k5 : resK false q [(n : Int)] A = .tuple #[.int .u64 b, .nilIface] := by rw [resK_yes (by simp [hk]), ← hbq]; rfl
  have habit : a.testBit n = true := by rw [ha, opN_bit true hq64 hn64, if_pos rfl]
  have hbbit : b.testBit n = false := by rw [hbits, if_pos rfl]
  have haq : a &&& q = q := by
    rw [and_eq_iff]
    intro i hi
    rw [ha, opN_bit true hq64 hn64, hi]
    split <;> rfl
  have hqb : q &&& b = b := by
    rw [and_eq_iff]
    intro i hi
    rw [hbits] at hi
    split at hi
    · cases hi
    · exact hi
  have c1 := fun w => mhas_any a hal (n : Int) w
  have c2 := fun w => mhas_any b hbl (n : Int) w
  have c3 := fun w => holds_any a q hal hq64 w
  have c4 := fun w => holds_any q b hq64 hbl w
  rw [hk, Int.toNat_natCast, habit] at c1
  rw [hk, Int.toNat_natCast, hbbit] at c2
  rw [haq] at c3
  rw [hqb] at c4
  have C1 := Lib.hid c1
  have C2 := Lib.hid c2
  have C3 := Lib.hid c3
  have C4 := Lib.hid c4
  have K1 := Lib.hid k1
  have D2 := Lib.hid (fun v w (hl : Sl encI w v K) (hE : ErrK w A) => k2 ▸ of_call K v A w hl hE)
  have D3 := Lib.hid (fun v w (hl : Sl encI w v [(n : Int)]) (hE : ErrK w A) => k3 ▸ with_call q [(n : Int)] v A w hl hq64 hE)
  have D4 := Lib.hid (fun v w (hl : Sl encI w v [(n : Int)]) (hE : ErrK w A) => k4 ▸ without_call a [(n : Int)] v A w hl hal hE)
  have D5 := Lib.hid (fun v w (hl : Sl encI w v [(n : Int)]) (hE : ErrK w A) => k5 ▸ without_call q [(n : Int)] v A w hl hq64 hE)
  have SL : Hid (∀ W : World, Sl encI (W.alloc (.cells #[.int .i64 (n : Int)] 3)) (.slice (some ⟨W.heap.size, 0, none⟩) 1 1) [(n : Int)]) := fun W => sl_lit (enc := encI) (w := W) (cs := #[.int .i64 (n : Int)]) (t := 3) (b := W.heap.size) [(n : Int)] rfl rfl (by unfold maxLen; simp)
  clear hq hn hnl hk hK k1 k2 ha hb k3 k4 k5 hbits hbq habit hbbit haq hqb c1 c2 c3 c4 hq64 hn64 hal hbl hql hm
  go_enter Tryd.func6, Tryd.ntmps6
  go_wp2_with fail
  refine (alive_any _ A HE.out).mono ?_
  rintro e w1 ⟨rfl, hg1⟩
  have G1 := Lib.hid hg1
  clear hg1
  go_wp2_with fail
  refine (K1.out w1 (HT.out.below G1.out.below)).mono ?_
  rintro e w2 ⟨v2, rfl, ho2, hb2⟩
  have S2 := Lib.hid (row_sl lenI ho2 rfl)
  have B2 := Lib.hid (Bt G1.out.below hb2)
  clear ho2 hb2 G1
  go_wp2_with fail
  refine (D2.out _ w2 S2.out (HE.out.below B2.out)).mono ?_
  rintro e w3 ⟨rfl, hg3⟩
  have B3 := Lib.hid (Bt B2.out hg3.below)
  clear hg3 B2 S2
  go_wp2_with fail
  refine (D3.out _ _ (SL.out w3) (HE.out.below (Ba B3.out _))).mono ?_
  rintro e w4 ⟨rfl, hg4⟩
  have B4 := Lib.hid (Bt (Ba B3.out _) hg4.below)
  clear hg4 B3
  go_wp2_with fail
  refine (D4.out _ _ (SL.out w4) (HE.out.below (Ba B4.out _))).mono ?_
  rintro e w5 ⟨rfl, hg5⟩
  have B5 := Lib.hid (Bt (Ba B4.out _) hg5.below)
  clear hg5 B4
  go_wp2_with fail
  refine (D5.out _ _ (SL.out w5) (HE.out.below (Ba B5.out _))).mono ?_
  rintro e w6 ⟨rfl, hg6⟩
  have B6 := Lib.hid (Bt (Ba B5.out _) hg6.below)
  clear hg6 B5
  go_wp2_with (first
    | (go_at_call_of 24 (Value.int .u64 a); refine (C1.out _).mono ?_; rintro e w7 ⟨rfl, rfl⟩)
    | (go_at_call_of 24 (Value.int .u64 b); refine (C2.out _).mono ?_; rintro e w7 ⟨rfl, rfl⟩)
    | (go_at_call_of 29 (Value.int .u64 a); refine (C3.out _).mono ?_; rintro e w7 ⟨rfl, rfl⟩)
    | (go_at_call_of 29 (Value.int .u64 b); refine (C4.out _).mono ?_; rintro e w7 ⟨rfl, rfl⟩))
  go_ret
  exact ⟨ret_bool (by simp), B6.out⟩
end Go.Proofs.YtcmfkjjagffjnaaDoor
