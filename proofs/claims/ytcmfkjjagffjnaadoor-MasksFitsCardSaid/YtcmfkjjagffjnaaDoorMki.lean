/-
  MasksKinds: which bits every mask has, how many, and whether it is right.
-/
import Derived.Test.YtcmfkjjagffjnaaDoorMba
namespace Go.Proofs.YtcmfkjjagffjnaaDoor
set_option linter.unusedSimpArgs false
set_option linter.unusedVariables false
open Go.RowKit Go.Sort Go.Lib Go.Shelf

theorem kinds_pair (f : Nat → Bool) : (kindsOf f).Pairwise (· < ·) := by
  unfold kindsOf bitsOf
  rw [List.pairwise_map]
  exact (List.Pairwise.filter _ List.pairwise_lt_range).imp fun h => by show Int.ofNat _ < Int.ofNat _; simp only [Int.ofNat_eq_natCast]; omega
theorem last_max {l : List Int} (h : l.Pairwise (· < ·)) {j : Nat} (hj : l.length = j + 1) {x : Int} (hx : x ∈ l) : x ≤ l[j]! := by
  obtain ⟨i, hi, rfl⟩ := List.getElem_of_mem hx
  rw [getElem!_pos l j (by omega)]
  rcases Nat.lt_or_ge i j with h1 | h1
  · exact Int.le_of_lt (List.pairwise_iff_getElem.1 h i j hi (by omega) h1)
  · have : i = j := by omega
    subst this
    exact Int.le_refl _
theorem right_none {m : Nat} (hm : m < 18446744073709551616) (h : (kindsOf fun i => m.testBit i).length = 0) : m < 1024 := by
  rcases Nat.lt_or_ge m 1024 with h1 | h1
  · exact h1
  · obtain ⟨i, hi, hb⟩ := tb_zero (show m ≠ 0 by omega) hm
    have := (mem_kindsOf (fun i => m.testBit i) i).2 ⟨hi, hb⟩
    rw [List.length_eq_zero_iff.1 h] at this
    simp at this
theorem right_last {m : Nat} (hm : m < 18446744073709551616) {j : Nat} (hj : (kindsOf fun i => m.testBit i).length = j + 1) : (kindsOf fun i => m.testBit i)[j]! < 10 ↔ m < 1024 := by
  constructor
  · intro h
    have : m < 2 ^ 10 := Nat.lt_pow_two_of_testBit m fun i hi => by
      cases e : m.testBit i
      · rfl
      · rcases Nat.lt_or_ge i 64 with h64 | h64
        · have h1 := last_max (kinds_pair _) hj ((mem_kindsOf (fun i => m.testBit i) i).2 ⟨h64, e⟩)
          omega
        · rw [lt64 hm h64] at e; cases e
    omega
  · intro h
    have h1 : (kindsOf fun i => m.testBit i)[j]! ∈ kindsOf fun i => m.testBit i := by rw [getElem!_pos _ j (by omega)]; exact List.getElem_mem _
    exact ((kindB_iff _).1 (List.all_eq_true.1 (kinds_right h) _ h1)).2

theorem sameInts_is {la lb : List Int} {va vb : Value} {w : World} (ha : Sl encI w va la) (hb : Sl encI w vb lb) (h : la = lb) : Calls Tryd.prog 21 #[va, vb] w fun e w' => e = .returned (.bool true) ∧ Gr w w' := by
  have := sameInts_call la lb va vb w ha hb
  rwa [decide_eq_true h] at this

set_option maxHeartbeats 4000000 in
set_option maxRecDepth 100000 in
theorem masksKinds_walk (m : Nat) (x : Int) (hm : m < 18446744073709551616) (w : World) (A : Addr) (hE : ErrK w A) (hT : TabW w) :
    Calls Tryd.prog 4 #[.int .u64 m, .int .i64 x] w fun e w' => e = .returned (.bool true) ∧ RowKit.Below w.heap.size w w' := by
  have HE := Lib.hid hE
  have HT := Lib.hid hT
  clear hE hT
  have hz := bv_zero.symm
  have hs := bv_size
  obtain ⟨f, hf⟩ : ∃ f : Nat → Bool, f = fun i => m.testBit i := ⟨_, rfl⟩
  obtain ⟨K, hK⟩ : ∃ K, K = kindsOf f := ⟨_, rfl⟩
  have C0 : Hid (∀ W, Calls Tryd.prog 15 #[.int .u64 m] W fun e w' => e = .returned (.agg (bv f)) ∧ Gr W w') := fun W => by rw [hf]; exact from_call m hm W
  have C1 : Hid (∀ W, TabW W → Calls Tryd.prog 19 #[.int .u64 m] W fun e w' => ∃ v', e = .returned v' ∧ w'.ownsRow W.heap.size 3 1 v' K.length (flat encI K) ∧ RowKit.Below W.heap.size W w') := fun W hW => by rw [hK, hf]; exact mkinds_call m hm W hW
  have C2 : Hid (∀ W, Calls Tryd.prog 20 #[.agg (bv f)] W fun e w' => ∃ v', e = .returned v' ∧ w'.ownsRow W.heap.size 3 1 v' K.length (flat encI K) ∧ RowKit.Below W.heap.size W w') := fun W => by rw [hK]; exact rkinds_call f W
  have hcl : cnt 64 m = K.length := by rw [cnt_bits, hK, hf]; unfold kindsOf; rw [List.length_map]
  have C3 : Hid (∀ W, Calls Tryd.prog 22 #[.int .u64 m] W fun e w' => e = .returned (.int .i64 (K.length : Nat)) ∧ W = w') := fun W => by rw [← hcl]; exact mcount_any m hm W
  have hkl : K.length ≤ 64 := by rw [hK]; exact kinds_len f
  have hr0 : K.length = 0 → m < 1024 := fun h => right_none hm (by rw [← hf, ← hK]; exact h)
  have hrj : ∀ j, K.length = j + 1 → (K[j]! < 10 ↔ m < 1024) := fun j h => by
    have := right_last hm (j := j) (by rw [← hf, ← hK]; exact h)
    rwa [← hf, ← hK] at this
  have hhas : kindB x = true → decide (x ∈ K) = m.testBit x.toNat := fun h => by
    have hb := (kindB_iff x).1 h
    obtain ⟨n, rfl⟩ : ∃ n : Nat, x = n := ⟨x.toNat, by omega⟩
    rw [hK, hf, Int.toNat_natCast]
    cases e : m.testBit n
    · exact decide_eq_false fun hm => by rw [((mem_kindsOf _ n).1 hm).2] at e; cases e
    · exact decide_eq_true ((mem_kindsOf _ n).2 ⟨by omega, e⟩)
  have cr := fun W => mright_any m W
  obtain ⟨r, hr⟩ : ∃ r, r = decide (m < 1024) := ⟨_, rfl⟩
  rw [← hr] at cr
  have CR := Lib.hid cr
  have cm := fun W => mhas_any m hm x W
  have HR0 : Hid (K.length = 0 → r = true) := fun h => by rw [hr]; exact decide_eq_true (hr0 h)
  have HRJ : Hid (∀ j, K.length = j + 1 → decide (K[j]! < 10) = r) := fun j h => by rw [hr]; exact decide_eq_decide.2 (hrj j h)
  obtain ⟨b, hb⟩ : ∃ b, b = kindB x := ⟨_, rfl⟩
  obtain ⟨c, hc⟩ : ∃ c, c = (kindB x && m.testBit x.toNat) := ⟨_, rfl⟩
  rw [← hc] at cm
  have CM := Lib.hid cm
  have CK : Hid (∀ W, Calls Tryd.prog 25 #[.int .i64 x] W fun e w' => e = .returned (.bool b) ∧ W = w') := fun W => by rw [hb]; exact rkind_any x W
  have CI : Hid (b = true → ∀ v W, Sl encI W v K → Calls Tryd.prog 26 #[v, .int .i64 x] W fun e w' => e = .returned (.bool c) ∧ Gr W w') := fun h v W hs => by
    have := in_call K v x W hs
    rwa [hhas (hb ▸ h), show m.testBit x.toNat = c by rw [hc, ← hb, h, Bool.true_and]] at this
  have HC0 : Hid (b = false → c = false) := fun h => by rw [hc, ← hb, h, Bool.false_and]
  clear hf hK hcl hr0 hrj hhas cr hr cm hb hc hm
  go_enter Tryd.func4, Tryd.ntmps4
  go_wp2_with fail
  refine (alive_any _ A HE.out).mono ?_
  rintro e w1 ⟨rfl, hg1⟩
  have B1 := Lib.hid hg1.below
  clear hg1
  go_wp2_with fail
  refine (C0.out w1).mono ?_
  rintro e w2 ⟨rfl, hg2⟩
  have B2 := Lib.hid (Bt B1.out hg2.below)
  clear hg2 B1
  have hst := fun f g t => st_new w2 w2.heap.size rfl f g t
  go_wp2_with fail
  refine (C1.out _ (HT.out.below (Ba B2.out _))).mono ?_
  rintro e w3 ⟨v3, rfl, ho3, hb3⟩
  have B3 := Lib.hid (Bt (Ba B2.out _) hb3)
  have O3 := Lib.hid ho3
  have HH := Lib.hid ((hb3.block w2.heap.size (by simp)).trans (heap_new w2 w2.heap.size rfl (.cells (bv f) 32)))
  clear hst ho3 hb3 B2
  go_wp2_with (refine wpl_ld rfl _ rfl w2.heap.size (by rfl) f 32 HH.out ?_)
  refine (C2.out _).mono ?_
  rintro e w4 ⟨v4, rfl, ho4, hb4⟩
  have B4 := Lib.hid (Bt B3.out hb4)
  have S3 := Lib.hid (row_sl lenI (row_below O3.out hb4) rfl)
  have s4 := row_sl lenI ho4 rfl
  clear ho4 hb4 O3 B3 HH
  obtain ⟨p4, c4, rfl, h41, h42, h43⟩ := s4
  have S4 := Lib.hid (show Sl encI w4 (.slice p4 K.length c4) K from ⟨p4, c4, rfl, h41, h42, h43⟩)
  have HL := Lib.hid h43
  clear h43 h42
  have he : ((K.length : Int) == (K.length : Int)) = true := by simp
  by_cases hK0 : K.length = 0
  · have hl0 : ((K.length : Int) == 0) = true := by rw [hK0]; rfl
    have hr := HR0.out hK0
    subst hr
    clear hK0 hz hs
    cases b
    · have hc := HC0.out rfl
      subst hc
      go_wp2_with (first
        | (go_at_call 21; refine (sameInts_is S3.out S4.out rfl).mono ?_; rintro e w5 ⟨rfl, hg5⟩; have S5 := Lib.hid (S4.out.below hg5.below); have B5 := Lib.hid (Bt B4.out hg5.below); clear hg5)
        | (go_at_call 22; refine (C3.out _).mono ?_; rintro e w6 ⟨rfl, rfl⟩)
        | (go_at_call 23; refine (CR.out _).mono ?_; rintro e w6 ⟨rfl, rfl⟩)
        | (go_at_call 24; refine (CM.out _).mono ?_; rintro e w6 ⟨rfl, rfl⟩)
        | (go_at_call 25; refine (CK.out _).mono ?_; rintro e w6 ⟨rfl, rfl⟩)
        | (go_at_call 26; refine (CI.out (by trivial) _ _ S5.out).mono ?_; rintro e w7 ⟨rfl, hg7⟩))
      go_ret
      exact ⟨ret_bool (by simp), B5.out⟩
    · cases c
      all_goals
        go_wp2_with (first
        | (go_at_call 21; refine (sameInts_is S3.out S4.out rfl).mono ?_; rintro e w5 ⟨rfl, hg5⟩; have S5 := Lib.hid (S4.out.below hg5.below); have B5 := Lib.hid (Bt B4.out hg5.below); clear hg5)
        | (go_at_call 22; refine (C3.out _).mono ?_; rintro e w6 ⟨rfl, rfl⟩)
        | (go_at_call 23; refine (CR.out _).mono ?_; rintro e w6 ⟨rfl, rfl⟩)
        | (go_at_call 24; refine (CM.out _).mono ?_; rintro e w6 ⟨rfl, rfl⟩)
        | (go_at_call 25; refine (CK.out _).mono ?_; rintro e w6 ⟨rfl, rfl⟩)
        | (go_at_call 26; refine (CI.out (by trivial) _ _ S5.out).mono ?_; rintro e w7 ⟨rfl, hg7⟩))
        go_ret
        exact ⟨ret_bool (by simp), Bt B5.out hg7.below⟩
  · have hl0 : ((K.length : Int) == 0) = false := by rw [beq_eq_false_iff_ne]; omega
    obtain ⟨j, hj⟩ : ∃ j, K.length = j + 1 := ⟨K.length - 1, by omega⟩
    have hjl : j < K.length := by omega
    have hrj := HRJ.out j hj
    have hidx : (K.length : Int) - 1 = (j : Int) := by omega
    obtain ⟨g, o, rfl, hg1, hg2⟩ := HL.out (by omega)
    have c1 := atI hg2 hjl
    generalize hy : K[j]! = y at c1 hrj
    clear hg2 hy hj hK0 hz hs
    cases r
    all_goals
      cases b
      · have hc := HC0.out rfl
        subst hc
        have hy : ¬ y < 10 ∨ y < 10 := by omega
        go_wp2_with (first
        | (go_at_call 21; refine (sameInts_is S3.out S4.out rfl).mono ?_; rintro e w5 ⟨rfl, hg5⟩; have S5 := Lib.hid (S4.out.below hg5.below); have B5 := Lib.hid (Bt B4.out hg5.below); clear hg5)
        | (go_at_call 22; refine (C3.out _).mono ?_; rintro e w6 ⟨rfl, rfl⟩)
        | (go_at_call 23; refine (CR.out _).mono ?_; rintro e w6 ⟨rfl, rfl⟩)
        | (go_at_call 24; refine (CM.out _).mono ?_; rintro e w6 ⟨rfl, rfl⟩)
        | (go_at_call 25; refine (CK.out _).mono ?_; rintro e w6 ⟨rfl, rfl⟩)
        | (go_at_call 26; refine (CI.out (by trivial) _ _ S5.out).mono ?_; rintro e w7 ⟨rfl, hg7⟩))
        all_goals (go_ret; exact ⟨ret_bool (by simp_all), B5.out⟩)
      · cases c
        all_goals
          go_wp2_with (first
        | (go_at_call 21; refine (sameInts_is S3.out S4.out rfl).mono ?_; rintro e w5 ⟨rfl, hg5⟩; have S5 := Lib.hid (S4.out.below hg5.below); have B5 := Lib.hid (Bt B4.out hg5.below); clear hg5)
        | (go_at_call 22; refine (C3.out _).mono ?_; rintro e w6 ⟨rfl, rfl⟩)
        | (go_at_call 23; refine (CR.out _).mono ?_; rintro e w6 ⟨rfl, rfl⟩)
        | (go_at_call 24; refine (CM.out _).mono ?_; rintro e w6 ⟨rfl, rfl⟩)
        | (go_at_call 25; refine (CK.out _).mono ?_; rintro e w6 ⟨rfl, rfl⟩)
        | (go_at_call 26; refine (CI.out (by trivial) _ _ S5.out).mono ?_; rintro e w7 ⟨rfl, hg7⟩))
          all_goals (go_ret; exact ⟨ret_bool (by simp_all), Bt B5.out hg7.below⟩)
end Go.Proofs.YtcmfkjjagffjnaaDoor
