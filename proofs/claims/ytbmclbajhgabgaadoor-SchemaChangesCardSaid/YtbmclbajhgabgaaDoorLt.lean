/-
  The walk of SchemaTurns.
-/
import Derived.Test.YtbmclbajhgabgaaDoorLs
import Derived.Test.YtbmclbajhgabgaaDoorVs
import Derived.Deep.CutBlock
import Derived.Deep.DeepCutAuto
namespace Go.Proofs.YtbmclbajhgabgaaDoor
set_option linter.unusedSimpArgs false
set_option linter.unusedVariables false
open Go.RowKit Go.Sort Go.Lib Go.Shelf

/-! ### The masks of a row with a component, and without one. -/
theorem fold_bit : ∀ (ks : List Int) (m i : Nat), m < 18446744073709551616 → (∀ k ∈ ks, kindB k = true) → (foldN true m ks).testBit i = (m.testBit i || ks.any fun k => k.toNat == i)
  | [], m, i, _, _ => by simp [foldN]
  | k :: r, m, i, hm, hk => by
    have hb := (kindB_iff k).1 (hk k (by simp))
    have hk64 : k.toNat < 64 := by omega
    have e : foldN true m (k :: r) = foldN true (opN true m k.toNat) r := rfl
    rw [e, fold_bit r _ i (opN_lt true hm hk64) (fun x hx => hk x (by simp [hx])), opN_bit true hm hk64, List.any_cons]
    by_cases h : i = k.toNat
    · simp [h]
    · have : (k.toNat == i) = false := beq_eq_false_iff_ne.2 (fun e => h e.symm)
      simp [h, this]
theorem kinds_ok {l : List Vl} (hr : ∀ x ∈ l, chk x = 0) : ∀ k ∈ kindsV l, kindB k = true := fun k hk => List.all_eq_true.1 (kindsV_all hr) k hk
theorem maskV_bit {l : List Vl} (hr : ∀ x ∈ l, chk x = 0) (i : Nat) : (maskV l).testBit i = true ↔ ∃ x ∈ l, x.1.toNat = i := by
  rw [show maskV l = foldN true 0 (kindsV l) from rfl, fold_bit _ 0 i (by decide) (kinds_ok hr), Nat.zero_testBit, Bool.false_or, List.any_eq_true]
  constructor
  · rintro ⟨k, hk, h⟩
    obtain ⟨x, hx, rfl⟩ := List.mem_map.1 hk
    exact ⟨x, hx, by simpa using h⟩
  · rintro ⟨x, hx, rfl⟩
    exact ⟨x.1, List.mem_map.2 ⟨x, hx, rfl⟩, by simp⟩
theorem maskV_lt {l : List Vl} (hr : ∀ x ∈ l, chk x = 0) : maskV l < 18446744073709551616 := foldN_lt true 0 _ (by decide) (kinds_ok hr)
theorem maskV_put {l : List Vl} {x : Vl} (hr : RightV l) (hx : chk x = 0) : opN true (maskV l) x.1.toNat = maskV (putV l x) := by
  have hb := (kindB_iff x.1).1 (chk_kind hx)
  refine Nat.eq_of_testBit_eq fun i => ?_
  rw [Bool.eq_iff_iff, opN_bit true (maskV_lt hr.2) (by omega), maskV_bit (putV_right hr hx).2]
  constructor
  · intro h
    by_cases e : i = x.1.toNat
    · exact ⟨x, (mem_putV l x x).2 (.inl rfl), e.symm⟩
    · rw [if_neg e] at h
      obtain ⟨y, hy, rfl⟩ := (maskV_bit hr.2 i).1 h
      exact ⟨y, (mem_putV l x y).2 (.inr ⟨hy, fun e2 => e (by rw [e2])⟩), rfl⟩
  · rintro ⟨y, hy, rfl⟩
    rcases (mem_putV l x y).1 hy with rfl | ⟨hy, hne⟩
    · simp
    · split
      · rfl
      · exact (maskV_bit hr.2 _).2 ⟨y, hy, rfl⟩
theorem maskV_drop {l : List Vl} {k : Int} (hr : RightV l) (hk : kindB k = true) : opN false (maskV l) k.toNat = maskV (dropV l k) := by
  have hb := (kindB_iff k).1 hk
  refine Nat.eq_of_testBit_eq fun i => ?_
  rw [Bool.eq_iff_iff, opN_bit false (maskV_lt hr.2) (by omega), maskV_bit (dropV_right k hr).2]
  constructor
  · intro h
    by_cases e : i = k.toNat
    · rw [if_pos e] at h; cases h
    · rw [if_neg e] at h
      obtain ⟨y, hy, rfl⟩ := (maskV_bit hr.2 i).1 h
      exact ⟨y, (mem_dropV l k y).2 ⟨hy, fun e2 => e (by rw [e2])⟩, rfl⟩
  · rintro ⟨y, hy, rfl⟩
    obtain ⟨hy, hne⟩ := (mem_dropV l k y).1 hy
    have hy2 := (kindB_iff y.1).1 (chk_kind (hr.2 y hy))
    rw [if_neg (fun e => hne (by omega))]
    exact (maskV_bit hr.2 _).2 ⟨y, hy, rfl⟩
theorem find_put {l : List Vl} (x : Vl) (hr : RiseK l) : fndV (putV l x) x.1 = x ∧ hasK (putV l x) x.1 = true := by
  have := find_rise (putV_rise x hr) ((mem_putV l x x).2 (.inl rfl))
  unfold fndV hasK
  rw [this]
  exact ⟨rfl, rfl⟩
set_option maxHeartbeats 4000000 in
set_option maxRecDepth 100000 in
theorem turns_walk (l : List Vl) (v : Value) (x1 x2 x3 : Int) (w : World) (hl : Sl encV w v l) (A : Nat → Addr) (hE : Er w A) :
    Calls Tryd.prog 8 #[v, .agg #[.int .i64 x1, .int .i64 x2, .int .i64 x3]] w fun e w' => e = .returned (.bool true) ∧ RowKit.Below w.heap.size w w' := by
  have HE := Lib.hid hE
  have HS := Lib.hid hl
  obtain ⟨p, cap, rfl, hl1, hl2, _⟩ := hl
  have hbig : l.length ≤ 9223372036854775807 := by unfold maxLen at hl2; omega
  clear hE hl2
  go_enter Tryd.func8, Tryd.ntmps8
  go_wp2_with fail
  refine (alive_any A _ (HE.out.below (Ba (Below.refl _ w) (.cells #[.int .i64 x1, .int .i64 x2, .int .i64 x3] 23)))).mono ?_
  rintro e w1 ⟨rfl, hb1⟩
  have B1 := Lib.hid (Bt (Ba (Below.refl _ w) (.cells #[.int .i64 x1, .int .i64 x2, .int .i64 x3] 23)) hb1)
  have c10 : w1.cell? ⟨w.heap.size, 0, none⟩ = some (.int .i64 x1) := Bc hb1 (by simp) (by simp)
  have c11 : w1.cell? ⟨w.heap.size, 1, none⟩ = some (.int .i64 x2) := Bc hb1 (by simp) (by simp)
  have c12 : w1.cell? ⟨w.heap.size, 2, none⟩ = some (.int .i64 x3) := Bc hb1 (by simp) (by simp)
  have hl1' : w.heap.size < w1.heap.size := Bl hb1 (by simp)
  clear hb1
  by_cases hlen : l.length ≤ 20
  · have hlt : ¬ (20 : Int) < (l.length : Int) := by omega
    go_wp2_with fail
    refine (right_call l _ A w1 (HS.out.below B1.out) (HE.out.below B1.out)).mono ?_
    rintro e w2 ⟨rfl, hg2⟩
    have hb2 := hg2.below
    have c20 : w2.cell? ⟨w.heap.size, 0, none⟩ = some (.int .i64 x1) := Bc hb2 hl1' c10
    have c21 : w2.cell? ⟨w.heap.size, 1, none⟩ = some (.int .i64 x2) := Bc hb2 hl1' c11
    have c22 : w2.cell? ⟨w.heap.size, 2, none⟩ = some (.int .i64 x3) := Bc hb2 hl1' c12
    have hl2' : w.heap.size < w2.heap.size := Bl hb2 hl1'
    have B2 := Lib.hid (Bt B1.out hb2)
    clear hg2 hb2 c10 c11 c12
    cases hq : rightB l
    · clear hq
      go_wp2
      go_ret
      exact ⟨rfl, B2.out⟩
    · have HRT := Lib.hid ((rightB_iff l).1 hq)
      have FC : Hid (∀ W, Er W A → Calls Tryd.prog 12 #[.agg #[.int .i64 x1, .int .i64 x2, .int .i64 x3]] W fun e w' => e = .returned (errV A (chk (x1, x2, x3))) ∧ Gr W w') := fun W h => check_any (x1, x2, x3) A W h
      clear hq
      by_cases hk : chk (x1, x2, x3) = 0
      · rw [hk, errV_no] at FC
        have HK := Lib.hid hk
        have HKB := Lib.hid (chk_kind hk)
        clear hk
        go_wp2_with fail
        refine (FC.out w2 (HE.out.below B2.out)).mono ?_
        rintro e w3 ⟨rfl, hg3⟩
        have hb3 := hg3.below
        have c30 : w3.cell? ⟨w.heap.size, 0, none⟩ = some (.int .i64 x1) := Bc hb3 hl2' c20
        have c31 : w3.cell? ⟨w.heap.size, 1, none⟩ = some (.int .i64 x2) := Bc hb3 hl2' c21
        have c32 : w3.cell? ⟨w.heap.size, 2, none⟩ = some (.int .i64 x3) := Bc hb3 hl2' c22
        have hl3 : w.heap.size < w3.heap.size := Bl hb3 hl2'
        have B3 := Lib.hid (Bt B2.out hb3)
        clear hg3 hb3 c20 c21 c22 FC
        go_wp2_with fail
        refine (put_call l _ x1 x2 x3 w3 (HS.out.below B3.out) HRT.out.1 (by omega)).mono ?_
        rintro e w4 ⟨⟨v4, rfl, hs4⟩, hb4⟩
        have c40 : w4.cell? ⟨w.heap.size, 0, none⟩ = some (.int .i64 x1) := Bc hb4 hl3 c30
        have c41 : w4.cell? ⟨w.heap.size, 1, none⟩ = some (.int .i64 x2) := Bc hb4 hl3 c31
        have c42 : w4.cell? ⟨w.heap.size, 2, none⟩ = some (.int .i64 x3) := Bc hb4 hl3 c32
        have hl4 : w.heap.size < w4.heap.size := Bl hb4 hl3
        have B4 := Lib.hid (Bt B3.out hb4)
        have S4 := Lib.hid hs4
        clear hs4 hb4 c30 c31 c32
        have PR := Lib.hid (putV_right HRT.out HK.out)
        have DR := Lib.hid (dropV_right x1 HRT.out)
        have FP := Lib.hid (find_put (x1, x2, x3) HRT.out.1)
        have DP := Lib.hid (show dropV (putV l (x1, x2, x3)) x1 = dropV l x1 from drop_putV (x1, x2, x3) HRT.out.1)
        have MP := Lib.hid (show opN true (maskV l) x1.toNat = maskV (putV l (x1, x2, x3)) from maskV_put HRT.out HK.out)
        have MD := Lib.hid (maskV_drop HRT.out HKB.out)
        have LP := Lib.hid (show (putV l (x1, x2, x3)).length ≤ 100000 from by
          unfold putV
          have h1 : (dropV l x1).length ≤ l.length := List.length_filter_le _ _
          simp only [List.length_append, List.length_take, List.length_drop, List.length_singleton]
          omega)
        have LD := Lib.hid (show (dropV l x1).length ≤ 100000 from by have h1 : (dropV l x1).length ≤ l.length := List.length_filter_le _ _; omega)
        generalize putV l (x1, x2, x3) = PL at *
        have FF := Lib.hid (find_call PL v4 x1 w4 S4.out)
        rw [FP.out.1, FP.out.2] at FF
        simp only [aggV] at FF
        go_wp2_with fail
        refine FF.out.mono ?_
        rintro e w5 ⟨rfl, hg5⟩
        have hb5 := hg5.below
        have c50 : w5.cell? ⟨w.heap.size, 0, none⟩ = some (.int .i64 x1) := Bc hb5 hl4 c40
        have c51 : w5.cell? ⟨w.heap.size, 1, none⟩ = some (.int .i64 x2) := Bc hb5 hl4 c41
        have c52 : w5.cell? ⟨w.heap.size, 2, none⟩ = some (.int .i64 x3) := Bc hb5 hl4 c42
        have hl5 : w.heap.size < w5.heap.size := Bl hb5 hl4
        have B5 := Lib.hid (Bt B4.out hb5)
        have S5 := Lib.hid ((S4.out.below hb5).below (Ba (Below.refl _ w5) (.cells #[.int .i64 x1, .int .i64 x2, .int .i64 x3] 23)))
        clear hg5 hb5 c40 c41 c42 FF
        have DD := Lib.hid (drop_call PL v4 x1 _ S5.out LP.out)
        rw [DP.out] at DD
        go_wp2_with fail
        refine DD.out.mono ?_
        rintro e w6 ⟨v6, rfl, ho6, hb6⟩
        have hb6' : RowKit.Below w5.heap.size w5 w6 := Bt (Ba (Below.refl _ w5) _) hb6
        have c60 : w6.cell? ⟨w.heap.size, 0, none⟩ = some (.int .i64 x1) := Bc hb6' hl5 c50
        have c61 : w6.cell? ⟨w.heap.size, 1, none⟩ = some (.int .i64 x2) := Bc hb6' hl5 c51
        have c62 : w6.cell? ⟨w.heap.size, 2, none⟩ = some (.int .i64 x3) := Bc hb6' hl5 c52
        have d60 : w6.cell? ⟨w5.heap.size, 0, none⟩ = some (.int .i64 x1) := Bc hb6 (by simp) (by simp)
        have d61 : w6.cell? ⟨w5.heap.size, 1, none⟩ = some (.int .i64 x2) := Bc hb6 (by simp) (by simp)
        have d62 : w6.cell? ⟨w5.heap.size, 2, none⟩ = some (.int .i64 x3) := Bc hb6 (by simp) (by simp)
        have hl6 : w.heap.size < w6.heap.size := Bl hb6' hl5
        have hm6 : w5.heap.size < w6.heap.size := Bl hb6 (by simp)
        have B6 := Lib.hid (Bt B5.out hb6')
        have S6 := Lib.hid (row_sl lenV ho6 rfl)
        have P6 := Lib.hid (S5.out.below hb6)
        clear ho6 hb6 hb6' c50 c51 c52 DD S5 S4
        obtain ⟨m0, hm0⟩ : ∃ m0, m0 = maskV l := ⟨_, rfl⟩
        obtain ⟨m1, hm1⟩ : ∃ m1, m1 = maskV PL := ⟨_, rfl⟩
        obtain ⟨m2, hm2⟩ : ∃ m2, m2 = maskV (dropV l x1) := ⟨_, rfl⟩
        have M1L := Lib.hid (show m1 < 18446744073709551616 from by rw [hm1]; exact maskV_lt PR.out.2)
        have CM : Hid (∀ W, RowKit.Below w6.heap.size w6 W → Calls Tryd.prog 23 #[.slice p l.length cap] W fun e w' => e = .returned (.int .u64 m0) ∧ RowKit.Below W.heap.size W w') := fun W h => by rw [hm0]; exact mask_call l _ (A 4) W (HS.out.below (Bt B6.out h)) HRT.out.2 (HE.out.below (Bt B6.out h)).k (by omega)
        have CW : Hid (∀ W v, RowKit.Below w6.heap.size w6 W → Sl encI W v [x1] → Calls Tryd.prog 33 #[.int .u64 m0, v] W fun e w' => e = .returned (.tuple #[.int .u64 m1, .nilIface]) ∧ RowKit.Below W.heap.size W w') := fun W v h hs => by
          have := with_call (maskV l) [x1] v (A 4) W hs (maskV_lt HRT.out.2) (HE.out.below (Bt B6.out h)).k
          rw [resK_yes (by simp [HKB.out]), show foldN true (maskV l) [x1] = maskV PL from MP.out, ← hm0, ← hm1] at this
          exact this.mono fun e w' h => ⟨h.1, h.2.below⟩
        have CO : Hid (∀ W v, RowKit.Below w6.heap.size w6 W → Sl encI W v [x1] → Calls Tryd.prog 34 #[.int .u64 m0, v] W fun e w' => e = .returned (.tuple #[.int .u64 m2, .nilIface]) ∧ RowKit.Below W.heap.size W w') := fun W v h hs => by
          have := without_call (maskV l) [x1] v (A 4) W hs (maskV_lt HRT.out.2) (HE.out.below (Bt B6.out h)).k
          rw [resK_yes (by simp [HKB.out]), show foldN false (maskV l) [x1] = maskV (dropV l x1) from MD.out, ← hm0, ← hm2] at this
          exact this.mono fun e w' h => ⟨h.1, h.2.below⟩
        have CP : Hid (∀ W, RowKit.Below w6.heap.size w6 W → Calls Tryd.prog 23 #[v4] W fun e w' => e = .returned (.int .u64 m1) ∧ RowKit.Below W.heap.size W w') := fun W h => by rw [hm1]; exact mask_call PL _ (A 4) W (P6.out.below h) PR.out.2 (HE.out.below (Bt B6.out h)).k LP.out
        have CG : Hid (∀ W, RowKit.Below w6.heap.size w6 W → Calls Tryd.prog 23 #[v6] W fun e w' => e = .returned (.int .u64 m2) ∧ RowKit.Below W.heap.size W w') := fun W h => by rw [hm2]; exact mask_call (dropV l x1) _ (A 4) W (S6.out.below h) DR.out.2 (HE.out.below (Bt B6.out h)).k LD.out
        have CR4 : Hid (∀ W, RowKit.Below w6.heap.size w6 W → Calls Tryd.prog 17 #[v4] W fun e w' => e = .returned (.bool true) ∧ RowKit.Below W.heap.size W w') := fun W h => by
          have := right_call PL v4 A W (P6.out.below h) (HE.out.below (Bt B6.out h))
          rw [(rightB_iff PL).2 PR.out] at this
          exact this.mono fun e w' h => ⟨h.1, h.2.below⟩
        have CR6 : Hid (∀ W, RowKit.Below w6.heap.size w6 W → Calls Tryd.prog 17 #[v6] W fun e w' => e = .returned (.bool true) ∧ RowKit.Below W.heap.size W w') := fun W h => by
          have := right_call (dropV l x1) v6 A W (S6.out.below h) (HE.out.below (Bt B6.out h))
          rw [(rightB_iff _).2 DR.out] at this
          exact this.mono fun e w' h => ⟨h.1, h.2.below⟩
        clear hm0 hm1 hm2
        go_upto_region 8 with fail
        go_cut [9, 10] (fun s9 s10 wx => s9 = .int .u64 m1 ∧ s10 = .nilIface ∧ RowKit.Below w6.heap.size w6 wx)
        case first =>
          go_region_held3 (fun w' => RowKit.Below w6.heap.size w6 w' ∧ ∀ b_1 o, b_1 < w6.heap.size → w'.cell? ⟨b_1, o, none⟩ = w6.cell? ⟨b_1, o, none⟩) (first | exact keep0 _ | exact keepB (by assumption) hb1 | exact keepA (by assumption) _ | assumption) ((first
            | (go_at_call 23; refine (CM.out _ ?_).mono ?_; (first | exact Bd (Below.refl _ _) | exact And.left (by assumption)); rintro e w1 ⟨rfl, hb1⟩)
            | (go_at_call 33; refine (CW.out _ _ ?_ ?_).mono ?_; (first | exact Bd (Below.refl _ _) | exact And.left (by assumption)); (first | exact sl_lit [x1] (by simp) rfl (by unfold maxLen; simp) | (refine Sl.below ?_ hb1; exact sl_lit [x1] (by simp) rfl (by unfold maxLen; simp))); rintro e w2 ⟨rfl, hb1⟩)))
          all_goals (go_wp2; go_meet; exact ⟨rfl, rfl, And.left (by assumption)⟩)
        case rest =>
          obtain ⟨rfl, rfl, hb7⟩ := hcut
          obtain ⟨w7, rfl⟩ : ∃ wz : World, wz = wc := ⟨_, rfl⟩
          have K7 := Lib.hid hb7
          have c70 : w7.cell? ⟨w.heap.size, 0, none⟩ = some (.int .i64 x1) := Bc hb7 hl6 c60
          have c71 : w7.cell? ⟨w.heap.size, 1, none⟩ = some (.int .i64 x2) := Bc hb7 hl6 c61
          have c72 : w7.cell? ⟨w.heap.size, 2, none⟩ = some (.int .i64 x3) := Bc hb7 hl6 c62
          have d70 : w7.cell? ⟨w5.heap.size, 0, none⟩ = some (.int .i64 x1) := Bc hb7 hm6 d60
          have d71 : w7.cell? ⟨w5.heap.size, 1, none⟩ = some (.int .i64 x2) := Bc hb7 hm6 d61
          have d72 : w7.cell? ⟨w5.heap.size, 2, none⟩ = some (.int .i64 x3) := Bc hb7 hm6 d62
          have hl7 : w.heap.size < w7.heap.size := Bl hb7 hl6
          have hm7 : w5.heap.size < w7.heap.size := Bl hb7 hm6
          clear hb7 c60 c61 c62 d60 d61 d62
          go_upto_region 9 with fail
          go_cut [11, 12] (fun s11 s12 wx => s11 = .int .u64 m2 ∧ s12 = .nilIface ∧ RowKit.Below w7.heap.size w7 wx)
          case first =>
            go_region_held3 (fun w' => RowKit.Below w7.heap.size w7 w' ∧ ∀ b_1 o, b_1 < w7.heap.size → w'.cell? ⟨b_1, o, none⟩ = w7.cell? ⟨b_1, o, none⟩) (first | exact keep0 _ | exact keepB (by assumption) hb1 | exact keepA (by assumption) _ | assumption) ((first
              | (go_at_call 23; refine (CM.out _ ?_).mono ?_; (first | exact Bt K7.out (Bd (Below.refl _ _)) | exact Bt K7.out (And.left (by assumption))); rintro e w1 ⟨rfl, hb1⟩)
              | (go_at_call 34; refine (CO.out _ _ ?_ ?_).mono ?_; (first | exact Bt K7.out (Bd (Below.refl _ _)) | exact Bt K7.out (And.left (by assumption))); (first | exact sl_lit [x1] (by simp) rfl (by unfold maxLen; simp) | (refine Sl.below ?_ hb1; exact sl_lit [x1] (by simp) rfl (by unfold maxLen; simp))); rintro e w2 ⟨rfl, hb1⟩)))
            all_goals (go_wp2; go_meet; exact ⟨rfl, rfl, And.left (by assumption)⟩)
          case rest =>
            obtain ⟨rfl, rfl, hb8⟩ := hcut
            obtain ⟨w8, rfl⟩ : ∃ wz : World, wz = wc := ⟨_, rfl⟩
            have K8 := Lib.hid (Bt K7.out hb8)
            have c80 : w8.cell? ⟨w.heap.size, 0, none⟩ = some (.int .i64 x1) := Bc hb8 hl7 c70
            have c81 : w8.cell? ⟨w.heap.size, 1, none⟩ = some (.int .i64 x2) := Bc hb8 hl7 c71
            have c82 : w8.cell? ⟨w.heap.size, 2, none⟩ = some (.int .i64 x3) := Bc hb8 hl7 c72
            have d80 : w8.cell? ⟨w5.heap.size, 0, none⟩ = some (.int .i64 x1) := Bc hb8 hm7 d70
            have d81 : w8.cell? ⟨w5.heap.size, 1, none⟩ = some (.int .i64 x2) := Bc hb8 hm7 d71
            have d82 : w8.cell? ⟨w5.heap.size, 2, none⟩ = some (.int .i64 x3) := Bc hb8 hm7 d72
            have hl8 : w.heap.size < w8.heap.size := Bl hb8 hl7
            clear hb8 c70 c71 c72 d70 d71 d72
            go_wp2_with fail
            refine (CR4.out w8 K8.out).mono ?_
            rintro e w9 ⟨rfl, hb9⟩
            have K9 := Lib.hid (Bt K8.out hb9)
            have q9 := Lib.hid (show w9.cell? ⟨w.heap.size, 0, none⟩ = some (.int .i64 x1) ∧ w.heap.size < w9.heap.size from ⟨Bc hb9 hl8 c80, Bl hb9 hl8⟩)
            clear hb9
            go_wp2_with fail
            refine (CR6.out w9 K9.out).mono ?_
            rintro e w10 ⟨rfl, hb10⟩
            have K10 := Lib.hid (Bt K9.out hb10)
            have q10 := Lib.hid (show w10.cell? ⟨w.heap.size, 0, none⟩ = some (.int .i64 x1) ∧ w.heap.size < w10.heap.size from ⟨Bc hb10 q9.out.2 q9.out.1, Bl hb10 q9.out.2⟩)
            clear hb10
            go_wp2_with fail
            refine (CP.out w10 K10.out).mono ?_
            rintro e w11 ⟨rfl, hb11⟩
            have K11 := Lib.hid (Bt K10.out hb11)
            have q11 := Lib.hid (show w11.cell? ⟨w.heap.size, 0, none⟩ = some (.int .i64 x1) ∧ w.heap.size < w11.heap.size from ⟨Bc hb11 q10.out.2 q10.out.1, Bl hb11 q10.out.2⟩)
            clear hb11
            go_wp2_with fail
            refine (CG.out w11 K11.out).mono ?_
            rintro e w12 ⟨rfl, hb12⟩
            have K12 := Lib.hid (Bt K11.out hb12)
            have q12 : w12.cell? ⟨w.heap.size, 0, none⟩ = some (.int .i64 x1) := Bc hb12 q11.out.2 q11.out.1
            have r12 : w.heap.size < w12.heap.size := Bl hb12 q11.out.2
            clear hb12
            go_wp2_with fail
            refine (drop_call l _ x1 w12 (HS.out.below (Bt B6.out K12.out)) (by omega)).mono ?_
            rintro e w13 ⟨v13, rfl, ho13, hb13⟩
            have K13 := Lib.hid (Bt K12.out hb13)
            have S13 := Lib.hid (row_sl lenV ho13 rfl)
            clear ho13 hb13
            go_wp2_with fail
            refine (same_is (S6.out.below K13.out) S13.out).mono ?_
            rintro e w14 ⟨rfl, hg14⟩
            have K14 := Lib.hid (Bt K13.out hg14.below)
            clear hg14
            have HH := Lib.hid (holds_any m1 0 M1L.out (by decide) w14)
            rw [show (m1 &&& 0 == 0) = true by simp] at HH
            go_wp2_with fail
            refine HH.out.mono ?_
            rintro e w15 ⟨rfl, rfl⟩
            go_wp2
            go_ret
            exact ⟨by simp, Bt B6.out K14.out⟩
      · rw [errV_at A _ hk] at FC
        generalize A (chk (x1, x2, x3) - 1) = ep at *
        clear hk
        go_wp2_with fail
        refine (FC.out w2 (HE.out.below B2.out)).mono ?_
        rintro e w3 ⟨rfl, hg3⟩
        go_wp2
        go_ret
        exact ⟨rfl, Bt B2.out hg3.below⟩
  · have hlt : (20 : Int) < (l.length : Int) := by omega
    go_wp2
    go_ret
    exact ⟨rfl, B1.out⟩
end Go.Proofs.YtbmclbajhgabgaaDoor
