import Derived.Test.YthgkbmeilolapaaGreatDoorZ22
import Derived.Test.YthgkbmeilolapaaGreatDoorZ0
import Derived.Deep.CutBlock
import Derived.Test.YthgkbmeilolapaaGreatDoorZ13

/-
  The walk of TablesLimits.
-/
namespace Go.Proofs.YthgkbmeilolapaaGreatDoor
set_option linter.unusedSimpArgs false
set_option linter.unusedVariables false
open Go.RowKit Go.Sort Go.Lib Go.Shelf

theorem num8_errV {A : Nat → Addr} {w : World} (h : Errs w A) (n : Nat) (hn : n ≤ 10) : Calls Tryz.prog 17 #[errV A n] w fun e w' => e = .returned (.int .i64 n) ∧ RowKit.Below w.heap.size w w' := by
  cases n with
  | zero => exact num_nil w
  | succ k =>
    rw [errV_at A _ (by omega)]
    exact num_any h k (by omega)
theorem SlN.inside {α : Type} {enc : α → List Value} {N : Nat → Prop} {w : World} {v : Value} {l : List α} (h : SlN N enc w v l) : SlN (fun b => N b ∧ b < w.heap.size) enc w v l := by
  obtain ⟨p, cap, rfl, h1, h2, h⟩ := h
  exact ⟨p, cap, rfl, h1, h2, fun hl => by obtain ⟨g, o, e, h3, h5, h4⟩ := h hl; exact ⟨g, o, e, h3, ⟨h5, h3⟩, h4⟩⟩
section
variable {A : Nat → Addr}
set_option maxHeartbeats 8000000 in
set_option maxRecDepth 100000 in
theorem tablesLimits_walk (x : Int) (w : World) (hEs : Errs w A) (hE : Er8 w A) (hT : TabW w) :
    Calls Tryz.prog 4 #[.int .i64 x] w fun e w' => e = .returned (.bool true) ∧ RowKit.Below w.heap.size w w' := by
  have C0 := Lib.hid (alive8_any w hE hT)
  have HA := Lib.hid (Era.of hE hT (Nat.le_refl w.heap.size))
  have HN := Lib.hid hEs
  obtain ⟨m, hm, he⟩ := idx_any x 200 (by decide) (by decide)
  clear hE hT hEs
  go_enter Tryz.func4, Tryz.ntmps4
  go_wp2_with fail
  refine C0.out.mono ?_
  rintro e w2 ⟨rfl, hb2⟩
  have B2 := Lib.hid hb2
  clear hb2 C0
  have NW := Lib.hid (newS (N := NoN) B2.out.size (fun b e => e.elim))
  have hA1 : IntKind.i64.wrap ((IntKind.u64.wrap x).tmod 200) = (m : Int) := by
    have he9 := he
    change wrap64 ((IntKind.u64.wrap x).tmod 200) = (m : Int) at he9
    generalize (IntKind.u64.wrap x).tmod 200 = t at he9 ⊢
    rw [IntKind.wrap_i64]
    unfold wrap64 at he9
    exact he9
  change wrap64 ((IntKind.u64.wrap x).tmod 200) = (m : Int) at he
  go_wp2_with fail
  refine NW.out.mono ?_
  rintro e w3 ⟨ps, rfl, hS3, hb3⟩
  have S3 := Lib.hid hS3
  have B3 := Lib.hid (Bt B2.out hb3)
  clear hS3 hb3 NW B2
  go_wp2
  go_loopw [4, 18] (fun s4 s18 wr => ∃ (i : Nat) (L : List En), s4 = .int .i64 (L.length : Nat) ∧ s18 = .int .i64 i ∧ i ≤ m ∧ Hid (StoO NoN w.heap.size wr ps L) ∧ Hid (Lim i L) ∧ Hid (RowKit.Below w.heap.size w wr)) (fun _ i _ => m - (intOf i).toNat)
  case atStart => exact ⟨0, [], rfl, rfl, Nat.zero_le _, S3, Lib.hid lim_zero, B3⟩
  case round =>
    obtain ⟨i, L, rfl, rfl, hi, HS, HL, HB⟩ := hrel
    by_cases him : i < m
    · have hiz : (i : Int) < (m : Int) := by omega
      have hi200 : i < 200 := by omega
      obtain ⟨j, hj⟩ : ∃ j, j = i % 40 := ⟨_, rfl⟩
      have hj40 : j < 40 := by omega
      have hj2 : (i : Int) % 40 = (j : Int) := by omega
      have hlen := HL.out.good.len
      have HST := Lib.hid (lim_step HL.out hi200)
      rw [← hj] at HST
      generalize hwr : wr = wc at *
      clear hwr wr hj
      go_wp2
      go_loopw [6, 22] (fun s6 s22 wr => ∃ (k : Nat), s22 = .int .i64 k ∧ k ≤ 6 ∧ Hid (wr.ownsRow wc.heap.size 34 3 s6 (limR j k).length (flat encV (limR j k))) ∧ Hid (RowKit.Below wc.heap.size wc wr)) (fun _ i _ => 6 - (intOf i).toNat)
      case atStart => exact ⟨0, rfl, Nat.zero_le _, Lib.hid (World.ownsRow_made wc #[] 0 (Nat.le_refl _) (Nat.zero_le _) (by simp)), Lib.hid (by repeat (first | with_reducible exact Below.refl _ _ | with_reducible assumption | with_reducible apply Ba | with_reducible apply Bd | with_reducible apply Bn | with_reducible apply Bg | (with_reducible refine Bs ?_ (by first | (simp; done) | (simp; omega)) _) | (with_reducible refine Bt ?_ (by assumption)) | (with_reducible refine Bt ?_ (Gr.below (by assumption)))))⟩
      case round =>
        obtain ⟨k, rfl, hk, HO, HZ⟩ := hrel
        by_cases hk6 : k < 6
        · have hkz : (k : Int) < 6 := by omega
          have hlr := limR_len j k
          have HSt := Lib.hid (limR_step j k)
          have hbit := bit_at j hj40 k hk6
          rw [Nat.shiftRight_eq_div_pow, Int.natCast_ediv, Int.natCast_pow] at hbit
          change bits .and .i64 ((j : Int) / 2 ^ k) 1 = _ at hbit
          obtain ⟨K, hK⟩ : ∃ K : Int, K = kdL[k]! := ⟨_, rfl⟩
          have HK := Lib.hid hK
          have hld : ∀ h, ([Value.int .i64 0, Value.int .i64 2, Value.int .i64 3, Value.int .i64 6, Value.int .i64 7, Value.int .i64 8] : List Value)[k]'h = Value.int .i64 K := by
            intro h
            rw [hK]
            have : k = 0 ∨ k = 1 ∨ k = 2 ∨ k = 3 ∨ k = 4 ∨ k = 5 := by omega
            rcases this with rfl | rfl | rfl | rfl | rfl | rfl <;> rfl
          clear hK
          obtain ⟨p, cap, rfl, hc1, hc2, _⟩ := row_val HO.out
          unfold maxLen at hc2
          have hc3 : cap ≤ 9223372036854775807 := by omega
          cases ht : j.testBit k with
          | true =>
            have H5 := Lib.hid (HSt.out.trans (if_pos ht))
            rw [if_pos ht] at hbit
            clear ht
            have O1 := Lib.hid ((HO.out.alloc (.cells #[.int .i64 0, .int .i64 2, .int .i64 3, .int .i64 6, .int .i64 7, .int .i64 8] 3)).alloc (.cells #[.int .i64 K, .int .i64 0, .int .i64 0] 34))
            have S1 := Lib.hid (sl_lit (enc := encV) (w := wr.alloc (.cells #[.int .i64 0, .int .i64 2, .int .i64 3, .int .i64 6, .int .i64 7, .int .i64 8] 3)) (cs := #[.int .i64 K, .int .i64 0, .int .i64 0]) (t := 34) (b := wr.heap.size + 1) [(K, 0, 0)] (by simp) rfl (by unfold maxLen; simp))
            have A1 := Lib.hid (Ba (Ba HZ.out (.cells #[.int .i64 0, .int .i64 2, .int .i64 3, .int .i64 6, .int .i64 7, .int .i64 8] 3)) (.cells #[.int .i64 K, .int .i64 0, .int .i64 0] 34))
            go_wp2_with (at_builtin; refine wpl_app2 apV rfl _ _ rfl wc.heap.size (by rfl) (by rfl) O1.out rfl S1.out (by simp; omega) A1.out.size ?_; intro v6 w6 hown6 hgrow6 hat6 hnil6; have O6 := Lib.hid hown6; have B6 := Lib.hid (grownB A1.out O1.out hgrow6); clear hown6 hgrow6 hat6 hnil6)
            go_roundw
            case measure => simp [intOf]; omega
            case rel => exact ⟨k + 1, by go_num, by omega, Lib.hid (by rw [H5.out, ← HK.out]; exact O6.out), B6⟩
          | false =>
            have H5 := Lib.hid (HSt.out.trans (if_neg (by rw [ht]; decide)))
            rw [ht, if_neg (by decide)] at hbit
            clear ht
            go_wp2
            go_roundw
            case measure => simp [intOf]; omega
            case rel => exact ⟨k + 1, by go_num, by omega, Lib.hid (by rw [H5.out]; exact HO.out), HZ⟩
        · have hk6' : k = 6 := by omega
          subst hk6'
          have hlr := limR_len j 6
          obtain ⟨p, cap, rfl, hc1, hc2, _⟩ := row_val HO.out
          have SX := Lib.hid (SlN.of lenV HO.out rfl).inside
          have CP := Lib.hid (putS (HS.out.off HZ.out) (i : Int) 1 (lim_hd i (by omega)) (limR j 6) _ SX.out (fun b e => .inr (.inr e)) (by omega) (HA.out.below (Bt HB.out HZ.out)))
          have HLn := Lib.hid HST.out.2.2
          have B4 := Lib.hid (Bt HB.out HZ.out)
          unfold maxLen at hc2
          have hc3 : cap ≤ 9223372036854775807 := by omega
          have hmi : min ((i : Int) + 1) 32 = ((min (i + 1) 32 : Nat) : Int) := by omega
          have hmi2 : min (i + 1) 32 ≤ 32 := by omega
          by_cases hfull : 128 ≤ L.length ∨ 32 ≤ j
          · obtain ⟨q1, q2, q3⟩ := HST.out.2.1 hfull
            rw [q1, errV_at _ _ (by decide)] at CP
            have Q2 := Lib.hid q2
            have Q3 := Lib.hid q3
            clear q1 q2 q3
            generalize hL' : putEL L ((i : Int), 1) (limR j 6) = L' at *
            clear hL'
            generalize hmg : min (i + 1) 32 = mi at *
            have HMi := Lib.hid hmg
            clear hmg
            go_wp2_with fail
            refine CP.out.mono ?_
            rintro e w5 ⟨rfl, hS5, ht5⟩
            have S5 := Lib.hid (hS5.forget (N' := NoN) (fun b e => e.elim))
            have B5 := Lib.hid (B4.out.trans (OffT.below ht5 B4.out.size))
            clear hS5 ht5 CP
            have CN := Lib.hid (num8_errV (HN.out.below B5.out) 2 (by decide))
            rw [errV_at _ _ (by decide)] at CN
            by_cases h128 : 128 ≤ L.length
            case' pos => have h128z : (L.length : Int) ≥ 128 := by omega
            case' neg =>
              have h128z : ¬ (L.length : Int) ≥ 128 := by omega
              have h32z : (j : Int) ≥ 32 := by omega
            all_goals
              go_wp2_with fail
              refine CN.out.mono ?_
              rintro e w6 ⟨rfl, hb6⟩
              have S6 := Lib.hid (S5.out.below hb6)
              have B6 := Lib.hid (Bt B5.out hb6)
              clear hb6 CN
              have CLn : Hid (∀ W, RowKit.Below w6.heap.size w6 W → Calls Tryz.prog 22 #[psP ps] W fun e w' => e = .returned (.int .i64 (L.length : Nat)) ∧ RowKit.Below W.heap.size W w') := fun W hb => (lenS (S6.out.below hb)).mono fun e w' ⟨h1, h2⟩ => ⟨by rw [h1, Q3.out]; (try rfl), by subst h2; exact Below.refl _ _⟩
              have CMk : Hid (∀ W, RowKit.Below w6.heap.size w6 W → Calls Tryz.prog 23 #[psP ps] W fun e w' => ∃ p c, e = .returned (.slice p mi c) ∧ RowKit.Below W.heap.size W w') := fun W hb => (masksS (S6.out.below hb)).mono fun e w' ⟨v, h1, h2, h3⟩ => by
                obtain ⟨p, c, rfl, _, _, _⟩ := row_val h2
                exact ⟨p, c, by rw [h1, ← HMi.out, ← HLn.out.num]; rfl, h3⟩
              have CHs : Hid (∀ W, RowKit.Below w6.heap.size w6 W → Calls Tryz.prog 18 #[psP ps, .agg #[.int .i64 (i : Int), .int .i64 1]] W fun e w' => e = .returned (.bool false) ∧ RowKit.Below W.heap.size W w') := fun W hb => by
                have := hasS (S6.out.below hb) (i : Int) 1 (lim_hd i (by omega)) (HA.out.below (Bt B6.out hb))
                rwa [Q2.out] at this
              go_wp2_with fail
              refine wp_region_held_drew (S := (fun w' => Below (w6).heap.size (w6) w' ∧ ∀ b_1 o, b_1 < (w6).heap.size → w'.cell? ⟨b_1, o, none⟩ = (w6).cell? ⟨b_1, o, none⟩)) (by kernel_rfl) (keep0 _) (fun hHeld => ?_)
              (refine wpAnyH_take (i := 0) (v := ?_) rfl (by kernel_rfl) (by kernel_rfl) (by kernel_rfl) (fun _ _ _ h => h) (Or.inl ⟨by rfl, ?rt⟩) (by assumption) ?_; case rt => (intro w hSw; (try dsimp only at hSw); go_simp; (try with_reducible rfl))); (try simp only [Act.put, List.getElem_toArray, List.getElem_cons_succ, List.getElem_cons_zero, List.setIfInBounds_toArray, List.set_cons_zero, List.set_cons_succ])
              (refine wpAnyH_take (i := 2) (v := ?_) rfl (by kernel_rfl) (by kernel_rfl) (by kernel_rfl) (fun _ _ _ h => h) (Or.inl ⟨by rfl, ?rt⟩) (by assumption) ?_; case rt => (intro w hSw; (try dsimp only at hSw); go_simp; (try with_reducible rfl))); (try simp only [Act.put, List.getElem_toArray, List.getElem_cons_succ, List.getElem_cons_zero, List.setIfInBounds_toArray, List.set_cons_zero, List.set_cons_succ])
              (refine wpAnyH_ready (rs := [1]) (by kernel_rfl) (by simp) ?_; refine AllReadyH.cons rfl (fun K hK => ?_) AllReadyH.nil; go_simp; refine (CLn.out _ hHeld.1).mono ?_; rintro e w1 ⟨rfl, hb1⟩; refine hK.out _ _ (keepB (by assumption) hb1) (fun hHeld => ?_); clear hK K); (try simp only [Act.put, List.getElem_toArray, List.getElem_cons_succ, List.getElem_cons_zero, List.setIfInBounds_toArray, List.set_cons_zero, List.set_cons_succ])
              (refine wpAnyH_take (i := 3) (v := ?_) rfl (by kernel_rfl) (by kernel_rfl) (by kernel_rfl) (fun _ _ _ h => h) (Or.inl ⟨by rfl, ?rt⟩) (by assumption) ?_; case rt => (intro w hSw; (try dsimp only at hSw); go_simp; (try with_reducible rfl))); (try simp only [Act.put, List.getElem_toArray, List.getElem_cons_succ, List.getElem_cons_zero, List.setIfInBounds_toArray, List.set_cons_zero, List.set_cons_succ])
              (refine wpAnyH_take (i := 4) (v := ?_) rfl (by kernel_rfl) (by kernel_rfl) (by kernel_rfl) (fun _ _ _ h => h) (Or.inl ⟨by rfl, ?rt⟩) (by assumption) ?_; case rt => (intro w hSw; (try dsimp only at hSw); go_simp; (try with_reducible rfl))); (try simp only [Act.put, List.getElem_toArray, List.getElem_cons_succ, List.getElem_cons_zero, List.setIfInBounds_toArray, List.set_cons_zero, List.set_cons_succ])
              (refine wpAnyH_take (i := 5) (v := ?_) rfl (by kernel_rfl) (by kernel_rfl) (by kernel_rfl) (fun _ _ _ h => h) (Or.inl ⟨by rfl, ?rt⟩) (by assumption) ?_; case rt => (intro w hSw; (try dsimp only at hSw); go_simp; (try with_reducible rfl))); (try simp only [Act.put, List.getElem_toArray, List.getElem_cons_succ, List.getElem_cons_zero, List.setIfInBounds_toArray, List.set_cons_zero, List.set_cons_succ])
              (refine wpAnyH_take (i := 8) (v := ?_) rfl (by kernel_rfl) (by kernel_rfl) (by kernel_rfl) (fun _ _ _ h => h) (Or.inl ⟨by rfl, ?rt⟩) (by assumption) ?_; case rt => (intro w hSw; (try dsimp only at hSw); go_simp; (try with_reducible rfl))); (try simp only [Act.put, List.getElem_toArray, List.getElem_cons_succ, List.getElem_cons_zero, List.setIfInBounds_toArray, List.set_cons_zero, List.set_cons_succ])
              (refine wpAnyH_take (i := 9) (v := ?_) rfl (by kernel_rfl) (by kernel_rfl) (by kernel_rfl) (fun _ _ _ h => h) (Or.inl ⟨by rfl, ?rt⟩) (by assumption) ?_; case rt => (intro w hSw; (try dsimp only at hSw); go_simp; (try with_reducible rfl))); (try simp only [Act.put, List.getElem_toArray, List.getElem_cons_succ, List.getElem_cons_zero, List.setIfInBounds_toArray, List.set_cons_zero, List.set_cons_succ])
              rw [show IntKind.i64.wrap ((i : Int) + 1) = (i : Int) + 1 by rw [IntKind.wrap_i64]; omega]
              (refine wpAnyH_take (i := 10) (v := ?_) rfl (by kernel_rfl) (by kernel_rfl) (by kernel_rfl) (fun _ _ _ h => h) (Or.inl ⟨by rfl, ?rt⟩) (by assumption) ?_; case rt => (intro w hSw; (try dsimp only at hSw); go_simp; (try with_reducible rfl))); (try simp only [Act.put, List.getElem_toArray, List.getElem_cons_succ, List.getElem_cons_zero, List.setIfInBounds_toArray, List.set_cons_zero, List.set_cons_succ])
              (try rw [hmi])
              (refine wpAnyH_ready (rs := [6]) (by kernel_rfl) (by simp) ?_; refine AllReadyH.cons rfl (fun K hK => ?_) AllReadyH.nil; go_simp; refine (CMk.out _ hHeld.1).mono ?_; rintro e w1 ⟨pm, cm, rfl, hb1⟩; refine hK.out _ _ (keepB (by assumption) hb1) (fun hHeld => ?_); clear hK K); (try simp only [Act.put, List.getElem_toArray, List.getElem_cons_succ, List.getElem_cons_zero, List.setIfInBounds_toArray, List.set_cons_zero, List.set_cons_succ])
              (refine wpAnyH_take (i := 7) (v := ?_) rfl (by kernel_rfl) (by kernel_rfl) (by kernel_rfl) (fun _ _ _ h => h) (Or.inl ⟨by rfl, ?rt⟩) (by assumption) ?_; case rt => (intro w hSw; (try dsimp only at hSw); go_simp; (try with_reducible rfl))); (try simp only [Act.put, List.getElem_toArray, List.getElem_cons_succ, List.getElem_cons_zero, List.setIfInBounds_toArray, List.set_cons_zero, List.set_cons_succ])
              (refine wpAnyH_take (i := 11) (v := ?_) rfl (by kernel_rfl) (by kernel_rfl) (by kernel_rfl) (fun _ _ _ h => h) (Or.inl ⟨by rfl, ?rt⟩) (by assumption) ?_; case rt => (intro w hSw; (try dsimp only at hSw); go_simp; (try with_reducible rfl))); (try simp only [Act.put, List.getElem_toArray, List.getElem_cons_succ, List.getElem_cons_zero, List.setIfInBounds_toArray, List.set_cons_zero, List.set_cons_succ])
              (try rw [show ((mi : Int) != (mi : Int)) = false by simp])
              (refine wpAnyH_take (i := 12) (v := ?_) rfl (by kernel_rfl) (by kernel_rfl) (by kernel_rfl) (fun _ _ _ h => h) (Or.inl ⟨by rfl, ?rt⟩) (by assumption) ?_; case rt => (intro w hSw; (try dsimp only at hSw); go_simp; (try with_reducible rfl))); (try simp only [Act.put, List.getElem_toArray, List.getElem_cons_succ, List.getElem_cons_zero, List.setIfInBounds_toArray, List.set_cons_zero, List.set_cons_succ])
              refine wpAnyH_take (i := 13) (v := undef) rfl (by kernel_rfl) (by kernel_rfl) (by kernel_rfl) (fun _ _ _ h => h) (Or.inr ⟨by rfl, rfl⟩) (by assumption) ?_; (try simp only [Act.put, List.getElem_toArray, List.getElem_cons_succ, List.getElem_cons_zero, List.setIfInBounds_toArray, List.set_cons_zero, List.set_cons_succ])
              refine wpAnyH_take (i := 14) (v := undef) rfl (by kernel_rfl) (by kernel_rfl) (by kernel_rfl) (fun _ _ _ h => h) (Or.inr ⟨by rfl, rfl⟩) (by assumption) ?_; (try simp only [Act.put, List.getElem_toArray, List.getElem_cons_succ, List.getElem_cons_zero, List.setIfInBounds_toArray, List.set_cons_zero, List.set_cons_succ])
              (refine wpAnyH_take (i := 15) (v := ?_) rfl (by kernel_rfl) (by kernel_rfl) (by kernel_rfl) (fun _ _ _ h => h) (Or.inl ⟨by rfl, ?rt⟩) (by assumption) ?_; case rt => (intro w hSw; (try dsimp only at hSw); go_simp; (try with_reducible rfl))); (try simp only [Act.put, List.getElem_toArray, List.getElem_cons_succ, List.getElem_cons_zero, List.setIfInBounds_toArray, List.set_cons_zero, List.set_cons_succ])
              (refine wpAnyH_take (i := 16) (v := ?_) rfl (by kernel_rfl) (by kernel_rfl) (by kernel_rfl) (fun _ _ _ h => h) (Or.inl ⟨by rfl, ?rt⟩) (by assumption) ?_; case rt => (intro w hSw; (try dsimp only at hSw); go_simp; (try with_reducible rfl))); (try simp only [Act.put, List.getElem_toArray, List.getElem_cons_succ, List.getElem_cons_zero, List.setIfInBounds_toArray, List.set_cons_zero, List.set_cons_succ])
              (refine wpAnyH_take (i := 17) (v := ?_) rfl (by kernel_rfl) (by kernel_rfl) (by kernel_rfl) (fun _ _ _ h => h) (Or.inl ⟨by rfl, ?rt⟩) (by assumption) ?_; case rt => (intro w hSw; (try dsimp only at hSw); go_simp; (try with_reducible rfl))); (try simp only [Act.put, List.getElem_toArray, List.getElem_cons_succ, List.getElem_cons_zero, List.setIfInBounds_toArray, List.set_cons_zero, List.set_cons_succ])
              (refine wpAnyH_take (i := 18) (v := ?_) rfl (by kernel_rfl) (by kernel_rfl) (by kernel_rfl) (fun _ _ _ h => h) (Or.inl ⟨by rfl, ?rt⟩) (by assumption) ?_; case rt => (intro w hSw; (try dsimp only at hSw); go_simp; (try with_reducible rfl))); (try simp only [Act.put, List.getElem_toArray, List.getElem_cons_succ, List.getElem_cons_zero, List.setIfInBounds_toArray, List.set_cons_zero, List.set_cons_succ])
              (refine wpAnyH_take (i := 19) (v := ?_) rfl (by kernel_rfl) (by kernel_rfl) (by kernel_rfl) (fun _ _ _ h => h) (Or.inl ⟨by rfl, ?rt⟩) (by assumption) ?_; case rt => (intro w hSw; (try dsimp only at hSw); go_simp; (try with_reducible rfl))); (try simp only [Act.put, List.getElem_toArray, List.getElem_cons_succ, List.getElem_cons_zero, List.setIfInBounds_toArray, List.set_cons_zero, List.set_cons_succ])
              (refine wpAnyH_take (i := 20) (v := ?_) rfl (by kernel_rfl) (by kernel_rfl) (by kernel_rfl) (fun _ _ _ h => h) (Or.inl ⟨by rfl, ?rt⟩) (by assumption) ?_; case rt => (intro w hSw; (try dsimp only at hSw); go_simp; (try with_reducible rfl))); (try simp only [Act.put, List.getElem_toArray, List.getElem_cons_succ, List.getElem_cons_zero, List.setIfInBounds_toArray, List.set_cons_zero, List.set_cons_succ])
              (refine wpAnyH_take (i := 22) (v := ?_) rfl (by kernel_rfl) (by kernel_rfl) (by kernel_rfl) (fun _ _ _ h => h) (Or.inl ⟨by rfl, ?rt⟩) (by assumption) ?_; case rt => (intro w hSw; (try dsimp only at hSw); go_simp; (try with_reducible rfl))); (try simp only [Act.put, List.getElem_toArray, List.getElem_cons_succ, List.getElem_cons_zero, List.setIfInBounds_toArray, List.set_cons_zero, List.set_cons_succ])
              (refine wpAnyH_take (i := 23) (v := ?_) rfl (by kernel_rfl) (by kernel_rfl) (by kernel_rfl) (fun _ _ _ h => h) (Or.inl ⟨by rfl, ?rt⟩) (by assumption) ?_; case rt => (intro w hSw; (try dsimp only at hSw); go_simp; (try with_reducible rfl))); (try simp only [Act.put, List.getElem_toArray, List.getElem_cons_succ, List.getElem_cons_zero, List.setIfInBounds_toArray, List.set_cons_zero, List.set_cons_succ])
              (refine wpAnyH_ready (rs := [21]) (by kernel_rfl) (by simp) ?_; refine AllReadyH.cons rfl (fun K hK => ?_) AllReadyH.nil; go_simp; refine (CHs.out _ hHeld.1).mono ?_; rintro e w1 ⟨rfl, hb1⟩; refine hK.out _ _ (keepB (by assumption) hb1) (fun hHeld => ?_); clear hK K); (try simp only [Act.put, List.getElem_toArray, List.getElem_cons_succ, List.getElem_cons_zero, List.setIfInBounds_toArray, List.set_cons_zero, List.set_cons_succ])
              (refine wpAnyH_take (i := 24) (v := ?_) rfl (by kernel_rfl) (by kernel_rfl) (by kernel_rfl) (fun _ _ _ h => h) (Or.inl ⟨by rfl, ?rt⟩) (by assumption) ?_; case rt => (intro w hSw; (try dsimp only at hSw); go_simp; (try with_reducible rfl))); (try simp only [Act.put, List.getElem_toArray, List.getElem_cons_succ, List.getElem_cons_zero, List.setIfInBounds_toArray, List.set_cons_zero, List.set_cons_succ])
              (refine wpAnyH_take (i := 25) (v := ?_) rfl (by kernel_rfl) (by kernel_rfl) (by kernel_rfl) (fun _ _ _ h => h) (Or.inl ⟨by rfl, ?rt⟩) (by assumption) ?_; case rt => (intro w hSw; (try dsimp only at hSw); go_simp; (try with_reducible rfl))); (try simp only [Act.put, List.getElem_toArray, List.getElem_cons_succ, List.getElem_cons_zero, List.setIfInBounds_toArray, List.set_cons_zero, List.set_cons_succ])
              refine wpAnyH_done (by kernel_rfl) ?_ _
              have S9 := Lib.hid (S6.out.below hHeld.1)
              have B9 := Lib.hid (Bt B6.out hHeld.1)
              clear hHeld
              go_wp2
              go_roundw
              case measure => simp [intOf]; omega
              case rel => exact ⟨i + 1, L', by rw [Q3.out]; (try go_num), by go_num, by omega, S9, HLn, B9⟩
          · obtain ⟨q1, q2, q3⟩ := HST.out.1 hfull
            rw [q1, errV_no] at CP
            have Q2 := Lib.hid q2
            have Q3 := Lib.hid q3
            clear q1 q2 q3
            generalize hL' : putEL L ((i : Int), 1) (limR j 6) = L' at *
            clear hL'
            generalize hmg : min (i + 1) 32 = mi at *
            have HMi := Lib.hid hmg
            clear hmg
            go_wp2_with fail
            refine CP.out.mono ?_
            rintro e w5 ⟨rfl, hS5, ht5⟩
            have S5 := Lib.hid (hS5.forget (N' := NoN) (fun b e => e.elim))
            have B5 := Lib.hid (B4.out.trans (OffT.below ht5 B4.out.size))
            clear hS5 ht5 CP
            have CN := Lib.hid (num8_errV (HN.out.below B5.out) 0 (by decide))
            rw [errV_no] at CN
            have h128z : ¬ (L.length : Int) ≥ 128 := by omega
            have h32z : ¬ (j : Int) ≥ 32 := by omega
            go_wp2_with fail
            refine CN.out.mono ?_
            rintro e w6 ⟨rfl, hb6⟩
            have S6 := Lib.hid (S5.out.below hb6)
            have B6 := Lib.hid (Bt B5.out hb6)
            clear hb6 CN
            have CLn : Hid (∀ W, RowKit.Below w6.heap.size w6 W → Calls Tryz.prog 22 #[psP ps] W fun e w' => e = .returned (.int .i64 ((L.length : Int) + 1)) ∧ RowKit.Below W.heap.size W w') := fun W hb => (lenS (S6.out.below hb)).mono fun e w' ⟨h1, h2⟩ => ⟨by rw [h1, Q3.out]; (try rfl), by subst h2; exact Below.refl _ _⟩
            have CMk : Hid (∀ W, RowKit.Below w6.heap.size w6 W → Calls Tryz.prog 23 #[psP ps] W fun e w' => ∃ p c, e = .returned (.slice p mi c) ∧ RowKit.Below W.heap.size W w') := fun W hb => (masksS (S6.out.below hb)).mono fun e w' ⟨v, h1, h2, h3⟩ => by
              obtain ⟨p, c, rfl, _, _, _⟩ := row_val h2
              exact ⟨p, c, by rw [h1, ← HMi.out, ← HLn.out.num]; rfl, h3⟩
            have CHs : Hid (∀ W, RowKit.Below w6.heap.size w6 W → Calls Tryz.prog 18 #[psP ps, .agg #[.int .i64 (i : Int), .int .i64 1]] W fun e w' => e = .returned (.bool true) ∧ RowKit.Below W.heap.size W w') := fun W hb => by
              have := hasS (S6.out.below hb) (i : Int) 1 (lim_hd i (by omega)) (HA.out.below (Bt B6.out hb))
              rwa [Q2.out] at this
            go_wp2_with fail
            refine wp_region_held_drew (S := (fun w' => Below (w6).heap.size (w6) w' ∧ ∀ b_1 o, b_1 < (w6).heap.size → w'.cell? ⟨b_1, o, none⟩ = (w6).cell? ⟨b_1, o, none⟩)) (by kernel_rfl) (keep0 _) (fun hHeld => ?_)
            (refine wpAnyH_take (i := 0) (v := ?_) rfl (by kernel_rfl) (by kernel_rfl) (by kernel_rfl) (fun _ _ _ h => h) (Or.inl ⟨by rfl, ?rt⟩) (by assumption) ?_; case rt => (intro w hSw; (try dsimp only at hSw); go_simp; (try with_reducible rfl))); (try simp only [Act.put, List.getElem_toArray, List.getElem_cons_succ, List.getElem_cons_zero, List.setIfInBounds_toArray, List.set_cons_zero, List.set_cons_succ])
            (refine wpAnyH_take (i := 2) (v := ?_) rfl (by kernel_rfl) (by kernel_rfl) (by kernel_rfl) (fun _ _ _ h => h) (Or.inl ⟨by rfl, ?rt⟩) (by assumption) ?_; case rt => (intro w hSw; (try dsimp only at hSw); go_simp; (try with_reducible rfl))); (try simp only [Act.put, List.getElem_toArray, List.getElem_cons_succ, List.getElem_cons_zero, List.setIfInBounds_toArray, List.set_cons_zero, List.set_cons_succ])
            (refine wpAnyH_ready (rs := [1]) (by kernel_rfl) (by simp) ?_; refine AllReadyH.cons rfl (fun K hK => ?_) AllReadyH.nil; go_simp; refine (CLn.out _ hHeld.1).mono ?_; rintro e w1 ⟨rfl, hb1⟩; refine hK.out _ _ (keepB (by assumption) hb1) (fun hHeld => ?_); clear hK K); (try simp only [Act.put, List.getElem_toArray, List.getElem_cons_succ, List.getElem_cons_zero, List.setIfInBounds_toArray, List.set_cons_zero, List.set_cons_succ])
            (refine wpAnyH_take (i := 3) (v := ?_) rfl (by kernel_rfl) (by kernel_rfl) (by kernel_rfl) (fun _ _ _ h => h) (Or.inl ⟨by rfl, ?rt⟩) (by assumption) ?_; case rt => (intro w hSw; (try dsimp only at hSw); go_simp; (try with_reducible rfl))); (try simp only [Act.put, List.getElem_toArray, List.getElem_cons_succ, List.getElem_cons_zero, List.setIfInBounds_toArray, List.set_cons_zero, List.set_cons_succ])
            (refine wpAnyH_take (i := 4) (v := ?_) rfl (by kernel_rfl) (by kernel_rfl) (by kernel_rfl) (fun _ _ _ h => h) (Or.inl ⟨by rfl, ?rt⟩) (by assumption) ?_; case rt => (intro w hSw; (try dsimp only at hSw); go_simp; (try with_reducible rfl))); (try simp only [Act.put, List.getElem_toArray, List.getElem_cons_succ, List.getElem_cons_zero, List.setIfInBounds_toArray, List.set_cons_zero, List.set_cons_succ])
            (refine wpAnyH_take (i := 5) (v := ?_) rfl (by kernel_rfl) (by kernel_rfl) (by kernel_rfl) (fun _ _ _ h => h) (Or.inl ⟨by rfl, ?rt⟩) (by assumption) ?_; case rt => (intro w hSw; (try dsimp only at hSw); go_simp; (try with_reducible rfl))); (try simp only [Act.put, List.getElem_toArray, List.getElem_cons_succ, List.getElem_cons_zero, List.setIfInBounds_toArray, List.set_cons_zero, List.set_cons_succ])
            (refine wpAnyH_take (i := 8) (v := ?_) rfl (by kernel_rfl) (by kernel_rfl) (by kernel_rfl) (fun _ _ _ h => h) (Or.inl ⟨by rfl, ?rt⟩) (by assumption) ?_; case rt => (intro w hSw; (try dsimp only at hSw); go_simp; (try with_reducible rfl))); (try simp only [Act.put, List.getElem_toArray, List.getElem_cons_succ, List.getElem_cons_zero, List.setIfInBounds_toArray, List.set_cons_zero, List.set_cons_succ])
            (refine wpAnyH_take (i := 9) (v := ?_) rfl (by kernel_rfl) (by kernel_rfl) (by kernel_rfl) (fun _ _ _ h => h) (Or.inl ⟨by rfl, ?rt⟩) (by assumption) ?_; case rt => (intro w hSw; (try dsimp only at hSw); go_simp; (try with_reducible rfl))); (try simp only [Act.put, List.getElem_toArray, List.getElem_cons_succ, List.getElem_cons_zero, List.setIfInBounds_toArray, List.set_cons_zero, List.set_cons_succ])
            rw [show IntKind.i64.wrap ((i : Int) + 1) = (i : Int) + 1 by rw [IntKind.wrap_i64]; omega]
            (refine wpAnyH_take (i := 10) (v := ?_) rfl (by kernel_rfl) (by kernel_rfl) (by kernel_rfl) (fun _ _ _ h => h) (Or.inl ⟨by rfl, ?rt⟩) (by assumption) ?_; case rt => (intro w hSw; (try dsimp only at hSw); go_simp; (try with_reducible rfl))); (try simp only [Act.put, List.getElem_toArray, List.getElem_cons_succ, List.getElem_cons_zero, List.setIfInBounds_toArray, List.set_cons_zero, List.set_cons_succ])
            (try rw [hmi])
            (refine wpAnyH_ready (rs := [6]) (by kernel_rfl) (by simp) ?_; refine AllReadyH.cons rfl (fun K hK => ?_) AllReadyH.nil; go_simp; refine (CMk.out _ hHeld.1).mono ?_; rintro e w1 ⟨pm, cm, rfl, hb1⟩; refine hK.out _ _ (keepB (by assumption) hb1) (fun hHeld => ?_); clear hK K); (try simp only [Act.put, List.getElem_toArray, List.getElem_cons_succ, List.getElem_cons_zero, List.setIfInBounds_toArray, List.set_cons_zero, List.set_cons_succ])
            (refine wpAnyH_take (i := 7) (v := ?_) rfl (by kernel_rfl) (by kernel_rfl) (by kernel_rfl) (fun _ _ _ h => h) (Or.inl ⟨by rfl, ?rt⟩) (by assumption) ?_; case rt => (intro w hSw; (try dsimp only at hSw); go_simp; (try with_reducible rfl))); (try simp only [Act.put, List.getElem_toArray, List.getElem_cons_succ, List.getElem_cons_zero, List.setIfInBounds_toArray, List.set_cons_zero, List.set_cons_succ])
            (refine wpAnyH_take (i := 11) (v := ?_) rfl (by kernel_rfl) (by kernel_rfl) (by kernel_rfl) (fun _ _ _ h => h) (Or.inl ⟨by rfl, ?rt⟩) (by assumption) ?_; case rt => (intro w hSw; (try dsimp only at hSw); go_simp; (try with_reducible rfl))); (try simp only [Act.put, List.getElem_toArray, List.getElem_cons_succ, List.getElem_cons_zero, List.setIfInBounds_toArray, List.set_cons_zero, List.set_cons_succ])
            (try rw [show ((mi : Int) != (mi : Int)) = false by simp])
            (refine wpAnyH_take (i := 12) (v := ?_) rfl (by kernel_rfl) (by kernel_rfl) (by kernel_rfl) (fun _ _ _ h => h) (Or.inl ⟨by rfl, ?rt⟩) (by assumption) ?_; case rt => (intro w hSw; (try dsimp only at hSw); go_simp; (try with_reducible rfl))); (try simp only [Act.put, List.getElem_toArray, List.getElem_cons_succ, List.getElem_cons_zero, List.setIfInBounds_toArray, List.set_cons_zero, List.set_cons_succ])
            refine wpAnyH_take (i := 13) (v := undef) rfl (by kernel_rfl) (by kernel_rfl) (by kernel_rfl) (fun _ _ _ h => h) (Or.inr ⟨by rfl, rfl⟩) (by assumption) ?_; (try simp only [Act.put, List.getElem_toArray, List.getElem_cons_succ, List.getElem_cons_zero, List.setIfInBounds_toArray, List.set_cons_zero, List.set_cons_succ])
            refine wpAnyH_take (i := 14) (v := undef) rfl (by kernel_rfl) (by kernel_rfl) (by kernel_rfl) (fun _ _ _ h => h) (Or.inr ⟨by rfl, rfl⟩) (by assumption) ?_; (try simp only [Act.put, List.getElem_toArray, List.getElem_cons_succ, List.getElem_cons_zero, List.setIfInBounds_toArray, List.set_cons_zero, List.set_cons_succ])
            (refine wpAnyH_take (i := 15) (v := ?_) rfl (by kernel_rfl) (by kernel_rfl) (by kernel_rfl) (fun _ _ _ h => h) (Or.inl ⟨by rfl, ?rt⟩) (by assumption) ?_; case rt => (intro w hSw; (try dsimp only at hSw); go_simp; (try with_reducible rfl))); (try simp only [Act.put, List.getElem_toArray, List.getElem_cons_succ, List.getElem_cons_zero, List.setIfInBounds_toArray, List.set_cons_zero, List.set_cons_succ])
            (refine wpAnyH_take (i := 16) (v := ?_) rfl (by kernel_rfl) (by kernel_rfl) (by kernel_rfl) (fun _ _ _ h => h) (Or.inl ⟨by rfl, ?rt⟩) (by assumption) ?_; case rt => (intro w hSw; (try dsimp only at hSw); go_simp; (try with_reducible rfl))); (try simp only [Act.put, List.getElem_toArray, List.getElem_cons_succ, List.getElem_cons_zero, List.setIfInBounds_toArray, List.set_cons_zero, List.set_cons_succ])
            (refine wpAnyH_take (i := 17) (v := ?_) rfl (by kernel_rfl) (by kernel_rfl) (by kernel_rfl) (fun _ _ _ h => h) (Or.inl ⟨by rfl, ?rt⟩) (by assumption) ?_; case rt => (intro w hSw; (try dsimp only at hSw); go_simp; (try with_reducible rfl))); (try simp only [Act.put, List.getElem_toArray, List.getElem_cons_succ, List.getElem_cons_zero, List.setIfInBounds_toArray, List.set_cons_zero, List.set_cons_succ])
            (refine wpAnyH_take (i := 18) (v := ?_) rfl (by kernel_rfl) (by kernel_rfl) (by kernel_rfl) (fun _ _ _ h => h) (Or.inl ⟨by rfl, ?rt⟩) (by assumption) ?_; case rt => (intro w hSw; (try dsimp only at hSw); go_simp; (try with_reducible rfl))); (try simp only [Act.put, List.getElem_toArray, List.getElem_cons_succ, List.getElem_cons_zero, List.setIfInBounds_toArray, List.set_cons_zero, List.set_cons_succ])
            (refine wpAnyH_take (i := 19) (v := ?_) rfl (by kernel_rfl) (by kernel_rfl) (by kernel_rfl) (fun _ _ _ h => h) (Or.inl ⟨by rfl, ?rt⟩) (by assumption) ?_; case rt => (intro w hSw; (try dsimp only at hSw); go_simp; (try with_reducible rfl))); (try simp only [Act.put, List.getElem_toArray, List.getElem_cons_succ, List.getElem_cons_zero, List.setIfInBounds_toArray, List.set_cons_zero, List.set_cons_succ])
            (refine wpAnyH_take (i := 20) (v := ?_) rfl (by kernel_rfl) (by kernel_rfl) (by kernel_rfl) (fun _ _ _ h => h) (Or.inl ⟨by rfl, ?rt⟩) (by assumption) ?_; case rt => (intro w hSw; (try dsimp only at hSw); go_simp; (try with_reducible rfl))); (try simp only [Act.put, List.getElem_toArray, List.getElem_cons_succ, List.getElem_cons_zero, List.setIfInBounds_toArray, List.set_cons_zero, List.set_cons_succ])
            (refine wpAnyH_take (i := 22) (v := ?_) rfl (by kernel_rfl) (by kernel_rfl) (by kernel_rfl) (fun _ _ _ h => h) (Or.inl ⟨by rfl, ?rt⟩) (by assumption) ?_; case rt => (intro w hSw; (try dsimp only at hSw); go_simp; (try with_reducible rfl))); (try simp only [Act.put, List.getElem_toArray, List.getElem_cons_succ, List.getElem_cons_zero, List.setIfInBounds_toArray, List.set_cons_zero, List.set_cons_succ])
            (refine wpAnyH_take (i := 23) (v := ?_) rfl (by kernel_rfl) (by kernel_rfl) (by kernel_rfl) (fun _ _ _ h => h) (Or.inl ⟨by rfl, ?rt⟩) (by assumption) ?_; case rt => (intro w hSw; (try dsimp only at hSw); go_simp; (try with_reducible rfl))); (try simp only [Act.put, List.getElem_toArray, List.getElem_cons_succ, List.getElem_cons_zero, List.setIfInBounds_toArray, List.set_cons_zero, List.set_cons_succ])
            (refine wpAnyH_ready (rs := [21]) (by kernel_rfl) (by simp) ?_; refine AllReadyH.cons rfl (fun K hK => ?_) AllReadyH.nil; go_simp; refine (CHs.out _ hHeld.1).mono ?_; rintro e w1 ⟨rfl, hb1⟩; refine hK.out _ _ (keepB (by assumption) hb1) (fun hHeld => ?_); clear hK K); (try simp only [Act.put, List.getElem_toArray, List.getElem_cons_succ, List.getElem_cons_zero, List.setIfInBounds_toArray, List.set_cons_zero, List.set_cons_succ])
            (refine wpAnyH_take (i := 24) (v := ?_) rfl (by kernel_rfl) (by kernel_rfl) (by kernel_rfl) (fun _ _ _ h => h) (Or.inl ⟨by rfl, ?rt⟩) (by assumption) ?_; case rt => (intro w hSw; (try dsimp only at hSw); go_simp; (try with_reducible rfl))); (try simp only [Act.put, List.getElem_toArray, List.getElem_cons_succ, List.getElem_cons_zero, List.setIfInBounds_toArray, List.set_cons_zero, List.set_cons_succ])
            (refine wpAnyH_take (i := 25) (v := ?_) rfl (by kernel_rfl) (by kernel_rfl) (by kernel_rfl) (fun _ _ _ h => h) (Or.inl ⟨by rfl, ?rt⟩) (by assumption) ?_; case rt => (intro w hSw; (try dsimp only at hSw); go_simp; (try with_reducible rfl))); (try simp only [Act.put, List.getElem_toArray, List.getElem_cons_succ, List.getElem_cons_zero, List.setIfInBounds_toArray, List.set_cons_zero, List.set_cons_succ])
            refine wpAnyH_done (by kernel_rfl) ?_ _
            have S9 := Lib.hid (S6.out.below hHeld.1)
            have B9 := Lib.hid (Bt B6.out hHeld.1)
            clear hHeld
            go_wp2
            go_roundw
            case measure => simp [intOf]; omega
            case rel => exact ⟨i + 1, L', by rw [Q3.out]; (try go_num), by go_num, by omega, S9, HLn, B9⟩
    · go_wp2
      go_ret
      exact ⟨rfl, HB.out⟩
end
end Go.Proofs.YthgkbmeilolapaaGreatDoor

/-
  Whatever number it is given, TablesLimits answers true and leaves its argument as it was. Conditions: the errors' variables that it names read as the program's text lays them (the card ties them to that text).
-/
namespace Go.Proofs.YthgkbmeilolapaaGreatDoor
set_option linter.unusedSimpArgs false
set_option linter.unusedVariables false
open Go.ChangeShapes Go.WideShapes Go.ChangeAt Go.RowKit Go.Joins

set_option maxRecDepth 100000 in
theorem tablesLimits_lifted (os : Os) (started : os.Started) (H : Type) (enc : TypeId × Value → H) :
    ReturnsInHanded {} Tryz.checked os 4 .any (fun w args => (Rows.tablesLimitsSpec.pre enc Tryz.prog Tryz.f4 [] false w args ∧ laidMetH Tryz.prog Rows.tablesLimitsRow.laid w) ∧ sizedMet enc Tryz.prog Tryz.f4 (OpenSpec.ofChange Rows.tablesLimitsSpec) false w args)
      (Rows.tablesLimitsSpec.post enc Tryz.prog Tryz.f4 false true false false) := by
  refine returnsInHanded_of_change_and (C := Tryz.checked) (X := fun w _ => laidMetH Tryz.prog Rows.tablesLimitsRow.laid w) (fun _ _ _ hh h => h.of_heap hh) own started (by kernel_rfl) Tryz.func4
    (ChangeSpec.witness_shaped (enc := enc) (C := Tryz.checked) (os := os) (X := fun w _ => laidMetH Tryz.prog Rows.tablesLimitsRow.laid w) false (World.doorLaid Tryz.prog 220 os) #[.int .i64 0] 8 rfl (World.shaped_of_RefB (by kernel_rfl) (by kernel_rfl)) (by kernel_rfl) (by kernel_rfl) (by kernel_rfl) (laidMetH_of_parts3 (fuel := 8) (laidMet_of_run' 8 (by kernel_rfl) (by kernel_rfl)) (by kernel_rfl) (by kernel_rfl))) ?_
  intro W base args ds gs before hval0 hW _ _ hL _
  have hval : ∀ (j : Nat) t v, Tryz.f4.params[j]? = some t → args[j]? = some v → Value.okWide Tryz.prog W .any base t v := hval0
  have hW' := hW
  obtain ⟨p, q, hA0, hV, rfl, hfz, hnd⟩ := hW
  have hA : DataW.TrodAll enc Tryz.prog W 0 (fun _ => true) true Tryz.f4.params.toList args.toList ds p := hA0
  rw [Tryz.params4] at hA hval
  obtain ⟨v0, vs0, d0, ds0, p0, q0, hargs, rfl, rfl, h0, r0⟩ := trodAll_cons hA
  obtain ⟨rfl, rfl, rfl⟩ := trodAll_nil r0
  obtain rfl : args = #[v0] := by cases args; simp_all
  obtain ⟨x0, rfl, rfl, rfl, w0⟩ := open_int Tryz.underlying3 (hval 0 3 v0 rfl rfl) h0
  clear hA0 hval0
  have hL' : laidMet Tryz.prog Rows.tablesLimitsRow.laid W := by
    have h := hL
    rw [MakeChecks.laidMetH_plain _ _ _ (by kernel_rfl)] at h
    exact h
  have hT := tab_of hL'
  have hsh := shape_of (L := Rows.tablesLimitsRow.laid.tail) (by kernel_rfl) (by
    intro x hx
    simp only [Rows.tablesLimitsRow, List.tail_cons] at hx
    repeat (rcases List.mem_cons.1 hx with rfl | hx; · exact ⟨_, rfl⟩)
    exact absurd hx (by simp))
  obtain ⟨A, hE⟩ := errs_of (laid_tail2 hL') hsh (by simp [Rows.tablesLimitsRow]) (by simp only [Rows.tablesLimitsRow, List.tail_cons, errN]; decide)
  refine (tablesLimits_walk x0 W hE (er8_of hE) hT).mono fun e W' ⟨he, hb⟩ => ?_
  subst he
  exact ⟨_, rfl, law_post laidOut (by kernel_rfl) rfl (by kernel_rfl) Tryz.underlying4 (fun ds hd => by match ds, hd with | [_], _ => rfl) hW' hb⟩

theorem tablesLimits_row : Rows.TablesLimitsSaid :=
  OpenClaim.holds_of_wide 4 Tryz.f4 rfl rfl rfl rfl rfl rfl rfl ⟨rfl, rfl, rfl, rfl, rfl⟩ rfl rfl rfl rfl rfl (by kernel_rfl) Tryz.func4 (by kernel_rfl)
    (of_decide_eq_true (by kernel_rfl)) (by unfold Func.isWrapper; first | (rw [if_pos (by decide +kernel)]; kernel_rfl) | (rw [if_neg (by decide +kernel)]; exact ⟨rfl, rfl⟩))
    (fun os started H enc _ => tablesLimits_lifted os started H enc)

theorem tablesLimits_holds : Rows.TablesLimitsCardSaid :=
  Claim7.holds_tied_plain_at .later [] Rows.tablesLimitsCard.laidKinds true Rows.tablesLimitsCard.stood.harness true
    tablesLimits_row (fun _ h => by cases h) (by kernel_rfl) (fun _ h => by cases h) tablesLimits_row_tie rfl ⟨rfl, rfl⟩ (by kernel_rfl) rfl
    (fun f fn hf hfn => by
      obtain rfl : f = 4 := Option.some.inj ((show Tryz.prog.funcNamed "paddock/paddocklaw08.TablesLimits" = some 4 by kernel_rfl).symm.trans hf) |>.symm
      obtain rfl : fn = Tryz.f4 := (Option.some.inj (Tryz.func4.symm.trans hfn)).symm
      exact ⟨by kernel_rfl, fun j t ht => by
        rw [Tryz.params4] at ht
        have hm : t ∈ [3] := by
          have := Array.mem_of_getElem? ht
          simp at this ⊢
          omega
        have hall : ([3].all fun u => !Tryz.prog.wantsStandIn u) = true := by kernel_rfl
        exact (show Tryz.prog.wantsStandIn t = false by simpa using List.all_eq_true.1 hall t hm)⟩)
    (by kernel_rfl)
#print axioms tablesLimits_holds
end Go.Proofs.YthgkbmeilolapaaGreatDoor
