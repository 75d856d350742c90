import Derived.Test.YtahichjiphjapaaGreatDoorZ12

/-
  Package quad: the walk's own closure, over a node and all below it.
-/
namespace Go.Proofs.YtahichjiphjapaaGreatDoor
set_option linter.unusedSimpArgs false
set_option linter.unusedVariables false
open Go.RowKit Go.Sort Go.Lib Go.Shelf

abbrev pp (b : Nat) : Value := .pointer (some ⟨b, 0, none⟩)
/-- The walk's variables. -/
structure EnvW (eb ab kb : Nat) (fe : FuncId) (ve : Array Value) (av : Value) (Y : Nat → Prop) (W : World) : Prop where
  e : W.cell? ⟨eb, 0, none⟩ = some (.func (.func fe) #[] ve)
  a : W.cell? ⟨ab, 0, none⟩ = some av
  k : W.cell? ⟨kb, 0, none⟩ = some (.func (.func 84) #[] #[pp eb, pp ab, pp kb])
  ny : ¬ Y eb ∧ ¬ Y ab ∧ ¬ Y kb
section
variable {I : Inv} {E : List Ev} {eb ab kb : Nat} {fe : FuncId} {ve : Array Value} {av : Value} {Y Y1 : Nat → Prop} {W w1 : World} {s : List Ev}
theorem EnvW.cb (h : EnvW eb ab kb fe ve av Y W) (t1 : Tch Y W w1) (o1 : ∀ b, Y1 b → (Y b ∨ W.heap.size ≤ b) ∧ b < w1.heap.size) : EnvW eb ab kb fe ve av Y1 w1 where
  e := t1.cell (cell_lt h.e) h.ny.1 h.e
  a := t1.cell (cell_lt h.a) h.ny.2.1 h.a
  k := t1.cell (cell_lt h.k) h.ny.2.2 h.k
  ny := by
    have h1 := cell_lt h.e
    have h2 := cell_lt h.a
    have h3 := cell_lt h.k
    refine ⟨fun e => ?_, fun e => ?_, fun e => ?_⟩
    · rcases (o1 _ e).1 with c | c
      · exact h.ny.1 c
      · omega
    · rcases (o1 _ e).1 with c | c
      · exact h.ny.2.1 c
      · omega
    · rcases (o1 _ e).1 with c | c
      · exact h.ny.2.2 c
      · omega
theorem EnvW.below (h : EnvW eb ab kb fe ve av Y W) (hb : RowKit.Below W.heap.size W w1) : EnvW eb ab kb fe ve av Y w1 :=
  ⟨Bc hb (cell_lt h.e) h.e, Bc hb (cell_lt h.a) h.a, Bc hb (cell_lt h.k) h.k, h.ny⟩
/-- What the walk's closure is to say. -/
def Wk2 (I : Inv) (E : List Ev) (eb ab kb : Nat) (fe : FuncId) (ve : Array Value) (av : Value) (p : Cl → Bool) (R : Rw) (Mn : Nat → Prop) (n : Nat) : Prop :=
  ∀ (u : List Nat) (v : Value) (s t : List Ev) (Y : Nat → Prop) (W : World), (∀ i ∈ u, i < 4) → u.length + n ≤ 8 → IsNd W Mn n (atR R u) v → (∀ b, Mn b → ¬ Y b ∧ b < W.heap.size) → EnvW eb ab kb fe ve av Y W → s ++ evs p R (n + 1) u ++ t = E → I s Y W → OwnB Y W →
    Calls Tryz.prog 84 #[v, clV (cellU u), pp eb, pp ab, pp kb] W fun e w' => (∃ r, e = .returned r) ∧ Cb I (s ++ evs p R (n + 1) u) Y W w'
theorem Cb.le {s : List Ev} (h : Cb I s Y W w1) : W.heap.size ≤ w1.heap.size := h.tch.size
theorem idx_run (q1 q2 q3 q4 : Option Nat) {k : Nat} (hk : k < 4) (w : World) : (Instr.index 81 (.agg #[pV q1, pV q2, pV q3, pV q4]) (.int .i64 (k : Int))).run Tryz.prog w = .ok (pV (Q4.at (q1, q2, q3, q4) k)) w := by
  rcases (show k = 0 ∨ k = 1 ∨ k = 2 ∨ k = 3 by omega) with rfl | rfl | rfl | rfl <;> kernel_rfl
set_option maxHeartbeats 8000000 in
set_option maxRecDepth 100000 in
theorem walk2_step {p : Cl → Bool} {R : Rw} {Mn : Nat → Prop} (hI : Stab I) (hen : ∀ args w, (callFunc fe args).run Tryz.prog w = .ok (.enter fe args) w)
    (he : ∀ (s t : List Ev) (Y : Nat → Prop) (W : World) (c : Cl), s ++ Ev.ask c :: t = E → I s Y W → OwnB Y W → Calls Tryz.prog fe (#[clV c] ++ ve) W fun e w' => e = .returned (.bool (p c)) ∧ Cb I (s ++ [Ev.ask c]) Y W w')
    (ht : Tells I E av) (hR : ∀ u, (R u).length ≤ 1000) (n : Nat) (ih : ∀ m, n = m + 1 → Wk2 I E eb ab kb fe ve av p R Mn m) : Wk2 I E eb ab kb fe ve av p R Mn n := by
  intro u v s t Y W hu hun ⟨rv, q, hv, hN⟩ hd henv hE hi ho
  subst hv
  obtain ⟨p0, cap, rfl, hcap, hcm⟩ := hN.val
  have HN := Lib.hid hN
  obtain ⟨q1, q2, q3, q4⟩ := q
  obtain ⟨⟨m1, m2, m3⟩, hcu⟩ : ∃ c, c = cellU u := ⟨_, rfl⟩
  have HCU := Lib.hid hcu
  obtain ⟨W0, hW0⟩ : ∃ W0, W0 = (W.alloc (.cells #[.slice p0 (atR R u []).length cap, pV q1, pV q2, pV q3, pV q4] 83)).alloc (.cells #[.int .i64 m1, .int .i64 m2, .int .i64 m3] 87) := ⟨_, rfl⟩
  have b0 : RowKit.Below W.heap.size W W0 := by rw [hW0]; exact Ba (Ba (Below.refl _ W) _) _
  obtain ⟨k1, k2⟩ := three_blk (w := W) (o1 := .cells #[.slice p0 (atR R u []).length cap, pV q1, pV q2, pV q3, pV q4] 83) (o2 := .cells #[.int .i64 m1, .int .i64 m2, .int .i64 m3] 87) (w3 := W0) (by rw [hW0]; exact Below.refl _ _)
  have hs0 : W0.heap.size = W.heap.size + 2 := by rw [hW0]; simp
  have HW0 := Lib.hid hW0
  have HB0 := Lib.hid b0
  have ho0 : OwnB Y W0 := fun b e => Nat.lt_of_lt_of_le (ho b e) b0.size
  have HE0 := Lib.hid (hI s Y W W0 hi b0)
  have HV := Lib.hid henv
  have ENV0 := Lib.hid (henv.below b0)
  have hec := henv.e
  have hel := cell_lt hec
  obtain ⟨nb, hnb⟩ : ∃ nb, nb = W.heap.size := ⟨_, rfl⟩
  have HNB := Lib.hid hnb
  rw [← hnb] at k1 k2
  have K1 := Lib.hid k1
  have K2 := Lib.hid k2
  have HO := Lib.hid ho
  have HI := Lib.hid hI
  have HT := Lib.hid ht
  have HIH := Lib.hid ih
  obtain ⟨⟨r1, r2, r3⟩, -⟩ := cells3 k2
  have hl2 := cell_lt r1
  have HSE := Lib.hid hE
  have HC := Lib.hid (fun (t : List Ev) (h : s ++ Ev.ask (m1, m2, m3) :: t = E) => he s t Y W0 (m1, m2, m3) h HE0.out ho0)
  rw [← hcu]
  change Calls Tryz.prog 84 #[.agg #[.slice p0 (atR R u []).length cap, pV q1, pV q2, pV q3, pV q4], .agg #[.int .i64 m1, .int .i64 m2, .int .i64 m3], pp eb, pp ab, pp kb] W _
  clear hN hW0 b0 hs0 hi henv k1 k2 ih ht he hE hnb hI ho hcu
  cases hp : p (m1, m2, m3) with
  | false =>
    rw [hp] at HC
    have hpu : p (cellU u) = false := by rw [← HCU.out]; exact hp
    rw [evs_no hpu, ← HCU.out] at HSE ⊢
    clear hpu
    have HC2 := Lib.hid (HC.out t (by rw [← HSE.out]; simp))
    clear HC hp
    unfold clV at HC2
    go_enter Tryz.func84, Tryz.ntmps84
    go_wp2_with fail
    rw [← HW0.out]
    refine HC2.out.mono ?_
    rintro e w1 ⟨rfl, hc1⟩
    go_wp2
    first | go_end0 | refine bodyPost_ret (results_none rfl _ _ _) rfl ?_
    exact ⟨⟨_, rfl⟩, Cb.pre HB0.out hc1⟩
  | true =>
    have hpu : p (cellU u) = true := by rw [← HCU.out]; exact hp
    rw [hp] at HC
    rw [evs_yes hpu, ← HCU.out] at HSE ⊢
    clear hpu
    have HC2 := Lib.hid (HC.out (((R u).map Ev.tell ++ evsQ p R n u 4) ++ t) (by rw [← HSE.out]; simp))
    clear HC hp
    unfold clV at HC2
    go_enter Tryz.func84, Tryz.ntmps84
    go_wp2_with fail
    rw [← HW0.out]
    refine HC2.out.mono ?_
    rintro e w1 ⟨rfl, ⟨Y1, i1, t1, o1⟩⟩
    rw [← HNB.out]
    have hnY : ∀ z, W.heap.size ≤ z → z < W0.heap.size → ¬ Y1 z := fun z h1 h2 e => by
      rcases (o1 z e).1 with c | c
      · have := HO.out z c
        omega
      · omega
    have hnY0 : ∀ z, W.heap.size ≤ z → ¬ Y z := fun z h1 e => by have := HO.out z e; omega
    have hz0 : nb + 1 < W0.heap.size := cell_lt r1
    have k1 := t1.blk K1.out (hnY0 nb (by rw [HNB.out]; omega))
    have k2 := t1.blk K2.out (hnY0 (nb + 1) (by rw [HNB.out]; omega))
    have ENV1 := Lib.hid (ENV0.out.cb t1 o1)
    obtain ⟨c1, c2, c3, c4, c5⟩ := cells5 k1
    have a1 := ENV1.out.a
    have hla := cell_lt a1
    have hl1 := cell_lt c1
    have hN1 := Lib.hid ((HN.out.below HB0.out).kept t1 (fun b e => (hd b e).1))
    have K11 := Lib.hid k1
    have K21 := Lib.hid k2
    have hd1 : ∀ b, Mn b → ¬ Y1 b := fun b h e => by
      have h2 := hd b h
      rcases (o1 b e).1 with c | c
      · exact h2.1 c
      · have := HB0.out.size
        omega
    clear k1 k2
    go_wp2_with fail
    have hat : atR R u [] = R u := by simp [atR]
    have hrow : RowN w1 Mn (.slice p0 (atR R u []).length cap) (R u) := by rw [← hat]; exact hN1.out.1
    have HSE2 := Lib.hid (show s ++ [Ev.ask (m1, m2, m3)] ++ (R u).map Ev.tell ++ (evsQ p R n u 4 ++ t) = E by rw [← HSE.out]; simp)
    refine (HT.out Mn _ (q1, q2, q3, q4) (R u) (s ++ [Ev.ask (m1, m2, m3)]) (evsQ p R n u 4 ++ t) Y1 w1 hrow hd1 (hR u) HSE2.out i1 (fun b e => (o1 b e).2)).mono ?_
    rintro e w2 ⟨⟨r, rfl⟩, ⟨Y2, i2, t2, o2⟩⟩
    have hnY1 : ∀ z, w1.heap.size ≤ z → ¬ Y1 z := fun z h1 e => by have := (o1 z e).2; omega
    have hw01 : W0.heap.size ≤ w1.heap.size := t1.size
    have k1 := t2.blk K11.out (hnY nb (by rw [HNB.out]; omega) (by omega))
    have k2 := t2.blk K21.out (hnY (nb + 1) (by rw [HNB.out]; omega) hz0)
    have ENV2 := Lib.hid (ENV1.out.cb t2 o2)
    have hN2 := Lib.hid (hN1.out.kept t2 hd1)
    have hd2 : ∀ b, Mn b → ¬ Y2 b := fun b h e => by
      have h2 := hd b h
      rcases (o2 b e).1 with c | c
      · exact hd1 b h c
      · have := HB0.out.size
        omega
    have hnY2 : ¬ Y2 (nb + 1) := fun e => by
      rcases (o2 _ e).1 with c | c
      · exact hnY (nb + 1) (by rw [HNB.out]; omega) hz0 c
      · omega
    have K22 := Lib.hid k2
    have hl22 : nb + 1 < w2.heap.size := (Array.getElem?_eq_some_iff.1 k2).1
    have HC02 := Lib.hid (show Cb I (s ++ [Ev.ask (m1, m2, m3)] ++ (R u).map Ev.tell) Y W w2 from Cb.pre HB0.out (Cb.comp t1 o1 ⟨Y2, i2, t2, o2⟩))
    have HST := Lib.hid (show Cb I (s ++ [Ev.ask (m1, m2, m3)] ++ (R u).map Ev.tell ++ evsQ p R n u 0) Y2 w2 w2 by rw [evsQ_zero, List.append_nil]; exact Cb.refl i2 (fun b e => (o2 b e).2))
    replace c1 := (blk_cell k1 0).trans rfl
    obtain ⟨c1, c2, c3, c4, c5⟩ := cells5 k1
    have hl12 := cell_lt c1
    have hd4 := Lib.hid (fun b h => And.intro (hd2 b h) (show b < w2.heap.size by have h1 := (hd b h).2; have := HB0.out.size; have := t2.size; omega))
    have TT2 := Lib.hid (And.intro t1 (And.intro t2 (And.intro o1 o2)))
    clear k1 k2 t1 t2 o1 o2 i1 i2 hnY hnY0 hnY1 hd1 hrow HC2 hd2
    go_wp2
    go_loopw [7, 8, 18] (fun s7 s8 i wr => ∃ k : Nat, k ≤ 4 ∧ i = .int .i64 k ∧ Hid (Cb I (s ++ [Ev.ask (m1, m2, m3)] ++ (R u).map Ev.tell ++ evsQ p R n u k) Y2 w2 wr)) (fun _ _ i _ => 4 - (intOf i).toNat)
    case atStart => exact ⟨0, Nat.zero_le _, rfl, HST⟩
    case round =>
      obtain ⟨k, hk, rfl, HCB⟩ := hrel
      by_cases hk4 : k < 4
      · have hp4 := hN2.out.at hk4
        rw [sub_at] at hp4
        have hix := fun w => idx_run q1 q2 q3 q4 hk4 w
        have hkz : (k : Int) < 4 := by omega
        cases hqk : Q4.at (q1, q2, q3, q4) k with
        | none =>
          rw [hqk] at hp4
          replace hix : ∀ w, (Instr.index 81 (.agg #[pV q1, pV q2, pV q3, pV q4]) (.int .i64 (k : Int))).run Tryz.prog w = .ok (.pointer none) w := fun w => by rw [hix w, hqk]; rfl
          have HQ := Lib.hid (evsQ_no (p := p) (n := n) (PtrV.none_iff hp4 |>.1 rfl))
          clear hp4 hqk
          go_wp2
          go_roundw
          case measure => simp only [intOf]; omega
          case rel => exact ⟨k + 1, by omega, by go_num, by rw [HQ.out]; exact HCB⟩
        | some b =>
          rw [hqk] at hp4
          replace hix : ∀ w, (Instr.index 81 (.agg #[pV q1, pV q2, pV q3, pV q4]) (.int .i64 (k : Int))).run Tryz.prog w = .ok (.pointer (some ⟨b, 0, none⟩)) w := fun w => by rw [hix w, hqk]; rfl
          cases n with
          | zero => exact absurd hp4.1 (by simp)
          | succ m =>
            obtain ⟨hno, hMb, rv', q', hbk, hN'⟩ := PtrV.some_iff.1 hp4
            have HQ := Lib.hid (evsQ_yes (p := p) (n := m + 1) hno)
            obtain ⟨rest, hrest⟩ := evsQ_pre p R (m + 1) u (show k + 1 ≤ 4 by omega)
            have HSE3 := Lib.hid (show s ++ [Ev.ask (m1, m2, m3)] ++ (R u).map Ev.tell ++ evsQ p R (m + 1) u k ++ evs p R (m + 1) (u ++ [k]) ++ (rest ++ t) = E by
              rw [← HSE2.out, hrest, HQ.out]
              simp)
            obtain ⟨Y3, i3, t3, o3⟩ := HCB.out
            obtain ⟨hdb, hbl⟩ := hd4.out b hMb
            have ENV3 := Lib.hid (ENV2.out.cb t3 o3)
            have kb3 := t3.blk hbk hdb
            have kc3 := t3.blk K22.out hnY2
            obtain ⟨a1, a2, a3⟩ := q'
            obtain ⟨x1, x2, x3, x4, x5⟩ := cells5 kb3
            obtain ⟨⟨y1, y2, y3⟩, -⟩ := cells3 kc3
            have z1 := ENV3.out.k
            have hz1 := cell_lt z1
            have hz2 := cell_lt x1
            have hz3 := cell_lt y1
            have hYb : ¬ Y3 b := fun e => by
              rcases (o3 b e).1 with c | c
              · exact hdb c
              · omega
            have hYc : ¬ Y3 (nb + 1) := fun e => by
              rcases (o3 _ e).1 with c | c
              · exact hnY2 c
              · omega
            have QC := Lib.hid (show ∀ W : World, Calls Tryz.prog 86 #[clV (m1, m2, m3), .int .i64 (k : Int)] W (fun e w' => e = .returned (clV (cellU (u ++ [k]))) ∧ RowKit.Below W.heap.size W w') from fun W => by
              have h1 := cellU_depth u
              have h2 := cellU_nonneg u
              have h3 := cellU_in u hu (by omega)
              rw [← HCU.out] at h1 h2 h3
              dsimp only at h1 h2 h3
              obtain ⟨_, _, _, _, h5⟩ := side_pw (show u.length ≤ 8 by omega)
              have := quarter_call u.length m2 m3 k (by omega) h2.1 (by omega) h2.2 (by omega) hk4 W
              rw [← h1, show quarC (m1, m2, m3) k = cellU (u ++ [k]) by rw [cellU_snoc, HCU.out]] at this
              exact this)
            have HN3 := Lib.hid (hN'.kept t3 (fun z e => (hd4.out z e).1))
            have HI3 := Lib.hid i3
            have HO3 := Lib.hid o3
            have HT3 := Lib.hid t3
            have HKB := Lib.hid kb3
            have HKC := Lib.hid kc3
            clear hp4 hno hbk hN' hqk hrest i3 t3 o3 kb3 kc3
            go_wp2_with fail
            have hS := Lib.hid (show ∀ W', Tch Y3 wr W' → (W'.cell? ⟨kb, 0, none⟩ = some (.func (.func 84) #[] #[pp eb, pp ab, pp kb]) ∧ (W'.cell? ⟨b, 0, none⟩ = some rv' ∧ W'.cell? ⟨b, 1, none⟩ = some (pV a1) ∧ W'.cell? ⟨b, 2, none⟩ = some (pV a2) ∧ W'.cell? ⟨b, 3, none⟩ = some (pV a3.1) ∧ W'.cell? ⟨b, 4, none⟩ = some (pV a3.2)) ∧ W'.cell? ⟨nb + 1, 0, none⟩ = some (.int .i64 m1) ∧ W'.cell? ⟨nb + 1, 1, none⟩ = some (.int .i64 m2) ∧ W'.cell? ⟨nb + 1, 2, none⟩ = some (.int .i64 m3)) from fun W' ht =>
              ⟨ht.cell hz1 ENV3.out.ny.2.2 z1, ⟨ht.cell hz2 hYb x1, ht.cell hz2 hYb x2, ht.cell hz2 hYb x3, ht.cell hz2 hYb x4, ht.cell hz2 hYb x5⟩, ht.cell hz3 hYc y1, ht.cell hz3 hYc y2, ht.cell hz3 hYc y3⟩)
            refine wp_region_held_drew (S := fun W' => W'.cell? ⟨kb, 0, none⟩ = some (.func (.func 84) #[] #[pp eb, pp ab, pp kb]) ∧ (W'.cell? ⟨b, 0, none⟩ = some rv' ∧ W'.cell? ⟨b, 1, none⟩ = some (pV a1) ∧ W'.cell? ⟨b, 2, none⟩ = some (pV a2) ∧ W'.cell? ⟨b, 3, none⟩ = some (pV a3.1) ∧ W'.cell? ⟨b, 4, none⟩ = some (pV a3.2)) ∧ W'.cell? ⟨nb + 1, 0, none⟩ = some (.int .i64 m1) ∧ W'.cell? ⟨nb + 1, 1, none⟩ = some (.int .i64 m2) ∧ W'.cell? ⟨nb + 1, 2, none⟩ = some (.int .i64 m3)) (by kernel_rfl) ⟨z1, ⟨x1, x2, x3, x4, x5⟩, y1, y2, y3⟩ (fun hHeld => ?_)
            (refine wpAnyH_take (i := 0) (v := ?_) rfl (by kernel_rfl) (by kernel_rfl) (by kernel_rfl) (fun _ _ _ h => h) (Or.inl ⟨by rfl, ?rt⟩) (by assumption) ?_; case rt => (intro w hSw; (try dsimp only at hSw); go_simp; (try with_reducible rfl))); (try simp only [Act.put, List.getElem_toArray, List.getElem_cons_succ, List.getElem_cons_zero, List.setIfInBounds_toArray, List.set_cons_zero, List.set_cons_succ])
            (refine wpAnyH_take (i := 1) (v := ?_) rfl (by kernel_rfl) (by kernel_rfl) (by kernel_rfl) (fun _ _ _ h => h) (Or.inl ⟨by rfl, ?rt⟩) (by assumption) ?_; case rt => (intro w hSw; (try dsimp only at hSw); go_simp; (try with_reducible rfl))); (try simp only [Act.put, List.getElem_toArray, List.getElem_cons_succ, List.getElem_cons_zero, List.setIfInBounds_toArray, List.set_cons_zero, List.set_cons_succ])
            (refine wpAnyH_take (i := 2) (v := ?_) rfl (by kernel_rfl) (by kernel_rfl) (by kernel_rfl) (fun _ _ _ h => h) (Or.inl ⟨by rfl, ?rt⟩) (by assumption) ?_; case rt => (intro w hSw; (try dsimp only at hSw); go_simp; (try with_reducible rfl))); (try simp only [Act.put, List.getElem_toArray, List.getElem_cons_succ, List.getElem_cons_zero, List.setIfInBounds_toArray, List.set_cons_zero, List.set_cons_succ])
            (refine wpAnyH_take (i := 3) (v := ?_) rfl (by kernel_rfl) (by kernel_rfl) (by kernel_rfl) (fun _ _ _ h => h) (Or.inl ⟨by rfl, ?rt⟩) (by assumption) ?_; case rt => (intro w hSw; (try dsimp only at hSw); go_simp; (try with_reducible rfl))); (try simp only [Act.put, List.getElem_toArray, List.getElem_cons_succ, List.getElem_cons_zero, List.setIfInBounds_toArray, List.set_cons_zero, List.set_cons_succ])
            (refine wpAnyH_take (i := 4) (v := ?_) rfl (by kernel_rfl) (by kernel_rfl) (by kernel_rfl) (fun _ _ _ h => h) (Or.inl ⟨by rfl, ?rt⟩) (by assumption) ?_; case rt => (intro w hSw; (try dsimp only at hSw); go_simp; (try with_reducible rfl))); (try simp only [Act.put, List.getElem_toArray, List.getElem_cons_succ, List.getElem_cons_zero, List.setIfInBounds_toArray, List.set_cons_zero, List.set_cons_succ])
            (refine wpAnyH_take (i := 5) (v := ?_) rfl (by kernel_rfl) (by kernel_rfl) (by kernel_rfl) (fun _ _ _ h => h) (Or.inl ⟨by rfl, ?rt⟩) (by assumption) ?_; case rt => (intro w hSw; (try dsimp only at hSw); go_simp; (try with_reducible rfl))); (try simp only [Act.put, List.getElem_toArray, List.getElem_cons_succ, List.getElem_cons_zero, List.setIfInBounds_toArray, List.set_cons_zero, List.set_cons_succ])
            (refine wpAnyH_ready (rs := [6]) (by kernel_rfl) (by simp) ?_; refine AllReadyH.cons rfl (fun K hK => ?_) AllReadyH.nil; go_simp)
            refine (QC.out _).mono ?_
            rintro e w6 ⟨rfl, hb6⟩
            have hbw : RowKit.Below wr.heap.size wr w6 := Bt (Bd (Below.refl _ wr)) hb6
            have T6 : Tch Y3 wr w6 := Tch.of hbw
            refine hK.out _ _ (hS.out _ T6) (fun hHeld => ?_)
            clear hK K
            (try simp only [Act.put, List.getElem_toArray, List.getElem_cons_succ, List.getElem_cons_zero, List.setIfInBounds_toArray, List.set_cons_zero, List.set_cons_succ])
            have IHC := Lib.hid (HIH.out m rfl (u ++ [k]) (ndV rv' (a1, a2, a3)) (s ++ [Ev.ask (m1, m2, m3)] ++ (R u).map Ev.tell ++ evsQ p R (m + 1) u k) (rest ++ t) Y3 w6 (fun j hj => by
                rcases List.mem_append.1 hj with h | h
                · exact hu j h
                · rw [List.mem_singleton.1 h]; exact hk4) (by rw [List.length_append, List.length_singleton]; omega) ⟨rv', (a1, a2, a3), rfl, HN3.out.below hbw⟩ (fun z e => by
                have h1 := hd4.out z e
                have h2 := HT3.out.size
                have h3 := hbw.size
                refine ⟨fun c => ?_, by omega⟩
                rcases (HO3.out z c).1 with c | c
                · exact h1.1 c
                · omega) (ENV3.out.below hbw) HSE3.out (HI.out _ _ _ _ HI3.out hbw) (fun z e => Nat.lt_of_lt_of_le (HO3.out z e).2 hbw.size))
            have HBW := Lib.hid hbw
            have HT6 := Lib.hid T6
            clear hbw T6 hb6
            (refine wpAnyH_ready (rs := [7]) (by kernel_rfl) (by simp) ?_; refine AllReadyH.cons rfl (fun K hK => ?_) AllReadyH.nil; go_simp)
            refine IHC.out.mono ?_
            rintro e w7 ⟨⟨r7, rfl⟩, hc7⟩
            refine hK.out _ _ (hS.out _ (HT6.out.more hc7.tch)) (fun hHeld => ?_)
            clear hK K
            (try simp only [Act.put, List.getElem_toArray, List.getElem_cons_succ, List.getElem_cons_zero, List.setIfInBounds_toArray, List.set_cons_zero, List.set_cons_succ])
            refine wpAnyH_done (by kernel_rfl) ?_ _
            have HC7 := Lib.hid (show Cb I (s ++ [Ev.ask (m1, m2, m3)] ++ (R u).map Ev.tell ++ evsQ p R (m + 1) u (k + 1)) Y2 w2 w7 by
              rw [HQ.out, ← List.append_assoc]
              exact Cb.comp HT3.out HO3.out (Cb.pre HBW.out hc7))
            clear hHeld hc7
            go_wp2
            go_roundw
            case measure => simp only [intOf]; omega
            case rel => exact ⟨k + 1, by omega, by go_num, HC7⟩
      · obtain rfl : k = 4 := by omega
        go_wp2
        first | go_end0 | refine bodyPost_ret (results_none rfl _ _ _) rfl ?_
        refine ⟨⟨_, rfl⟩, ?_⟩
        have h1 := Cb.comp TT2.out.2.1 TT2.out.2.2.2 HCB.out
        have h2 := Cb.pre HB0.out (Cb.comp TT2.out.1 TT2.out.2.2.1 h1)
        simpa using h2
theorem walk2_call {p : Cl → Bool} {R : Rw} {Mn : Nat → Prop} (hI : Stab I) (hen : ∀ args w, (callFunc fe args).run Tryz.prog w = .ok (.enter fe args) w)
    (he : ∀ (s t : List Ev) (Y : Nat → Prop) (W : World) (c : Cl), s ++ Ev.ask c :: t = E → I s Y W → OwnB Y W → Calls Tryz.prog fe (#[clV c] ++ ve) W fun e w' => e = .returned (.bool (p c)) ∧ Cb I (s ++ [Ev.ask c]) Y W w')
    (ht : Tells I E av) (hR : ∀ u, (R u).length ≤ 1000) : ∀ n, Wk2 I E eb ab kb fe ve av p R Mn n
  | 0 => walk2_step hI hen he ht hR 0 (fun m h => absurd h (by omega))
  | n + 1 => walk2_step hI hen he ht hR (n + 1) (fun m h => by
      have : n = m := by omega
      subst this
      exact walk2_call hI hen he ht hR n)
end
end Go.Proofs.YtahichjiphjapaaGreatDoor
