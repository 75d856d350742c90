/-
  alive: the chapter's example; OrderLess and OrderTotal.
-/
import Derived.Test.YtdpcdfjgpechbaaPutI
import Derived.Test.YtdpcdfjgpechbaaPut
namespace Go.Proofs.Ytdpcdfjgpechbaa
set_option linter.unusedSimpArgs false
set_option linter.unusedVariables false
open Go.RowKit Go.Sort Go.Lib Go.Shelf

set_option maxHeartbeats 2000000 in
set_option maxRecDepth 100000 in
/-- The chapter's example holds. -/
theorem alive_any (w : World) : Calls Try.prog 12 #[] w fun e w' => e = .returned (.bool true) ∧ RowKit.Below w.heap.size w w' := by
  have eq1 := eqH_run
  have gd1 := gdH_run
  have A1 := Lib.hid (Ba (Below.refl _ w) (.cells #[.int .i64 2, .int .i64 1, .int .i64 1, .int .i64 9, .int .i64 2, .int .i64 1] 28))
  have S1 := Lib.hid (sl_lit (enc := encH) (w := w) (cs := #[.int .i64 2, .int .i64 1, .int .i64 1, .int .i64 9, .int .i64 2, .int .i64 1]) (t := 28) (b := w.heap.size) [(2, 1), (1, 9), (2, 1)] rfl rfl (by unfold maxLen; simp))
  have e1 : srt ltH [(2, 1), (1, 9), (2, 1)] = [(1, 9), (2, 1)] := by decide
  have e2 : put ltI 3 [1, 5] = [1, 3, 5] := by decide
  go_enter Try.func12, Try.ntmps12
  go_wp2_with fail
  refine (handles_call _ _ _ S1.out (by decide)).mono ?_
  rintro e w1 ⟨v1, rfl, ho1, hb1⟩
  rw [e1] at ho1
  obtain ⟨p, cap, rfl, h1, h2, h⟩ := ho1
  obtain ⟨g, rfl, hbg, hgl, hH⟩ := h (by decide)
  have hgc := (Own.sl lenH (⟨_, cap, rfl, h1, h2, fun _ => ⟨g, rfl, hbg, hgl, hH⟩⟩ : Own _ encH 2 w1 (.slice (some ⟨g, 0, none⟩) [((1 : Int), (9 : Int)), (2, 1)].length cap) [((1 : Int), (9 : Int)), (2, 1)]))
  obtain ⟨_, _, e, _, _, hX⟩ := hgc
  simp only [Value.slice.injEq] at e
  obtain ⟨rfl, _, rfl⟩ := e
  obtain ⟨g', o', e, _, hcells⟩ := hX (by decide)
  simp only [Option.some.injEq, Addr.mk.injEq, and_true] at e
  obtain ⟨rfl, rfl⟩ := e
  have c1 : w1.cell? ⟨g, 0, none⟩ = some (.int .i64 1) := hcells 0 _ rfl
  have c2 : w1.cell? ⟨g, 1, none⟩ = some (.int .i64 9) := hcells 1 _ rfl
  have hcm : (2 : Int) ≤ (cap : Int) := by simp at h1; omega
  have B1 := Lib.hid (Bt A1.out hb1)
  clear hX hcells hb1 h hH h1 h2 hbg e1
  have A2 := Lib.hid (Ba (Below.refl _ w1) (.cells #[.int .i64 1, .int .i64 5] 3))
  have S2 := Lib.hid (sl_lit (enc := encI) (w := w1) (cs := #[.int .i64 1, .int .i64 5]) (t := 3) (b := w1.heap.size) [1, 5] rfl rfl (by unfold maxLen; simp))
  have R2 := Lib.hid (show Rise ltI [1, 5] by simp [Rise, ltI])
  have E2 := Lib.hid e2
  clear e2
  simp only [List.length_cons, List.length_nil, Nat.zero_add, Nat.reduceAdd]
  go_wp2_with fail
  refine (putI_call [1, 5] _ 3 _ S2.out R2.out (by decide)).mono ?_
  rintro e w2 ⟨v2, rfl, ho2, hb2⟩
  rw [E2.out] at ho2
  have B2 := Lib.hid (Bt (Bt B1.out A2.out) hb2)
  have A3 := Lib.hid (Ba (Below.refl _ w2) (.cells #[.int .i64 1, .int .i64 3, .int .i64 5] 3))
  have O3 := Lib.hid ((ho2.below A3.out).sl lenI)
  have S3 := Lib.hid (sl_lit (enc := encI) (w := w2) (cs := #[.int .i64 1, .int .i64 3, .int .i64 5]) (t := 3) (b := w2.heap.size) [1, 3, 5] rfl rfl (by unfold maxLen; simp))
  clear ho2 hb2
  go_wp2_with fail
  refine (sameInts_call _ _ _ _ _ O3.out S3.out).mono ?_
  rintro e w3 ⟨rfl, hg3⟩
  go_wp2
  go_ret
  exact ⟨by simp, Bt (Bt B2.out A3.out) hg3.below⟩

/-- What OrderLess asks behind the pair, in a world that holds the boxes: proved of each of the three cases. -/
theorem w2_facts {w : World} {a b c d : Int} {W : World} (hb : RowKit.Below ((w.alloc (.cells #[.int .i64 a, .int .i64 b] 28)).alloc (.cells #[.int .i64 c, .int .i64 d] 28)).heap.size ((w.alloc (.cells #[.int .i64 a, .int .i64 b] 28)).alloc (.cells #[.int .i64 c, .int .i64 d] 28)) W) :
    (W.cell? ⟨w.heap.size, 0, none⟩ = some (.int .i64 a) ∧ W.cell? ⟨w.heap.size, 1, none⟩ = some (.int .i64 b) ∧ W.cell? ⟨w.heap.size + 1, 0, none⟩ = some (.int .i64 c) ∧ W.cell? ⟨w.heap.size + 1, 1, none⟩ = some (.int .i64 d)) ∧ w.heap.size + 1 < W.heap.size := by
  obtain ⟨hc1, _⟩ := bcell hb
  refine ⟨⟨?_, ?_, ?_, ?_⟩, ?_⟩
  · rw [hc1 _ _ (by go_simp)]; go_simp
  · rw [hc1 _ _ (by go_simp)]; go_simp
  · rw [hc1 _ _ (by go_simp)]; go_simp
  · rw [hc1 _ _ (by go_simp)]; go_simp
  · have := hb.size
    simp at this
    omega

theorem b_refl {a : World} : RowKit.Below a.heap.size a a := Below.refl _ _

set_option maxHeartbeats 2000000 in
set_option maxRecDepth 100000 in
theorem orderLess_same (a b : Int) (w : World) : Calls Try.prog 4 #[.agg #[.int .i64 a, .int .i64 b], .agg #[.int .i64 a, .int .i64 b]] w fun e w' => e = .returned (.bool true) ∧ RowKit.Below w.heap.size w w' := by
  have eq1 := eqH_run
  have ne1 := neH_run
  have gd1 := gdH_run
  have gd2 := gdP_run
  have eq2 : ∀ a b c d p q r s w, Sem.run Try.prog (binOp .eql 31 (.agg #[.int .i64 a, .int .i64 b, .int .i64 c, .int .i64 d]) (.agg #[.int .i64 p, .int .i64 q, .int .i64 r, .int .i64 s])) w = .ok (.bool (decide (((a, b), (c, d)) = ((p, q), (r, s))))) w := fun a b c d p q r s w => eqP_run ((a, b), (c, d)) ((p, q), (r, s)) w
  have mixed : Try.prog.follows .mixedOrders = true := by kernel_rfl
  have h1 : ltH (a, b) (a, b) = false := sto_hd.irrefl _
  go_enter Try.func4, Try.ntmps4
  go_wp2_with fail
  refine (alive_any _).mono ?_
  rintro e w1 ⟨rfl, hb1⟩
  obtain ⟨⟨x0, x1, x2, x3⟩, hs1⟩ := w2_facts hb1
  have HB1 := Lib.hid hb1
  clear hb1
  go_wp2_with fail
  refine (pair_no a b _).mono ?_
  rintro e w2 ⟨rfl, hb2⟩
  have HB2 := Lib.hid (Bt HB1.out hb2)
  obtain ⟨⟨x0, x1, x2, x3⟩, hs2⟩ := w2_facts HB2.out
  clear hb2 HB1 hs1
  go_wp2_with fail
  obtain ⟨W, hW⟩ : ∃ W, W = w2.alloc (.cells #[.int .i64 0, .int .i64 0, .int .i64 0, .int .i64 0] 31) := ⟨_, rfl⟩
  have HBW := Lib.hid (show RowKit.Below ((w.alloc (.cells #[.int .i64 a, .int .i64 b] 28)).alloc (.cells #[.int .i64 a, .int .i64 b] 28)).heap.size ((w.alloc (.cells #[.int .i64 a, .int .i64 b] 28)).alloc (.cells #[.int .i64 a, .int .i64 b] 28)) W by rw [hW]; exact Ba HB2.out _)
  obtain ⟨⟨y0, y1, y2, y3⟩, hs3⟩ := w2_facts HBW.out
  have p0 : W.cell? ⟨w2.heap.size, 0, none⟩ = some (.int .i64 (0)) := by rw [hW]; go_simp
  have p1 : W.cell? ⟨w2.heap.size, 1, none⟩ = some (.int .i64 (0)) := by rw [hW]; go_simp
  have p2 : W.cell? ⟨w2.heap.size, 2, none⟩ = some (.int .i64 (0)) := by rw [hW]; go_simp
  have p3 : W.cell? ⟨w2.heap.size, 3, none⟩ = some (.int .i64 (0)) := by rw [hW]; go_simp
  have hpl : w2.heap.size < W.heap.size := by rw [hW]; simp
  first | rw [← hW] | skip
  clear x0 x1 x2 x3 HB2 hW
  have e0 := cell_grown (show (⟨w.heap.size, 0, none⟩ : Addr).block < W.heap.size by dsimp only; omega) y0
  have e1 := cell_grown (show (⟨w.heap.size, 1, none⟩ : Addr).block < W.heap.size by dsimp only; omega) y1
  have e2 := cell_grown (show (⟨w.heap.size + 1, 0, none⟩ : Addr).block < W.heap.size by dsimp only; omega) y2
  have e3 := cell_grown (show (⟨w.heap.size + 1, 1, none⟩ : Addr).block < W.heap.size by dsimp only; omega) y3
  go_quiet_grown (first | (go_at_call 17; refine Calls.grown_of (less_call _ _ _ _ _)) | (go_at_call 18; refine Calls.grown_of (rless_call _ _ _ _ _)))
  clear e0 e1 e2 e3
  have g1 : Gr W (grow (W.drewN nq) osq) := (Gr.refl W).drewN.grow
  generalize grow (W.drewN nq) osq = W2 at g1 ⊢
  have b1 := g1.below
  replace y0 := Bc b1 (by omega) y0
  replace y1 := Bc b1 (by omega) y1
  replace y2 := Bc b1 (by omega) y2
  replace y3 := Bc b1 (by omega) y3
  replace p0 := Bc b1 (by omega) p0
  replace p1 := Bc b1 (by omega) p1
  replace p2 := Bc b1 (by omega) p2
  replace p3 := Bc b1 (by omega) p3
  have hz1 : w.heap.size + 1 < W2.heap.size := Bl b1 hs3
  have hz2 : w2.heap.size < W2.heap.size := Bl b1 hpl
  have HBW2 := Lib.hid (Bt HBW.out b1)
  clear b1 g1 HBW hs2 hs3 hpl
  go_wp2
  go_ret
  exact ⟨by simp, (Ba (Ba (Below.refl _ w) _) _).trans (HBW2.out.mono (by simp; omega))⟩

set_option maxHeartbeats 2000000 in
set_option maxRecDepth 100000 in
theorem orderLess_lt (a b c d : Int) (h1 : ltH (a, b) (c, d) = true) (w : World) : Calls Try.prog 4 #[.agg #[.int .i64 a, .int .i64 b], .agg #[.int .i64 c, .int .i64 d]] w fun e w' => e = .returned (.bool true) ∧ RowKit.Below w.heap.size w w' := by
  have eq1 := eqH_run
  have ne1 := neH_run
  have gd1 := gdH_run
  have gd2 := gdP_run
  have eq2 : ∀ a b c d p q r s w, Sem.run Try.prog (binOp .eql 31 (.agg #[.int .i64 a, .int .i64 b, .int .i64 c, .int .i64 d]) (.agg #[.int .i64 p, .int .i64 q, .int .i64 r, .int .i64 s])) w = .ok (.bool (decide (((a, b), (c, d)) = ((p, q), (r, s))))) w := fun a b c d p q r s w => eqP_run ((a, b), (c, d)) ((p, q), (r, s)) w
  have mixed : Try.prog.follows .mixedOrders = true := by kernel_rfl
  have h2 : ltH (c, d) (a, b) = false := sto_hd.asymm h1
  have hne : ¬ ((a, b) : Hd) = (c, d) := sto_hd.ne h1
  have en := and_ne hne
  have hn : norm ((a, b), (c, d)) = ((a, b), (c, d)) := by unfold norm; rw [if_neg (by dsimp only; rw [h2]; simp)]
  have hp := pair_yes a b c d
  have HP : Hid (∀ W, Calls Try.prog 16 #[.agg #[.int .i64 a, .int .i64 b], .agg #[.int .i64 c, .int .i64 d]] W fun e w' => e = .returned (.tuple #[.agg #[.int .i64 a, .int .i64 b, .int .i64 c, .int .i64 d], .bool true]) ∧ RowKit.Below W.heap.size W w') := fun W => by
    have := hp W hne
    rw [hn] at this
    exact this
  clear hne hn hp
  go_enter Try.func4, Try.ntmps4
  go_wp2_with fail
  refine (alive_any _).mono ?_
  rintro e w1 ⟨rfl, hb1⟩
  obtain ⟨⟨x0, x1, x2, x3⟩, hs1⟩ := w2_facts hb1
  have HB1 := Lib.hid hb1
  clear hb1
  go_wp2_with fail
  refine (HP.out _).mono ?_
  rintro e w2 ⟨rfl, hb2⟩
  have HB2 := Lib.hid (Bt HB1.out hb2)
  obtain ⟨⟨x0, x1, x2, x3⟩, hs2⟩ := w2_facts HB2.out
  clear hb2 HB1 hs1
  go_wp2_with fail
  obtain ⟨W, hW⟩ : ∃ W, W = w2.alloc (.cells #[.int .i64 a, .int .i64 b, .int .i64 c, .int .i64 d] 31) := ⟨_, rfl⟩
  have HBW := Lib.hid (show RowKit.Below ((w.alloc (.cells #[.int .i64 a, .int .i64 b] 28)).alloc (.cells #[.int .i64 c, .int .i64 d] 28)).heap.size ((w.alloc (.cells #[.int .i64 a, .int .i64 b] 28)).alloc (.cells #[.int .i64 c, .int .i64 d] 28)) W by rw [hW]; exact Ba HB2.out _)
  obtain ⟨⟨y0, y1, y2, y3⟩, hs3⟩ := w2_facts HBW.out
  have p0 : W.cell? ⟨w2.heap.size, 0, none⟩ = some (.int .i64 (a)) := by rw [hW]; go_simp
  have p1 : W.cell? ⟨w2.heap.size, 1, none⟩ = some (.int .i64 (b)) := by rw [hW]; go_simp
  have p2 : W.cell? ⟨w2.heap.size, 2, none⟩ = some (.int .i64 (c)) := by rw [hW]; go_simp
  have p3 : W.cell? ⟨w2.heap.size, 3, none⟩ = some (.int .i64 (d)) := by rw [hW]; go_simp
  have hpl : w2.heap.size < W.heap.size := by rw [hW]; simp
  first | rw [← hW] | skip
  clear x0 x1 x2 x3 HB2 hW
  have e0 := cell_grown (show (⟨w.heap.size, 0, none⟩ : Addr).block < W.heap.size by dsimp only; omega) y0
  have e1 := cell_grown (show (⟨w.heap.size, 1, none⟩ : Addr).block < W.heap.size by dsimp only; omega) y1
  have e2 := cell_grown (show (⟨w.heap.size + 1, 0, none⟩ : Addr).block < W.heap.size by dsimp only; omega) y2
  have e3 := cell_grown (show (⟨w.heap.size + 1, 1, none⟩ : Addr).block < W.heap.size by dsimp only; omega) y3
  go_quiet_grown (first | (go_at_call 17; refine Calls.grown_of (less_call _ _ _ _ _)) | (go_at_call 18; refine Calls.grown_of (rless_call _ _ _ _ _)))
  clear e0 e1 e2 e3
  have g1 : Gr W (grow (W.drewN nq) osq) := (Gr.refl W).drewN.grow
  generalize grow (W.drewN nq) osq = W2 at g1 ⊢
  have b1 := g1.below
  replace y0 := Bc b1 (by omega) y0
  replace y1 := Bc b1 (by omega) y1
  replace y2 := Bc b1 (by omega) y2
  replace y3 := Bc b1 (by omega) y3
  replace p0 := Bc b1 (by omega) p0
  replace p1 := Bc b1 (by omega) p1
  replace p2 := Bc b1 (by omega) p2
  replace p3 := Bc b1 (by omega) p3
  have hz1 : w.heap.size + 1 < W2.heap.size := Bl b1 hs3
  have hz2 : w2.heap.size < W2.heap.size := Bl b1 hpl
  have HBW2 := Lib.hid (Bt HBW.out b1)
  clear b1 g1 HBW hs2 hs3 hpl
  go_wp2_with fail
  refine (rless_call _ _ _ _ _).mono ?_
  rintro e w4 ⟨rfl, hg4⟩
  have b4 := hg4.below
  replace y0 := Bc b4 (by omega) y0
  replace y1 := Bc b4 (by omega) y1
  replace y2 := Bc b4 (by omega) y2
  replace y3 := Bc b4 (by omega) y3
  replace p0 := Bc b4 (by omega) p0
  replace p1 := Bc b4 (by omega) p1
  replace p2 := Bc b4 (by omega) p2
  replace p3 := Bc b4 (by omega) p3
  have HBW4 := Lib.hid (Bt HBW2.out b4)
  clear b4 HBW2
  go_wp2
  go_ret
  exact ⟨by simp, (Ba (Ba (Below.refl _ w) _) _).trans (HBW4.out.mono (by simp; omega))⟩

set_option maxHeartbeats 2000000 in
set_option maxRecDepth 100000 in
theorem orderLess_gt (a b c d : Int) (h2 : ltH (c, d) (a, b) = true) (w : World) : Calls Try.prog 4 #[.agg #[.int .i64 a, .int .i64 b], .agg #[.int .i64 c, .int .i64 d]] w fun e w' => e = .returned (.bool true) ∧ RowKit.Below w.heap.size w w' := by
  have eq1 := eqH_run
  have ne1 := neH_run
  have gd1 := gdH_run
  have gd2 := gdP_run
  have eq2 : ∀ a b c d p q r s w, Sem.run Try.prog (binOp .eql 31 (.agg #[.int .i64 a, .int .i64 b, .int .i64 c, .int .i64 d]) (.agg #[.int .i64 p, .int .i64 q, .int .i64 r, .int .i64 s])) w = .ok (.bool (decide (((a, b), (c, d)) = ((p, q), (r, s))))) w := fun a b c d p q r s w => eqP_run ((a, b), (c, d)) ((p, q), (r, s)) w
  have mixed : Try.prog.follows .mixedOrders = true := by kernel_rfl
  have h1 : ltH (a, b) (c, d) = false := sto_hd.asymm h2
  have hne : ¬ ((a, b) : Hd) = (c, d) := fun e => sto_hd.ne h2 e.symm
  have en := and_ne hne
  have en2 := and_ne (fun e => hne e.symm : ¬ ((c, d) : Hd) = (a, b))
  have hn : norm ((a, b), (c, d)) = ((c, d), (a, b)) := by unfold norm; rw [if_pos (by dsimp only; rw [h2])]
  have hp := pair_yes a b c d
  have HP : Hid (∀ W, Calls Try.prog 16 #[.agg #[.int .i64 a, .int .i64 b], .agg #[.int .i64 c, .int .i64 d]] W fun e w' => e = .returned (.tuple #[.agg #[.int .i64 c, .int .i64 d, .int .i64 a, .int .i64 b], .bool true]) ∧ RowKit.Below W.heap.size W w') := fun W => by
    have := hp W hne
    rw [hn] at this
    exact this
  clear hne hn hp
  go_enter Try.func4, Try.ntmps4
  go_wp2_with fail
  refine (alive_any _).mono ?_
  rintro e w1 ⟨rfl, hb1⟩
  obtain ⟨⟨x0, x1, x2, x3⟩, hs1⟩ := w2_facts hb1
  have HB1 := Lib.hid hb1
  clear hb1
  go_wp2_with fail
  refine (HP.out _).mono ?_
  rintro e w2 ⟨rfl, hb2⟩
  have HB2 := Lib.hid (Bt HB1.out hb2)
  obtain ⟨⟨x0, x1, x2, x3⟩, hs2⟩ := w2_facts HB2.out
  clear hb2 HB1 hs1
  go_wp2_with fail
  obtain ⟨W, hW⟩ : ∃ W, W = w2.alloc (.cells #[.int .i64 c, .int .i64 d, .int .i64 a, .int .i64 b] 31) := ⟨_, rfl⟩
  have HBW := Lib.hid (show RowKit.Below ((w.alloc (.cells #[.int .i64 a, .int .i64 b] 28)).alloc (.cells #[.int .i64 c, .int .i64 d] 28)).heap.size ((w.alloc (.cells #[.int .i64 a, .int .i64 b] 28)).alloc (.cells #[.int .i64 c, .int .i64 d] 28)) W by rw [hW]; exact Ba HB2.out _)
  obtain ⟨⟨y0, y1, y2, y3⟩, hs3⟩ := w2_facts HBW.out
  have p0 : W.cell? ⟨w2.heap.size, 0, none⟩ = some (.int .i64 (c)) := by rw [hW]; go_simp
  have p1 : W.cell? ⟨w2.heap.size, 1, none⟩ = some (.int .i64 (d)) := by rw [hW]; go_simp
  have p2 : W.cell? ⟨w2.heap.size, 2, none⟩ = some (.int .i64 (a)) := by rw [hW]; go_simp
  have p3 : W.cell? ⟨w2.heap.size, 3, none⟩ = some (.int .i64 (b)) := by rw [hW]; go_simp
  have hpl : w2.heap.size < W.heap.size := by rw [hW]; simp
  first | rw [← hW] | skip
  clear x0 x1 x2 x3 HB2 hW
  have e0 := cell_grown (show (⟨w.heap.size, 0, none⟩ : Addr).block < W.heap.size by dsimp only; omega) y0
  have e1 := cell_grown (show (⟨w.heap.size, 1, none⟩ : Addr).block < W.heap.size by dsimp only; omega) y1
  have e2 := cell_grown (show (⟨w.heap.size + 1, 0, none⟩ : Addr).block < W.heap.size by dsimp only; omega) y2
  have e3 := cell_grown (show (⟨w.heap.size + 1, 1, none⟩ : Addr).block < W.heap.size by dsimp only; omega) y3
  go_quiet_grown (first | (go_at_call 17; refine Calls.grown_of (less_call _ _ _ _ _)) | (go_at_call 18; refine Calls.grown_of (rless_call _ _ _ _ _)))
  clear e0 e1 e2 e3
  have g1 : Gr W (grow (W.drewN nq) osq) := (Gr.refl W).drewN.grow
  generalize grow (W.drewN nq) osq = W2 at g1 ⊢
  have b1 := g1.below
  replace y0 := Bc b1 (by omega) y0
  replace y1 := Bc b1 (by omega) y1
  replace y2 := Bc b1 (by omega) y2
  replace y3 := Bc b1 (by omega) y3
  replace p0 := Bc b1 (by omega) p0
  replace p1 := Bc b1 (by omega) p1
  replace p2 := Bc b1 (by omega) p2
  replace p3 := Bc b1 (by omega) p3
  have hz1 : w.heap.size + 1 < W2.heap.size := Bl b1 hs3
  have hz2 : w2.heap.size < W2.heap.size := Bl b1 hpl
  have HBW2 := Lib.hid (Bt HBW.out b1)
  clear b1 g1 HBW hs2 hs3 hpl
  go_wp2_with fail
  refine (rless_call _ _ _ _ _).mono ?_
  rintro e w4 ⟨rfl, hg4⟩
  have b4 := hg4.below
  replace y0 := Bc b4 (by omega) y0
  replace y1 := Bc b4 (by omega) y1
  replace y2 := Bc b4 (by omega) y2
  replace y3 := Bc b4 (by omega) y3
  replace p0 := Bc b4 (by omega) p0
  replace p1 := Bc b4 (by omega) p1
  replace p2 := Bc b4 (by omega) p2
  replace p3 := Bc b4 (by omega) p3
  have HBW4 := Lib.hid (Bt HBW2.out b4)
  clear b4 HBW2
  go_wp2
  go_ret
  exact ⟨by simp, (Ba (Ba (Below.refl _ w) _) _).trans (HBW4.out.mono (by simp; omega))⟩

theorem orderLess_walk (a b c d : Int) (w : World) : Calls Try.prog 4 #[.agg #[.int .i64 a, .int .i64 b], .agg #[.int .i64 c, .int .i64 d]] w fun e w' => e = .returned (.bool true) ∧ RowKit.Below w.heap.size w w' := by
  cases h1 : ltH (a, b) (c, d) with
  | true => exact orderLess_lt a b c d h1 w
  | false =>
    cases h2 : ltH (c, d) (a, b) with
    | true => exact orderLess_gt a b c d h2 w
    | false =>
      obtain ⟨rfl, rfl⟩ : a = c ∧ b = d := by simpa using sto_hd.total _ _ h1 h2
      exact orderLess_same a b w
end Go.Proofs.Ytdpcdfjgpechbaa
