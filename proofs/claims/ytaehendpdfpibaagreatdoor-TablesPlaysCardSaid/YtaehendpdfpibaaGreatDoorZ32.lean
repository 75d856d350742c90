import Derived.Test.YtaehendpdfpibaaGreatDoorZ30

/-
  One call on a store and its model: Take; nothing (written by mkdo9.py).
-/
namespace Go.Proofs.YtaehendpdfpibaaGreatDoor
set_option linter.unusedSimpArgs false
set_option linter.unusedVariables false
open Go.RowKit Go.Sort Go.Lib Go.Shelf

section
variable {Z : Nat → Prop} {base ps pr : Nat} {w w' : World} {L : List En} {A : Nat → Addr}
set_option maxHeartbeats 8000000 in
set_option maxRecDepth 100000 in
theorem do_none (hTW : PairS Z base w ps pr L L) (hpr : base ≤ pr) (hW : ∀ W, RowKit.Below base w W → Errs W A ∧ Era base W A) (kd h1 h2 : Int) (rv : Value) (x1 x2 x3 : Int) (rl : List Vl) (hrv : ∀ W, RowKit.Below base w W → Sl encV W rv rl) (hrl : rl.length ≤ 30) (hx : HdOk (h1, h2)) (hkw : (Lit.int .i64 x1).wf = true) (n1 : ¬ kd = 1) (n2 : ¬ kd = 2) (n3 : ¬ kd = 3) (n4 : ¬ kd = 4) (n5 : ¬ kd = 5) :
    Calls Tryz.prog 12 #[psP ps, rsP pr, .agg #[.int .i64 kd, .int .i64 h1, .int .i64 h2, rv, .int .i64 x1, .int .i64 x2, .int .i64 x3]] w fun e w' => ∃ L', e = .returned (.bool true) ∧ PairS Z base w' ps pr L' L' ∧ BZ base Z w w' := by
  have bA := Ba (Below.refl _ w) (OpB8 kd h1 h2 rv x1 x2 x3)
  have hlo := hTW.lo
  have HG := Lib.hid hTW.good
  obtain ⟨hprl, hprz⟩ := hTW.pr_lt
  have HZL := Lib.hid hTW.zlt
  have hsz : (w.alloc (OpB8 kd h1 h2 rv x1 x2 x3)).heap.size = w.heap.size + 1 := by simp
  have P0 := Lib.hid (hTW.below bA)
  have O0 := Lib.hid (heap_alloc_new w (OpB8 kd h1 h2 rv x1 x2 x3))
  have B0 := Lib.hid (show BZ base Z w (w.alloc (OpB8 kd h1 h2 rv x1 x2 x3)) from ⟨bA.mono hlo, fun b e hb => bA.block b hb⟩)
  have ZZ := Lib.hid (show ∀ b, OffZ base (fun b => Z b ∨ b = w.heap.size) b → base ≤ b ∧ ¬ Z b from fun b e => ⟨e.1, fun c => e.2 (.inl c)⟩)
  have HT := Lib.hid hTW
  have HW := Lib.hid hW
  have HRV := Lib.hid hrv
  obtain ⟨W, hWW⟩ : ∃ W, W = w.alloc (OpB8 kd h1 h2 rv x1 x2 x3) := ⟨_, rfl⟩
  rw [← hWW] at P0 O0 B0
  have hWb : base ≤ W.heap.size := by rw [hWW, hsz]; omega
  clear hTW hW hrv bA hsz
  obtain ⟨a0, a1, a2, a3, a4, a5, a6⟩ := seven_cells O0.out
  have hal := cell_lt a0
  go_enter Tryz.func12, Tryz.ntmps12
  go_wp2
  rw [← hWW]
  clear hWW
  go_ret
  exact ⟨L, rfl, P0.out, B0.out⟩
set_option maxHeartbeats 8000000 in
set_option maxRecDepth 100000 in
theorem do_take (hTW : PairS Z base w ps pr L L) (hpr : base ≤ pr) (hW : ∀ W, RowKit.Below base w W → Errs W A ∧ Era base W A) (kd h1 h2 : Int) (rv : Value) (x1 x2 x3 : Int) (rl : List Vl) (hrv : ∀ W, RowKit.Below base w W → Sl encV W rv rl) (hrl : rl.length ≤ 30) (hx : HdOk (h1, h2)) (hkw : (Lit.int .i64 x1).wf = true) (hkd : kd = 2) :
    Calls Tryz.prog 12 #[psP ps, rsP pr, .agg #[.int .i64 kd, .int .i64 h1, .int .i64 h2, rv, .int .i64 x1, .int .i64 x2, .int .i64 x3]] w fun e w' => ∃ L', e = .returned (.bool true) ∧ PairS Z base w' ps pr L' L' ∧ BZ base Z w w' := by
  have bA := Ba (Below.refl _ w) (OpB8 kd h1 h2 rv x1 x2 x3)
  have hlo := hTW.lo
  have HG := Lib.hid hTW.good
  obtain ⟨hprl, hprz⟩ := hTW.pr_lt
  have HZL := Lib.hid hTW.zlt
  have hsz : (w.alloc (OpB8 kd h1 h2 rv x1 x2 x3)).heap.size = w.heap.size + 1 := by simp
  have P0 := Lib.hid (hTW.more (Z' := fun b => Z b ∨ b = w.heap.size) bA (fun b e => e.imp id (fun e => by rw [e, hsz]; omega)))
  have O0 := Lib.hid (heap_alloc_new w (OpB8 kd h1 h2 rv x1 x2 x3))
  have B0 := Lib.hid (show BZ base Z w (w.alloc (OpB8 kd h1 h2 rv x1 x2 x3)) from ⟨bA.mono hlo, fun b e hb => bA.block b hb⟩)
  have ZZ := Lib.hid (show ∀ b, OffZ base (fun b => Z b ∨ b = w.heap.size) b → base ≤ b ∧ ¬ Z b from fun b e => ⟨e.1, fun c => e.2 (.inl c)⟩)
  have HT := Lib.hid hTW
  have HW := Lib.hid hW
  have HRV := Lib.hid hrv
  obtain ⟨W, hWW⟩ : ∃ W, W = w.alloc (OpB8 kd h1 h2 rv x1 x2 x3) := ⟨_, rfl⟩
  rw [← hWW] at P0 O0 B0
  have hWb : base ≤ W.heap.size := by rw [hWW, hsz]; omega
  clear hTW hW hrv bA hsz
  obtain ⟨a0, a1, a2, a3, a4, a5, a6⟩ := seven_cells O0.out
  have hal := cell_lt a0
  subst hkd
  have CP := Lib.hid (P0.out.prog (P := fun e w' => ∃ v, e = .returned (.tuple #[.agg #[.int .i64 (entE L (h1, h2)).1.1, .int .i64 (entE L (h1, h2)).1.2, v], errV A (takeEN L (h1, h2))]) ∧ SlN (fun b => W.heap.size ≤ b) encV w' v (entE L (h1, h2)).2) (L1' := delE L (h1, h2)) (fun N hS _ => takeS2 hS h1 h2 hx (HW.out W B0.out.bel).2))
  have htn := takeEN_le L (h1, h2)
  have CF : Hid (∀ W1 L1, PairS (fun b => Z b ∨ b = w.heap.size) base W1 ps pr L1 L → Calls Tryz.prog 46 #[rsP pr, .agg #[.int .i64 h1, .int .i64 h2]] W1 fun e w' => (∃ v, e = .returned (.tuple #[.agg #[.int .i64 (entE L (h1, h2)).1.1, .int .i64 (entE L (h1, h2)).1.2, v], .int .i64 (takeEN L (h1, h2) : Nat)]) ∧ Sl encV w' v (entE L (h1, h2)).2) ∧ PairS (fun b => Z b ∨ b = w.heap.size) base w' ps pr L1 (delE L (h1, h2)) ∧ Tch (fun b => b = pr) W1 w') := fun W1 L1 h => by
    obtain ⟨N, M, k1, k2, k3, k4⟩ := h
    obtain ⟨_, _, _, _, _, _, _, hMp, _⟩ := k2.open
    refine (rtakeS k2 HG.out h1 h2).mono fun e w' ⟨he, hR, ht⟩ => ⟨he, ⟨_, _, k1.keepN ht (fun b e => e ▸ k3 pr hMp), hR, fun b e => ?_, fun b e => ⟨.inl (k4 b e).1, fun c => ?_⟩⟩, ht⟩
    · rcases e with e | e
      · exact .inl (k3 b e)
      · exact .inr e
    · rcases c with c | c
      · exact (k4 b e).2 c
      · obtain ⟨_, _, _, q3, _⟩ := k1
        have := q3 b (k4 b e).1
        omega
  generalize takeEN L (h1, h2) = tn at *
  generalize delE L (h1, h2) = L9 at *
  generalize entE L (h1, h2) = en at *
  obtain ⟨⟨e1, e2⟩, el⟩ := en
  dsimp only at CP CF
  have hpw : pr < W.heap.size := by omega
  clear HG
  go_enter Tryz.func12, Tryz.ntmps12
  go_wp2_with fail
  rw [← hWW]
  clear hWW
  refine CP.out.mono ?_
  rintro e w3 ⟨⟨v3, rfl, hs3⟩, hP3, ht3⟩
  have P3 := Lib.hid hP3
  have B3 := Lib.hid (B0.out.step ht3 ZZ.out hlo)
  have O3 := Lib.hid (ht3.blk O0.out (fun e => e.2 (.inr rfl)))
  have S3 := Lib.hid hs3
  obtain ⟨p3, c3, rfl, _, _, _⟩ := id hs3
  have hW3 := ht3.size
  clear hP3 ht3 hs3 CP a0 a1 a2 a3 a4 a5 a6 hal
  have bE := Ba (Below.refl _ w3) (.cells #[.int .i64 e1, .int .i64 e2, .slice p3 el.length c3] 38)
  obtain ⟨w4, hw4⟩ : ∃ w4, w4 = w3.alloc (.cells #[.int .i64 e1, .int .i64 e2, .slice p3 el.length c3] 38) := ⟨_, rfl⟩
  obtain ⟨eb, heb⟩ : ∃ eb, eb = w3.heap.size := ⟨_, rfl⟩
  have E4 := Lib.hid (show w4.heap[eb]? = some (.cells #[.int .i64 e1, .int .i64 e2, .slice p3 el.length c3] 38 (0, 0)) by rw [hw4, heb]; exact heap_alloc_new _ _)
  have D4 := Lib.hid (show RowKit.Below w3.heap.size w3 w4 by rw [hw4]; exact bE)
  have P4 := Lib.hid (P3.out.below D4.out)
  have B4 := Lib.hid (B3.out.bel2 D4.out hlo)
  have O4 := Lib.hid (blk_below O3.out D4.out)
  have S4 := Lib.hid (S3.out.below D4.out)
  have CF4 := Lib.hid (CF.out w4 _ P4.out)
  obtain ⟨a0, a1, a2, a3, a4, a5, a6⟩ := seven_cells O3.out
  have hal := cell_lt a0
  have hebp : eb ≠ pr := by omega
  clear bE CF
  go_wp2_with fail
  rw [← hw4, ← heb]
  clear hw4 heb
  refine CF4.out.mono ?_
  rintro e w5 ⟨⟨v5, rfl, hs5⟩, hP5, ht5⟩
  have P5 := Lib.hid hP5
  have B5 := Lib.hid (B4.out.step ht5 (fun b e => by rw [e]; exact ⟨hpr, hprz⟩) hlo)
  have E5 := Lib.hid (ht5.blk E4.out hebp)
  have S5 := Lib.hid (S4.out.kept ht5 (fun b e c => by omega)).sl
  have R5 := Lib.hid hs5
  obtain ⟨p5, c5, rfl, _, _, _⟩ := id hs5
  have bF := Ba (Below.refl _ w5) (.cells #[.int .i64 e1, .int .i64 e2, .slice p5 el.length c5] 38)
  have F5 := Lib.hid (heap_alloc_new w5 (.cells #[.int .i64 e1, .int .i64 e2, .slice p5 el.length c5] 38))
  obtain ⟨w6, hw6⟩ : ∃ w6, w6 = w5.alloc (.cells #[.int .i64 e1, .int .i64 e2, .slice p5 el.length c5] 38) := ⟨_, rfl⟩
  obtain ⟨fb, hfb⟩ : ∃ fb, fb = w5.heap.size := ⟨_, rfl⟩
  rw [← hw6, ← hfb] at F5
  have D6 := Lib.hid (show RowKit.Below w5.heap.size w5 w6 by rw [hw6]; exact bF)
  have P6 := Lib.hid (P5.out.below D6.out)
  have B6 := Lib.hid (B5.out.bel2 D6.out hlo)
  have E6 := Lib.hid (blk_below E5.out D6.out)
  have S6 := Lib.hid (S5.out.below D6.out)
  have R6 := Lib.hid (R5.out.below D6.out)
  have CN := Lib.hid (numV_call (HW.out w6 B6.out.bel).1 tn htn)
  clear hP5 ht5 hs5 bF CF4 a0 a1 a2 a3 a4 a5 a6 hal
  go_wp2_with fail
  rw [← hw6, ← hfb]
  clear hw6 hfb
  refine CN.out.mono ?_
  rintro e w7 ⟨rfl, hb7⟩
  obtain ⟨⟨b0, b1, b2⟩, _, _, _⟩ := three_cells (blk_below E6.out hb7)
  have hbl := cell_lt b0
  obtain ⟨⟨d0, d1, d2⟩, _, _, _⟩ := three_cells (blk_below F5.out hb7)
  have hdl := cell_lt d0
  have B7 := Lib.hid (B6.out.bel2 hb7 hlo)
  have P7 := Lib.hid (P6.out.below hb7)
  have CS := Lib.hid (rsame_call e1 e2 e1 e2 el el _ _ w7 (S6.out.below hb7) (R6.out.below hb7))
  rw [show (decide ((e1, e2) = (e1, e2)) && decide (el = el)) = true by simp] at CS
  clear hb7 CN
  go_wp2_with fail
  refine CS.out.mono ?_
  rintro e w8 ⟨rfl, hg8⟩
  have P8 := Lib.hid (P7.out.below hg8.below)
  have B8 := Lib.hid (B7.out.bel2 hg8.below hlo)
  clear hg8 CS b0 b1 b2 hbl d0 d1 d2 hdl
  go_wp2
  go_ret
  exact ⟨L9, by simp, P8.out.less (fun b e => .inl e), B8.out⟩
end
end Go.Proofs.YtaehendpdfpibaaGreatDoor

/-
  One call on a store and its model: Put (written by mkdo9.py).
-/
namespace Go.Proofs.YtaehendpdfpibaaGreatDoor
set_option linter.unusedSimpArgs false
set_option linter.unusedVariables false
open Go.RowKit Go.Sort Go.Lib Go.Shelf

theorem rowV_put9 {w : World} {b0 g n cap : Nat} {Z : List Vl} (h : w.ownsRow b0 34 3 (.slice (some ⟨g, 0, none⟩) n cap) n (flat encV Z)) (i : Nat) (hi : i < Z.length) (x1 x2 x3 : Int) :
    (((w.setCell ⟨g, i * 3, none⟩ (.int .i64 x1)).setCell ⟨g, i * 3 + 1, none⟩ (.int .i64 x2)).setCell ⟨g, i * 3 + 2, none⟩ (.int .i64 x3)).ownsRow b0 34 3 (.slice (some ⟨g, 0, none⟩) n cap) n (flat encV (Z.set i (x1, x2, x3))) := by
  have k1 := (h.stored (i * 3) (.int .i64 x1)).1
  have f1 := flat_setc lenV 0 (by decide) (x1, Z[i].2.1, Z[i].2.2) (.int .i64 x1) Z i hi rfl
  rw [Nat.add_zero] at f1
  rw [f1] at k1
  have k2 := (k1.stored (i * 3 + 1) (.int .i64 x2)).1
  rw [flat_setc lenV 1 (by decide) (x1, x2, Z[i].2.2) (.int .i64 x2) _ i (by simpa using hi) (by simp [encV])] at k2
  have k3 := (k2.stored (i * 3 + 2) (.int .i64 x3)).1
  rw [flat_setc lenV 2 (by decide) (x1, x2, x3) (.int .i64 x3) _ i (by simpa using hi) (by simp [encV]), List.set_set, List.set_set] at k3
  exact k3
theorem Below.refl' (base : Nat) (w : World) (h : base ≤ w.heap.size) : RowKit.Below base w w := (Below.refl _ w).mono h
section
variable {Z : Nat → Prop} {base ps pr : Nat} {w w' : World} {L : List En} {A : Nat → Addr}
set_option maxHeartbeats 8000000 in
set_option maxRecDepth 100000 in
theorem do_put (hTW : PairS Z base w ps pr L L) (hpr : base ≤ pr) (hW : ∀ W, RowKit.Below base w W → Errs W A ∧ Era base W A) (kd h1 h2 : Int) (rv : Value) (x1 x2 x3 : Int) (rl : List Vl) (hrv : ∀ W, RowKit.Below base w W → Sl encV W rv rl) (hrl : rl.length ≤ 30) (hx : HdOk (h1, h2)) (hkw : (Lit.int .i64 x1).wf = true) (hkd : kd = 1) :
    Calls Tryz.prog 12 #[psP ps, rsP pr, .agg #[.int .i64 kd, .int .i64 h1, .int .i64 h2, rv, .int .i64 x1, .int .i64 x2, .int .i64 x3]] w fun e w' => ∃ L', e = .returned (.bool true) ∧ PairS Z base w' ps pr L' L' ∧ BZ base Z w w' := by
  have bA := Ba (Below.refl _ w) (OpB8 kd h1 h2 rv x1 x2 x3)
  have hlo := hTW.lo
  have HG := Lib.hid hTW.good
  obtain ⟨hprl, hprz⟩ := hTW.pr_lt
  have HZL := Lib.hid hTW.zlt
  have hsz : (w.alloc (OpB8 kd h1 h2 rv x1 x2 x3)).heap.size = w.heap.size + 1 := by simp
  have O0 := Lib.hid (heap_alloc_new w (OpB8 kd h1 h2 rv x1 x2 x3))
  have HT := Lib.hid hTW
  have HW := Lib.hid hW
  have HRV := Lib.hid hrv
  subst hkd
  obtain ⟨pv, cv, rfl, _, hcv, _⟩ := hrv w (Below.refl' base w hlo)
  have hcv2 : cv ≤ 9223372036854775807 := by unfold maxLen at hcv; omega
  clear hTW hW hrv hcv
  have A1 := Lib.hid (Ba bA (.cells #[] 34))
  have O1 := Lib.hid (show ((w.alloc (OpB8 1 h1 h2 (.slice pv rl.length cv) x1 x2 x3)).alloc (.cells #[] 34)).ownsRow w.heap.size 34 3 (.slice (some ⟨w.heap.size + 1, 0, none⟩) 0 0) ([] : List Vl).length (flat encV []) from by
    have : ((w.alloc (OpB8 1 h1 h2 (.slice pv rl.length cv) x1 x2 x3)).alloc (.cells #[] 34)).ownsRow w.heap.size 34 3 (.slice (some ⟨(w.alloc (OpB8 1 h1 h2 (.slice pv rl.length cv) x1 x2 x3)).heap.size, 0, none⟩) 0 0) ([] : List Vl).length (flat encV []) := World.ownsRow_made _ #[] 0 bA.size (Nat.zero_le _) (by simp)
    rw [hsz] at this
    exact this)
  have S1 := Lib.hid (HRV.out _ (A1.out.mono hlo))
  go_enter Tryz.func12, Tryz.ntmps12
  go_wp2_with (at_builtin; refine wpl_app2 apV rfl _ _ rfl w.heap.size (by rfl) (by rfl) O1.out rfl S1.out (by simp; omega) A1.out.size ?_; intro v2 w2 hown2 hgrow2 hat2 hnn2; rw [List.nil_append] at hown2; have O2 := Lib.hid hown2; have B2 := Lib.hid (grownB A1.out O1.out hgrow2); have T2 := Lib.hid (Tch.grown (M := fun b => b = w.heap.size + 1) hgrow2 (fun g hg => by simp only [Value.ownBlock, Option.some.injEq] at hg; exact hg.symm)); have H2 := Lib.hid hat2; clear hown2 hgrow2 hat2 hnn2)
  have Q2 := Lib.hid (show w2.heap[w.heap.size]? = some (OpB8 1 h1 h2 (.slice pv rl.length cv) x1 x2 x3) from T2.out.blk (blk_below O0.out (Ba (Below.refl _ _) _)) (by omega))
  obtain ⟨Y, hZ⟩ : ∃ Y : Nat → Prop, Y = fun b => Z b ∨ (w.heap.size ≤ b ∧ b < w2.heap.size) := ⟨_, rfl⟩
  have ZZ := Lib.hid (show ∀ b, OffZ base Y b → base ≤ b ∧ ¬ Z b from fun b e => ⟨e.1, fun c => e.2 (by rw [hZ]; exact .inl c)⟩)
  have HZ := Lib.hid hZ
  have P2 := Lib.hid (HT.out.more (Z' := Y) B2.out (fun b e => by rw [hZ] at e; exact e))
  have hz0 : Y w.heap.size := by rw [hZ]; exact .inr ⟨Nat.le_refl _, (Array.getElem?_eq_some_iff.1 Q2.out).1⟩
  have hws := B2.out.size
  have hgz : ∀ g, v2.ownBlock = some g → Y g ∧ (base ≤ g ∧ ¬ Z g) := fun g hg => by
    have hlt := row_lt O2.out hg
    have hge : w.heap.size ≤ g := by
      rcases O2.out.2 with ⟨e, _⟩ | ⟨g', cap, cur, e, hb, _⟩
      · rw [e] at hg; simp [Value.ownBlock] at hg
      · rw [e] at hg
        simp only [Value.ownBlock, Option.some.injEq] at hg
        subst hg
        exact hb
    rw [hZ]
    exact ⟨.inr ⟨hge, hlt⟩, by omega, fun c => by have := HZL.out g c; omega⟩
  have HGZ := Lib.hid hgz
  have BD := Lib.hid (show BZ base Z w w2.drew from ⟨(Bd B2.out).mono hlo, fun b e hb => (Bd B2.out).block b hb⟩)
  have SV := Lib.hid (((SlN.of lenV O2.out rfl).inside8).below (Bd (Below.refl _ w2)))
  obtain ⟨p2, c2, rfl, hq2, hq3, hp2⟩ := row_val O2.out
  have hc2 : c2 ≤ 9223372036854775807 := by unfold maxLen at hq3; omega
  have CP := Lib.hid ((P2.out.below (Bd (Below.refl _ w2))).prog (P := fun e _ => e = .returned (errV A (putEN L (h1, h2) rl))) (L1' := putEL L (h1, h2) rl) (fun N hS hZN => putS hS h1 h2 hx rl _ SV.out (fun b e => .inr (hZN b (by rw [HZ.out]; exact .inr ⟨e.1, e.2⟩))) (by omega) (HW.out w2.drew BD.out.bel).2))
  have htn := putEN_le L (h1, h2) rl
  have CF : Hid (∀ W1 L1, RowKit.Below base w W1 → PairS Y base W1 ps pr L1 L → Calls Tryz.prog 44 #[rsP pr, .agg #[.int .i64 h1, .int .i64 h2], .slice pv rl.length cv] W1 fun e w' => e = .returned (.int .i64 (putEN L (h1, h2) rl : Nat)) ∧ PairS Y base w' ps pr L1 (putEL L (h1, h2) rl) ∧ Tch (OffZ base Y) W1 w') := fun W1 L1 hb9 h => h.ref hpr (P := fun e _ => e = .returned (.int .i64 (putEN L (h1, h2) rl : Nat))) (L2' := putEL L (h1, h2) rl) (fun M hR => rputS hR HG.out h1 h2 rl _ (HRV.out W1 hb9) (by omega))
  generalize putEN L (h1, h2) rl = tn at *
  generalize putEL L (h1, h2) rl = L9 at *
  obtain ⟨s0, s1, s2, s3, s4, s5, s6⟩ := seven_cells (blk_below Q2.out (Bd (Below.refl _ w2)))
  clear hZ hgz bA hsz O0 A1 O1 S1 T2 H2 HG
  have R2 := Lib.hid (row_below O2.out (Bd (Below.refl _ w2)))
  refine wp_region_held_drew (S := fun w' => w'.cell? ⟨w.heap.size, 0, none⟩ = some (.int .i64 1) ∧ w'.cell? ⟨w.heap.size, 1, none⟩ = some (.int .i64 h1) ∧ w'.cell? ⟨w.heap.size, 2, none⟩ = some (.int .i64 h2) ∧ w'.cell? ⟨w.heap.size, 3, none⟩ = some (.slice pv rl.length cv) ∧ w'.cell? ⟨w.heap.size, 4, none⟩ = some (.int .i64 x1) ∧ w'.cell? ⟨w.heap.size, 5, none⟩ = some (.int .i64 x2) ∧ w'.cell? ⟨w.heap.size, 6, none⟩ = some (.int .i64 x3)) (by kernel_rfl) ⟨s0, s1, s2, s3, s4, s5, s6⟩ (fun hHeld => ?_)
  (refine wpAnyH_take (i := 0) (v := ?_) rfl (by kernel_rfl) (by kernel_rfl) (by kernel_rfl) (fun _ _ _ h => h) (Or.inl ⟨by rfl, ?rt⟩) (by assumption) ?_; case rt => (intro w hSw; (try dsimp only at hSw); go_simp; (try with_reducible rfl))); (try simp only [Act.put, List.getElem_toArray, List.getElem_cons_succ, List.getElem_cons_zero, List.setIfInBounds_toArray, List.set_cons_zero, List.set_cons_succ])
  (refine wpAnyH_take (i := 1) (v := ?_) rfl (by kernel_rfl) (by kernel_rfl) (by kernel_rfl) (fun _ _ _ h => h) (Or.inl ⟨by rfl, ?rt⟩) (by assumption) ?_; case rt => (intro w hSw; (try dsimp only at hSw); go_simp; (try with_reducible rfl))); (try simp only [Act.put, List.getElem_toArray, List.getElem_cons_succ, List.getElem_cons_zero, List.setIfInBounds_toArray, List.set_cons_zero, List.set_cons_succ])
  (refine wpAnyH_take (i := 2) (v := ?_) rfl (by kernel_rfl) (by kernel_rfl) (by kernel_rfl) (fun _ _ _ h => h) (Or.inl ⟨by rfl, ?rt⟩) (by assumption) ?_; case rt => (intro w hSw; (try dsimp only at hSw); go_simp; (try with_reducible rfl))); (try simp only [Act.put, List.getElem_toArray, List.getElem_cons_succ, List.getElem_cons_zero, List.setIfInBounds_toArray, List.set_cons_zero, List.set_cons_succ])
  (refine wpAnyH_take (i := 3) (v := ?_) rfl (by kernel_rfl) (by kernel_rfl) (by kernel_rfl) (fun _ _ _ h => h) (Or.inl ⟨by rfl, ?rt⟩) (by assumption) ?_; case rt => (intro w hSw; (try dsimp only at hSw); go_simp; (try with_reducible rfl))); (try simp only [Act.put, List.getElem_toArray, List.getElem_cons_succ, List.getElem_cons_zero, List.setIfInBounds_toArray, List.set_cons_zero, List.set_cons_succ])
  (refine wpAnyH_take (i := 6) (v := ?_) rfl (by kernel_rfl) (by kernel_rfl) (by kernel_rfl) (fun _ _ _ h => h) (Or.inl ⟨by rfl, ?rt⟩) (by assumption) ?_; case rt => (intro w hSw; (try dsimp only at hSw); go_simp; (try with_reducible rfl))); (try simp only [Act.put, List.getElem_toArray, List.getElem_cons_succ, List.getElem_cons_zero, List.setIfInBounds_toArray, List.set_cons_zero, List.set_cons_succ])
  (refine wpAnyH_take (i := 7) (v := ?_) rfl (by kernel_rfl) (by kernel_rfl) (by kernel_rfl) (fun _ _ _ h => h) (Or.inl ⟨by rfl, ?rt⟩) (by assumption) ?_; case rt => (intro w hSw; (try dsimp only at hSw); go_simp; (try with_reducible rfl))); (try simp only [Act.put, List.getElem_toArray, List.getElem_cons_succ, List.getElem_cons_zero, List.setIfInBounds_toArray, List.set_cons_zero, List.set_cons_succ])
  (refine wpAnyH_take (i := 8) (v := ?_) rfl (by kernel_rfl) (by kernel_rfl) (by kernel_rfl) (fun _ _ _ h => h) (Or.inl ⟨by rfl, ?rt⟩) (by assumption) ?_; case rt => (intro w hSw; (try dsimp only at hSw); go_simp; (try with_reducible rfl))); (try simp only [Act.put, List.getElem_toArray, List.getElem_cons_succ, List.getElem_cons_zero, List.setIfInBounds_toArray, List.set_cons_zero, List.set_cons_succ])
  (refine wpAnyH_take (i := 9) (v := ?_) rfl (by kernel_rfl) (by kernel_rfl) (by kernel_rfl) (fun _ _ _ h => h) (Or.inl ⟨by rfl, ?rt⟩) (by assumption) ?_; case rt => (intro w hSw; (try dsimp only at hSw); go_simp; (try with_reducible rfl))); (try simp only [Act.put, List.getElem_toArray, List.getElem_cons_succ, List.getElem_cons_zero, List.setIfInBounds_toArray, List.set_cons_zero, List.set_cons_succ])
  (refine wpAnyH_take (i := 10) (v := ?_) rfl (by kernel_rfl) (by kernel_rfl) (by kernel_rfl) (fun _ _ _ h => h) (Or.inl ⟨by rfl, ?rt⟩) (by assumption) ?_; case rt => (intro w hSw; (try dsimp only at hSw); go_simp; (try with_reducible rfl))); (try simp only [Act.put, List.getElem_toArray, List.getElem_cons_succ, List.getElem_cons_zero, List.setIfInBounds_toArray, List.set_cons_zero, List.set_cons_succ])
  refine wpAnyH_ready (rs := [4]) (by kernel_rfl) (by simp) ?_
  refine AllReadyH.cons rfl (fun K hK => ?_) AllReadyH.nil
  go_simp
  refine (CP.out).mono ?_
  rintro e w3 ⟨rfl, hP3, ht3⟩
  have P3 := Lib.hid hP3
  have B3 := Lib.hid (BD.out.step ht3 ZZ.out hlo)
  have O3 := Lib.hid (ht3.blk (blk_below Q2.out (Bd (Below.refl _ w2))) (fun e => e.2 hz0))
  have R3 := Lib.hid (row_keep R2.out (fun g hg => (ht3).block g (row_lt R2.out hg) (fun e => e.2 (HGZ.out g hg).1)))
  have CN := Lib.hid (numV_call (HW.out w3 B3.out.bel).1 tn htn)
  clear hP3 ht3
  refine hK.out _ _ (seven_cells O3.out) (fun hHeld => ?_)
  clear hK K hHeld
  have hHeld := seven_cells O3.out
  (try simp only [Act.put, List.getElem_toArray, List.getElem_cons_succ, List.getElem_cons_zero, List.setIfInBounds_toArray, List.set_cons_zero, List.set_cons_succ])
  refine wpAnyH_ready (rs := [5]) (by kernel_rfl) (by simp) ?_
  refine AllReadyH.cons rfl (fun K hK => ?_) AllReadyH.nil
  go_simp
  refine (CN.out).mono ?_
  rintro e w4 ⟨rfl, hb4⟩
  have P4 := Lib.hid (P3.out.below hb4)
  have B4 := Lib.hid (B3.out.bel2 hb4 hlo)
  have O4 := Lib.hid (blk_below O3.out hb4)
  have R4 := Lib.hid (row_below R3.out hb4)
  have CF4 := Lib.hid (CF.out _ _ B4.out.bel P4.out)
  clear hb4
  refine hK.out _ _ (seven_cells O4.out) (fun hHeld => ?_)
  clear hK K hHeld
  have hHeld := seven_cells O4.out
  (try simp only [Act.put, List.getElem_toArray, List.getElem_cons_succ, List.getElem_cons_zero, List.setIfInBounds_toArray, List.set_cons_zero, List.set_cons_succ])
  refine wpAnyH_ready (rs := [11]) (by kernel_rfl) (by simp) ?_
  refine AllReadyH.cons rfl (fun K hK => ?_) AllReadyH.nil
  go_simp
  refine (CF4.out).mono ?_
  rintro e w5 ⟨rfl, hP5, ht5⟩
  have P5 := Lib.hid hP5
  have B5 := Lib.hid (B4.out.step ht5 ZZ.out hlo)
  have O5 := Lib.hid (ht5.blk O4.out (fun e => e.2 hz0))
  have R5 := Lib.hid (row_keep R4.out (fun g hg => (ht5).block g (row_lt R4.out hg) (fun e => e.2 (HGZ.out g hg).1)))
  have CS := Lib.hid (same_call rl rl _ _ w5 (row_sl lenV R5.out rfl) (HRV.out w5 B5.out.bel))
  rw [decide_eq_true (rfl : rl = rl)] at CS
  clear hP5 ht5
  refine hK.out _ _ (seven_cells O5.out) (fun hHeld => ?_)
  clear hK K hHeld
  have hHeld := seven_cells O5.out
  (try simp only [Act.put, List.getElem_toArray, List.getElem_cons_succ, List.getElem_cons_zero, List.setIfInBounds_toArray, List.set_cons_zero, List.set_cons_succ])
  (refine wpAnyH_take (i := 12) (v := ?_) rfl (by kernel_rfl) (by kernel_rfl) (by kernel_rfl) (fun _ _ _ h => h) (Or.inl ⟨by rfl, ?rt⟩) (by assumption) ?_; case rt => (intro w hSw; (try dsimp only at hSw); go_simp; (try with_reducible rfl))); (try simp only [Act.put, List.getElem_toArray, List.getElem_cons_succ, List.getElem_cons_zero, List.setIfInBounds_toArray, List.set_cons_zero, List.set_cons_succ])
  (try simp only [beq_self_eq_true])
  (refine wpAnyH_take (i := 13) (v := ?_) rfl (by kernel_rfl) (by kernel_rfl) (by kernel_rfl) (fun _ _ _ h => h) (Or.inl ⟨by rfl, ?rt⟩) (by assumption) ?_; case rt => (intro w hSw; (try dsimp only at hSw); go_simp; (try with_reducible rfl))); (try simp only [Act.put, List.getElem_toArray, List.getElem_cons_succ, List.getElem_cons_zero, List.setIfInBounds_toArray, List.set_cons_zero, List.set_cons_succ])
  (refine wpAnyH_take (i := 14) (v := ?_) rfl (by kernel_rfl) (by kernel_rfl) (by kernel_rfl) (fun _ _ _ h => h) (Or.inl ⟨by rfl, ?rt⟩) (by assumption) ?_; case rt => (intro w hSw; (try dsimp only at hSw); go_simp; (try with_reducible rfl))); (try simp only [Act.put, List.getElem_toArray, List.getElem_cons_succ, List.getElem_cons_zero, List.setIfInBounds_toArray, List.set_cons_zero, List.set_cons_succ])
  (refine wpAnyH_take (i := 15) (v := ?_) rfl (by kernel_rfl) (by kernel_rfl) (by kernel_rfl) (fun _ _ _ h => h) (Or.inl ⟨by rfl, ?rt⟩) (by assumption) ?_; case rt => (intro w hSw; (try dsimp only at hSw); go_simp; (try with_reducible rfl))); (try simp only [Act.put, List.getElem_toArray, List.getElem_cons_succ, List.getElem_cons_zero, List.setIfInBounds_toArray, List.set_cons_zero, List.set_cons_succ])
  (refine wpAnyH_take (i := 16) (v := ?_) rfl (by kernel_rfl) (by kernel_rfl) (by kernel_rfl) (fun _ _ _ h => h) (Or.inl ⟨by rfl, ?rt⟩) (by assumption) ?_; case rt => (intro w hSw; (try dsimp only at hSw); go_simp; (try with_reducible rfl))); (try simp only [Act.put, List.getElem_toArray, List.getElem_cons_succ, List.getElem_cons_zero, List.setIfInBounds_toArray, List.set_cons_zero, List.set_cons_succ])
  refine wpAnyH_ready (rs := [17]) (by kernel_rfl) (by simp) ?_
  refine AllReadyH.cons rfl (fun K hK => ?_) AllReadyH.nil
  go_simp
  refine (CS.out).mono ?_
  rintro e w6 ⟨rfl, hg6⟩
  have P6 := Lib.hid (P5.out.below hg6.below)
  have B6 := Lib.hid (B5.out.bel2 hg6.below hlo)
  have O6 := Lib.hid (blk_below O5.out hg6.below)
  have R6 := Lib.hid (row_below R5.out hg6.below)
  clear hg6
  refine hK.out _ _ (seven_cells O6.out) (fun hHeld => ?_)
  clear hK K hHeld
  have hHeld := seven_cells O6.out
  (try simp only [Act.put, List.getElem_toArray, List.getElem_cons_succ, List.getElem_cons_zero, List.setIfInBounds_toArray, List.set_cons_zero, List.set_cons_succ])
  (refine wpAnyH_take (i := 18) (v := ?_) rfl (by kernel_rfl) (by kernel_rfl) (by kernel_rfl) (fun _ _ _ h => h) (Or.inl ⟨by rfl, ?rt⟩) (by assumption) ?_; case rt => (intro w hSw; (try dsimp only at hSw); go_simp; (try with_reducible rfl))); (try simp only [Act.put, List.getElem_toArray, List.getElem_cons_succ, List.getElem_cons_zero, List.setIfInBounds_toArray, List.set_cons_zero, List.set_cons_succ])
  (refine wpAnyH_take (i := 19) (v := ?_) rfl (by kernel_rfl) (by kernel_rfl) (by kernel_rfl) (fun _ _ _ h => h) (Or.inl ⟨by rfl, ?rt⟩) (by assumption) ?_; case rt => (intro w hSw; (try dsimp only at hSw); go_simp; (try with_reducible rfl))); (try simp only [Act.put, List.getElem_toArray, List.getElem_cons_succ, List.getElem_cons_zero, List.setIfInBounds_toArray, List.set_cons_zero, List.set_cons_succ])
  refine wpAnyH_done (by kernel_rfl) ?_ _
  clear hHeld s0 s1 s2 s3 s4 s5 s6 CP CF CN CF4 CS
  have hn2 : rl.length ≤ 9223372036854775807 := by omega
  obtain ⟨n, hn⟩ : ∃ n, n = rl.length := ⟨_, rfl⟩
  have R7 := Lib.hid (show w6.ownsRow w.heap.size 34 3 (.slice p2 n c2) n (flat encV rl) by rw [hn]; exact R6.out)
  have HN := Lib.hid hn
  rw [← hn] at hn2 HGZ hq2 ⊢
  have hn30 : n ≤ 30 := by omega
  clear hn R6 R5 R4 R3 R2
  go_wp2
  go_loopw [43] (fun s43 wr => ∃ (k : Nat) (l' : List Vl), s43 = .int .i64 k ∧ k ≤ n ∧ Hid (l'.length = n) ∧ Hid (wr.ownsRow w.heap.size 34 3 (.slice p2 n c2) n (flat encV l')) ∧ Hid (PairS Y base wr ps pr L9 L9) ∧ Hid (BZ base Z w wr)) (fun i _ => n - (intOf i).toNat)
  case atStart => exact ⟨0, rl, rfl, Nat.zero_le _, Lib.hid HN.out.symm, R7, P6, B6⟩
  case round =>
    obtain ⟨k, l', rfl, hk, HL, HR, HP, HB⟩ := hrel
    by_cases hkn : k < n
    · have hkz : (k : Int) < (n : Int) := by omega
      obtain ⟨p', cap', e', _, _, hcc⟩ := row_val HR.out
      simp only [Value.slice.injEq] at e'
      obtain ⟨rfl, _, rfl⟩ := e'
      obtain ⟨g, rfl, hg, hgo⟩ := hcc (by omega)
      have hlk := HL.out
      have r0 : wr.cell? ⟨g, k * 3, none⟩ = some (.int .i64 l'[k]!.1) := row_cellsK lenV (show World.ownsRow wr w.heap.size 34 3 (.slice (some ⟨g, 0, none⟩) l'.length c2) l'.length (flat encV l') by rw [hlk]; exact HR.out) (show k < l'.length by omega) 0 _ rfl
      have r1 : wr.cell? ⟨g, k * 3 + 1, none⟩ = some (.int .i64 l'[k]!.2.1) := row_cellsK lenV (show World.ownsRow wr w.heap.size 34 3 (.slice (some ⟨g, 0, none⟩) l'.length c2) l'.length (flat encV l') by rw [hlk]; exact HR.out) (show k < l'.length by omega) 1 _ rfl
      have r2 : wr.cell? ⟨g, k * 3 + 2, none⟩ = some (.int .i64 l'[k]!.2.2) := row_cellsK lenV (show World.ownsRow wr w.heap.size 34 3 (.slice (some ⟨g, 0, none⟩) l'.length c2) l'.length (flat encV l') by rw [hlk]; exact HR.out) (show k < l'.length by omega) 2 _ rfl
      have y0 := HR.out.frozenAt (k * 3)
      have y1 := HR.out.frozenAt (k * 3 + 1)
      have y2 := HR.out.frozenAt (k * 3 + 2)
      have HK := Lib.hid hlk
      have hzg := HGZ.out g hgo
      have hts : Tch (fun b => b = g) wr (((wr.setCell ⟨g, k * 3, none⟩ (.int .i64 99)).setCell ⟨g, k * 3 + 1, none⟩ (.int .i64 0)).setCell ⟨g, k * 3 + 2, none⟩ (.int .i64 0)) := ((Tch.set (M := fun b => b = g) (p := ⟨g, k * 3, none⟩) wr rfl _).more (Tch.set (M := fun b => b = g) (p := ⟨g, k * 3 + 1, none⟩) _ rfl _)).more (Tch.set (M := fun b => b = g) (p := ⟨g, k * 3 + 2, none⟩) _ rfl _)
      have P9 := Lib.hid (HP.out.kept hts (fun b e => by rw [e]; exact hzg.1))
      have B9 := Lib.hid (HB.out.step hts (fun b e => by rw [e]; exact hzg.2) hlo)
      have R9 := Lib.hid (rowV_put9 HR.out k (by omega) 99 0 0)
      clear hlk hcc hgo hts hzg
      go_wp2
      go_roundw
      case measure => simp [intOf]; omega
      case rel => exact ⟨k + 1, l'.set k (99, 0, 0), by go_num, by omega, Lib.hid (by rw [List.length_set]; exact HK.out), R9, P9, B9⟩
    · go_wp2
      go_ret
      exact ⟨L9, by simp, HP.out.less (fun b e => by rw [HZ.out]; exact .inl e), HB.out⟩
end
end Go.Proofs.YtaehendpdfpibaaGreatDoor
