/-
  TilesPlays: the walk.
-/
import Derived.Test.YtmeinjkpbijaeaaDoorEq14
import Derived.Test.YtmeinjkpbijaeaaDoorBl14
import Derived.Test.YtmeinjkpbijaeaaDoorRq14
import Derived.Deep.CutBlock
import Derived.Deep.DeepCutAuto
namespace Go.Proofs.YtmeinjkpbijaeaaDoor
set_option linter.unusedSimpArgs false
set_option linter.unusedVariables false
open Go.RowKit Go.Sort Go.Lib Go.Shelf

theorem eqG_same (a b c d e : Int) (w : World) : Sem.run Tryd.prog (binOp .eql 23 (.agg #[.int .i64 a, .int .i64 b, .int .i64 c, .int .i64 d, .int .i64 e]) (.agg #[.int .i64 a, .int .i64 b, .int .i64 c, .int .i64 d, .int .i64 e])) w = .ok (.bool true) w := by
  have u3 := Tryd.underlying3
  have a3 := Tryd.isAgg3
  have z3 := Tryd.sizeOf3
  have hS : Tryd.prog.underlying 23 = some (.struct (Tryd.prog.fieldsOf 23)) := by kernel_rfl
  have hp : Tryd.prog.stoodInHeld 23 = false := by kernel_rfl
  rw [run_eql_struct, show (10000 : Nat) = 9999 + 1 from rfl, run_equalIn_agg w 9999 23 _ _ hS hp]
  simp only [Program.fieldsOf, Tryd.underlying23]
  go_simp
theorem ne_of_eq {t : TypeId} {x y : Array Value} {b : Bool} {w : World} (hS : Tryd.prog.underlying t = some (.struct (Tryd.prog.fieldsOf t))) (h : Sem.run Tryd.prog (binOp .eql t (.agg x) (.agg y)) w = .ok (.bool b) w) : Sem.run Tryd.prog (binOp .neq t (.agg x) (.agg y)) w = .ok (.bool (!b)) w := by
  rw [run_eql_struct] at h
  rw [run_neq_struct]
  cases hr : (Op.equalIn 10000 t (.agg x) (.agg y)).run Tryd.prog w with
  | ok b w' =>
    rw [hr] at h
    simp only [Result.andThen_ok, Result.ok.injEq, Value.bool.injEq] at h ⊢
    obtain ⟨rfl, rfl⟩ := h
    exact ⟨rfl, rfl⟩
  | halt x w' => rw [hr] at h; simp [Result.andThen] at h
theorem neG_same (a b c d e : Int) (w : World) : Sem.run Tryd.prog (binOp .neq 23 (.agg #[.int .i64 a, .int .i64 b, .int .i64 c, .int .i64 d, .int .i64 e]) (.agg #[.int .i64 a, .int .i64 b, .int .i64 c, .int .i64 d, .int .i64 e])) w = .ok (.bool false) w := ne_of_eq (by kernel_rfl) (eqG_same a b c d e w)
theorem gdG_run (op : BinOp) (a b : Operand) (xs ys : Array Value) (w : World) : Sem.run Tryd.prog (eqGuard op 23 a b (.agg xs) (.agg ys)) w = .ok () w :=
  run_eqGuard_agg w op 23 a b xs ys (by kernel_rfl)
/-- The map and the reference's, side by side, behind W0. -/
structure Duo (W0 wx : World) (g : Gd) (pa pb : Nat) (c1 c2 : List Int) (M1 M2 : Nat → Prop) : Prop where
  m : MpAt 74 wx M1 pa g c1
  r : MpAt 59 wx M2 pb g c2
  d1 : ∀ b, M1 b → W0.heap.size ≤ b ∧ b < wx.heap.size ∧ ¬ M2 b
  d2 : ∀ b, M2 b → W0.heap.size ≤ b ∧ b < wx.heap.size
  lo : RowKit.Below W0.heap.size W0 wx
section
variable {W0 wx w' : World} {g : Gd} {pa pa' pb : Nat} {c1 c2 c' : List Int} {M1 M2 Mo : Nat → Prop}
theorem Duo.below (h : Duo W0 wx g pa pb c1 c2 M1 M2) (hb : RowKit.Below wx.heap.size wx w') : Duo W0 w' g pa pb c1 c2 M1 M2 :=
  ⟨h.m.below hb, h.r.below hb, fun b e => ⟨(h.d1 b e).1, Nat.lt_of_lt_of_le (h.d1 b e).2.1 hb.size, (h.d1 b e).2.2⟩, fun b e => ⟨(h.d2 b e).1, Nat.lt_of_lt_of_le (h.d2 b e).2 hb.size⟩, Bt h.lo hb⟩
theorem Duo.left (h : Duo W0 wx g pa pb c1 c2 M1 M2) (hm : MpAt 74 w' M1 pa g c') (t : Tch M1 wx w') : Duo W0 w' g pa pb c' c2 M1 M2 :=
  ⟨hm, h.r.kept t (fun b e f => (h.d1 b f).2.2 e), fun b e => ⟨(h.d1 b e).1, t.lt (h.d1 b e).2.1, (h.d1 b e).2.2⟩, fun b e => ⟨(h.d2 b e).1, t.lt (h.d2 b e).2⟩, h.lo.trans (Tch.below t (fun b e => (h.d1 b e).1) h.lo.size)⟩
theorem Duo.right (h : Duo W0 wx g pa pb c1 c2 M1 M2) (hr : MpAt 59 w' M2 pb g c') (t : Tch M2 wx w') : Duo W0 w' g pa pb c1 c' M1 M2 :=
  ⟨h.m.kept t (fun b e => (h.d1 b e).2.2), hr, fun b e => ⟨(h.d1 b e).1, t.lt (h.d1 b e).2.1, (h.d1 b e).2.2⟩, fun b e => ⟨(h.d2 b e).1, t.lt (h.d2 b e).2⟩, h.lo.trans (Tch.below t (fun b e => (h.d2 b e).1) h.lo.size)⟩
theorem Duo.clone (h : Duo W0 wx g pa pb c1 c2 M1 M2) (hm : MpAt 74 w' (Fresh wx w') pa' g c') (hb : RowKit.Below wx.heap.size wx w') : Duo W0 w' g pa' pb c' c2 (Fresh wx w') M2 :=
  ⟨hm, h.r.below hb, fun b e => e.elim (fun e => e.elim) (fun e => ⟨Nat.le_trans h.lo.size e.1, e.2, fun f => by have := (h.d2 b f).2; omega⟩), fun b e => ⟨(h.d2 b e).1, Nat.lt_of_lt_of_le (h.d2 b e).2 hb.size⟩, Bt h.lo hb⟩
theorem Duo.off (h : Duo W0 wx g pa pb c1 c2 M1 M2) (t : Tch Mo wx w') (h1 : ∀ b, Mo b → W0.heap.size ≤ b ∧ ¬ M1 b ∧ ¬ M2 b) : Duo W0 w' g pa pb c1 c2 M1 M2 :=
  ⟨h.m.kept t (fun b e f => (h1 b f).2.1 e), h.r.kept t (fun b e f => (h1 b f).2.2 e), fun b e => ⟨(h.d1 b e).1, t.lt (h.d1 b e).2.1, (h.d1 b e).2.2⟩, fun b e => ⟨(h.d2 b e).1, t.lt (h.d2 b e).2⟩, h.lo.trans (Tch.below t (fun b e => (h1 b e).1) h.lo.size)⟩
end
/-- The state behind a call. -/
def TwoT (W0 : World) (g : Gd) (n : Int) (pb : Nat) (pv : Value) (wx : World) : Prop := ∃ (pa : Nat) (c : List Int) (M1 M2 : Nat → Prop), pv = .pointer (some ⟨pa, 0, none⟩) ∧ Duo W0 wx g pa pb c c M1 M2 ∧ Bdd c n
set_option maxHeartbeats 16000000 in
set_option maxRecDepth 100000 in
theorem tilesPlays_walk (g : Gd) (l : List Opt) (v : Value) (t : Int) (w : World) (A : Nat → Addr) (hs : Sl encO w v l) (hE : Errs w A) : Calls Tryd.prog 4 #[grV g, v, .int .i64 t] w fun e w' => e = .returned (.bool true) ∧ RowKit.Below w.heap.size w w' := by
  have AL := Lib.hid (fun W' => alive_call W')
  obtain ⟨qv, capv, rfl, v1, v2, v3⟩ := hs
  unfold maxLen at v2
  have HV := Lib.hid v3
  have HER := Lib.hid hE
  have HE := Lib.hid (Er3.of hE)
  have neg1 := neG_same
  have gdg1 := gdG_run
  clear hE v3
  by_cases h40 : l.length > 40
  · have hz : (l.length : Int) > 40 := by omega
    obtain ⟨W, H, S, X, Y⟩ := g
    go_enter Tryd.func4, Tryd.ntmps4
    go_wp2_with fail
    refine (AL.out _).mono ?_
    rintro e w1 ⟨rfl, hb1⟩
    have B1 := Lib.hid (by exact (by repeat (first | with_reducible exact Below.refl _ _ | with_reducible assumption | with_reducible apply Ba | with_reducible apply Bd | with_reducible apply Bn | with_reducible apply Bg | (with_reducible refine Bs ?_ (by first | (simp; done) | (simp; omega)) _) | (with_reducible refine Bt ?_ (by assumption)) | (with_reducible refine Bt ?_ (Gr.below (by assumption))))) : RowKit.Below w.heap.size w w1)
    clear hb1
    go_wp2
    go_ret
    exact ⟨rfl, B1.out⟩
  have hz : ¬ (l.length : Int) > 40 := by omega
  obtain ⟨W0, hW0⟩ : ∃ W0, W0 = w.alloc (.cells #[.int .i64 g.w, .int .i64 g.h, .int .i64 g.s, .int .i64 g.x, .int .i64 g.y] 23) := ⟨_, rfl⟩
  have B0 : Hid (RowKit.Below w.heap.size w W0) := Lib.hid (by rw [hW0]; exact (by repeat (first | with_reducible exact Below.refl _ _ | with_reducible assumption | with_reducible apply Ba | with_reducible apply Bd | with_reducible apply Bn | with_reducible apply Bg | (with_reducible refine Bs ?_ (by first | (simp; done) | (simp; omega)) _) | (with_reducible refine Bt ?_ (by assumption)) | (with_reducible refine Bt ?_ (Gr.below (by assumption))))))
  have G0 : Hid (GrAt W0 w.heap.size g) := Lib.hid (by rw [hW0]; exact grAt_new w g)
  have HW0 := Lib.hid hW0
  clear hW0
  cases hg : grOk g
  · have NC := Lib.hid (fun W' (hb : RowKit.Below w.heap.size w W') => new_form g W' _ (HE.out.below hb).eF hg)
    have NM := Lib.hid (fun W' (hb : RowKit.Below w.heap.size w W') => num_form (HER.out.below hb))
    obtain ⟨W, H, S, X, Y⟩ := g
    have RR := Lib.hid (fun W' => rgright_any W H S X Y W')
    rw [hg] at RR
    dsimp only at *
    clear hg
    go_enter Tryd.func4, Tryd.ntmps4
    go_wp2_with fail
    rw [← HW0.out]
    refine (AL.out _).mono ?_
    rintro e w1 ⟨rfl, hb1⟩
    have A1 := Lib.hid hb1
    have B1 := Lib.hid (Bt B0.out hb1)
    clear hb1
    obtain ⟨x1, x2, x3, x4, x5⟩ := (G0.out.below A1.out).cells
    have hl1 := cell_lt x1
    go_wp2_with fail
    refine (NC.out _ B1.out).mono ?_
    rintro e w2 ⟨rfl, hb2⟩
    have A2 := Lib.hid (Bt A1.out hb2)
    have B2 := Lib.hid (Bt B1.out hb2)
    clear hb2 x1 x2 x3 x4 x5 hl1
    obtain ⟨x1, x2, x3, x4, x5⟩ := (G0.out.below A2.out).cells
    have hl2 := cell_lt x1
    go_wp2_with fail
    refine (RR.out _).mono ?_
    rintro e w3 ⟨rfl, hb3⟩
    have B3 := Lib.hid (Bt B2.out hb3)
    clear hb3 x1 x2 x3 x4 x5 hl2
    go_wp2_with fail
    refine (NM.out _ B3.out).mono ?_
    rintro e w4 ⟨rfl, hb4⟩
    have B4 := Lib.hid (Bt B3.out hb4)
    clear hb4
    go_wp2
    go_ret
    exact ⟨rfl, B4.out⟩
  · have hn := ntl_cast hg
    have NC := Lib.hid (fun W' => new_call g W' hg)
    have RN := Lib.hid (fun W' => rnew_call g W' hg)
    have LEN := Lib.hid (fun wx M pa c (h : MpAt 74 wx M pa g c) => h.len)
    obtain ⟨W, H, S, X, Y⟩ := g
    have RR := Lib.hid (fun W' => rgright_any W H S X Y W')
    rw [hg] at RR
    dsimp only at *
    clear hg
    obtain ⟨hn1, hn2, hn3⟩ := hn
    have hN := hn1.symm
    have BZ := Lib.hid (Bdd.zero (ntl ⟨W, H, S, X, Y⟩))
    rw [show List.replicate (ntl ⟨W, H, S, X, Y⟩) 0 = zs (ntl ⟨W, H, S, X, Y⟩) from rfl] at BZ
    obtain ⟨n, hnn⟩ : ∃ n, n = ntl ⟨W, H, S, X, Y⟩ := ⟨_, rfl⟩
    rw [← hnn] at hN hn2 hn3 BZ NC RN LEN
    clear hn1 hnn
    go_enter Tryd.func4, Tryd.ntmps4
    go_wp2_with fail
    rw [← HW0.out]
    refine (AL.out _).mono ?_
    rintro e w1 ⟨rfl, hb1⟩
    have A1 := Lib.hid hb1
    clear hb1
    obtain ⟨x1, x2, x3, x4, x5⟩ := (G0.out.below A1.out).cells
    have hl1 := cell_lt x1
    go_wp2_with fail
    refine (NC.out _).mono ?_
    rintro e w2 ⟨pa, rfl, hm2, hb2⟩
    unfold ptP at *
    have A2 := Lib.hid (Bt A1.out hb2)
    have HM2 := Lib.hid hm2
    have HF2 := Lib.hid (show ∀ b, Fresh w1 w2 b → W0.heap.size ≤ b ∧ b < w2.heap.size from fun b e => e.elim (fun e => e.elim) (fun e => ⟨Nat.le_trans A1.out.size e.1, e.2⟩))
    generalize Fresh w1 w2 = M1 at *
    clear hm2 hb2 x1 x2 x3 x4 x5 hl1
    obtain ⟨x1, x2, x3, x4, x5⟩ := (G0.out.below A2.out).cells
    have hl2 := cell_lt x1
    go_wp2_with fail
    refine (RR.out _).mono ?_
    rintro e w3 ⟨rfl, hb3⟩
    have A3 := Lib.hid (Bt A2.out hb3)
    have HM3 := Lib.hid (HM2.out.below hb3)
    have GC := Lib.hid (fun W' (hb : RowKit.Below w3.heap.size w3 W') => mgrid_call (HM3.out.below hb))
    have hs23 := hb3.size
    clear hb3 x1 x2 x3 x4 x5 hl2
    obtain ⟨x1, x2, x3, x4, x5⟩ := (G0.out.below A3.out).cells
    have hl3 := cell_lt x1
    unfold ptP at GC
    go_wp2_with fail
    refine wp_region_held_drew (S := (fun w' => Below (w3).heap.size (w3) w' ∧ ∀ b_1 o, b_1 < (w3).heap.size → w'.cell? ⟨b_1, o, none⟩ = (w3).cell? ⟨b_1, o, none⟩)) (by kernel_rfl) (keep0 _) (fun hHeld => ?_)
    (refine wpAnyH_take (i := 0) (v := ?_) rfl (by kernel_rfl) (by kernel_rfl) (by kernel_rfl) (fun _ _ _ h => h) (Or.inl ⟨by rfl, ?rt⟩) (by assumption) ?_; case rt => (intro w hSw; (try dsimp only at hSw); go_simp; (try with_reducible rfl))); (try simp only [Act.put, List.getElem_toArray, List.getElem_cons_succ, List.getElem_cons_zero, List.setIfInBounds_toArray, List.set_cons_zero, List.set_cons_succ])
    (refine wpAnyH_take (i := 1) (v := ?_) rfl (by kernel_rfl) (by kernel_rfl) (by kernel_rfl) (fun _ _ _ h => h) (Or.inl ⟨by rfl, ?rt⟩) (by assumption) ?_; case rt => (intro w hSw; (try dsimp only at hSw); go_simp; (try with_reducible rfl))); (try simp only [Act.put, List.getElem_toArray, List.getElem_cons_succ, List.getElem_cons_zero, List.setIfInBounds_toArray, List.set_cons_zero, List.set_cons_succ])
    (refine wpAnyH_take (i := 2) (v := ?_) rfl (by kernel_rfl) (by kernel_rfl) (by kernel_rfl) (fun _ _ _ h => h) (Or.inl ⟨by rfl, ?rt⟩) (by assumption) ?_; case rt => (intro w hSw; (try dsimp only at hSw); go_simp; (try with_reducible rfl))); (try simp only [Act.put, List.getElem_toArray, List.getElem_cons_succ, List.getElem_cons_zero, List.setIfInBounds_toArray, List.set_cons_zero, List.set_cons_succ])
    (refine wpAnyH_take (i := 3) (v := ?_) rfl (by kernel_rfl) (by kernel_rfl) (by kernel_rfl) (fun _ _ _ h => h) (Or.inl ⟨by rfl, ?rt⟩) (by assumption) ?_; case rt => (intro w hSw; (try dsimp only at hSw); go_simp; (try with_reducible rfl))); (try simp only [Act.put, List.getElem_toArray, List.getElem_cons_succ, List.getElem_cons_zero, List.setIfInBounds_toArray, List.set_cons_zero, List.set_cons_succ])
    (refine wpAnyH_take (i := 4) (v := ?_) rfl (by kernel_rfl) (by kernel_rfl) (by kernel_rfl) (fun _ _ _ h => h) (Or.inl ⟨by rfl, ?rt⟩) (by assumption) ?_; case rt => (intro w hSw; (try dsimp only at hSw); go_simp; (try with_reducible rfl))); (try simp only [Act.put, List.getElem_toArray, List.getElem_cons_succ, List.getElem_cons_zero, List.setIfInBounds_toArray, List.set_cons_zero, List.set_cons_succ])
    (refine wpAnyH_take (i := 5) (v := ?_) rfl (by kernel_rfl) (by kernel_rfl) (by kernel_rfl) (fun _ _ _ h => h) (Or.inl ⟨by rfl, ?rt⟩) (by assumption) ?_; case rt => (intro w hSw; (try dsimp only at hSw); go_simp; (try with_reducible rfl))); (try simp only [Act.put, List.getElem_toArray, List.getElem_cons_succ, List.getElem_cons_zero, List.setIfInBounds_toArray, List.set_cons_zero, List.set_cons_succ])
    (refine wpAnyH_take (i := 6) (v := ?_) rfl (by kernel_rfl) (by kernel_rfl) (by kernel_rfl) (fun _ _ _ h => h) (Or.inl ⟨by rfl, ?rt⟩) (by assumption) ?_; case rt => (intro w hSw; (try dsimp only at hSw); go_simp; (try with_reducible rfl))); (try simp only [Act.put, List.getElem_toArray, List.getElem_cons_succ, List.getElem_cons_zero, List.setIfInBounds_toArray, List.set_cons_zero, List.set_cons_succ])
    (refine wpAnyH_take (i := 7) (v := ?_) rfl (by kernel_rfl) (by kernel_rfl) (by kernel_rfl) (fun _ _ _ h => h) (Or.inl ⟨by rfl, ?rt⟩) (by assumption) ?_; case rt => (intro w hSw; (try dsimp only at hSw); go_simp; (try with_reducible rfl))); (try simp only [Act.put, List.getElem_toArray, List.getElem_cons_succ, List.getElem_cons_zero, List.setIfInBounds_toArray, List.set_cons_zero, List.set_cons_succ])
    (refine wpAnyH_take (i := 9) (v := ?_) rfl (by kernel_rfl) (by kernel_rfl) (by kernel_rfl) (fun _ _ _ h => h) (Or.inl ⟨by rfl, ?rt⟩) (by assumption) ?_; case rt => (intro w hSw; (try dsimp only at hSw); go_simp; (try with_reducible rfl))); (try simp only [Act.put, List.getElem_toArray, List.getElem_cons_succ, List.getElem_cons_zero, List.setIfInBounds_toArray, List.set_cons_zero, List.set_cons_succ])
    (refine wpAnyH_ready (rs := [8]) (by kernel_rfl) (by simp) ?_; refine AllReadyH.cons rfl (fun K hK => ?_) AllReadyH.nil; go_simp; refine (GC.out _ hHeld.1).mono ?_; rintro e w1 ⟨rfl, hb1⟩; refine hK.out _ _ (keepB (by assumption) hb1) (fun hHeld => ?_); clear hK K); (try simp only [Act.put, List.getElem_toArray, List.getElem_cons_succ, List.getElem_cons_zero, List.setIfInBounds_toArray, List.set_cons_zero, List.set_cons_succ])
    (refine wpAnyH_take (i := 10) (v := ?_) rfl (by kernel_rfl) (by kernel_rfl) (by kernel_rfl) (fun _ _ _ h => h) (Or.inl ⟨by rfl, ?rt⟩) (by assumption) ?_; case rt => (intro w hSw; (try dsimp only at hSw); go_simp; (try with_reducible rfl))); (try simp only [Act.put, List.getElem_toArray, List.getElem_cons_succ, List.getElem_cons_zero, List.setIfInBounds_toArray, List.set_cons_zero, List.set_cons_succ])
    (refine wpAnyH_take (i := 11) (v := ?_) rfl (by kernel_rfl) (by kernel_rfl) (by kernel_rfl) (fun _ _ _ h => h) (Or.inl ⟨by rfl, ?rt⟩) (by assumption) ?_; case rt => (intro w hSw; (try dsimp only at hSw); go_simp; (try with_reducible rfl))); (try simp only [Act.put, List.getElem_toArray, List.getElem_cons_succ, List.getElem_cons_zero, List.setIfInBounds_toArray, List.set_cons_zero, List.set_cons_succ])
    refine wpAnyH_done (by kernel_rfl) ?_ _
    have HM4 := Lib.hid (HM3.out.below hHeld.1)
    have A4 := Lib.hid (Bt A3.out hHeld.1)
    have hs34 := hHeld.1.size
    clear x1 x2 x3 x4 x5 hl3 hHeld GC
    obtain ⟨x1, x2, x3, x4, x5⟩ := (G0.out.below A4.out).cells
    have hl4 := cell_lt x1
    go_wp2_with fail
    refine (RN.out _).mono ?_
    rintro e w5 ⟨pb, rfl, hm5, hb5⟩
    have D5 := Lib.hid (show TwoT W0 ⟨W, H, S, X, Y⟩ 0 pb (.pointer (some ⟨pa, 0, none⟩)) w5 from ⟨pa, zs n, M1, _, rfl, ⟨HM4.out.below hb5, hm5, fun b e => ⟨(HF2.out b e).1, by have := (HF2.out b e).2; have := hb5.size; omega, fun f => f.elim (fun f => f.elim) (fun f => by have := (HF2.out b e).2; omega)⟩, fun b e => e.elim (fun e => e.elim) (fun e => ⟨Nat.le_trans A4.out.size e.1, e.2⟩), Bt A4.out hb5⟩, BZ.out⟩)
    clear hm5 hb5 x1 x2 x3 x4 x5 hl4 A1 A2 A3 A4 HM2 HM3 HM4 HF2 RR NC RN BZ
    go_wp2_with fail
    go_loopw [7, 56] (fun pv u wr => ∃ i : Nat, i ≤ l.length ∧ u = .int .i64 i ∧ Hid (TwoT W0 ⟨W, H, S, X, Y⟩ i pb pv wr)) (fun _ u _ => l.length - (intOf u).toNat)
    case atStart => exact ⟨0, Nat.zero_le _, rfl, D5⟩
    case round =>
      clear D5
      obtain ⟨i, hi, rfl, hT⟩ := hrel
      obtain ⟨pa, c, M1, M2, rfl, hD, hBd⟩ := hT.out
      have HD := Lib.hid hD
      have HBd := Lib.hid (hBd.mono (show (i : Int) ≤ 1000 by omega))
      have HBi := Lib.hid hBd
      clear hT hD hBd
      have BW := Lib.hid (B0.out.trans (HD.out.lo.mono B0.out.size))
      by_cases hlt : i < l.length
      · have hiz : (i : Int) < (l.length : Int) := by omega
        obtain ⟨gs, os, rfl, hg1, hcs⟩ := HV.out (by omega)
        obtain ⟨c1, c2, c3, c4, c5⟩ := atO hcs hlt
        replace c1 := Bc BW.out hg1 c1
        replace c2 := Bc BW.out hg1 c2
        replace c3 := Bc BW.out hg1 c3
        replace c4 := Bc BW.out hg1 c4
        replace c5 := Bc BW.out hg1 c5
        have hgw := cell_lt c1
        generalize l[i]! = x at *
        obtain ⟨k, b1, b2, b3, b4⟩ := x
        dsimp only at c1 c2 c3 c4 c5
        clear hcs
        obtain ⟨wa, hwa⟩ : ∃ wa, wa = wr.alloc (.cells #[.int .i64 k, .int .i64 b1, .int .i64 b2, .int .i64 b3, .int .i64 b4] 48) := ⟨_, rfl⟩
        have D1 : Hid (Duo W0 wa ⟨W, H, S, X, Y⟩ pa pb c c M1 M2) := Lib.hid (by rw [hwa]; exact HD.out.below (Ba (Below.refl _ wr) _))
        have XB : Hid (wa.heap[wr.heap.size]? = some (.cells #[.int .i64 k, .int .i64 b1, .int .i64 b2, .int .i64 b3, .int .i64 b4] 48 (0, 0))) := Lib.hid (by rw [hwa]; exact heap_alloc_new wr _)
        have N1 := Lib.hid (show ¬ M1 wr.heap.size from fun e => by have := (HD.out.d1 _ e).2.1; omega)
        have N2 := Lib.hid (show ¬ M2 wr.heap.size from fun e => by have := (HD.out.d2 _ e).2; omega)
        have HWA := Lib.hid hwa
        clear hwa
        go_upto_block 2 with fail
        rw [← HWA.out]
        clear HWA c1 c2 c3 c4 c5 HD BW
        generalize wr.heap.size = xb at *
        obtain ⟨z0, z1, z2, z3, z4⟩ := cells5 XB.out
        have hxa := cell_lt z0
        go_cut [7] (fun pv wx => Hid (TwoT W0 ⟨W, H, S, X, Y⟩ ((i : Int) + 1) pb pv wx))
        case first =>
          by_cases hk1 : k = 1
          · subst hk1
            have PC := Lib.hid (fun W' (D : Duo W0 W' ⟨W, H, S, X, Y⟩ pa pb c c M1 M2) => put_call D.m (fun b e => (D.d1 b e).2.1) HBd.out (b1, b2, b3, b4))
            have RC := Lib.hid (fun c' W' (D : Duo W0 W' ⟨W, H, S, X, Y⟩ pa pb c' c M1 M2) => rput_call D.r (fun b e => (D.d2 b e).2) HBd.out (b1, b2, b3, b4))
            have UN := Lib.hid (und_nodup ⟨W, H, S, X, Y⟩ (b1, b2, b3, b4))
            have UP := Lib.hid (fun t (ht : t ∈ und ⟨W, H, S, X, Y⟩ (b1, b2, b3, b4)) => (und_mem ht).1)
            generalize und ⟨W, H, S, X, Y⟩ (b1, b2, b3, b4) = u at *
            have BUP := Lib.hid (HBi.out.up UN.out UP.out)
            generalize freeL c u = fl at *
            generalize upd 1 c u = c' at *
            unfold ptP at PC RC
            go_wp2_with fail
            refine wp_region_held_drew (S := (fun w' => w'.cell? ⟨xb, 1, none⟩ = some (.int .i64 b1) ∧ w'.cell? ⟨xb, 2, none⟩ = some (.int .i64 b2) ∧ w'.cell? ⟨xb, 3, none⟩ = some (.int .i64 b3) ∧ w'.cell? ⟨xb, 4, none⟩ = some (.int .i64 b4))) (by kernel_rfl) (by exact ⟨z1, z2, z3, z4⟩) (fun hHeld => ?_)
            (refine wpAnyH_take (i := 0) (v := ?_) rfl (by kernel_rfl) (by kernel_rfl) (by kernel_rfl) (fun _ _ _ h => h) (Or.inl ⟨by rfl, ?rt⟩) (by assumption) ?_; case rt => (intro w hSw; (try dsimp only at hSw); go_simp; (try with_reducible rfl))); (try simp only [Act.put, List.getElem_toArray, List.getElem_cons_succ, List.getElem_cons_zero, List.setIfInBounds_toArray, List.set_cons_zero, List.set_cons_succ])
            (refine wpAnyH_take (i := 1) (v := ?_) rfl (by kernel_rfl) (by kernel_rfl) (by kernel_rfl) (fun _ _ _ h => h) (Or.inl ⟨by rfl, ?rt⟩) (by assumption) ?_; case rt => (intro w hSw; (try dsimp only at hSw); go_simp; (try with_reducible rfl))); (try simp only [Act.put, List.getElem_toArray, List.getElem_cons_succ, List.getElem_cons_zero, List.setIfInBounds_toArray, List.set_cons_zero, List.set_cons_succ])
            (refine wpAnyH_take (i := 2) (v := ?_) rfl (by kernel_rfl) (by kernel_rfl) (by kernel_rfl) (fun _ _ _ h => h) (Or.inl ⟨by rfl, ?rt⟩) (by assumption) ?_; case rt => (intro w hSw; (try dsimp only at hSw); go_simp; (try with_reducible rfl))); (try simp only [Act.put, List.getElem_toArray, List.getElem_cons_succ, List.getElem_cons_zero, List.setIfInBounds_toArray, List.set_cons_zero, List.set_cons_succ])
            (refine wpAnyH_take (i := 4) (v := ?_) rfl (by kernel_rfl) (by kernel_rfl) (by kernel_rfl) (fun _ _ _ h => h) (Or.inl ⟨by rfl, ?rt⟩) (by assumption) ?_; case rt => (intro w hSw; (try dsimp only at hSw); go_simp; (try with_reducible rfl))); (try simp only [Act.put, List.getElem_toArray, List.getElem_cons_succ, List.getElem_cons_zero, List.setIfInBounds_toArray, List.set_cons_zero, List.set_cons_succ])
            (refine wpAnyH_take (i := 5) (v := ?_) rfl (by kernel_rfl) (by kernel_rfl) (by kernel_rfl) (fun _ _ _ h => h) (Or.inl ⟨by rfl, ?rt⟩) (by assumption) ?_; case rt => (intro w hSw; (try dsimp only at hSw); go_simp; (try with_reducible rfl))); (try simp only [Act.put, List.getElem_toArray, List.getElem_cons_succ, List.getElem_cons_zero, List.setIfInBounds_toArray, List.set_cons_zero, List.set_cons_succ])
            (refine wpAnyH_take (i := 6) (v := ?_) rfl (by kernel_rfl) (by kernel_rfl) (by kernel_rfl) (fun _ _ _ h => h) (Or.inl ⟨by rfl, ?rt⟩) (by assumption) ?_; case rt => (intro w hSw; (try dsimp only at hSw); go_simp; (try with_reducible rfl))); (try simp only [Act.put, List.getElem_toArray, List.getElem_cons_succ, List.getElem_cons_zero, List.setIfInBounds_toArray, List.set_cons_zero, List.set_cons_succ])
            (refine wpAnyH_ready (rs := [3]) (by kernel_rfl) (by simp) ?_; refine AllReadyH.cons rfl (fun K hK => ?_) AllReadyH.nil; go_simp; refine (PC.out _ (D1.out.below (Bd (Below.refl _ _)))).mono ?_; rintro e w5 ⟨v5, rfl, ho5, hm5, ht5⟩; have D5 := Lib.hid ((D1.out.below (Bd (Below.refl _ _))).left hm5 ht5); have XB5 := Lib.hid (ht5.blk (show wa.drew.heap[xb]? = _ from XB.out) N1.out); have O5 := Lib.hid (show OwnI w5 wa.heap.size v5 fl from ho5); refine hK.out _ _ ((cells5 XB5.out).2) (fun hHeld => ?_); clear hK K ho5 hm5 ht5); (try simp only [Act.put, List.getElem_toArray, List.getElem_cons_succ, List.getElem_cons_zero, List.setIfInBounds_toArray, List.set_cons_zero, List.set_cons_succ])
            (refine wpAnyH_ready (rs := [7]) (by kernel_rfl) (by simp) ?_; refine AllReadyH.cons rfl (fun K hK => ?_) AllReadyH.nil; go_simp; refine (RC.out _ _ D5.out).mono ?_; rintro e w6 ⟨v6, rfl, ho6, hm6, ht6⟩; have D6 := Lib.hid (D5.out.right hm6 ht6); have XB6 := Lib.hid (ht6.blk XB5.out N2.out); have O6 := Lib.hid (row_sl lenI ho6 rfl); have O56 := Lib.hid (row_sl lenI (row_keep O5.out (fun gg e => ht6.block gg (row_lt O5.out e) (fun f => by have := (D1.out.d2 _ f).2; have := row_base0 O5.out e; omega))) rfl); refine hK.out _ _ ((cells5 XB6.out).2) (fun hHeld => ?_); clear hK K ho6 hm6 ht6); (try simp only [Act.put, List.getElem_toArray, List.getElem_cons_succ, List.getElem_cons_zero, List.setIfInBounds_toArray, List.set_cons_zero, List.set_cons_succ])
            (refine wpAnyH_ready (rs := [8]) (by kernel_rfl) (by simp) ?_; refine AllReadyH.cons rfl (fun K hK => ?_) AllReadyH.nil; go_simp; refine (sameInts_call fl fl v5 v6 w6 O56.out O6.out).mono ?_; rw [decide_eq_true (rfl : fl = fl)]; rintro e w7 ⟨rfl, hg7⟩; have D7 := Lib.hid (D6.out.below hg7.below); have XB7 := Lib.hid (blk_below XB6.out hg7.below); refine hK.out _ _ ((cells5 XB7.out).2) (fun hHeld => ?_); clear hK K hg7); (try simp only [Act.put, List.getElem_toArray, List.getElem_cons_succ, List.getElem_cons_zero, List.setIfInBounds_toArray, List.set_cons_zero, List.set_cons_succ])
            (refine wpAnyH_take (i := 9) (v := ?_) rfl (by kernel_rfl) (by kernel_rfl) (by kernel_rfl) (fun _ _ _ h => h) (Or.inl ⟨by rfl, ?rt⟩) (by assumption) ?_; case rt => (intro w hSw; (try dsimp only at hSw); go_simp; (try with_reducible rfl))); (try simp only [Act.put, List.getElem_toArray, List.getElem_cons_succ, List.getElem_cons_zero, List.setIfInBounds_toArray, List.set_cons_zero, List.set_cons_succ])
            refine wpAnyH_done (by kernel_rfl) ?_ _
            have HT := Lib.hid (show TwoT W0 ⟨W, H, S, X, Y⟩ ((i : Int) + 1) pb (.pointer (some ⟨pa, 0, none⟩)) w7 from ⟨pa, c', M1, M2, rfl, D7.out, BUP.out⟩)
            clear z1 z2 z3 z4 hHeld
            go_wp2
            go_meet
            exact HT
          · by_cases hk2 : k = 2
            · subst hk2
              have q2 : ((2 : Int) == 1) = false := by decide
              have HW := Lib.hid (B0.out.trans (D1.out.lo.mono B0.out.size) : RowKit.Below w.heap.size w wa)
              cases han : anyL c (und ⟨W, H, S, X, Y⟩ (b1, b2, b3, b4))
              · have DC := Lib.hid (drop_call D1.out.m (fun b e => (D1.out.d1 b e).2.1) HBd.out (b1, b2, b3, b4) han)
                have RC := Lib.hid (fun c' W' (D : Duo W0 W' ⟨W, H, S, X, Y⟩ pa pb c' c M1 M2) => rdrop_call D.r (fun b e => (D.d2 b e).2) HBd.out (b1, b2, b3, b4) han)
                have UN := Lib.hid (und_nodup ⟨W, H, S, X, Y⟩ (b1, b2, b3, b4))
                have UP := Lib.hid (fun t (ht : t ∈ und ⟨W, H, S, X, Y⟩ (b1, b2, b3, b4)) => (und_mem ht).1)
                generalize und ⟨W, H, S, X, Y⟩ (b1, b2, b3, b4) = u at *
                have BUP := Lib.hid (HBi.out.down UN.out UP.out (fun t ht e => by unfold anyL at han; rw [List.any_eq_false] at han; exact han t ht (decide_eq_true e)))
                generalize freeL (upd (-1) c u) u = fl at *
                generalize upd (-1) c u = c' at *
                clear han
                unfold ptP at DC RC
                go_wp2_with fail
                refine DC.out.mono ?_
                rintro e w5 ⟨v5, rfl, ho5, hm5, ht5⟩
                have D5 := Lib.hid (D1.out.left hm5 ht5)
                have XB5 := Lib.hid (ht5.blk XB.out N1.out)
                have O5 := Lib.hid ho5
                clear z0 z1 z2 z3 z4 hxa ho5 hm5 ht5
                obtain ⟨z0, z1, z2, z3, z4⟩ := cells5 XB5.out
                have hx5 := cell_lt z0
                go_wp2_with fail
                refine (RC.out _ _ D5.out).mono ?_
                rintro e w6 ⟨v6, rfl, ho6, hm6, ht6⟩
                have D6 := Lib.hid (D5.out.right hm6 ht6)
                have O6 := Lib.hid (row_sl lenI ho6 rfl)
                have O56 := Lib.hid (row_sl lenI (row_keep O5.out (fun gg e => ht6.block gg (row_lt O5.out e) (fun f => by have := (D1.out.d2 _ f).2; have := row_base0 O5.out e; omega))) rfl)
                have SC := Lib.hid (sameInts_call fl fl v5 v6 w6 O56.out O6.out)
                rw [decide_eq_true (rfl : fl = fl)] at SC
                have NM := Lib.hid (fun W' => num_nil W')
                clear z0 z1 z2 z3 z4 hx5 ho6 hm6 ht6
                go_wp2_with fail
                refine SC.out.mono ?_
                rintro e w7 ⟨rfl, hg7⟩
                have D7 := Lib.hid (D6.out.below hg7.below)
                clear hg7
                go_wp2_with fail
                refine (NM.out _).mono ?_
                rintro e w8 ⟨rfl, hb8⟩
                have HT := Lib.hid (show TwoT W0 ⟨W, H, S, X, Y⟩ ((i : Int) + 1) pb (.pointer (some ⟨pa, 0, none⟩)) w8 from ⟨pa, c', M1, M2, rfl, D7.out.below hb8, BUP.out.mono (by omega)⟩)
                clear hb8
                go_wp2
                go_meet
                exact HT
              · have DC := Lib.hid (drop_none D1.out.m (fun b e => (D1.out.d1 b e).2.1) HBd.out (b1, b2, b3, b4) han _ (HE.out.below HW.out).eN)
                have RC := Lib.hid (fun W' (D : Duo W0 W' ⟨W, H, S, X, Y⟩ pa pb c c M1 M2) => rdrop_none D.r (fun b e => (D.d2 b e).2) HBd.out (b1, b2, b3, b4) han)
                have NM := Lib.hid (fun W' (hb : RowKit.Below w.heap.size w W') => num_none (HER.out.below hb))
                clear han
                unfold ptP at DC RC
                go_wp2_with fail
                refine DC.out.mono ?_
                rintro e w5 ⟨rfl, hb5⟩
                have D5 := Lib.hid (D1.out.below hb5)
                have XB5 := Lib.hid (blk_below XB.out hb5)
                have HW5 := Lib.hid (Bt HW.out hb5)
                clear z0 z1 z2 z3 z4 hxa hb5
                obtain ⟨z0, z1, z2, z3, z4⟩ := cells5 XB5.out
                have hx5 := cell_lt z0
                go_wp2_with fail
                refine (RC.out _ D5.out).mono ?_
                rintro e w6 ⟨v6, rfl, ho6, hb6⟩
                have D6 := Lib.hid (D5.out.below hb6)
                have HW6 := Lib.hid (Bt HW5.out hb6)
                have SC := Lib.hid (sameInts_call [] [] (.slice none 0 0) v6 w6 (Sl.nil none 0 (Nat.zero_le _)) (row_sl lenI ho6 rfl))
                rw [decide_eq_true (rfl : ([] : List Int) = [])] at SC
                clear z0 z1 z2 z3 z4 hx5 ho6 hb6
                go_wp2_with fail
                refine SC.out.mono ?_
                rintro e w7 ⟨rfl, hg7⟩
                have D7 := Lib.hid (D6.out.below hg7.below)
                have HW7 := Lib.hid (Bt HW6.out hg7.below)
                clear hg7
                go_wp2_with fail
                refine (NM.out _ HW7.out).mono ?_
                rintro e w8 ⟨rfl, hb8⟩
                have HT := Lib.hid (show TwoT W0 ⟨W, H, S, X, Y⟩ ((i : Int) + 1) pb (.pointer (some ⟨pa, 0, none⟩)) w8 from ⟨pa, c, M1, M2, rfl, D7.out.below hb8, HBi.out.mono (by omega)⟩)
                clear hb8
                go_wp2
                go_meet
                exact HT
            · by_cases hk3 : k = 3
              · subst hk3
                have q2 : ((3 : Int) == 1) = false := by decide
                have q3 : ((3 : Int) == 2) = false := by decide
                have CC := Lib.hid (mclone_call D1.out.m)
                have PC := Lib.hid (fun W' (hm : MpAt 74 W' M1 pa ⟨W, H, S, X, Y⟩ c) (hM : ∀ b, M1 b → b < W'.heap.size) => put_call hm hM HBd.out (b1, b2, b3, b4))
                unfold ptP at CC PC
                go_wp2_with fail
                refine CC.out.mono ?_
                rintro e w5 ⟨pa2, rfl, hm5, hb5⟩
                have D5 := Lib.hid (D1.out.clone hm5 hb5)
                have OM5 := Lib.hid (D1.out.m.below hb5)
                have XB5 := Lib.hid (blk_below XB.out hb5)
                have hs5 := hb5.size
                clear z0 z1 z2 z3 z4 hxa hb5 hm5
                obtain ⟨z0, z1, z2, z3, z4⟩ := cells5 XB5.out
                have hx5 := cell_lt z0
                go_wp2_with fail
                refine (PC.out _ OM5.out (fun b e => by have := (D1.out.d1 b e).2.1; omega)).mono ?_
                rintro e w6 ⟨v6, rfl, -, -, ht6⟩
                have D6 := Lib.hid (D5.out.off ht6 (fun b e => ⟨(D1.out.d1 b e).1, fun f => f.elim (fun f => f.elim) (fun f => by have := (D1.out.d1 b e).2.1; omega), (D1.out.d1 b e).2.2⟩))
                have HT := Lib.hid (show TwoT W0 ⟨W, H, S, X, Y⟩ ((i : Int) + 1) pb (.pointer (some ⟨pa2, 0, none⟩)) w6 from ⟨pa2, c, _, M2, rfl, D6.out, HBi.out.mono (by omega)⟩)
                clear z0 z1 z2 z3 z4 hx5 ht6
                go_wp2
                go_meet
                exact HT
              · have q1 : (k == 1) = false := by simpa using hk1
                have q2 : (k == 2) = false := by simpa using hk2
                have q3 : (k == 3) = false := by simpa using hk3
                have HT := Lib.hid (show TwoT W0 ⟨W, H, S, X, Y⟩ ((i : Int) + 1) pb (.pointer (some ⟨pa, 0, none⟩)) wa from ⟨pa, c, M1, M2, rfl, D1.out, HBi.out.mono (by omega)⟩)
                clear z1 z2 z3 z4
                go_wp2
                go_meet
                exact HT
        case rest =>
          obtain ⟨p2, c2, N1', N2', rfl, hD2, hB2⟩ := hcut.out
          have D2 := Lib.hid hD2
          have HB2 := Lib.hid hB2
          obtain ⟨wd, rfl⟩ : ∃ wd : World, wd = wc := ⟨_, rfl⟩
          clear hcut hD2 hB2 D1 XB N1 N2 z0 z1 z2 z3 z4 hxa HBd HBi
          have MB := Lib.hid (mblk_call D2.out.m)
          have RB := Lib.hid (fun W' (hb : RowKit.Below wd.heap.size wd W') => rblk_call (D2.out.r.below hb))
          have hln := LEN.out _ _ _ _ D2.out.m
          unfold ptP at MB RB
          generalize blkL c2 = bl at *
          go_wp2_with fail
          refine MB.out.mono ?_
          rintro e w5 ⟨v5, rfl, ho5, hb5⟩
          have B5 := Lib.hid hb5
          have O5 := Lib.hid ho5
          clear ho5 hb5
          go_wp2_with fail
          refine (RB.out _ B5.out).mono ?_
          rintro e w6 ⟨v6, rfl, ho6, hb6⟩
          have B6 := Lib.hid (Bt B5.out hb6)
          have SC := Lib.hid (sameInts_call bl bl v5 v6 w6 ((row_sl lenI O5.out rfl).below hb6) (row_sl lenI ho6 rfl))
          rw [decide_eq_true (rfl : bl = bl)] at SC
          clear ho6 hb6
          go_wp2_with fail
          refine SC.out.mono ?_
          rintro e w7 ⟨rfl, hg7⟩
          have D7 := Lib.hid (D2.out.below (Bt B6.out hg7.below))
          clear hg7 SC MB RB
          obtain ⟨bk, cap, hI, h1, h2, h3, h4, h5, h6⟩ := D7.out.r.open
          have hlp := hI.lt
          obtain ⟨-, -, -, -, -, d5⟩ := hI.cells
          have HGt := Lib.hid (fun j (hj : j < n) => (hI.get (j := j) (by rw [hln]; exact hj)).1)
          have MC := Lib.hid (fun t => mcount_call D7.out.m t)
          have MF := Lib.hid (fun t => mfree_call D7.out.m t)
          have MH := Lib.hid (fun t => mhas_call D7.out.m t)
          have CT := Lib.hid (fun (j : Nat) (hj : j < n) => show hasT c2 (j : Int) = true from hasT_iff.2 (by rw [hln]; omega))
          have HT0 := Lib.hid (show ∀ t, hasT c2 t = true ↔ 0 ≤ t ∧ t < (n : Int) from fun t => by rw [hasT_iff, hln])
          rw [hln] at d5 h1 h5 h6
          obtain ⟨x1, x2, x3, x4, x5⟩ := (G0.out.below D7.out.lo).cells
          have hlg := cell_lt x1
          unfold ptP at MC MF MH
          clear hI hln
          go_wp2_with fail
          go_loopw [120] (fun u wr => ∃ j : Nat, j ≤ n ∧ u = .int .i64 j ∧ wr = w7) (fun u _ => n - (intOf u).toNat)
          case atStart => exact ⟨0, Nat.zero_le _, rfl, rfl⟩
          case round =>
            obtain ⟨j, hj, rfl, rfl⟩ := hrel
            by_cases hjn : j < n
            · have hjz : (j : Int) < (n : Int) := by omega
              have e1 := HGt.out j hjn
              have C1 := MC.out (j : Int)
              have F1 := MF.out (j : Int)
              have H1 := Lib.hid (MH.out (j : Int))
              unfold cntT at C1
              unfold freeT at F1
              rw [CT.out j hjn] at C1 F1 H1
              rw [Int.toNat_natCast] at C1 F1
              rw [if_pos rfl] at C1
              rw [Bool.true_and] at F1
              have C1' := Lib.hid C1
              clear C1
              generalize c2[j]! = x at *
              by_cases hx : x = 0
              · rw [decide_eq_true hx] at F1
                have F1' := Lib.hid F1
                have f0 : (x == 0) = true := by simpa using hx
                have f1 : decide (x = 0) = true := decide_eq_true hx
                clear F1 hx
                go_wp2_with fail
                refine C1'.out.mono ?_
                rintro e w8 ⟨rfl, rfl⟩
                go_wp2_with fail
                refine F1'.out.mono ?_
                rintro e w8 ⟨rfl, rfl⟩
                go_wp2_with fail
                refine H1.out.mono ?_
                rintro e w8 ⟨rfl, rfl⟩
                go_wp2
                go_roundw
                case measure => simp only [intOf]; omega
                case rel => exact ⟨j + 1, by omega, by go_num, by trivial⟩
              · rw [decide_eq_false hx] at F1
                have F1' := Lib.hid F1
                have f0 : (x == 0) = false := by simpa using hx
                have f1 : decide (x = 0) = false := decide_eq_false hx
                clear F1 hx
                go_wp2_with fail
                refine C1'.out.mono ?_
                rintro e w8 ⟨rfl, rfl⟩
                go_wp2_with fail
                refine F1'.out.mono ?_
                rintro e w8 ⟨rfl, rfl⟩
                go_wp2_with fail
                refine H1.out.mono ?_
                rintro e w8 ⟨rfl, rfl⟩
                go_wp2
                go_roundw
                case measure => simp only [intOf]; omega
                case rel => exact ⟨j + 1, by omega, by go_num, by trivial⟩
            · obtain rfl : j = n := by omega
              have hjz : ¬ (j : Int) < (j : Int) := by omega
              have HTw := Lib.hid (show TwoT W0 ⟨W, H, S, X, Y⟩ ((i + 1 : Nat) : Int) pb (.pointer (some ⟨p2, 0, none⟩)) wr from ⟨p2, c2, _, _, rfl, D7.out, by rw [show ((i + 1 : Nat) : Int) = (i : Int) + 1 from by omega]; exact HB2.out⟩)
              have HH := Lib.hid (MH.out t)
              have HF := MF.out t
              have HC := MC.out t
              have h0t := HT0.out t
              unfold cntT at HC
              unfold freeT at HF
              cases hh : hasT c2 t
              · rw [hh] at HH HF HC h0t
                rw [if_neg (by simp)] at HC
                rw [Bool.false_and] at HF
                have HF' := Lib.hid HF
                have HC' := Lib.hid HC
                clear HF HC
                by_cases ht0 : 0 ≤ t
                · have ht1 : ¬ t < (j : Int) := fun e => by simp at h0t; omega
                  clear h0t hh
                  go_wp2_with fail
                  refine HH.out.mono ?_
                  rintro e w8 ⟨rfl, rfl⟩
                  go_wp2_with fail
                  refine HF'.out.mono ?_
                  rintro e w8 ⟨rfl, rfl⟩
                  go_wp2_with fail
                  refine HC'.out.mono ?_
                  rintro e w8 ⟨rfl, rfl⟩
                  go_wp2
                  go_roundw
                  case measure => simp only [intOf]; omega
                  case rel => exact ⟨i + 1, by omega, by go_num, HTw⟩
                · clear h0t hh
                  go_wp2_with fail
                  refine HH.out.mono ?_
                  rintro e w8 ⟨rfl, rfl⟩
                  go_wp2_with fail
                  refine HF'.out.mono ?_
                  rintro e w8 ⟨rfl, rfl⟩
                  go_wp2_with fail
                  refine HC'.out.mono ?_
                  rintro e w8 ⟨rfl, rfl⟩
                  go_wp2
                  go_roundw
                  case measure => simp only [intOf]; omega
                  case rel => exact ⟨i + 1, by omega, by go_num, HTw⟩
              · rw [hh] at HH
                obtain ⟨ht0, ht1⟩ := h0t.1 hh
                clear HF HC h0t hh
                go_wp2_with fail
                refine HH.out.mono ?_
                rintro e w8 ⟨rfl, rfl⟩
                go_wp2
                go_roundw
                case measure => simp only [intOf]; omega
                case rel => exact ⟨i + 1, by omega, by go_num, HTw⟩
      · obtain rfl : i = l.length := by omega
        have hiz : ¬ (l.length : Int) < (l.length : Int) := by omega
        go_wp2
        go_ret
        exact ⟨rfl, BW.out⟩
end Go.Proofs.YtmeinjkpbijaeaaDoor
