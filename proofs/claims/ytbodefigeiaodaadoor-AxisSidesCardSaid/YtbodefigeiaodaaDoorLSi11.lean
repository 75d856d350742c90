/-
  The walk of AxisSides.
-/
import Derived.Test.YtbodefigeiaodaaDoorBx11
import Derived.Test.YtbodefigeiaodaaDoorOr11
namespace Go.Proofs.YtbodefigeiaodaaDoor
set_option linter.unusedSimpArgs false
set_option linter.unusedVariables false
open Go.RowKit Go.Sort Go.Lib Go.Shelf

/-- A sweep and the axes of its boxes' sides. -/
abbrev SX (ps px py : Nat) (B X Y : List Bxd) : Ob := And2 (And2 (SwB ps B) (AxB px (X.map xsp))) (AxB py (Y.map ysp))
theorem fr_sx (ps px py : Nat) (B X Y : List Bxd) : Fr (SX ps px py B X Y) := fr_and (fr_and (fr_sw _ _) (fr_ax _ _)) (fr_ax _ _)
theorem map_xsp (B : List Bxd) (h : Hd) (b : Bx4) : (woB B h ++ [(h, b)]).map xsp = without (B.map xsp) h ++ [(h, (b.1, b.2.2.1))] := by rw [List.map_append, woB_x]; rfl
theorem map_ysp (B : List Bxd) (h : Hd) (b : Bx4) : (woB B h ++ [(h, b)]).map ysp = without (B.map ysp) h ++ [(h, (b.2.1, b.2.2.2))] := by rw [List.map_append, woB_y]; rfl
theorem SX.s {w : World} {M : Nat → Prop} {ps px py : Nat} {B X Y : List Bxd} (h : SX ps px py B X Y w M) : SwAt w M ps B := by
  obtain ⟨M1, M2, ⟨M3, M4, h1, _, h3, _⟩, _, h5, _⟩ := h
  exact h1.mono (fun b e => (h5 b (h3 b e).1).1)
theorem SX.x {w : World} {M : Nat → Prop} {ps px py : Nat} {B X Y : List Bxd} (h : SX ps px py B X Y w M) : AxAt w M px (X.map xsp) := by
  obtain ⟨M1, M2, ⟨M3, M4, _, h2, _, h4⟩, _, h5, _⟩ := h
  exact h2.mono (fun b e => (h5 b (h4 b e)).1)
theorem SX.y {w : World} {M : Nat → Prop} {ps px py : Nat} {B X Y : List Bxd} (h : SX ps px py B X Y w M) : AxAt w M py (Y.map ysp) := by
  obtain ⟨M1, M2, _, h2, _, h6⟩ := h
  exact h2.mono h6
theorem cells4' {w : World} {b : Nat} {t : TypeId} {a1 a2 a3 a4 : Value} (h : w.heap[b]? = some (.cells #[a1, a2, a3, a4] t (0, 0))) :
    w.cell? ⟨b, 0, none⟩ = some a1 ∧ w.cell? ⟨b, 1, none⟩ = some a2 ∧ w.cell? ⟨b, 2, none⟩ = some a3 ∧ w.cell? ⟨b, 3, none⟩ = some a4 := by
  refine ⟨?_, ?_, ?_, ?_⟩ <;> simp [World.cell?, h]
section
variable {base : Nat} {w : World} {ps px py : Nat} {B : List Bxd} {t : TypeId} {u : Value}
theorem asks_sx_s (x y a b c d : Int) (hx : HdOk (x, y)) (hb : boxB (a, b, c, d) = true) (hl : B.length ≤ 200) (hE : w.cell? ⟨2, 0, none⟩ = some (.iface t u)) (hG : 2 < base) :
    Asks base w (SX ps px py B B B) (SX ps px py (woB B (x, y) ++ [((x, y), (a, b, c, d))]) B B) 24 #[.pointer (some ⟨ps, 0, none⟩), .agg #[.int .i64 x, .int .i64 y], .agg #[.int .i64 a, .int .i64 b, .int .i64 c, .int .i64 d]] (fun e => e = .returned .nilIface) :=
  asks_1 (fr_ax _ _) (asks_1 (fr_ax _ _) (asks_putS x y a b c d hx hb hl hE hG))
theorem asks_sx_x (x y a b c d : Int) (hx : HdOk (x, y)) (hb : boxB (a, b, c, d) = true) (hl : B.length ≤ 200) (hE : w.cell? ⟨2, 0, none⟩ = some (.iface t u)) (C : List Bxd) :
    Asks base w (SX ps px py C B B) (SX ps px py C (woB B (x, y) ++ [((x, y), (a, b, c, d))]) B) 10 #[.pointer (some ⟨px, 0, none⟩), .agg #[.int .i64 x, .int .i64 y], .int .i64 a, .int .i64 c] (fun e => e = .returned .nilIface) := by
  unfold SX
  rw [map_xsp]
  exact asks_1 (fr_ax _ _) (asks_2 (fr_sw _ _) (asks_put x y a c hx (boxB_spans hb).1 (by rw [List.length_map]; exact hl) hE))
theorem asks_sx_y (x y a b c d : Int) (hx : HdOk (x, y)) (hb : boxB (a, b, c, d) = true) (hl : B.length ≤ 200) (hE : w.cell? ⟨2, 0, none⟩ = some (.iface t u)) (C D : List Bxd) :
    Asks base w (SX ps px py C D B) (SX ps px py C D (woB B (x, y) ++ [((x, y), (a, b, c, d))])) 10 #[.pointer (some ⟨py, 0, none⟩), .agg #[.int .i64 x, .int .i64 y], .int .i64 b, .int .i64 d] (fun e => e = .returned .nilIface) := by
  unfold SX
  rw [map_ysp]
  exact asks_2 (fr_and (fr_sw _ _) (fr_ax _ _)) (asks_put x y b d hx (boxB_spans hb).2 (by rw [List.length_map]; exact hl) hE)
end

theorem own_sl_lo {base : Nat} {w : World} {v : Value} {l : List Pr} (h : Own base encP 4 w v l) : ∃ p cap, v = .slice p l.length cap ∧ l.length ≤ cap ∧ cap ≤ maxLen ∧ (0 < l.length → ∃ g, p = some ⟨g, 0, none⟩ ∧ base ≤ g ∧ g < w.heap.size ∧ ∀ j u, (flat encP l)[j]? = some u → w.cell? ⟨g, 0 + j, none⟩ = some u) := by
  have hs := Own.sl lenP h
  obtain ⟨p, cap, rfl, h1, h2, h3⟩ := h
  refine ⟨p, cap, rfl, h1, h2, fun hl => ?_⟩
  obtain ⟨g, rfl, a, b, hk⟩ := h3 hl
  obtain ⟨p', c', e', _, _, h4⟩ := hs
  obtain ⟨g', o', e2, _, hc⟩ := h4 hl
  simp only [Value.slice.injEq] at e'
  obtain ⟨rfl, _⟩ := e'
  simp only [Option.some.injEq, Addr.mk.injEq] at e2
  obtain ⟨rfl, rfl, _⟩ := e2
  exact ⟨g, rfl, a, b, hc⟩
/-- The row that grows: 'both', among the blocks M. -/
def Bth (M : Nat → Prop) (W : World) (v : Value) (L : List Pr) : Prop := RowAt encP 68 4 W M v L
set_option maxHeartbeats 4000000 in
set_option maxRecDepth 100000 in
theorem axisSides_walk (l : List Bx4) (v : Value) (W : World) (hv : Sl encX W v l) (t t2 : TypeId) (ue uf : Value) (hE : W.cell? ⟨2, 0, none⟩ = some (.iface t ue)) (hF : W.cell? ⟨6, 0, none⟩ = some (.iface t2 uf)) :
    Calls Tryd.prog 7 #[v] W fun e w' => e = .returned (.bool true) ∧ RowKit.Below W.heap.size W w' := by
  obtain ⟨p0, c0, rfl, v1, v2, v3⟩ := hv
  unfold maxLen at v2
  have HV := Lib.hid v3
  have HE := Lib.hid (And.intro hE hF)
  have hel := cell_lt hE
  have hfl := cell_lt hF
  have AL := Lib.hid (alive_any W t ue hE)
  have NS := Lib.hid newS_call
  have NA := Lib.hid new_call
  unfold psP at NS NA
  clear v3 hE hF
  by_cases h1 : l.length ≤ 40
  case neg =>
    have hz : (l.length : Int) > 40 := by omega
    go_enter Tryd.func7, Tryd.ntmps7
    go_wp2_with fail
    refine AL.out.mono ?_
    rintro e w1 ⟨rfl, hb1⟩
    go_wp2
    go_ret
    exact ⟨rfl, hb1⟩
  have hz : ¬ (l.length : Int) > 40 := by omega
  go_enter Tryd.func7, Tryd.ntmps7
  go_wp2_with fail
  refine AL.out.mono ?_
  rintro e w1 ⟨rfl, hb1⟩
  have B1 := Lib.hid hb1
  clear hb1 AL
  go_wp2_with fail
  refine (NS.out _).mono ?_
  rintro e w2 ⟨ps, rfl, hp2, hb2⟩
  have O2 := Lib.hid (OO.new (P := SwB ps []) (Z := NoZ) (base := W.heap.size) hp2 B1.out.size hb2.size (fun b e => e.elim))
  have B2 := Lib.hid (Bt B1.out hb2)
  clear hp2 hb2
  go_wp2_with fail
  refine (NA.out _).mono ?_
  rintro e w3 ⟨px, rfl, hp3, hb3⟩
  have O3 := Lib.hid (OO.beside (fr_sw ps []) (fr_ax px []) O2.out hp3 hb3)
  have B3 := Lib.hid (Bt B2.out hb3)
  clear hp3 hb3
  go_wp2_with fail
  refine (NA.out _).mono ?_
  rintro e w4 ⟨py, rfl, hp4, hb4⟩
  have O4 : Hid (OO (SX ps px py [] [] []) NoZ W.heap.size w4) := Lib.hid (OO.beside (fr_and (fr_sw ps []) (fr_ax px [])) (fr_ax py []) O3.out hp4 hb4)
  have B4 := Lib.hid (Bt B3.out hb4)
  clear hp4 hb4 NS NA O2 O3 B1 B2 B3
  go_wp2
  go_loopw [24] (fun u wr => ∃ (i : Nat) (B : List Bxd), u = .int .i64 i ∧ i ≤ l.length ∧ B.length ≤ i ∧ OnceB B ∧ OO (SX ps px py B B B) NoZ W.heap.size wr ∧ RowKit.Below W.heap.size W wr) (fun u _ => l.length - (intOf u).toNat)
  case atStart => exact ⟨0, [], rfl, Nat.zero_le _, Nat.le_refl _, List.nodup_nil, O4.out, B4.out⟩
  case round =>
    obtain ⟨i, B, rfl, hi, hBl, hoB, hO, hb⟩ := hrel
    have HO := Lib.hid hO
    have HB := Lib.hid hb
    have HC := Lib.hid hoB
    clear hO hb hoB O4 B4
    by_cases hlt : i < l.length
    · obtain ⟨g, o, rfl, hg1, hcs⟩ := HV.out (by omega)
      obtain ⟨c1, c2, c3, c4⟩ := atX hcs hlt
      replace c1 := Bc HB.out hg1 c1
      replace c2 := Bc HB.out hg1 c2
      replace c3 := Bc HB.out hg1 c3
      replace c4 := Bc HB.out hg1 c4
      have hx := hd_small i (by omega)
      generalize l[i]! = x at *
      obtain ⟨x1, x2, x3, x4⟩ := x
      dsimp only at c1 c2 c3 c4
      clear hcs
      cases hbx : boxB (x1, x2, x3, x4)
      · have PN := Lib.hid (fun w' (hb : RowKit.Below wr.heap.size wr w') => OO.go (fr_sx ps px py B B B) HO.out HB.out hb (fun hB => asks_1 (fr_ax py _) (asks_1 (fr_ax px _) (asks_same (fr_sw ps B) (fun M hM => putS_no (ps := ps) 0 (i : Int) 1 x1 x2 x3 x4 hbx t2 uf (Bc hB hfl HE.out.2))))))
        clear hbx hx
        go_wp2_with fail
        refine (PN.out _ (by repeat (first | with_reducible exact Below.refl _ _ | with_reducible assumption | with_reducible apply Ba | with_reducible apply Bd | with_reducible apply Bn | with_reducible apply Bg | (with_reducible refine Bs ?_ (by first | (simp; done) | (simp; omega)) _) | (with_reducible refine Bt ?_ (by assumption)) | (with_reducible refine Bt ?_ (Gr.below (by assumption)))))).mono ?_
        rintro e w5 ⟨rfl, _, hb5⟩
        go_wp2
        go_ret
        exact ⟨rfl, hb5⟩
      · have hb2 : RowKit.Below wr.heap.size wr ((wr.alloc (.cells #[.int .i64 x1, .int .i64 x2, .int .i64 x3, .int .i64 x4] 30)).alloc (.cells #[.int .i64 i, .int .i64 1] 28)) := Ba (Ba (Below.refl _ wr) _) _
        have OZ : OO (SX ps px py B B B) (fun b => b = wr.heap.size ∨ b = wr.heap.size + 1) W.heap.size ((wr.alloc (.cells #[.int .i64 x1, .int .i64 x2, .int .i64 x3, .int .i64 x4] 30)).alloc (.cells #[.int .i64 i, .int .i64 1] 28)) :=
          HO.out.turn (fr_sx ps px py B B B) (Tch.of hb2) (fun b e => ⟨by have := HB.out.size; rcases e with e | e <;> omega, by simp; omega⟩)
        have hBd : RowKit.Below W.heap.size W ((wr.alloc (.cells #[.int .i64 x1, .int .i64 x2, .int .i64 x3, .int .i64 x4] 30)).alloc (.cells #[.int .i64 i, .int .i64 1] 28)) := Bt HB.out hb2
        obtain ⟨k1, k2⟩ := three_blk (w := wr) (o1 := .cells #[.int .i64 x1, .int .i64 x2, .int .i64 x3, .int .i64 x4] 30) (o2 := .cells #[.int .i64 i, .int .i64 1] 28) (w3 := ((wr.alloc (.cells #[.int .i64 x1, .int .i64 x2, .int .i64 x3, .int .i64 x4] 30)).alloc (.cells #[.int .i64 i, .int .i64 1] 28))) (Below.refl _ _)
        obtain ⟨e1, e2, _⟩ := two_cells k2
        obtain ⟨d1, d2, d3, d4⟩ := cells4' k1
        have hxs : wr.heap.size + 1 < ((wr.alloc (.cells #[.int .i64 x1, .int .i64 x2, .int .i64 x3, .int .i64 x4] 30)).alloc (.cells #[.int .i64 i, .int .i64 1] 28)).heap.size := by simp
        have HSZ : ∀ xb, Hid (∀ W3 W4, Tch (OffZ (fun b => b = xb ∨ b = xb + 1) W.heap.size) W3 W4 → xb + 1 < W3.heap.size → ((W3.cell? ⟨xb, 0, none⟩ = some (.int .i64 x1) ∧ W3.cell? ⟨xb, 1, none⟩ = some (.int .i64 x2) ∧ W3.cell? ⟨xb, 2, none⟩ = some (.int .i64 x3) ∧ W3.cell? ⟨xb, 3, none⟩ = some (.int .i64 x4)) ∧ W3.cell? ⟨xb + 1, 0, none⟩ = some (.int .i64 i) ∧ W3.cell? ⟨xb + 1, 1, none⟩ = some (.int .i64 1)) → ((W4.cell? ⟨xb, 0, none⟩ = some (.int .i64 x1) ∧ W4.cell? ⟨xb, 1, none⟩ = some (.int .i64 x2) ∧ W4.cell? ⟨xb, 2, none⟩ = some (.int .i64 x3) ∧ W4.cell? ⟨xb, 3, none⟩ = some (.int .i64 x4)) ∧ W4.cell? ⟨xb + 1, 0, none⟩ = some (.int .i64 i) ∧ W4.cell? ⟨xb + 1, 1, none⟩ = some (.int .i64 1))) := fun xb => Lib.hid fun W3 W4 ht hl hs => by
          have n1 : ¬ OffZ (fun b => b = xb ∨ b = xb + 1) W.heap.size xb := fun e => e.2 (.inl rfl)
          have n2 : ¬ OffZ (fun b => b = xb ∨ b = xb + 1) W.heap.size (xb + 1) := fun e => e.2 (.inr rfl)
          exact ⟨⟨ht.cell (by omega) n1 hs.1.1, ht.cell (by omega) n1 hs.1.2.1, ht.cell (by omega) n1 hs.1.2.2.1, ht.cell (by omega) n1 hs.1.2.2.2⟩, ht.cell hl n2 hs.2.1, ht.cell hl n2 hs.2.2⟩
        have HX := Lib.hid (HSZ wr.heap.size).out
        have HD := Lib.hid (And.intro (And.intro d1 (And.intro d2 (And.intro d3 d4))) (And.intro e1 e2))
        have A1 := Lib.hid (OZ.ask (asks_sx_s (i : Int) 1 x1 x2 x3 x4 hx hbx (by omega) (Bc hBd hel HE.out.1) hel))
        have HQ := Lib.hid (And.intro hBd hxs)
        clear OZ hBd k1 k2 d1 d2 d3 d4 e1 e2 hb2 hxs HSZ
        go_wp2_with fail
        refine A1.out.mono ?_
        rintro e w5 ⟨rfl, hO5, hT5⟩
        have hb5 := HQ.out.1.trans (OO.tch hT5 HQ.out.1.size)
        have hl5 : wr.heap.size + 1 < w5.heap.size := Nat.lt_of_lt_of_le HQ.out.2 hT5.size
        have hS5 := HX.out _ _ hT5 HQ.out.2 HD.out
        have A2 := Lib.hid (hO5.ask (asks_sx_x (i : Int) 1 x1 x2 x3 x4 hx hbx (by omega) (Bc hb5 hel HE.out.1) _))
        have H5 := Lib.hid (And.intro hb5 (And.intro hl5 hS5))
        generalize wr.heap.size = xb at *
        obtain ⟨⟨d1, d2, d3, d4⟩, e1, e2⟩ := hS5
        clear hO5 hT5 hb5 HD HQ A1
        go_wp2_with fail
        refine A2.out.mono ?_
        rintro e w6 ⟨rfl, hO6, hT6⟩
        have hb6 := H5.out.1.trans (OO.tch hT6 H5.out.1.size)
        have hl6 : xb + 1 < w6.heap.size := Nat.lt_of_lt_of_le H5.out.2.1 hT6.size
        have hS6 := HX.out _ _ hT6 H5.out.2.1 H5.out.2.2
        have A3 := Lib.hid (hO6.ask (asks_sx_y (i : Int) 1 x1 x2 x3 x4 hx hbx (by omega) (Bc hb6 hel HE.out.1) _ _))
        have H6 := Lib.hid (And.intro hb6 (And.intro hl6 hS6))
        clear d1 d2 d3 d4 e1 e2
        obtain ⟨⟨d1, d2, d3, d4⟩, e1, e2⟩ := hS6
        clear hO6 hT6 hb6 H5 A2
        go_wp2_with fail
        refine A3.out.mono ?_
        rintro e w7 ⟨rfl, hO7, hT7⟩
        have HB7 := Lib.hid (H6.out.1.trans (OO.tch hT7 H6.out.1.size))
        have HO7 := Lib.hid (hO7.turn (fr_sx ps px py _ _ _) (Tch.refl _ w7) (Z' := NoZ) (fun b e => e.elim))
        have hl7 := put_len B ((i : Int), 1) (x1, x2, x3, x4)
        have HC7 := Lib.hid (once_put HC.out ((i : Int), 1) (x1, x2, x3, x4))
        clear d1 d2 d3 d4 e1 e2 hO7 hT7 H6 A3 hx hbx
        go_wp2
        go_roundw
        case measure => simp only [intOf]; omega
        case rel => exact ⟨i + 1, _, by go_num, by omega, by omega, HC7.out, HO7.out, HB7.out⟩
    · have hin : i = l.length := by omega
      subst hin
      clear hlt
      obtain ⟨w0, rfl⟩ : ∃ w0, w0 = wr := ⟨_, rfl⟩
      have PX := Lib.hid (fun w' (hb : RowKit.Below w0.heap.size w0 w') => (HO.out.below (fr_sx ps px py B B B) hb).read (fun M h => pairs_call (SX.x h) (by rw [List.length_map]; omega)))
      have PY := Lib.hid (fun w' (hb : RowKit.Below w0.heap.size w0 w') => (HO.out.below (fr_sx ps px py B B B) hb).read (fun M h => pairs_call (SX.y h) (by rw [List.length_map]; omega)))
      have PS := Lib.hid (fun w' (hb : RowKit.Below w0.heap.size w0 w') => (HO.out.below (fr_sx ps px py B B B) hb).read (fun M h => pairsS_call (SX.s h) (by omega)))
      have hbp := both_pairs HC.out
      have hXl := pairsL_len (B.map xsp) (by rw [List.length_map]; omega)
      have hYl := pairsL_len (B.map ysp) (by rw [List.length_map]; omega)
      have HYn := Lib.hid (nodup_pairsL (B.map ysp))
      generalize pairsL (B.map xsp) = X at *
      generalize pairsL (B.map ysp) = Y at *
      have HBP := Lib.hid hbp
      clear hbp
      go_wp2_with fail
      refine (PX.out _ (Ba (Below.refl _ w0) _)).mono ?_
      rintro e w5 ⟨vx, rfl, hwx, hb5⟩
      obtain ⟨q0, q1, rfl, hx1, hx2, hx3⟩ := own_sl_lo hwx
      unfold maxLen at hx2
      have HX3 := Lib.hid hx3
      have HB5 := Lib.hid (Bt (Ba (Below.refl _ w0) (.cells #[] 68)) hb5)
      have HM5 : Hid (Bth (fun b => b = w0.heap.size ∨ w5.heap.size ≤ b) w5 (.slice (some ⟨w0.heap.size, 0, none⟩) 0 0) []) := Lib.hid (RowAt.below (row_empty w0 68 4 _ (.inl rfl)) hb5)
      have hs05 : w0.heap.size < w5.heap.size := Nat.lt_of_lt_of_le (by simp) hb5.size
      clear hwx hb5 PX hx3
      go_wp2
      go_loopw [9, 61] (fun vb u wr => ∃ i : Nat, u = .int .i64 i ∧ i ≤ X.length ∧ Bth (fun b => b = w0.heap.size ∨ w5.heap.size ≤ b) wr vb (bothK (X.take i) Y) ∧ Tch (fun b => b = w0.heap.size ∨ w5.heap.size ≤ b) w5 wr) (fun _ u _ => X.length - (intOf u).toNat)
      case atStart => exact ⟨0, rfl, Nat.zero_le _, HM5.out, Tch.refl _ _⟩
      case round =>
        obtain ⟨i, rfl, hi, ho, ht⟩ := hrel
        have HO := Lib.hid ho
        have HT := Lib.hid ht
        have hs5r := ht.size
        have HBr : Hid (RowKit.Below w0.heap.size w0 wr) := Lib.hid (HB5.out.trans (Tch.below ht (fun b e => by rcases e with e | e <;> omega) (Nat.le_of_lt hs05)))
        clear ho ht
        by_cases hlt : i < X.length
        · obtain ⟨g, rfl, hg0, hg1, hcs⟩ := HX3.out (by omega)
          have hg0' : w0.heap.size < g := Nat.lt_of_lt_of_le (by simp) hg0
          have hgn : ¬ (g = w0.heap.size ∨ w5.heap.size ≤ g) := by omega
          obtain ⟨c1, c2, c3, c4⟩ := atP hcs hlt
          replace c1 := HT.out.cell hg1 hgn c1
          replace c2 := HT.out.cell hg1 hgn c2
          replace c3 := HT.out.cell hg1 hgn c3
          replace c4 := HT.out.cell hg1 hgn c4
          simp only [Nat.zero_add] at c1 c2 c3 c4
          have HST := Lib.hid (bothK_step X Y hlt)
          generalize X[i]! = x at *
          obtain ⟨⟨x1, x2⟩, x3, x4⟩ := x
          dsimp only at c1 c2 c3 c4
          clear hcs hg0 hgn
          go_wp2_with fail
          refine (PY.out _ (Bt HBr.out (by repeat (first | with_reducible exact Below.refl _ _ | with_reducible assumption | with_reducible apply Ba | with_reducible apply Bd | with_reducible apply Bn | with_reducible apply Bg | (with_reducible refine Bs ?_ (by first | (simp; done) | (simp; omega)) _) | (with_reducible refine Bt ?_ (by assumption)) | (with_reducible refine Bt ?_ (Gr.below (by assumption))))))).mono ?_
          rintro e wz ⟨vy, rfl, hwy, hbz⟩
          obtain ⟨wo, rfl⟩ : ∃ wo, wo = wr := ⟨_, rfl⟩
          obtain ⟨r0, r1, rfl, hy1, hy2, hy3⟩ := own_sl_lo hwy
          unfold maxLen at hy2
          have HY3 := Lib.hid hy3
          obtain ⟨d1, d2, d3, d4⟩ := cells4' (blk_below (heap_alloc_new wo (.cells #[.int .i64 x1, .int .i64 x2, .int .i64 x3, .int .i64 x4] 68)) hbz)
          have hoz : wo.heap.size < wz.heap.size := Nat.lt_of_lt_of_le (by simp) hbz.size
          have HBz := Lib.hid (Bt (Ba (Below.refl _ wo) (.cells #[.int .i64 x1, .int .i64 x2, .int .i64 x3, .int .i64 x4] 68)) hbz)
          have HZ : Hid (Bth (fun b => (b = w0.heap.size ∨ w5.heap.size ≤ b) ∧ (b < wo.heap.size ∨ wz.heap.size ≤ b)) wz u9 (bothK (X.take i) Y ++ inK Y 0 ((x1, x2), (x3, x4)))) := Lib.hid (by
            rw [show inK Y 0 ((x1, x2), (x3, x4)) = [] by simp [inK], List.append_nil]
            exact RowAt.below ⟨HO.out.1, fun b hb => ⟨HO.out.2 b hb, .inl (row_lt HO.out.1 hb)⟩⟩ HBz.out)
          have HD := Lib.hid (And.intro (And.intro d1 d2) (And.intro d3 d4))
          have hbl : (bothK (X.take i) Y).length ≤ 10000 := by
            have h1 : (bothK (X.take i) Y).length ≤ (X.take i).length := List.length_filter_le _ _
            have h2 : (X.take i).length ≤ X.length := List.length_take_le' _ _
            omega
          clear hwy hbz hy3 HO d1 d2 d3 d4 c1 c2 c3 c4
          go_wp2
          go_loopw [9, 68] (fun vb u wr => ∃ j : Nat, u = .int .i64 j ∧ j ≤ Y.length ∧ Bth (fun b => (b = w0.heap.size ∨ w5.heap.size ≤ b) ∧ (b < wo.heap.size ∨ wz.heap.size ≤ b)) wr vb (bothK (X.take i) Y ++ inK Y j ((x1, x2), (x3, x4))) ∧ Tch (fun b => (b = w0.heap.size ∨ w5.heap.size ≤ b) ∧ (b < wo.heap.size ∨ wz.heap.size ≤ b)) wz wr) (fun _ u _ => Y.length - (intOf u).toNat)
          case atStart => exact ⟨0, rfl, Nat.zero_le _, HZ.out, Tch.refl _ _⟩
          case round =>
            clear HZ
            obtain ⟨j, rfl, hj, ho, ht⟩ := hrel
            have HO := Lib.hid ho
            have HT2 := Lib.hid ht
            have hszr := ht.size
            clear ho ht
            by_cases hjt : j < Y.length
            · obtain ⟨g2, rfl, hg3, hg4, hcs⟩ := HY3.out (by omega)
              have hg3' : wo.heap.size < g2 := Nat.lt_of_lt_of_le (by simp) hg3
              have hgn : ¬ ((g2 = w0.heap.size ∨ w5.heap.size ≤ g2) ∧ (g2 < wo.heap.size ∨ wz.heap.size ≤ g2)) := by omega
              have hpn : ¬ ((wo.heap.size = w0.heap.size ∨ w5.heap.size ≤ wo.heap.size) ∧ (wo.heap.size < wo.heap.size ∨ wz.heap.size ≤ wo.heap.size)) := by omega
              obtain ⟨f1, f2, f3, f4⟩ := atP hcs hjt
              replace f1 := HT2.out.cell hg4 hgn f1
              replace f2 := HT2.out.cell hg4 hgn f2
              replace f3 := HT2.out.cell hg4 hgn f3
              replace f4 := HT2.out.cell hg4 hgn f4
              simp only [Nat.zero_add] at f1 f2 f3 f4
              have d1 := HT2.out.cell hoz hpn HD.out.1.1
              have d2 := HT2.out.cell hoz hpn HD.out.1.2
              have d3 := HT2.out.cell hoz hpn HD.out.2.1
              have d4 := HT2.out.cell hoz hpn HD.out.2.2
              have hst := inK_step HYn.out hjt ((x1, x2), (x3, x4))
              have hil := inK_len Y j ((x1, x2), (x3, x4))
              generalize Y[j]! = y at *
              obtain ⟨⟨y1, y2⟩, y3, y4⟩ := y
              dsimp only at f1 f2 f3 f4
              clear hcs hg3 hgn hpn
              have hlo : wo.heap.size < wr.heap.size := Nat.lt_of_lt_of_le hoz hszr
              cases hbq : decide ((((x1, x2), (x3, x4)) : Pr) = ((y1, y2), (y3, y4)))
              · have eqx : ∀ w, Sem.run Tryd.prog (binOp .eql 68 (.agg #[.int .i64 x1, .int .i64 x2, .int .i64 x3, .int .i64 x4]) (.agg #[.int .i64 y1, .int .i64 y2, .int .i64 y3, .int .i64 y4])) w = .ok (.bool false) w := fun w => (eqP_run ((x1, x2), (x3, x4)) ((y1, y2), (y3, y4)) w).trans (by rw [hbq])
                have gdx := gdP_run
                rw [if_neg (of_decide_eq_false hbq), List.append_nil] at hst
                have HST2 := Lib.hid hst
                have bX := Ba (Below.refl _ wr) (.cells #[.int .i64 y1, .int .i64 y2, .int .i64 y3, .int .i64 y4] 68)
                have HO2 := Lib.hid (RowAt.below HO.out bX)
                have HT3 := Lib.hid (HT2.out.more (Tch.of bX))
                clear hst hbq bX
                go_wp2
                go_roundw
                case measure => simp only [intOf]; omega
                case rel => exact ⟨j + 1, by go_num, by omega, by rw [HST2.out]; exact HO2.out, HT3.out⟩
              · have eqx : ∀ w, Sem.run Tryd.prog (binOp .eql 68 (.agg #[.int .i64 x1, .int .i64 x2, .int .i64 x3, .int .i64 x4]) (.agg #[.int .i64 y1, .int .i64 y2, .int .i64 y3, .int .i64 y4])) w = .ok (.bool true) w := fun w => (eqP_run ((x1, x2), (x3, x4)) ((y1, y2), (y3, y4)) w).trans (by rw [hbq])
                have gdx := gdP_run
                rw [if_pos (of_decide_eq_true hbq)] at hst
                have HST2 := Lib.hid hst
                have bX := Ba (Ba (Below.refl _ wr) (.cells #[.int .i64 y1, .int .i64 y2, .int .i64 y3, .int .i64 y4] 68)) (.cells #[.int .i64 x1, .int .i64 x2, .int .i64 x3, .int .i64 x4] 68)
                have HO2 := Lib.hid (RowAt.below HO.out bX)
                have HT3 := Lib.hid (HT2.out.more (Tch.of bX))
                have L5 := Lib.hid (sl_lit (enc := encP) (w := wr.alloc (.cells #[.int .i64 y1, .int .i64 y2, .int .i64 y3, .int .i64 y4] 68)) (cs := #[.int .i64 x1, .int .i64 x2, .int .i64 x3, .int .i64 x4]) (t := 68) (b := wr.heap.size + 1) [((x1, x2), (x3, x4))] (by simp) rfl (by unfold maxLen; simp))
                have hzw : wz.heap.size ≤ ((wr.alloc (.cells #[.int .i64 y1, .int .i64 y2, .int .i64 y3, .int .i64 y4] 68)).alloc (.cells #[.int .i64 x1, .int .i64 x2, .int .i64 x3, .int .i64 x4] 68)).heap.size := Nat.le_trans hszr bX.size
                clear hst hbq bX
                go_wp2_with (at_builtin; refine wpl_app2 apP rfl _ _ rfl 0 (by rfl) (by rfl) HO2.out.1 rfl L5.out (by simp; omega) (Nat.zero_le _) ?_; intro v7 w7 hown7 hgrow7 hat7 hnil7; have R7 := Lib.hid (row_grown HO2.out.2 hown7 hgrow7 hat7); clear hown7 hgrow7 hat7 hnil7)
                go_roundw
                case measure => simp only [intOf]; omega
                case rel => exact ⟨j + 1, by go_num, by omega, by rw [HST2.out, ← List.append_assoc]; exact RowAt.mono R7.out.1 (fun b e => e.elim id (fun e => ⟨.inr (by have := e.1; omega), .inr (by have := e.1; omega)⟩)), HT3.out.more R7.out.2⟩
            · have hjn : j = Y.length := by omega
              subst hjn
              have HO3 := Lib.hid HO.out
              rw [← HST.out] at HO3
              have HT4 := Lib.hid ((HT.out.more (Tch.of HBz.out)).more (HT2.out.mono (fun b e => e.1)))
              clear hjt HO HT2 HT
              go_wp2
              go_roundw
              case measure => simp only [intOf]; omega
              case rel => exact ⟨i + 1, by go_num, by omega, HO3.out.mono (fun b e => e.1), HT4.out⟩
        · have hin : i = X.length := by omega
          subst hin
          have HO3 := Lib.hid HO.out
          rw [List.take_length, HBP.out] at HO3
          have hSl := Lib.hid (RowAt.sl lenP HO3.out)
          have PS2 := Lib.hid (PS.out _ HBr.out)
          clear hlt HO HT PS
          go_wp2_with fail
          refine PS2.out.mono ?_
          rintro e w7 ⟨v7, rfl, hw7, hb7⟩
          have SP := Lib.hid (samePairs_call _ _ _ _ _ (hw7.sl lenP) (hSl.out.below hb7))
          have B7 := Lib.hid (Bt HB.out (Bt HBr.out hb7))
          clear hw7 hb7 PS2 hSl
          go_wp2_with fail
          refine SP.out.mono ?_
          rintro e w8 ⟨rfl, hg8⟩
          go_wp2
          go_ret
          exact ⟨by simp, Bt B7.out hg8.below⟩
end Go.Proofs.YtbodefigeiaodaaDoor
