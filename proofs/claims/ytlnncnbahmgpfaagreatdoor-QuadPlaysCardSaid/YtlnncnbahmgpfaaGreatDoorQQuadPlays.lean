import Derived.Test.YtlnncnbahmgpfaaGreatDoorZ20
import Derived.Test.YtlnncnbahmgpfaaGreatDoorZ44
import Derived.Deep.CutBlock
import Derived.Deep.DeepCutAuto
import Derived.Test.YtlnncnbahmgpfaaGreatDoorZ13

/-
  The walk of QuadPlays.
-/
namespace Go.Proofs.YtlnncnbahmgpfaaGreatDoor
set_option linter.unusedSimpArgs false
set_option linter.unusedVariables false
open Go.RowKit Go.Sort Go.Lib Go.Shelf

/-- The state behind a call: the tree, the reference's row; the call's own block. -/
def TrT (W : World) (pt xb : Nat) (h1 h2 q1 q2 q3 q4 : Int) (n : Nat) (vm : Value) (wx : World) : Prop := ∃ (B : List Bxd) (Z : Nat → Prop), B.length ≤ n ∧ OnceB B ∧ (∀ b ∈ B, HdOk b.1) ∧ OO (TrB pt B) Z W.heap.size wx ∧ RowAt encBx 43 6 wx Z vm B ∧ RowKit.Below W.heap.size W wx ∧ (wx.cell? ⟨xb, 1, none⟩ = some (.int .i64 h1) ∧ wx.cell? ⟨xb, 2, none⟩ = some (.int .i64 h2) ∧ wx.cell? ⟨xb, 7, none⟩ = some (.int .i64 q1) ∧ wx.cell? ⟨xb, 8, none⟩ = some (.int .i64 q2) ∧ wx.cell? ⟨xb, 9, none⟩ = some (.int .i64 q3) ∧ wx.cell? ⟨xb, 10, none⟩ = some (.int .i64 q4))
/-- The cells of the call's own that are read: 1 to 10. -/
def Own10 (w : World) (xb : Nat) (h1 h2 x1 x2 x3 x4 q1 q2 q3 q4 : Int) : Prop := (w.cell? ⟨xb, 1, none⟩ = some (.int .i64 h1) ∧ w.cell? ⟨xb, 2, none⟩ = some (.int .i64 h2) ∧ w.cell? ⟨xb, 7, none⟩ = some (.int .i64 q1) ∧ w.cell? ⟨xb, 8, none⟩ = some (.int .i64 q2) ∧ w.cell? ⟨xb, 9, none⟩ = some (.int .i64 q3) ∧ w.cell? ⟨xb, 10, none⟩ = some (.int .i64 q4)) ∧ w.cell? ⟨xb, 3, none⟩ = some (.int .i64 x1) ∧ w.cell? ⟨xb, 4, none⟩ = some (.int .i64 x2) ∧ w.cell? ⟨xb, 5, none⟩ = some (.int .i64 x3) ∧ w.cell? ⟨xb, 6, none⟩ = some (.int .i64 x4)
theorem Own10.tch {w w' : World} {M : Nat → Prop} {xb : Nat} {h1 h2 x1 x2 x3 x4 q1 q2 q3 q4 : Int} (h : Own10 w xb h1 h2 x1 x2 x3 x4 q1 q2 q3 q4) (t : Tch M w w') (hl : xb < w.heap.size) (hn : ¬ M xb) : Own10 w' xb h1 h2 x1 x2 x3 x4 q1 q2 q3 q4 := by
  obtain ⟨⟨a1, a2, a3, a4, a5, a6⟩, a7, a8, a9, a10⟩ := h
  exact ⟨⟨t.cell hl hn a1, t.cell hl hn a2, t.cell hl hn a3, t.cell hl hn a4, t.cell hl hn a5, t.cell hl hn a6⟩, t.cell hl hn a7, t.cell hl hn a8, t.cell hl hn a9, t.cell hl hn a10⟩
theorem Own10.below {w w' : World} {xb : Nat} {h1 h2 x1 x2 x3 x4 q1 q2 q3 q4 : Int} (h : Own10 w xb h1 h2 x1 x2 x3 x4 q1 q2 q3 q4) (t : RowKit.Below w.heap.size w w') (hl : xb < w.heap.size) : Own10 w' xb h1 h2 x1 x2 x3 x4 q1 q2 q3 q4 := h.tch (M := fun _ => False) (Tch.of t) hl (fun e => e)
set_option maxHeartbeats 4000000 in
set_option maxRecDepth 100000 in
theorem quadPlays_walk (l : List Opq) (v : Value) (W : World) (hv : Sl encO W v l) (ho : ∀ x ∈ l, HdOk x.2.1) {A : Nat → Addr} (hE : Errs W A) :
    Calls Tryz.prog 3 #[v] W fun e w' => e = .returned (.bool true) ∧ RowKit.Below W.heap.size W w' := by
  obtain ⟨p0, c0, rfl, v1, v2, v3⟩ := hv
  unfold maxLen at v2
  have HV := Lib.hid v3
  have HOK := Lib.hid ho
  have HER := Lib.hid hE
  have HE := Lib.hid (Er3.of hE)
  have hel := cell_lt (Er3.of hE).eN
  have AL := Lib.hid (alive_any W (Er3.of hE))
  have NS := Lib.hid newT_call
  clear v3 ho hE
  by_cases h1 : l.length ≤ 50
  case neg =>
    have hz : (l.length : Int) > 50 := by omega
    go_enter Tryz.func3, Tryz.ntmps3
    go_wp2_with fail
    refine AL.out.mono ?_
    rintro e w1 ⟨rfl, hb1⟩
    go_wp2
    go_ret
    exact ⟨rfl, hb1⟩
  have hz : ¬ (l.length : Int) > 50 := by omega
  go_enter Tryz.func3, Tryz.ntmps3
  go_wp2_with fail
  refine AL.out.mono ?_
  rintro e w1 ⟨rfl, hb1⟩
  have B1 := Lib.hid hb1
  clear hb1 AL
  go_wp2_with fail
  refine (NS.out _).mono ?_
  rintro e w2 ⟨pt, rfl, hp2, hb2⟩
  have O2 := Lib.hid (OO.new (P := TrB pt []) (Z := NoZ) (base := W.heap.size) hp2 B1.out.size hb2.size (fun b e => e.elim))
  have B2 := Lib.hid (Bt B1.out hb2)
  clear hp2 hb2 NS
  go_wp2
  go_loopw [4, 21] (fun vm u wr => ∃ (i : Nat) (B : List Bxd) (Z : Nat → Prop), u = .int .i64 i ∧ i ≤ l.length ∧ B.length ≤ i ∧ OnceB B ∧ (∀ b ∈ B, HdOk b.1) ∧ OO (TrB pt B) Z W.heap.size wr ∧ RowAt encBx 43 6 wr Z vm B ∧ RowKit.Below W.heap.size W wr) (fun _ u _ => l.length - (intOf u).toNat)
  case atStart => exact ⟨0, [], fun b => b = w2.heap.size, rfl, Nat.zero_le _, Nat.le_refl _, List.nodup_nil, (by simp), O2.out.turn (fr_tr pt []) (Tch.of (Ba (Below.refl _ w2) _)) (fun b e => ⟨.inr (.inr (Nat.le_of_eq e.symm)), by rw [e]; simp⟩), row_empty w2 43 6 _ rfl, Bt B2.out (Ba (Below.refl _ w2) _)⟩
  case round =>
    clear O2 B1 B2
    obtain ⟨i, B, Z, rfl, hi, hBl, hoB, hkB, hO, hm, hb⟩ := hrel
    have HO := Lib.hid hO
    have HB := Lib.hid hb
    have HC := Lib.hid hoB
    have HK := Lib.hid hkB
    have HM := Lib.hid hm
    clear hO hb hoB hm hkB
    by_cases hlt : i < l.length
    · obtain ⟨g, o, rfl, hg1, hcs⟩ := HV.out (by omega)
      obtain ⟨c1, c2, c3, c4, c5, c6, c7, c8, c9, c10, c11⟩ := atO hcs hlt
      replace c1 := Bc HB.out hg1 c1
      replace c2 := Bc HB.out hg1 c2
      replace c3 := Bc HB.out hg1 c3
      replace c4 := Bc HB.out hg1 c4
      replace c5 := Bc HB.out hg1 c5
      replace c6 := Bc HB.out hg1 c6
      replace c7 := Bc HB.out hg1 c7
      replace c8 := Bc HB.out hg1 c8
      replace c9 := Bc HB.out hg1 c9
      replace c10 := Bc HB.out hg1 c10
      replace c11 := Bc HB.out hg1 c11
      have hx : HdOk l[i]!.2.1 := HOK.out _ (by rw [getElem!_pos l i hlt]; exact List.getElem_mem hlt)
      generalize l[i]! = x at *
      obtain ⟨k, ⟨h1, h2⟩, ⟨x1, x2, x3, x4⟩, q1, q2, q3, q4⟩ := x
      dsimp only at c1 c2 c3 c4 c5 c6 c7 c8 c9 c10 c11 hx
      clear hcs
      obtain ⟨wa, hwa⟩ : ∃ wa, wa = wr.alloc (.cells #[.int .i64 k, .int .i64 h1, .int .i64 h2, .int .i64 x1, .int .i64 x2, .int .i64 x3, .int .i64 x4, .int .i64 q1, .int .i64 q2, .int .i64 q3, .int .i64 q4] 32) := ⟨_, rfl⟩
      have bA : RowKit.Below wr.heap.size wr wa := by rw [hwa]; exact Ba (Below.refl _ wr) _
      have hxa : wr.heap.size < wa.heap.size := by rw [hwa]; simp
      have HO2 := Lib.hid (HO.out.turn (fr_tr pt B) (Tch.of bA) (Z' := fun b => Z b ∨ b = wr.heap.size) (fun b e => by
        rcases e with e | e
        · exact ⟨.inl e, Nat.lt_of_lt_of_le (HO.out.zlt b e) bA.size⟩
        · exact ⟨.inr (.inr (Nat.le_of_eq e.symm)), by omega⟩))
      have HM2 := Lib.hid ((HM.out.below bA).mono (M' := fun b => Z b ∨ b = wr.heap.size) (fun b e => .inl e))
      have HD := Lib.hid (show Own10 wa wr.heap.size h1 h2 x1 x2 x3 x4 q1 q2 q3 q4 from by rw [hwa]; exact ⟨⟨by simp, by simp, by simp, by simp, by simp, by simp⟩, by simp, by simp, by simp, by simp⟩)
      have HB2 := Lib.hid (Bt HB.out bA)
      have HXB := Lib.hid (show W.heap.size ≤ wr.heap.size from HB.out.size)
      clear bA
      go_upto_block 2 with fail
      rw [← hwa]
      clear hwa c1 c2 c3 c4 c5 c6 c7 c8 c9 c10 c11 HO HM HB
      generalize wr.heap.size = xb at *
      go_cut [4] (fun vm wx => Hid (TrT W pt xb h1 h2 q1 q2 q3 q4 (i + 1) vm wx))
      case first =>
        by_cases hk1 : k = 1
        · subst hk1
          have RO := Lib.hid (rOf_call x1 x2 x3 x4 wa)
          obtain ⟨⟨y1, y2, _, _, _, _⟩, y3, y4, y5, y6⟩ := HD.out
          go_wp2_with fail
          refine RO.out.mono ?_
          rintro e w3 ⟨rfl, hb3⟩
          generalize cellE (x1, x2, x3, x4) = c at *
          obtain ⟨d1, d2, d3⟩ := c
          have bB := Bt hb3 (Ba (Below.refl _ w3) (.cells #[.int .i64 d1, .int .i64 d2, .int .i64 d3] 34))
          have HO3 := Lib.hid (HO2.out.below (fr_tr pt B) bB)
          have HM3 := Lib.hid (HM2.out.below bB)
          have HD3 := Lib.hid (HD.out.below bB hxa)
          have HB3 := Lib.hid (Bt HB2.out bB)
          have hx3 := Bl bB hxa
          clear y1 y2 y3 y4 y5 y6 HO2 HM2 HD HB2 RO bB hb3
          obtain ⟨⟨y1, y2, _, _, _, _⟩, y3, y4, y5, y6⟩ := HD3.out
          by_cases he : errB (x1, x2, x3, x4) = 0
          · have AP := Lib.hid (HO3.out.ask (asks_putT (base := W.heap.size) h1 h2 x1 x2 x3 x4 hx he (by omega) (HE.out.below HB3.out) hel))
            rw [he]
            clear he
            go_wp2_with fail
            refine AP.out.mono ?_
            rintro e w5 ⟨rfl, hO5, ht5⟩
            have nX : ¬ OffZ (fun b => Z b ∨ b = xb) W.heap.size xb := fun e => e.2 (.inr rfl)
            have HD5 := Lib.hid (HD3.out.tch ht5 hx3 nX)
            have hx5 := ht5.lt hx3
            have HB5 := Lib.hid (HB3.out.trans (OO.tch ht5 HB3.out.size))
            have HM5 := Lib.hid (HM3.out.kept ht5 (fun b e f => f.2 e))
            have HO5 := Lib.hid hO5
            clear hO5 ht5 nX AP HO3 HM3 HD3 HB3 y1 y2 y3 y4 y5 y6 hx3
            go_wp2_with fail
            refine (num_nil _).mono ?_
            rintro e w6 ⟨rfl, hb6⟩
            have HD6 := Lib.hid (HD5.out.below hb6 hx5)
            have hx6 := Bl hb6 hx5
            have B6 := Lib.hid hb6
            have PB := Lib.hid (putB_call B u4 h1 h2 x1 x2 x3 x4 w6 ((RowAt.sl lenBx HM5.out).below hb6) (by omega))
            obtain ⟨⟨y1, y2, _, _, _, _⟩, y3, y4, y5, y6⟩ := HD6.out
            clear hb6
            go_wp2_with fail
            refine PB.out.mono ?_
            rintro e w7 ⟨v7, rfl, ho7, hb7⟩
            have B7 := Lib.hid (Bt B6.out hb7)
            have hs6 := B6.out.size
            have HT := Lib.hid (show TrT W pt xb h1 h2 q1 q2 q3 q4 (i + 1) v7 w7 from by
              have hlp := put_len B (h1, h2) (x1, x2, x3, x4)
              refine ⟨_, fun b => b = xb ∨ (w5.heap.size ≤ b ∧ b < w7.heap.size), by omega, once_put HC.out (h1, h2) (x1, x2, x3, x4), fun b hb => ?_, HO5.out.turn (fr_tr pt _) (Tch.of B7.out) (fun b e => ?_), own_rowat ho7 (fun b f g => .inr ⟨by omega, g⟩), Bt HB5.out B7.out, (HD6.out.below hb7 hx6).1⟩
              · rcases List.mem_append.1 hb with e | e
                · exact HK.out b (mem_woB.1 e).1
                · obtain rfl := List.mem_singleton.1 e
                  exact hx
              · rcases e with e | e
                · exact ⟨.inl (.inr e), by rw [e]; exact Nat.lt_of_lt_of_le hx5 B7.out.size⟩
                · exact ⟨.inr (.inr e.1), e.2⟩)
            clear y1 y2 y3 y4 y5 y6 ho7 hb7 PB
            go_wp2
            go_meet
            exact HT
          · have PN := Lib.hid (HO3.out.read (fun M h => putT_no h h1 h2 x1 x2 x3 x4 he (HE.out.below HB3.out)))
            have hcs := err_cases (177, .pointer (some (A 0))) (177, .pointer (some (A 6))) (x1, x2, x3, x4)
            rcases hcs with ⟨e0, _⟩ | ⟨e0, e1⟩ | ⟨e0, e1⟩
            · exact absurd e0 he
            · rw [e1] at PN
              rw [e0]
              have NU := Lib.hid (fun w (hb : RowKit.Below W.heap.size W w) => num_range (HER.out.below hb))
              clear he e0 e1
              go_wp2_with fail
              refine PN.out.mono ?_
              rintro e w5 ⟨rfl, hb5⟩
              have B5 := Lib.hid hb5
              clear hb5 PN
              go_wp2_with fail
              refine (NU.out _ (Bt HB3.out B5.out)).mono ?_
              rintro e w6 ⟨rfl, hb6⟩
              have B6 := Lib.hid (Bt B5.out hb6)
              have HT := Lib.hid (show TrT W pt xb h1 h2 q1 q2 q3 q4 (i + 1) u4 w6 from ⟨B, _, by omega, HC.out, HK.out, HO3.out.below (fr_tr pt B) B6.out, HM3.out.below B6.out, Bt HB3.out B6.out, (HD3.out.below B6.out hx3).1⟩)
              clear hb6 B5 NU y1 y2 y3 y4 y5 y6
              go_wp2
              go_meet
              exact HT
            · rw [e1] at PN
              rw [e0]
              have NU := Lib.hid (fun w (hb : RowKit.Below W.heap.size W w) => num_form (HER.out.below hb))
              clear he e0 e1
              go_wp2_with fail
              refine PN.out.mono ?_
              rintro e w5 ⟨rfl, hb5⟩
              have B5 := Lib.hid hb5
              clear hb5 PN
              go_wp2_with fail
              refine (NU.out _ (Bt HB3.out B5.out)).mono ?_
              rintro e w6 ⟨rfl, hb6⟩
              have B6 := Lib.hid (Bt B5.out hb6)
              have HT := Lib.hid (show TrT W pt xb h1 h2 q1 q2 q3 q4 (i + 1) u4 w6 from ⟨B, _, by omega, HC.out, HK.out, HO3.out.below (fr_tr pt B) B6.out, HM3.out.below B6.out, Bt HB3.out B6.out, (HD3.out.below B6.out hx3).1⟩)
              clear hb6 B5 NU y1 y2 y3 y4 y5 y6
              go_wp2
              go_meet
              exact HT
        · by_cases hk2 : k = 2
          · subst hk2
            have DC := Lib.hid (dropB_call B u4 h1 h2 wa (RowAt.sl lenBx HM2.out) (by omega))
            have hw := woB_cases HC.out (h1, h2)
            have hls := RowAt.sl lenBx HM2.out
            have k2 : ((2 : Int) == 1) = false := by decide
            obtain ⟨p4, r4, rfl, _, _, _⟩ := hls
            obtain ⟨⟨y1, y2, _, _, _, _⟩, _⟩ := HD.out
            go_wp2_with fail
            refine DC.out.mono ?_
            rintro e w5 ⟨v5, rfl, ho5, hb5⟩
            obtain ⟨p5, r5, rfl, _, _, _⟩ := row_val ho5
            have HO5 : Hid (OO (TrB pt B) (fun b => b = xb ∨ (wa.heap.size ≤ b ∧ b < w5.heap.size)) W.heap.size w5) := Lib.hid (HO2.out.turn (fr_tr pt B) (Tch.of hb5) (fun b e => by
              rcases e with e | e
              · exact ⟨.inl (.inr e), by rw [e]; exact Nat.lt_of_lt_of_le hxa hb5.size⟩
              · exact ⟨.inr (.inr e.1), e.2⟩))
            have HR5 := Lib.hid (own_rowat (Z := fun b => b = xb ∨ (wa.heap.size ≤ b ∧ b < w5.heap.size)) ho5 (fun b f g => .inr ⟨f, g⟩))
            have HB5 := Lib.hid (Bt HB2.out hb5)
            have HD5 := Lib.hid (HD.out.below hb5 hxa)
            have hx5 := Bl hb5 hxa
            have GN := Lib.hid (fun a b w => gone_call a b w)
            clear ho5 hb5 DC HM2 HO2 y1 y2 HD
            obtain ⟨⟨y1, y2, _, _, _, _⟩, _⟩ := HD5.out
            generalize hZ5 : (fun b => b = xb ∨ (wa.heap.size ≤ b ∧ b < w5.heap.size)) = Z5 at *
            have hzx : Z5 xb := by rw [← hZ5]; exact .inl rfl
            clear hZ5
            rcases hw with ⟨hn, hwo⟩ | ⟨b, hmem, hlen⟩
            · have DN := Lib.hid (HO5.out.read (fun M h => dropT_no h h1 h2 hx hn (HE.out.below HB5.out)))
              rw [hwo] at HR5
              rw [hwo]
              go_wp2_with fail
              refine DN.out.mono ?_
              rintro e w6 ⟨rfl, hb6⟩
              have B6 := Lib.hid hb6
              have NU := Lib.hid (num_none (HER.out.below (Bt HB5.out hb6)))
              clear hb6 DN
              go_wp2_with fail
              refine NU.out.mono ?_
              rintro e w7 ⟨rfl, hb7⟩
              have B7 := Lib.hid (Bt B6.out hb7)
              clear hb7 B6 NU
              go_wp2_with fail
              refine (GN.out _ _ _).mono ?_
              rintro e w8 ⟨rfl, rfl⟩
              simp only [if_true]
              have HT := Lib.hid (show TrT W pt xb h1 h2 q1 q2 q3 q4 (i + 1) (.slice p5 B.length r5) w7 from ⟨B, _, by omega, HC.out, HK.out, HO5.out.below (fr_tr pt B) B7.out, HR5.out.below B7.out, Bt HB5.out B7.out, (HD5.out.below B7.out hx5).1⟩)
              clear y1 y2
              go_wp2
              go_meet
              exact HT
            · have DY := Lib.hid (HO5.out.ask (asks_dropT h1 h2 hx hmem (by omega)))
              go_wp2_with fail
              refine DY.out.mono ?_
              rintro e w6 ⟨rfl, hO6, ht6⟩
              have nX : ¬ OffZ Z5 W.heap.size xb := fun e => e.2 hzx
              have HB6 := Lib.hid (HB5.out.trans (OO.tch ht6 HB5.out.size))
              have HM6 := Lib.hid (HR5.out.kept ht6 (fun b e f => f.2 e))
              have HO6 := Lib.hid hO6
              have HD6 := Lib.hid (HD5.out.tch ht6 hx5 nX)
              have hx6 := ht6.lt hx5
              have NU := Lib.hid (num_nil w6)
              clear hO6 ht6 nX DY HO5 HR5 HB5
              go_wp2_with fail
              refine NU.out.mono ?_
              rintro e w7 ⟨rfl, hb7⟩
              have B7 := Lib.hid hb7
              clear hb7 NU
              go_wp2_with fail
              refine (GN.out _ _ _).mono ?_
              rintro e w8 ⟨rfl, rfl⟩
              have hne : ¬ B.length = (woB B (h1, h2)).length := by omega
              simp only [if_neg hne]
              have HT := Lib.hid (show TrT W pt xb h1 h2 q1 q2 q3 q4 (i + 1) (.slice p5 (woB B (h1, h2)).length r5) w7 from ⟨_, _, by omega, once_wo HC.out (h1, h2), fun b hb => HK.out b (mem_woB.1 hb).1, HO6.out.below (fr_tr pt _) B7.out, HM6.out.below B7.out, Bt HB6.out B7.out, (HD6.out.below B7.out hx6).1⟩)
              clear y1 y2
              go_wp2
              go_meet
              exact HT
          · have k1 : (k == 1) = false := by simpa using hk1
            have k2 : (k == 2) = false := by simpa using hk2
            have HT := Lib.hid (show TrT W pt xb h1 h2 q1 q2 q3 q4 (i + 1) u4 wa from ⟨B, _, by omega, HC.out, HK.out, HO2.out, HM2.out, HB2.out, HD.out.1⟩)
            go_wp2
            go_meet
            exact HT
      case rest =>
        obtain ⟨B2, Z2, hB2l, hoB, hkB, hO, hm, hb, y1, y2, y3, y4, y5, y6⟩ := hcut.out
        have HO := Lib.hid hO
        have HB := Lib.hid hb
        have HC2 := Lib.hid hoB
        have HK2 := Lib.hid hkB
        have HM := Lib.hid hm
        have HY := Lib.hid (And.intro y1 (And.intro y2 (And.intro y3 (And.intro y4 (And.intro y5 y6)))))
        have hxc := cell_lt y1
        obtain ⟨wd, rfl⟩ : ∃ wd : World, wd = wc := ⟨_, rfl⟩
        have hls := RowAt.sl lenBx hm
        have HS := Lib.hid hls
        have RM := Lib.hid (fun w' (hb : RowKit.Below wd.heap.size wd w') => rMeeting_call B2 _ q1 q2 q3 q4 w' (hls.below hb) (by omega))
        have HH := Lib.hid (fun w' (hb : RowKit.Below wd.heap.size wd w') => (HO.out.below (fr_tr pt B2) hb).read (fun M h => holds_call h hoB hkB _ (hls.below hb) (by omega) h1 h2 hx))
        have RR := Lib.hid (fun w' => rright_any q1 q2 q3 q4 w')
        rw [rright_okR] at RR
        obtain ⟨p4, r4, rfl, _, _, _⟩ := hls
        clear hO hm hb hoB hkB hcut
        cases hq : okR (q1, q2, q3, q4)
        · rw [hq] at RR
          have MN := Lib.hid (HO.out.read (fun M h => meetT_no h q1 q2 q3 q4 hq (HE.out.below HB.out)))
          have NU := Lib.hid (fun w (hb : RowKit.Below W.heap.size W w) => num_form (HER.out.below hb))
          clear hq RM
          go_wp2_with fail
          refine MN.out.mono ?_
          rintro e w5 ⟨v5, rfl, hs5, hb5⟩
          obtain ⟨p5, c5, rfl, _, _, _⟩ := hs5
          have B5 := Lib.hid hb5
          simp only [List.length_nil]
          replace y1 := Bc hb5 hxc y1
          replace y2 := Bc hb5 hxc y2
          replace y3 := Bc hb5 hxc y3
          replace y4 := Bc hb5 hxc y4
          replace y5 := Bc hb5 hxc y5
          replace y6 := Bc hb5 hxc y6
          have hx5 := cell_lt y1
          clear hb5 MN
          go_wp2_with fail
          refine (RR.out _).mono ?_
          rintro e w6 ⟨rfl, hb6⟩
          have B6 := Lib.hid (Bt B5.out hb6)
          clear hb6 RR B5
          go_wp2_with fail
          refine (NU.out _ (Bt HB.out B6.out)).mono ?_
          rintro e w7 ⟨rfl, hb7⟩
          have B7 := Lib.hid (Bt B6.out hb7)
          clear hb7 B6 NU y1 y2 y3 y4 y5 y6 hx5
          have z1 := Bc B7.out hxc HY.out.1
          have z2 := Bc B7.out hxc HY.out.2.1
          have hz7 := cell_lt z1
          go_wp2_with fail
          refine (HH.out _ B7.out).mono ?_
          rintro e w9 ⟨rfl, hb9⟩
          have B9 := Lib.hid (Bt B7.out hb9)
          have HE1 := Lib.hid (HO.out.below (fr_tr pt B2) B9.out)
          have HE2 := Lib.hid (HM.out.below B9.out)
          have HE3 := Lib.hid (Bt HB.out B9.out)
          clear hb9 z1 z2 hz7 B7 HH
          go_wp2
          go_roundw
          case measure => simp only [intOf]; omega
          case rel => exact ⟨i + 1, B2, Z2, by go_num, by omega, hB2l, HC2.out, HK2.out, HE1.out, HE2.out, HE3.out⟩
        · rw [hq] at RR
          have MC := Lib.hid (HO.out.read (fun M h => meetT_call h q1 q2 q3 q4 hq (by omega)))
          clear hq
          go_wp2_with fail
          refine MC.out.mono ?_
          rintro e w5 ⟨v5, rfl, hs5, hb5⟩
          have HS5 := Lib.hid hs5
          obtain ⟨p5, c5, rfl, _, _, _⟩ := hs5
          have B5 := Lib.hid hb5
          replace y1 := Bc hb5 hxc y1
          replace y2 := Bc hb5 hxc y2
          replace y3 := Bc hb5 hxc y3
          replace y4 := Bc hb5 hxc y4
          replace y5 := Bc hb5 hxc y5
          replace y6 := Bc hb5 hxc y6
          have hx5 := cell_lt y1
          clear hb5 MC
          go_wp2_with fail
          refine (RR.out _).mono ?_
          rintro e w6 ⟨rfl, hb6⟩
          have B6 := Lib.hid (Bt B5.out hb6)
          replace y1 := Bc hb6 hx5 y1
          replace y2 := Bc hb6 hx5 y2
          replace y3 := Bc hb6 hx5 y3
          replace y4 := Bc hb6 hx5 y4
          replace y5 := Bc hb6 hx5 y5
          replace y6 := Bc hb6 hx5 y6
          have hx6 := cell_lt y1
          have HS6 := Lib.hid (HS5.out.below hb6)
          clear hb6 RR B5 HS5 hx5
          go_wp2_with fail
          refine (RM.out _ B6.out).mono ?_
          rintro e w8 ⟨v8, rfl, ho8, hb8⟩
          have SC := Lib.hid (same_call _ _ _ v8 w8 (HS6.out.below hb8) (row_sl lenH ho8 rfl))
          have B8 := Lib.hid (Bt B6.out hb8)
          clear hb8 RM B6 HS6 ho8 y1 y2 y3 y4 y5 y6 hx6
          go_wp2_with fail
          refine SC.out.mono ?_
          rintro e w7 ⟨rfl, hg7⟩
          have B7 := Lib.hid (Bt B8.out hg7.below)
          simp only [decide_true]
          clear hg7 SC B8
          have z1 := Bc B7.out hxc HY.out.1
          have z2 := Bc B7.out hxc HY.out.2.1
          have hz7 := cell_lt z1
          go_wp2_with fail
          refine (HH.out _ B7.out).mono ?_
          rintro e w9 ⟨rfl, hb9⟩
          have B9 := Lib.hid (Bt B7.out hb9)
          have HE1 := Lib.hid (HO.out.below (fr_tr pt B2) B9.out)
          have HE2 := Lib.hid (HM.out.below B9.out)
          have HE3 := Lib.hid (Bt HB.out B9.out)
          clear hb9 z1 z2 hz7 B7 HH
          go_wp2
          go_roundw
          case measure => simp only [intOf]; omega
          case rel => exact ⟨i + 1, B2, Z2, by go_num, by omega, hB2l, HC2.out, HK2.out, HE1.out, HE2.out, HE3.out⟩
    · have hin : i = l.length := by omega
      subst hin
      clear hlt
      go_wp2
      go_ret
      exact ⟨rfl, HB.out⟩
end Go.Proofs.YtlnncnbahmgpfaaGreatDoor

/-
  Whatever script it is given, QuadPlays answers true and leaves its arguments as they were. Conditions: the errors' variables that it names read as the program's text lays them (the card ties them to that text).
-/
namespace Go.Proofs.YtlnncnbahmgpfaaGreatDoor
set_option linter.unusedSimpArgs false
set_option linter.unusedVariables false
open Go.ChangeShapes Go.WideShapes Go.ChangeAt Go.RowKit Go.Joins

set_option maxRecDepth 100000 in
theorem quadPlays_lifted (os : Os) (started : os.Started) (H : Type) (enc : TypeId × Value → H) :
    ReturnsInHanded {} Tryz.checked os 3 .any (fun w args => (Rows.quadPlaysSpec.pre enc Tryz.prog Tryz.f3 [] false w args ∧ laidMetH Tryz.prog Rows.quadPlaysRow.laid w) ∧ sizedMet enc Tryz.prog Tryz.f3 (OpenSpec.ofChange Rows.quadPlaysSpec) false w args)
      (Rows.quadPlaysSpec.post enc Tryz.prog Tryz.f3 false true false false) := by
  refine returnsInHanded_of_change_and (C := Tryz.checked) (X := fun w _ => laidMetH Tryz.prog Rows.quadPlaysRow.laid w) (fun _ _ _ hh h => h.of_heap hh) own started (by kernel_rfl) Tryz.func3
    (ChangeSpec.witness_shaped (enc := enc) (C := Tryz.checked) (os := os) (X := fun w _ => laidMetH Tryz.prog Rows.quadPlaysRow.laid w) false (World.doorLaid Tryz.prog 199 os) #[.slice none 0 0] 8 rfl (World.shaped_of_RefB (by kernel_rfl) (by kernel_rfl)) (by kernel_rfl) (by kernel_rfl) (by kernel_rfl) (laidMetH_of_parts3 (fuel := 8) (laidMet_of_run' 8 (by kernel_rfl) (by kernel_rfl)) (by kernel_rfl) (by kernel_rfl))) ?_
  intro W base args ds gs before hval0 hW _ _ hL _
  have hval : ∀ (j : Nat) t v, Tryz.f3.params[j]? = some t → args[j]? = some v → Value.okWide Tryz.prog W .any base t v := hval0
  have hW' := hW
  obtain ⟨p, q, hA0, hV, rfl, hfz, hnd⟩ := hW
  have hA : DataW.TrodAll enc Tryz.prog W 0 (fun _ => true) true Tryz.f3.params.toList args.toList ds p := hA0
  rw [Tryz.params3] at hA hval
  obtain ⟨v0, vs0, d0, ds0, p0, q0, hargs, rfl, rfl, h0, r0⟩ := trodAll_cons hA
  obtain ⟨rfl, rfl, rfl⟩ := trodAll_nil r0
  obtain rfl : args = #[v0] := by cases args; simp_all
  obtain ⟨l0, hl0, ho0⟩ := open_opq (hval 0 22 v0 rfl rfl) h0
  clear hA0 hval0
  have hL' : laidMet Tryz.prog Rows.quadPlaysRow.laid W := by
    have h := hL
    rw [MakeChecks.laidMetH_plain _ _ _ (by kernel_rfl)] at h
    exact h
  have hsh := shape_of (L := Rows.quadPlaysRow.laid) (by kernel_rfl) (by
    intro x hx
    simp only [Rows.quadPlaysRow] at hx
    repeat (rcases List.mem_cons.1 hx with rfl | hx; · exact ⟨_, rfl⟩)
    exact absurd hx (by simp))
  obtain ⟨A, hE⟩ := errs_of hL' hsh (by simp [Rows.quadPlaysRow]) (by simp only [Rows.quadPlaysRow, errN]; decide)
  refine (quadPlays_walk l0 v0 W hl0 ho0 hE).mono fun e W' ⟨he, hb⟩ => ?_
  subst he
  exact ⟨_, rfl, law_post laidOut (by kernel_rfl) rfl (by kernel_rfl) Tryz.underlying4 (fun ds hd => by match ds, hd with | [_], _ => rfl) hW' hb⟩

theorem quadPlays_row : Rows.QuadPlaysSaid :=
  OpenClaim.holds_of_wide 3 Tryz.f3 rfl rfl rfl rfl rfl rfl rfl ⟨rfl, rfl, rfl, rfl, rfl⟩ rfl rfl rfl rfl rfl (by kernel_rfl) Tryz.func3 (by kernel_rfl)
    (of_decide_eq_true (by kernel_rfl)) (by unfold Func.isWrapper; first | (rw [if_pos (by decide +kernel)]; kernel_rfl) | (rw [if_neg (by decide +kernel)]; exact ⟨rfl, rfl⟩))
    (fun os started H enc _ => quadPlays_lifted os started H enc)

theorem quadPlays_holds : Rows.QuadPlaysCardSaid :=
  Claim7.holds_tied_plain_at .later [] Rows.quadPlaysCard.laidKinds true Rows.quadPlaysCard.stood.harness true
    quadPlays_row (fun _ h => by cases h) (by kernel_rfl) (fun _ h => by cases h) quadPlays_row_tie rfl ⟨rfl, rfl⟩ (by kernel_rfl) rfl
    (fun f fn hf hfn => by
      obtain rfl : f = 3 := Option.some.inj ((show Tryz.prog.funcNamed "paddock/paddocklaw12.QuadPlays" = some 3 by kernel_rfl).symm.trans hf) |>.symm
      obtain rfl : fn = Tryz.f3 := (Option.some.inj (Tryz.func3.symm.trans hfn)).symm
      exact ⟨by kernel_rfl, fun j t ht => by
        rw [Tryz.params3] at ht
        have hm : t ∈ [22] := by
          have := Array.mem_of_getElem? ht
          simp at this ⊢
          first | omega | (rcases this with h | h | h <;> simp [h])
        have hall : ([22].all fun u => !Tryz.prog.wantsStandIn u) = true := by kernel_rfl
        exact (show Tryz.prog.wantsStandIn t = false by simpa using List.all_eq_true.1 hall t hm)⟩)
    (by kernel_rfl)
#print axioms quadPlays_holds
end Go.Proofs.YtlnncnbahmgpfaaGreatDoor
