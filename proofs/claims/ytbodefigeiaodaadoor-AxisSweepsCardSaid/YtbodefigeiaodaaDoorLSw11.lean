/-
  The walk of AxisSweeps.
-/
import Derived.Test.YtbodefigeiaodaaDoorRe11
import Derived.Test.YtbodefigeiaodaaDoorPs11
import Derived.Test.YtbodefigeiaodaaDoorErrK
import Derived.Test.YtbodefigeiaodaaDoorSp11
import Derived.Deep.CutBlock
import Derived.Deep.DeepCutAuto
namespace Go.Proofs.YtbodefigeiaodaaDoor
set_option linter.unusedSimpArgs false
set_option linter.unusedVariables false
open Go.RowKit Go.Sort Go.Lib Go.Shelf

theorem cells7 {w : World} {b : Nat} {t : TypeId} {a1 a2 a3 a4 a5 a6 a7 : Value} (h : w.heap[b]? = some (.cells #[a1, a2, a3, a4, a5, a6, a7] t (0, 0))) :
    w.cell? ⟨b, 0, none⟩ = some a1 ∧ w.cell? ⟨b, 1, none⟩ = some a2 ∧ w.cell? ⟨b, 2, none⟩ = some a3 ∧ w.cell? ⟨b, 3, none⟩ = some a4 ∧ w.cell? ⟨b, 4, none⟩ = some a5 ∧ w.cell? ⟨b, 5, none⟩ = some a6 ∧ w.cell? ⟨b, 6, none⟩ = some a7 := by
  refine ⟨?_, ?_, ?_, ?_, ?_, ?_, ?_⟩ <;> simp [World.cell?, h]
theorem SwAt.oks {w : World} {M : Nat → Prop} {ps : Nat} {B : List Bxd} (h : SwAt w M ps B) : ∀ b ∈ B, HdOk b.1 := by
  obtain ⟨px, py, Mx, My, _, _, _, ⟨_, _, _, _, _, _, _, hk⟩, _⟩ := h
  exact fun b hb => hk (xsp b) (List.mem_map.2 ⟨b, hb, rfl⟩)
/-- The state behind a call: the sweep, the reference's row; the call's own block. -/
def SwT (W : World) (ps xb : Nat) (h1 h2 : Int) (n : Nat) (vm : Value) (wx : World) : Prop := ∃ (B : List Bxd) (Z : Nat → Prop), B.length ≤ n ∧ OnceB B ∧ OO (SwB ps B) Z W.heap.size wx ∧ RowAt encBx 64 6 wx Z vm B ∧ RowKit.Below W.heap.size W wx ∧ wx.cell? ⟨xb, 1, none⟩ = some (.int .i64 h1) ∧ wx.cell? ⟨xb, 2, none⟩ = some (.int .i64 h2)
theorem own_rowat {α : Type} {enc : α → List Value} {et k : Nat} {w : World} {base : Nat} {v : Value} {l : List α} {Z : Nat → Prop} (h : w.ownsRow base et k v l.length (flat enc l)) (hz : ∀ b, base ≤ b → b < w.heap.size → Z b) : RowAt enc et k w Z v l := ⟨row_mono h (Nat.zero_le _), fun g hg => hz g (row_base0 h hg) (row_lt h hg)⟩
set_option maxHeartbeats 4000000 in
set_option maxRecDepth 100000 in
theorem axisSweeps_walk (l : List Opw) (v : Value) (W : World) (hv : Sl encO W v l) (ho : ∀ x ∈ l, HdOk x.2.1) {A : Nat → Addr} (hE : Errs W A) :
    Calls Tryd.prog 4 #[v] W fun e w' => e = .returned (.bool true) ∧ RowKit.Below W.heap.size W w' := by
  obtain ⟨p0, c0, rfl, v1, v2, v3⟩ := hv
  unfold maxLen at v2
  have HV := Lib.hid v3
  have HOK := Lib.hid ho
  have HER := Lib.hid hE
  have hN : W.cell? ⟨2, 0, none⟩ = some (.iface 171 (.pointer (some (A 2)))) := hE.cell 2 (by omega)
  have hF : W.cell? ⟨6, 0, none⟩ = some (.iface 171 (.pointer (some (A 6)))) := hE.cell 6 (by omega)
  have HE := Lib.hid (And.intro hN hF)
  have hel := cell_lt hN
  have hfl := cell_lt hF
  have AL := Lib.hid (alive_any W _ _ hN)
  have NS := Lib.hid newS_call
  unfold psP at NS
  clear v3 ho hE hN hF
  by_cases h1 : l.length ≤ 60
  case neg =>
    have hz : (l.length : Int) > 60 := by omega
    go_enter Tryd.func4, Tryd.ntmps4
    go_wp2_with fail
    refine AL.out.mono ?_
    rintro e w1 ⟨rfl, hb1⟩
    go_wp2
    go_ret
    exact ⟨rfl, hb1⟩
  have hz : ¬ (l.length : Int) > 60 := by omega
  go_enter Tryd.func4, Tryd.ntmps4
  go_wp2_with fail
  refine AL.out.mono ?_
  rintro e w1 ⟨rfl, hb1⟩
  have B1 := Lib.hid hb1
  clear hb1 AL
  go_wp2_with fail
  refine (NS.out _).mono ?_
  rintro e w2 ⟨ps, rfl, hp2, hb2⟩
  have O2 := Lib.hid (OO.new (P := SwB ps []) (Z := NoZ) (base := W.heap.size) hp2 B1.out.size hb2.size (fun b e => e.elim))
  have B2 := Lib.hid (Bt B1.out hb2)
  clear hp2 hb2
  go_wp2
  go_loopw [4, 24] (fun vm u wr => ∃ (i : Nat) (B : List Bxd) (Z : Nat → Prop), u = .int .i64 i ∧ i ≤ l.length ∧ B.length ≤ i ∧ OnceB B ∧ OO (SwB ps B) Z W.heap.size wr ∧ RowAt encBx 64 6 wr Z vm B ∧ RowKit.Below W.heap.size W wr) (fun _ u _ => l.length - (intOf u).toNat)
  case atStart => exact ⟨0, [], fun b => b = w2.heap.size, rfl, Nat.zero_le _, Nat.le_refl _, List.nodup_nil, O2.out.turn (fr_sw ps []) (Tch.of (Ba (Below.refl _ w2) _)) (fun b e => ⟨.inr (.inr (Nat.le_of_eq e.symm)), by rw [e]; simp⟩), row_empty w2 64 6 _ rfl, Bt B2.out (Ba (Below.refl _ w2) _)⟩
  case round =>
    clear O2 B1 B2
    obtain ⟨i, B, Z, rfl, hi, hBl, hoB, hO, hm, hb⟩ := hrel
    have HO := Lib.hid hO
    have HB := Lib.hid hb
    have HC := Lib.hid hoB
    have HM := Lib.hid hm
    clear hO hb hoB hm
    by_cases hlt : i < l.length
    · obtain ⟨g, o, rfl, hg1, hcs⟩ := HV.out (by omega)
      obtain ⟨c1, c2, c3, c4, c5, c6, c7⟩ := atO hcs hlt
      replace c1 := Bc HB.out hg1 c1
      replace c2 := Bc HB.out hg1 c2
      replace c3 := Bc HB.out hg1 c3
      replace c4 := Bc HB.out hg1 c4
      replace c5 := Bc HB.out hg1 c5
      replace c6 := Bc HB.out hg1 c6
      replace c7 := Bc HB.out hg1 c7
      have hx : HdOk l[i]!.2.1 := HOK.out _ (by rw [getElem!_pos l i hlt]; exact List.getElem_mem hlt)
      generalize l[i]! = x at *
      obtain ⟨k, ⟨h1, h2⟩, x1, x2, x3, x4⟩ := x
      dsimp only at c1 c2 c3 c4 c5 c6 c7 hx
      clear hcs
      have bA := Ba (Below.refl _ wr) (.cells #[.int .i64 k, .int .i64 h1, .int .i64 h2, .int .i64 x1, .int .i64 x2, .int .i64 x3, .int .i64 x4] 32)
      have HO2 := Lib.hid (HO.out.turn (fr_sw ps B) (Tch.of bA) (Z' := fun b => Z b ∨ b = wr.heap.size) (fun b e => by
        rcases e with e | e
        · exact ⟨.inl e, Nat.lt_of_lt_of_le (HO.out.zlt b e) bA.size⟩
        · exact ⟨.inr (.inr (Nat.le_of_eq e.symm)), by rw [e]; simp⟩))
      have HM2 := Lib.hid ((HM.out.below bA).mono (M' := fun b => Z b ∨ b = wr.heap.size) (fun b e => .inl e))
      have HD := Lib.hid (cells7 (heap_alloc_new wr (.cells #[.int .i64 k, .int .i64 h1, .int .i64 h2, .int .i64 x1, .int .i64 x2, .int .i64 x3, .int .i64 x4] 32)))
      have HB2 := Lib.hid (Bt HB.out bA)
      have HBs := Lib.hid HB.out.size
      clear bA
      obtain ⟨wa, hwa⟩ : ∃ wa, wa = wr.alloc (.cells #[.int .i64 k, .int .i64 h1, .int .i64 h2, .int .i64 x1, .int .i64 x2, .int .i64 x3, .int .i64 x4] 32) := ⟨_, rfl⟩
      have hxa : wr.heap.size < wa.heap.size := by rw [hwa]; simp
      rw [← hwa] at HO2 HM2 HD HB2
      go_upto_block 2 with fail
      rw [← hwa]
      clear hwa c1 c2 c3 c4 c5 c6 c7 HO HM HB
      have HXB := Lib.hid (show W.heap.size ≤ wr.heap.size from HBs.out)
      clear HBs
      generalize wr.heap.size = xb at *
      go_cut [4] (fun vm wx => Hid (SwT W ps xb h1 h2 (i + 1) vm wx))
      case first =>
        by_cases hk1 : k = 1
        · subst hk1
          have RR := Lib.hid (fun w => rright_any x1 x2 x3 x4 w)
          rw [rright_boxB] at RR
          have z1 := HD.out.2.1
          have z2 := HD.out.2.2.1
          have z3 := HD.out.2.2.2.1
          have z4 := HD.out.2.2.2.2.1
          have z5 := HD.out.2.2.2.2.2.1
          have z6 := HD.out.2.2.2.2.2.2
          cases hbx : boxB (x1, x2, x3, x4)
          · rw [hbx] at RR
            have PN := Lib.hid (putS_no (ps := ps) 0 h1 h2 x1 x2 x3 x4 hbx 171 (.pointer (some (A 6))) (Bc HB2.out hfl HE.out.2))
            go_wp2_with fail
            refine (PN.out).mono ?_
            rintro e w5 ⟨rfl, hb5⟩
            replace z1 := Bc hb5 hxa z1
            replace z2 := Bc hb5 hxa z2
            replace z3 := Bc hb5 hxa z3
            replace z4 := Bc hb5 hxa z4
            replace z5 := Bc hb5 hxa z5
            replace z6 := Bc hb5 hxa z6
            have hx5 := cell_lt z1
            have B5 := Lib.hid hb5
            clear hb5 PN
            go_wp2_with fail
            refine (RR.out _).mono ?_
            rintro e w6 ⟨rfl, hb6⟩
            have B6 := Lib.hid (Bt B5.out hb6)
            have NF := Lib.hid (num_form (HER.out.below (Bt HB2.out B6.out)))
            clear hb6 B5
            go_wp2_with fail
            refine NF.out.mono ?_
            rintro e w7 ⟨rfl, hb7⟩
            have B7 := Lib.hid (Bt B6.out hb7)
            clear hb7 B6 NF RR
            have HT := Lib.hid (show SwT W ps xb h1 h2 (i + 1) u4 w7 from ⟨B, _, by omega, HC.out, HO2.out.below (fr_sw ps B) B7.out, HM2.out.below B7.out, Bt HB2.out B7.out, Bc B7.out hxa HD.out.2.1, Bc B7.out hxa HD.out.2.2.1⟩)
            clear z1 z2 z3 z4 z5 z6
            go_wp2
            go_meet
            exact HT
          · rw [hbx] at RR
            have AP := Lib.hid (HO2.out.ask (asks_putS (base := W.heap.size) h1 h2 x1 x2 x3 x4 hx hbx (by omega) (Bc HB2.out hel HE.out.1) hel))
            go_wp2_with fail
            refine AP.out.mono ?_
            rintro e w5 ⟨rfl, hO5, ht5⟩
            have nX : ¬ OffZ (fun b => Z b ∨ b = xb) W.heap.size xb := fun e => e.2 (.inr rfl)
            replace z1 := ht5.cell hxa nX z1
            replace z2 := ht5.cell hxa nX z2
            replace z3 := ht5.cell hxa nX z3
            replace z4 := ht5.cell hxa nX z4
            replace z5 := ht5.cell hxa nX z5
            replace z6 := ht5.cell hxa nX z6
            have hx5 := cell_lt z1
            have HB5 := Lib.hid (HB2.out.trans (OO.tch ht5 HB2.out.size))
            have HM5 := Lib.hid (HM2.out.kept ht5 (fun b e f => f.2 e))
            have HO5 := Lib.hid hO5
            have HD5 := Lib.hid (And.intro z1 (And.intro z2 (And.intro z3 (And.intro z4 (And.intro z5 z6)))))
            clear hO5 ht5 AP nX HM2 HO2
            go_wp2_with fail
            refine (RR.out _).mono ?_
            rintro e w6 ⟨rfl, hb6⟩
            replace z1 := Bc hb6 hx5 z1
            replace z2 := Bc hb6 hx5 z2
            replace z3 := Bc hb6 hx5 z3
            replace z4 := Bc hb6 hx5 z4
            replace z5 := Bc hb6 hx5 z5
            replace z6 := Bc hb6 hx5 z6
            have hx6 := cell_lt z1
            have B6 := Lib.hid hb6
            have PB := Lib.hid (putB_call B u4 h1 h2 x1 x2 x3 x4 w6 ((RowAt.sl lenBx HM5.out).below hb6) (by omega))
            clear hb6 RR
            go_wp2_with fail
            refine PB.out.mono ?_
            rintro e w7 ⟨v7, rfl, ho7, hb7⟩
            have B7 := Lib.hid (Bt B6.out hb7)
            have hs6 := B6.out.size
            have HT := Lib.hid (show SwT W ps xb h1 h2 (i + 1) v7 w7 from by
              have hlp := put_len B (h1, h2) (x1, x2, x3, x4)
              refine ⟨_, fun b => b = xb ∨ (w5.heap.size ≤ b ∧ b < w7.heap.size), by omega, once_put HC.out (h1, h2) (x1, x2, x3, x4), HO5.out.turn (fr_sw ps _) (Tch.of B7.out) (fun b e => ?_), own_rowat ho7 (fun b f g => .inr ⟨by omega, g⟩), Bt HB5.out B7.out, Bc B7.out hx5 HD5.out.1, Bc B7.out hx5 HD5.out.2.1⟩
              rcases e with e | e
              · exact ⟨.inl (.inr e), by rw [e]; exact Nat.lt_of_lt_of_le hx5 B7.out.size⟩
              · exact ⟨.inr (.inr e.1), e.2⟩)
            clear z1 z2 z3 z4 z5 z6 ho7 hb7 PB
            go_wp2
            go_meet
            exact HT
        · by_cases hk2 : k = 2
          · subst hk2
            have DC := Lib.hid (dropB_call B u4 h1 h2 wa (RowAt.sl lenBx HM2.out) (by omega))
            have hw := woB_cases HC.out (h1, h2)
            have hls := RowAt.sl lenBx HM2.out
            have q2 : ((2 : Int) == 1) = false := by decide
            obtain ⟨q4, r4, rfl, _, _, _⟩ := hls
            have z1 := HD.out.2.1
            have z2 := HD.out.2.2.1
            go_wp2_with fail
            refine DC.out.mono ?_
            rintro e w5 ⟨v5, rfl, ho5, hb5⟩
            obtain ⟨q5, r5, rfl, _, _, _⟩ := row_val ho5
            have HO5 : Hid (OO (SwB ps B) (fun b => b = xb ∨ (wa.heap.size ≤ b ∧ b < w5.heap.size)) W.heap.size w5) := Lib.hid (HO2.out.turn (fr_sw ps B) (Tch.of hb5) (fun b e => by
              rcases e with e | e
              · exact ⟨.inl (.inr e), by rw [e]; exact Nat.lt_of_lt_of_le hxa hb5.size⟩
              · exact ⟨.inr (.inr e.1), e.2⟩))
            have HR5 := Lib.hid (own_rowat (Z := fun b => b = xb ∨ (wa.heap.size ≤ b ∧ b < w5.heap.size)) ho5 (fun b f g => .inr ⟨f, g⟩))
            have HB5 := Lib.hid (Bt HB2.out hb5)
            replace z1 := Bc hb5 hxa z1
            replace z2 := Bc hb5 hxa z2
            have hx5 := cell_lt z1
            have HD5 := Lib.hid (And.intro z1 z2)
            have GN := Lib.hid (fun a b w => gone_call a b w)
            clear ho5 hb5 DC HM2 HO2
            generalize hZ5 : (fun b => b = xb ∨ (wa.heap.size ≤ b ∧ b < w5.heap.size)) = Z5 at *
            have hzx : Z5 xb := by rw [← hZ5]; exact .inl rfl
            clear hZ5
            rcases hw with ⟨hn, hwo⟩ | ⟨b, hmem, hlen⟩
            · have DN := Lib.hid (HO5.out.read (fun M h => dropS_no h h1 h2 hx hn _ _ (Bc HB5.out hel HE.out.1)))
              rw [hwo] at HR5
              rw [hwo]
              go_wp2_with fail
              refine DN.out.mono ?_
              rintro e w6 ⟨rfl, hb6⟩
              have B6 := Lib.hid hb6
              have NU := Lib.hid (num_none (HER.out.below (Bt HB5.out hb6)))
              clear hb6 DN
              go_wp2_with fail
              refine NU.out.mono ?_
              rintro e w7 ⟨rfl, hb7⟩
              have B7 := Lib.hid (Bt B6.out hb7)
              clear hb7 B6 NU
              go_wp2_with fail
              refine (GN.out _ _ _).mono ?_
              rintro e w8 ⟨rfl, rfl⟩
              simp only [if_true]
              have HT := Lib.hid (show SwT W ps xb h1 h2 (i + 1) (.slice q5 B.length r5) w7 from ⟨B, _, by omega, HC.out, HO5.out.below (fr_sw ps B) B7.out, HR5.out.below B7.out, Bt HB5.out B7.out, Bc B7.out hx5 HD5.out.1, Bc B7.out hx5 HD5.out.2⟩)
              clear z1 z2
              go_wp2
              go_meet
              exact HT
            · obtain ⟨b1, b2, b3, b4⟩ := b
              have DY := Lib.hid (HO5.out.ask (asks_dropS h1 h2 hx hmem (by omega)))
              go_wp2_with fail
              refine DY.out.mono ?_
              rintro e w6 ⟨rfl, hO6, ht6⟩
              have nX : ¬ OffZ Z5 W.heap.size xb := fun e => e.2 hzx
              have HB6 := Lib.hid (HB5.out.trans (OO.tch ht6 HB5.out.size))
              have HM6 := Lib.hid (HR5.out.kept ht6 (fun b e f => f.2 e))
              have HO6 := Lib.hid hO6
              replace z1 := ht6.cell hx5 nX HD5.out.1
              replace z2 := ht6.cell hx5 nX HD5.out.2
              have hx6 := cell_lt z1
              have HD6 := Lib.hid (And.intro z1 z2)
              have NU := Lib.hid (num_nil w6)
              clear hO6 ht6 nX DY HO5 HR5 HB5
              go_wp2_with fail
              refine NU.out.mono ?_
              rintro e w7 ⟨rfl, hb7⟩
              have B7 := Lib.hid hb7
              clear hb7 NU
              go_wp2_with fail
              refine (GN.out _ _ _).mono ?_
              rintro e w8 ⟨rfl, rfl⟩
              have hne : ¬ B.length = (woB B (h1, h2)).length := by omega
              simp only [if_neg hne]
              have HT := Lib.hid (show SwT W ps xb h1 h2 (i + 1) (.slice q5 (woB B (h1, h2)).length r5) w7 from ⟨_, _, by omega, once_wo HC.out (h1, h2), HO6.out.below (fr_sw ps _) B7.out, HM6.out.below B7.out, Bt HB6.out B7.out, Bc B7.out hx6 HD6.out.1, Bc B7.out hx6 HD6.out.2⟩)
              clear z1 z2
              go_wp2
              go_meet
              exact HT
          · have q1 : (k == 1) = false := by simpa using hk1
            have q2 : (k == 2) = false := by simpa using hk2
            have HT := Lib.hid (show SwT W ps xb h1 h2 (i + 1) u4 wa from ⟨B, _, by omega, HC.out, HO2.out, HM2.out, HB2.out, HD.out.2.1, HD.out.2.2.1⟩)
            go_wp2
            go_meet
            exact HT
      case rest =>
        obtain ⟨B2, Z2, hB2l, hoB, hO, hm, hb, z1, z2⟩ := hcut.out
        have HO := Lib.hid hO
        have HB := Lib.hid hb
        have HC2 := Lib.hid hoB
        have HM := Lib.hid hm
        have HDX := Lib.hid (And.intro z1 z2)
        have hxc := cell_lt z1
        have HOKS := Lib.hid (SwAt.oks hO.choose_spec.1)
        have hls := RowAt.sl lenBx hm
        have BP := Lib.hid (boxPairs_call B2 _ wc hls (by omega))
        obtain ⟨q4, r4, rfl, ql1, ql2, ql3⟩ := hls
        unfold maxLen at ql2
        have HQ := Lib.hid ql3
        obtain ⟨wd, rfl⟩ : ∃ wd : World, wd = wc := ⟨_, rfl⟩
        have PS := Lib.hid (fun (w' : World) (hb : RowKit.Below wd.heap.size wd w') => (HO.out.below (fr_sw ps B2) hb).read (fun M h => pairsS_call h (by omega)))
        have LN := Lib.hid (fun (w' : World) (hb : RowKit.Below wd.heap.size wd w') => (HO.out.below (fr_sw ps B2) hb).read (fun M h => lenS_call h))
        have MT := Lib.hid (fun (w' : World) (hb : RowKit.Below wd.heap.size wd w') (a b : Hd) (ha : HdOk a) (hc : HdOk b) => (HO.out.below (fr_sw ps B2) hb).read (fun M h => meetS_call h a.1 a.2 b.1 b.2 ha hc))
        have hpl : (pairsB B2).length ≤ 10000 := by
          have h1 := srt_len ltP (rightOnes (allX B2))
          have h2 := right_len (allX B2)
          have h3 := allX_len (B := B2) (by omega)
          unfold pairsB
          omega
        clear hO hm hb hoB ql3 hcut
        go_wp2_with fail
        refine BP.out.mono ?_
        rintro e w5 ⟨v5, rfl, ho5, hb5⟩
        have S5 := Lib.hid (row_sl lenP ho5 rfl)
        obtain ⟨p5, c5, rfl, y1, y2, _⟩ := row_val ho5
        unfold maxLen at y2
        have B5 := Lib.hid hb5
        clear ho5 hb5 BP
        go_wp2_with fail
        refine (LN.out _ B5.out).mono ?_
        rintro e w6 ⟨rfl, rfl⟩
        go_wp2_with fail
        refine (PS.out _ B5.out).mono ?_
        rintro e w6 ⟨v6, rfl, hw6, hb6⟩
        have SP := Lib.hid (samePairs_call _ _ _ _ w6 (hw6.sl lenP) (S5.out.below hb6))
        have B6 := Lib.hid (Bt B5.out hb6)
        have S6 := Lib.hid (S5.out.below hb6)
        clear hw6 hb6 PS LN S5 B5
        go_wp2_with fail
        refine SP.out.mono ?_
        rintro e w7 ⟨rfl, hg7⟩
        have B7 := Lib.hid (Bt B6.out hg7.below)
        have S7 := Lib.hid (S6.out.below hg7.below)
        clear hg7 SP S6 B6
        simp only [decide_true]
        have HL := Lib.hid (show ∀ x o : Hd, metB (pairsB B2) x o (pairsB B2).length = meetB B2 x o from fun x o => metB_end B2 x o)
        generalize pairsB B2 = L at *
        obtain ⟨p6, c6, e6, _, _, sl3⟩ := S7.out
        obtain ⟨rfl, rfl⟩ : p5 = p6 ∧ c5 = c6 := by simpa using e6
        have HS := Lib.hid sl3
        clear sl3 S7 e6
        go_wp2
        go_loopw [88] (fun u wr => ∃ j : Nat, u = .int .i64 j ∧ j ≤ B2.length ∧ RowKit.Below w7.heap.size w7 wr) (fun u _ => B2.length - (intOf u).toNat)
        case atStart => exact ⟨0, rfl, Nat.zero_le _, Below.refl _ _⟩
        case round =>
          obtain ⟨j, rfl, hj, hb⟩ := hrel
          have HBj := Lib.hid hb
          clear hb
          by_cases hjl : j < B2.length
          · obtain ⟨g, o, rfl, hg1, hcs⟩ := HQ.out (by omega)
            obtain ⟨c1, c2, c3, c4, c5', c6'⟩ := atBx hcs hjl
            have hbt := Bt B7.out HBj.out
            replace c1 := Bc hbt hg1 c1
            replace c2 := Bc hbt hg1 c2
            replace c3 := Bc hbt hg1 c3
            replace c4 := Bc hbt hg1 c4
            replace c5' := Bc hbt hg1 c5'
            replace c6' := Bc hbt hg1 c6'
            have hxo : HdOk B2[j]!.1 := HOKS.out _ (by rw [getElem!_pos B2 j hjl]; exact List.getElem_mem hjl)
            generalize B2[j]! = y at *
            obtain ⟨⟨y1', y2'⟩, y3, y4, y5, y6⟩ := y
            dsimp only at c1 c2 c3 c4 c5' c6' hxo
            have hgr : g < wr.heap.size := cell_lt c1
            clear hcs hbt
            obtain ⟨wk, hwk⟩ : ∃ wk, wk = wr.alloc (.cells #[.int .i64 y1', .int .i64 y2', .int .i64 y3, .int .i64 y4, .int .i64 y5, .int .i64 y6] 64) := ⟨_, rfl⟩
            have HK := Lib.hid (show RowKit.Below w7.heap.size w7 wk by rw [hwk]; exact Bt HBj.out (Ba (Below.refl _ wr) _))
            have HY := Lib.hid (show wk.cell? ⟨wr.heap.size, 0, none⟩ = some (.int .i64 y1') ∧ wk.cell? ⟨wr.heap.size, 1, none⟩ = some (.int .i64 y2') from by rw [hwk]; exact ⟨(cells6 (heap_alloc_new wr _)).1, (cells6 (heap_alloc_new wr _)).2.1⟩)
            have HWK := Lib.hid hwk
            clear hwk
            go_wp2_with fail
            rw [← HWK.out]
            clear HWK c1 c2 c3 c4 c5' c6'
            have HSY := Lib.hid HBj.out.size
            clear HBj
            generalize wr.heap.size = yb at *
            go_loopw [12, 94] (fun s12 u wr => ∃ i2 : Nat, u = .int .i64 i2 ∧ i2 ≤ L.length ∧ s12 = .bool (metB L (y1', y2') (h1, h2) i2) ∧ RowKit.Below wk.heap.size wk wr) (fun _ u _ => L.length - (intOf u).toNat)
            case atStart => exact ⟨0, rfl, Nat.zero_le _, rfl, Below.refl _ _⟩
            case round =>
              obtain ⟨i2, rfl, hi2, rfl, hb⟩ := hrel
              have HBr := Lib.hid hb
              have hyk := cell_lt HY.out.1
              have yc1 := Bc hb hyk HY.out.1
              have yc2 := Bc hb hyk HY.out.2
              have hyr := cell_lt yc1
              have hxd := Bt (Bt B7.out HK.out) hb
              have xc1 := Bc hxd hxc HDX.out.1
              have xc2 := Bc hxd hxc HDX.out.2
              have hxr := cell_lt xc1
              clear hb hyk
              by_cases hit : i2 < L.length
              · obtain ⟨gp, op, rfl, hgp, hcp⟩ := HS.out (by omega)
                obtain ⟨f1, f2, f3, f4⟩ := atP hcp hit
                replace f1 := Bc (Bt HK.out HBr.out) hgp f1
                replace f2 := Bc (Bt HK.out HBr.out) hgp f2
                replace f3 := Bc (Bt HK.out HBr.out) hgp f3
                replace f4 := Bc (Bt HK.out HBr.out) hgp f4
                have st := metB_step hit (y1', y2') (h1, h2)
                generalize L[i2]! = p at *
                obtain ⟨⟨p1, p2⟩, p3, p4⟩ := p
                dsimp only at f1 f2 f3 f4 st
                have eA : ∀ w, Sem.run Tryd.prog (binOp .eql 28 (.agg #[.int .i64 p1, .int .i64 p2]) (.agg #[.int .i64 y1', .int .i64 y2'])) w = .ok (.bool (decide (((p1, p2) : Hd) = (y1', y2')))) w := fun w => eqH_run p1 p2 y1' y2' w
                have eB : ∀ w, Sem.run Tryd.prog (binOp .eql 28 (.agg #[.int .i64 p3, .int .i64 p4]) (.agg #[.int .i64 h1, .int .i64 h2])) w = .ok (.bool (decide (((p3, p4) : Hd) = (h1, h2)))) w := fun w => eqH_run p3 p4 h1 h2 w
                have eC : ∀ w, Sem.run Tryd.prog (binOp .eql 28 (.agg #[.int .i64 p3, .int .i64 p4]) (.agg #[.int .i64 y1', .int .i64 y2'])) w = .ok (.bool (decide (((p3, p4) : Hd) = (y1', y2')))) w := fun w => eqH_run p3 p4 y1' y2' w
                have eD : ∀ w, Sem.run Tryd.prog (binOp .eql 28 (.agg #[.int .i64 p1, .int .i64 p2]) (.agg #[.int .i64 h1, .int .i64 h2])) w = .ok (.bool (decide (((p1, p2) : Hd) = (h1, h2)))) w := fun w => eqH_run p1 p2 h1 h2 w
                have gd2 := gdH_run
                generalize decide (((p1, p2) : Hd) = (y1', y2')) = qA at eA st
                generalize decide (((p3, p4) : Hd) = (h1, h2)) = qB at eB st
                generalize decide (((p3, p4) : Hd) = (y1', y2')) = qC at eC st
                generalize decide (((p1, p2) : Hd) = (h1, h2)) = qD at eD st
                generalize metB L (y1', y2') (h1, h2) i2 = mb at *
                have HST := Lib.hid st
                have HF := Lib.hid (Bt HBr.out (Ba (Below.refl _ wr) (.cells #[.int .i64 p1, .int .i64 p2, .int .i64 p3, .int .i64 p4] 68)))
                clear st hcp
                cases mb
                case' true =>
                  skip
                case' false =>
                  cases qA
                  case' true => cases qB
                  all_goals try (cases qC)
                all_goals (try cases qD)
                all_goals
                  go_wp2
                  go_roundw
                  case measure => simp only [intOf]; omega
                  case rel => exact ⟨i2 + 1, by go_num, by omega, by rw [HST.out]; simp, HF.out⟩
              · have hin : i2 = L.length := by omega
                subst hin
                rw [HL.out]
                have M1 := Lib.hid (MT.out wr hxd (y1', y2') (h1, h2) hxo hx)
                have M2 := Lib.hid (fun (w' : World) (hb : RowKit.Below wr.heap.size wr w') => MT.out w' (Bt hxd hb) (h1, h2) (y1', y2') hx hxo)
                rw [meetB_comm] at M2
                generalize meetB B2 (y1', y2') (h1, h2) = mt at *
                have HE2 := Lib.hid (Bt HK.out HBr.out)
                clear hxd MT HL HS
                cases mt
                all_goals
                  go_wp2_with fail
                  refine M1.out.mono ?_
                  rintro e w8 ⟨rfl, hb8⟩
                  have xd1 := Bc hb8 hxr xc1
                  have xd2 := Bc hb8 hxr xc2
                  have yd1 := Bc hb8 hyr yc1
                  have yd2 := Bc hb8 hyr yc2
                  have B8 := Lib.hid hb8
                  clear hb8 xc1 xc2 yc1 yc2
                  go_wp2_with fail
                  refine (M2.out _ B8.out).mono ?_
                  rintro e w9 ⟨rfl, hb9⟩
                  have B9 := Lib.hid (Bt HE2.out (Bt B8.out hb9))
                  clear hb9 B8
                  go_wp2
                  go_roundw
                  case measure => simp only [intOf]; omega
                  case rel => exact ⟨j + 1, by go_num, by omega, B9.out⟩
          · have hjn : j = B2.length := by omega
            subst hjn
            have bE := Bt B7.out HBj.out
            have HE1 := Lib.hid (HO.out.below (fr_sw ps B2) bE)
            have HE2 := Lib.hid (HM.out.below bE)
            have HE3 := Lib.hid (Bt HB.out bE)
            clear bE
            go_wp2
            go_roundw
            case measure => simp only [intOf]; omega
            case rel => exact ⟨i + 1, B2, Z2, by go_num, by omega, hB2l, HC2.out, HE1.out, HE2.out, HE3.out⟩
    · have hin : i = l.length := by omega
      subst hin
      clear hlt
      go_wp2
      go_ret
      exact ⟨rfl, HB.out⟩
end Go.Proofs.YtbodefigeiaodaaDoor
