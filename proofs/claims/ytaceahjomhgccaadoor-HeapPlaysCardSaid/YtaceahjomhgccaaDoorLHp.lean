/-
  The walk of HeapPlays.
-/
import Derived.Test.YtaceahjomhgccaaDoorLHk
namespace Go.Proofs.YtaceahjomhgccaaDoor
set_option linter.unusedSimpArgs false
set_option linter.unusedVariables false
open Go.RowKit Go.Sort Go.Lib Go.Shelf

set_option maxHeartbeats 8000000 in
set_option maxRecDepth 100000 in
theorem heapPlays_walk (ops : List Opx) (v : Value) (W : World) (hv : Sl encX W v ops) (hes : ∀ x ∈ ops, Sl encH W x.2.2.1 x.2.2.2) {A : Nat → Addr} (hE : Errs W A) :
    Calls Tryd.prog 3 #[v] W fun e w' => e = .returned (.bool true) ∧ RowKit.Below W.heap.size W w' := by
  obtain ⟨p0, c0, rfl, v1, v2, v3⟩ := hv
  unfold maxLen at v2
  have HV := Lib.hid v3
  have HE := Lib.hid hE
  have HES := Lib.hid hes
  have AL := Lib.hid (alive_any W)
  clear v3 hE hes
  by_cases h1 : ops.length ≤ 60
  case neg =>
    have hz : (ops.length : Int) > 60 := by omega
    go_enter Tryd.func3, Tryd.ntmps3
    go_wp2_with fail
    refine AL.out.mono ?_
    rintro e w1 ⟨rfl, hb1⟩
    go_wp2
    go_ret
    exact ⟨rfl, hb1⟩
  have hz : ¬ (ops.length : Int) > 60 := by omega
  go_enter Tryd.func3, Tryd.ntmps3
  go_wp2_with fail
  refine AL.out.mono ?_
  rintro e w1 ⟨rfl, hb1⟩
  have C0 := Lib.hid (newO (Z := NoZ) (base := W.heap.size) (w := w1) hb1.size (fun b e => e.elim))
  have B1 := Lib.hid hb1
  clear hb1 AL
  go_wp2_with fail
  refine C0.out.mono ?_
  rintro e w2 ⟨pa, rfl, hp2, hb2⟩
  have B2 := Lib.hid (Bt (Bt B1.out hb2) (Ba (Below.refl _ w2) (.cells #[] 37)))
  have P2 := Lib.hid (hp2.below (Ba (Below.refl _ w2) (.cells #[] 37)))
  have S2 := Lib.hid (SlN.nil (N := NoZ) (enc := encH) (w := w2.alloc (.cells #[] 37)) (some ⟨w2.heap.size, 0, none⟩) 0 (Nat.zero_le _))
  unfold psP
  clear hp2 hb2 C0 B1
  go_wp2
  go_loopw [27, 4] (fun i vm wr => ∃ (k : Nat) (Z : Nat → Prop) (L m : List Hd), i = .int .i64 k ∧ k ≤ ops.length ∧ m.length ≤ 60 * k ∧ Hid (HpO Z W.heap.size wr pa L) ∧ Hid (SlN Z encH wr vm m) ∧ Hid (Both ltH L m) ∧ Hid (RowKit.Below W.heap.size W wr)) (fun i _ _ => ops.length - (intOf i).toNat)
  case atStart => exact ⟨0, _, [], [], rfl, Nat.zero_le _, Nat.zero_le _, P2, S2, Lib.hid Both.nil, B2⟩
  case round =>
    clear P2 S2 B2 hz
    obtain ⟨k, Z0, L, m, rfl, hk, hmk, HP, HS, HBo, HB⟩ := hrel
    generalize u4 = vm at *
    generalize wr = wo at *
    by_cases hkn : k < ops.length
    · have hkz : (k : Int) < ops.length := by omega
      obtain ⟨g0, o0, rfl, hg0, hc0⟩ := HV.out (by omega)
      obtain ⟨d0, d1, d2⟩ := atX (fun j u hu => Bc HB.out hg0 (hc0 j u hu)) hkn
      have hg0w := Bl HB.out hg0
      have hops := HES.out ops[k]! (by rw [getElem!_pos ops k hkn]; exact List.getElem_mem _)
      have hLm := HBo.out.len
      have hm16 : m.length ≤ 3600 := by omega
      generalize ops[k]! = op at *
      obtain ⟨kind, num, ve, es⟩ := op
      dsimp only at d0 d1 d2 hops
      have HSE := Lib.hid hops
      obtain ⟨pe0, ce0, rfl, e1, e2, eX⟩ := hops
      unfold maxLen at e2
      have HEX := Lib.hid eX
      have A1 := Lib.hid (Ba (Below.refl _ wo) (.cells #[.int .i64 kind, .int .i64 num, .slice pe0 es.length ce0] 29))
      have X1 := Lib.hid (heap_alloc_new wo (.cells #[.int .i64 kind, .int .i64 num, .slice pe0 es.length ce0] 29))
      obtain ⟨P1', S1'⟩ := HP.out.beside2 A1.out ((HS.out.below A1.out).mono (fun b e => .inl e))
      have P1 := Lib.hid P1'
      have S1 := Lib.hid S1'
      have B1 := Lib.hid (Bt HB.out A1.out)
      have ZX := Lib.hid (show (fun b => Z0 b ∨ (wo.heap.size ≤ b ∧ b < (wo.alloc (.cells #[.int .i64 kind, .int .i64 num, .slice pe0 es.length ce0] 29)).heap.size)) wo.heap.size from .inr ⟨Nat.le_refl _, by simp⟩)
      clear hc0 eX P1' S1' HP HS HB
      by_cases hel : es.length ≤ 60
      case neg =>
        have hez : (es.length : Int) > 60 := by omega
        go_wp2
        go_ret
        exact ⟨rfl, B1.out⟩
      have hez : ¬ (es.length : Int) > 60 := by omega
      generalize hZ : (fun b => Z0 b ∨ (wo.heap.size ≤ b ∧ b < (wo.alloc (.cells #[.int .i64 kind, .int .i64 num, .slice pe0 es.length ce0] 29)).heap.size)) = Z at *
      clear hZ
      go_upto_region 10 with fail
      generalize wo.heap.size = ob at *
      generalize wo.alloc (.cells #[.int .i64 kind, .int .i64 num, .slice pe0 es.length ce0] 29) = w1 at *
      obtain ⟨⟨x0, x1', x2'⟩, _, _, _⟩ := three_cells X1.out
      have hob := cell_lt x0
      by_cases hk1 : kind = 1
      · subst hk1
        as_aux_lemma =>
          have A2 := Lib.hid (Ba (Below.refl _ w1) (.cells #[] 35))
          have O2 := Lib.hid (show (w1.alloc (.cells #[] 35)).ownsRow w1.heap.size 35 2 (.slice (some ⟨w1.heap.size, 0, none⟩) 0 0) 0 (flat encH ([] : List Hd)) from World.ownsRow_made _ #[] 0 (Nat.le_refl _) (Nat.zero_le _) (by simp))
          have S2 := Lib.hid (HSE.out.below (Bt B1.out A2.out))
          go_wp2_with (at_builtin; refine wpl_app2 apH rfl _ _ rfl w1.heap.size (by rfl) (by rfl) O2.out rfl S2.out (by simp; omega) A2.out.size ?_; intro v3 w3 hown3 hgrow3 _ _; rw [List.nil_append] at hown3; have A3 := Lib.hid (grownB A2.out O2.out hgrow3); have SI3 := Lib.hid (SlN.of lenH hown3 rfl); obtain ⟨p3, c3, rfl, i1, i2, _⟩ := row_val hown3; clear hown3 hgrow3)
          unfold maxLen at i2
          obtain ⟨hp3, hs3⟩ := P1.out.beside2 A3.out (SI3.out.mono (fun b e => .inr e))
          have S3 := Lib.hid ((S1.out.below A3.out).mono (N' := fun b => Z b ∨ (w1.heap.size ≤ b ∧ b < w3.heap.size)) (fun b e => .inl e))
          have X3 := Lib.hid (blk_below X1.out A3.out)
          have B3 := Lib.hid (Bt B1.out A3.out)
          have C3 := Lib.hid (pushO hp3 es _ hs3 (fun b e => .inl e) (by omega) (by omega))
          have HSI := Lib.hid hs3
          have ZX3 := Lib.hid (show (fun b => Z b ∨ (w1.heap.size ≤ b ∧ b < w3.heap.size)) ob from .inl ZX.out)
          unfold psP at C3
          clear hp3 hs3 A2 O2 S2 SI3 P1 S1 X1 B1 x0 x1' x2' hob
          generalize hZ3 : (fun b => Z b ∨ (w1.heap.size ≤ b ∧ b < w3.heap.size)) = Z3 at *
          clear hZ3 A3
          refine C3.out.mono ?_
          rintro e w4 ⟨rfl, hp4, ht4⟩
          have P4 := Lib.hid hp4
          have S4 := Lib.hid (S3.out.off ht4 (fun b e => e))
          have SI4 := Lib.hid (HSI.out.off ht4 (fun b e => e))
          have X4 := Lib.hid (ht4.blk X3.out (fun e => e.2 ZX3.out))
          have B4 := Lib.hid (B3.out.trans (OffZ.below ht4 B3.out.size))
          clear hp4 ht4 C3 S3 HSI X3 B3
          obtain ⟨⟨x0, x1', x2'⟩, _, _, _⟩ := three_cells X4.out
          have hob := cell_lt x0
          obtain ⟨pm, cm, eqm, m1, m2, _⟩ := S4.out
          subst eqm
          unfold maxLen at m2
          have hmz : ¬ (es.length : Int) > 16384 - (m.length : Int) := by omega
          have eq1 := eqH_run
          have ne1 := neH_run
          have gd1 := gdH_run
          go_wp2_with fail
          go_loopw [59, 4] (fun i vm wr => ∃ (j : Nat), i = .int .i64 j ∧ j ≤ es.length ∧ Hid (SlN (fun b => Z3 b ∨ w4.heap.size ≤ b) encH wr vm (putsL ltH m (es.take j))) ∧ Hid (RowKit.Below w4.heap.size w4 wr)) (fun i _ _ => es.length - (intOf i).toNat)
          case atStart => exact ⟨0, rfl, Nat.zero_le _, Lib.hid (by simpa [putsL] using S4.out.mono (fun b e => .inl e)), Lib.hid (Below.refl _ _)⟩
          case round =>
            obtain ⟨j, rfl, hj, HS, HB2⟩ := hrel
            clear S4
            generalize u4 = vm at *
            generalize wr = wi at *
            by_cases hjn : j < es.length
            · have hjz : (j : Int) < es.length := by omega
              obtain ⟨ge, oe, rfl, hge, hce⟩ := HEX.out (by omega)
              obtain ⟨p5, c5, e5, _, _, hX5⟩ := SI4.out
              simp only [Value.slice.injEq] at e5
              obtain ⟨rfl, _, rfl⟩ := e5
              obtain ⟨gi, oi, rfl, hgi, _, hci⟩ := hX5 (by omega)
              have HBW := Lib.hid (Bt B4.out HB2.out)
              obtain ⟨d1, d2⟩ := atH (fun j u hu => Bc HBW.out hge (hce j u hu)) hjn
              have hgew := Bl HBW.out hge
              obtain ⟨f1, f2⟩ := atH (fun j u hu => Bc HB2.out hgi (hci j u hu)) hjn
              have hgiw := Bl HB2.out hgi
              have TK := Lib.hid (putsL_take (lt := ltH) m es j hjn)
              generalize es[j]! = x at *
              obtain ⟨x1, x2⟩ := x
              dsimp only at d1 d2 f1 f2
              have A5 := Lib.hid (Ba (Below.refl _ wi) (.cells #[.int .i64 x1, .int .i64 x2] 35))
              have X5 := Lib.hid (heap_alloc_new wi (.cells #[.int .i64 x1, .int .i64 x2] 35))
              have C5 := Lib.hid (rput_call (putsL ltH m (es.take j)) vm x1 x2 _ (HS.out.sl.below A5.out) (by rw [putsL_len, List.length_take]; omega))
              have HF := Lib.hid (And.intro f1 f2)
              clear hce hci hX5 HS f1 f2
              go_wp2_with fail
              refine C5.out.mono ?_
              rintro e w5 ⟨vm5, rfl, ho5, hb5⟩
              have B5 := Lib.hid (Bt A5.out hb5)
              have S5 := Lib.hid ((SlN.of lenH ho5 rfl).mono (N' := fun b => Z3 b ∨ w4.heap.size ≤ b) (fun b e => .inr (Nat.le_trans (Nat.le_trans HB2.out.size A5.out.size) e)))
              obtain ⟨b1, b2, _⟩ := two_cells (blk_below X5.out hb5)
              have hxb := cell_lt b1
              obtain ⟨f1, f2⟩ := HF.out
              replace f1 := Bc B5.out hgiw f1
              replace f2 := Bc B5.out hgiw f2
              have hg5 := Bl B5.out hgiw
              have hd : decide (((x1, x2) : Hd) = (x1, x2)) = true := decide_eq_true rfl
              have BT := Lib.hid (Bt HB2.out B5.out)
              clear ho5 hb5 C5 B5
              generalize wi.heap.size = xb at *
              go_wp2_with fail
              go_region
              all_goals
                go_wp2
                go_roundw
                case rel => exact ⟨j + 1, by go_num, by omega, Lib.hid (by rw [TK.out]; exact S5.out.below (Bd (Below.refl _ _))), Lib.hid (Bd BT.out)⟩
                case measure => simp [intOf]; omega
            · have hjz : ¬ (j : Int) < es.length := by omega
              have HJ := Lib.hid (show es.take j = es by rw [show j = es.length by omega, List.take_length])
              rw [HJ.out] at HS
              obtain ⟨hp9, hs9⟩ := P4.out.beside2 HB2.out HS.out
              have P9 := Lib.hid hp9
              have S9 := Lib.hid hs9
              have B9 := Lib.hid (Bt B4.out HB2.out)
              have HB9 := Lib.hid (HBo.out.pushes sto_hd es)
              have HMB := Lib.hid (show (putsL ltH m es).length ≤ 60 * (k + 1) by rw [putsL_len]; omega)
              clear hp9 hs9 HS P4
              obtain ⟨pe, ce, eqm, me1, me2, _⟩ := S9.out
              subst eqm
              unfold maxLen at me2
              have LN := Lib.hid (lenO P9.out)
              rw [HB9.out.len] at LN
              unfold psP at LN
              go_wp2_with fail
              refine LN.out.mono ?_
              rintro e wz ⟨rfl, rfl⟩
              go_wp2
              go_roundw
              case rel => exact ⟨k + 1, _, _, _, by go_num, by omega, HMB.out, P9, S9, HB9, B9⟩
              case measure => simp [intOf]; omega
      · by_cases hk2 : kind = 2
        · subst hk2
          rcases Nat.eq_zero_or_pos m.length with hm0 | hm0
          · skip
            as_aux_lemma =>
              obtain rfl : m = [] := List.length_eq_zero_iff.1 hm0
              obtain rfl : L = [] := List.length_eq_zero_iff.1 (by rw [hLm]; rfl)
              have eN := HE.out.cell 2 (by omega)
              simp only [errG, List.getD_cons_zero, List.getD_cons_succ] at eN
              have hel := cell_lt eN
              have C2 := Lib.hid (peekO_none P1.out _ _ (Bc B1.out hel eN))
              unfold psP at C2
              have eq1 := eqH_run
              have ne1 := neH_run
              have gd1 := gdH_run
              obtain ⟨pm0, cm0, eqm0, mm1, mm2, _⟩ := S1.out
              subst eqm0
              unfold maxLen at mm2
              simp only [List.length_nil] at *
              go_wp2_with fail
              refine C2.out.mono ?_
              rintro e w2 ⟨rfl, hb2⟩
              have X3 := Lib.hid (heap_alloc_new w2 (.cells #[.int .i64 0, .int .i64 0] 35))
              have A3 := Lib.hid (Bt hb2 (Ba (Below.refl _ w2) (.cells #[.int .i64 0, .int .i64 0] 35)))
              have C3 := Lib.hid (popO_none (P1.out.below A3.out) _ _ (Bc (Bt B1.out A3.out) hel eN))
              unfold psP at C3
              clear hb2 C2
              go_wp2_with fail
              refine C3.out.mono ?_
              rintro e w4 ⟨rfl, hb4⟩
              have X4 := Lib.hid (blk_below X3.out (Bt hb4 (Ba (Below.refl _ w4) (.cells #[.int .i64 0, .int .i64 0] 35))))
              have X5 := Lib.hid (heap_alloc_new w4 (.cells #[.int .i64 0, .int .i64 0] 35))
              have A5 := Lib.hid (Bt (Bt A3.out hb4) (Ba (Below.refl _ w4) (.cells #[.int .i64 0, .int .i64 0] 35)))
              clear hb4 C3 X3 A3
              obtain ⟨a0, a1, _, _⟩ := two_cells X4.out
              obtain ⟨b0, b1, _, _⟩ := two_cells X5.out
              have hxa := cell_lt a0
              have hxb := cell_lt b0
              have NM := Lib.hid (fun W' (h : RowKit.Below w1.heap.size w1 W') => num_none (HE.out.below (Bt B1.out h)))
              have hd0 : decide (((0, 0) : Hd) = (0, 0)) = true := decide_eq_true rfl
              go_wp2_with fail
              refine (NM.out _ A5.out).mono ?_
              rintro e w6 ⟨rfl, hb6⟩
              have A6 := Lib.hid (Bt A5.out hb6)
              clear hb6
              go_wp2_with fail
              refine (NM.out _ A6.out).mono ?_
              rintro e w7 ⟨rfl, hb7⟩
              have A7 := Lib.hid (Bt A6.out hb7)
              clear hb7
              have P7 := Lib.hid (P1.out.below A7.out)
              have B7 := Lib.hid (Bt B1.out A7.out)
              have S7 := Lib.hid (S1.out.below A7.out)
              have LN := Lib.hid (lenO P7.out)
              rw [HBo.out.len] at LN
              unfold psP at LN
              go_wp2_with fail
              refine LN.out.mono ?_
              rintro e wz ⟨rfl, rfl⟩
              go_wp2
              go_roundw
              case rel => exact ⟨k + 1, _, _, _, by go_num, by omega, by simp, P7, S7, HBo, B7⟩
              case measure => simp [intOf]; omega
          · skip
            as_aux_lemma =>
              have hL0 : 0 < L.length := by omega
              have C2 := Lib.hid (peekO P1.out hL0)
              have HPP := Lib.hid (HBo.out.pop sto_hd hm0)
              have hf := HBo.out.first sto_hd hm0
              have HL := Lib.hid (show L.length ≤ 1000000 by omega)
              obtain ⟨x, hx⟩ : ∃ x, L[0]! = x := ⟨_, rfl⟩
              rw [hx] at C2 hf
              have HF := Lib.hid hf
              clear hf
              obtain ⟨x1, x2⟩ := x
              unfold psP aggH at C2
              dsimp only at C2
              have eq1 := eqH_run
              have ne1 := neH_run
              have gd1 := gdH_run
              have eq2 := eqR_run
              have ne2 := neR_run
              have gd2 := gdR_run
              go_wp2_with fail
              refine C2.out.mono ?_
              rintro e w2 ⟨rfl, hb2⟩
              have X3 := Lib.hid (heap_alloc_new w2 (.cells #[.int .i64 x1, .int .i64 x2] 35))
              have A3 := Lib.hid (Bt hb2 (Ba (Below.refl _ w2) (.cells #[.int .i64 x1, .int .i64 x2] 35)))
              have hx2 : w1.heap.size ≤ w2.heap.size := hb2.size
              have hx2s : w2.heap.size < (w2.alloc (.cells #[.int .i64 x1, .int .i64 x2] 35)).heap.size := by simp
              obtain ⟨P3, S3⟩ := P1.out.beside2 A3.out ((S1.out.below A3.out).mono (fun b e => .inl e))
              have hB3 := Lib.hid (Bt B1.out A3.out)
              have C3 := Lib.hid (popO P3 hL0 HL.out)
              rw [hx] at C3
              have HS3 := Lib.hid S3
              clear hb2 C2 P3 S3
              unfold psP aggH at C3
              dsimp only at C3
              go_wp2_with fail
              refine C3.out.mono ?_
              rintro e w4 ⟨rfl, hp4, ht4⟩
              have X4 := Lib.hid (ht4.blk X3.out (fun e => e.2 (.inr ⟨hx2, hx2s⟩)))
              have A5 := Lib.hid (Bd (Ba (Below.refl _ w4) (.cells #[.int .i64 x1, .int .i64 x2] 35)))
              have X5 := Lib.hid (blk_below X4.out A5.out)
              have Y5 := Lib.hid (show (w4.alloc (.cells #[.int .i64 x1, .int .i64 x2] 35)).drew.heap[w4.heap.size]? = some (.cells #[.int .i64 x1, .int .i64 x2] 35 (0, 0)) from heap_alloc_new w4 _)
              have P5 := Lib.hid (hp4.below A5.out)
              have S4 := Lib.hid (HS3.out.off ht4 (fun b e => e))
              have S5 := Lib.hid (S4.out.below A5.out)
              have B5 := Lib.hid (Bt (hB3.out.trans (OffZ.below ht4 hB3.out.size)) A5.out)
              have S45 := Lib.hid (S4.out.below (Ba (Below.refl _ w4) (.cells #[.int .i64 x1, .int .i64 x2] 35)))
              clear hp4 ht4 C3 HS3 X3 A3 hB3
              obtain ⟨pm, cm, eqm, m1, m2, mX⟩ := S45.out
              subst eqm
              obtain ⟨gm, om, rfl, hgm, hNm, hcm⟩ := mX hm0
              unfold maxLen at m2
              obtain ⟨c1, c2⟩ := atH hcm hm0
              rw [HF.out] at c1 c2
              dsimp only at c1 c2
              simp only [Nat.zero_mul, Nat.add_zero] at c1 c2
              obtain ⟨a0, a1, _, _⟩ := two_cells (show (w4.alloc (.cells #[.int .i64 x1, .int .i64 x2] 35)).heap[w2.heap.size]? = _ from X5.out)
              obtain ⟨b0, b1, _, _⟩ := two_cells (show (w4.alloc (.cells #[.int .i64 x1, .int .i64 x2] 35)).heap[w4.heap.size]? = _ from Y5.out)
              have hxa := cell_lt a0
              have hxb := cell_lt b0
              have hd0 : decide (((x1, x2) : Hd) = (x1, x2)) = true := decide_eq_true rfl
              have TLa := Lib.hid (fun (h : cm = 1) => (by have h9 := S5.out.tail 1 hm0; rw [if_pos h] at h9; simpa [h] using h9 : SlN (fun b => Z b ∨ (w1.heap.size ≤ b ∧ b < (w2.alloc (.cells #[.int .i64 x1, .int .i64 x2] 35)).heap.size)) encH (w4.alloc (.cells #[.int .i64 x1, .int .i64 x2] 35)).drew (.slice (some ⟨gm, om, none⟩) (m.length - 1) 0) (m.drop 1)))
              have TLb := Lib.hid (fun (h : ¬ cm = 1) => (by have h9 := S5.out.tail 1 hm0; rw [if_neg h] at h9; simpa using h9 : SlN (fun b => Z b ∨ (w1.heap.size ≤ b ∧ b < (w2.alloc (.cells #[.int .i64 x1, .int .i64 x2] 35)).heap.size)) encH (w4.alloc (.cells #[.int .i64 x1, .int .i64 x2] 35)).drew (.slice (some ⟨gm, om + 2, none⟩) (m.length - 1) (cm - 1)) (m.drop 1)))
              have hm1 : 1 ≤ m.length := hm0
              have hmz : (1 : Int) ≤ (m.length : Int) := by omega
              have hc1 : 1 ≤ cm := by omega
              have LN := Lib.hid (lenO P5.out)
              rw [HPP.out.len, List.length_drop] at LN
              unfold psP at LN
              have HMB := Lib.hid (show (m.drop 1).length ≤ 60 * (k + 1) by rw [List.length_drop]; omega)
              clear mX hcm hLm S4 S45 X4 X5 Y5 A5 hNm
              go_wp2_with fail
              go_region
              all_goals
                go_wp2_with fail
                all_goals
                  refine LN.out.mono ?_
                  rintro e wz ⟨rfl, rfl⟩
                  go_wp2
                  go_roundw
                  case rel => exact ⟨k + 1, _, _, _, by go_num, by omega, HMB.out, P5, Lib.hid (by first | exact TLb.out (by first | assumption | omega) | exact TLa.out (by first | assumption | omega)), HPP, B5⟩
                  case measure => simp [intOf]; omega
        · by_cases hk3 : kind = 3
          · subst hk3
            as_aux_lemma =>
              have C2 := Lib.hid (clearO P1.out)
              unfold psP at C2
              go_wp2_with fail
              refine C2.out.mono ?_
              rintro e w2 ⟨rfl, hp2, ht2⟩
              have P2 := Lib.hid hp2
              have B2 := Lib.hid (B1.out.trans (OffZ.below ht2 B1.out.size))
              have S2 := Lib.hid (SlN.nil (N := Z) (enc := encH) (w := w2) none 0 (Nat.zero_le _))
              have HB2 := Lib.hid (Both.nil (lt := ltH))
              clear hp2 ht2 C2
              have LN := Lib.hid (lenO P2.out)
              rw [HB2.out.len] at LN
              unfold psP at LN
              go_wp2_with fail
              refine LN.out.mono ?_
              rintro e wz ⟨rfl, rfl⟩
              go_wp2
              go_roundw
              case rel => exact ⟨k + 1, _, _, _, by go_num, by omega, by simp, P2, S2, HB2, B2⟩
              case measure => simp [intOf]; omega
          · by_cases hk4 : kind = 4
            · subst hk4
              as_aux_lemma =>
                obtain ⟨pm0, cm0, eqm0, mm1, mm2, _⟩ := S1.out
                subst eqm0
                unfold maxLen at mm2
                rcases Nat.eq_zero_or_pos es.length with hes0 | hes0
                · have hesz : (es.length : Int) = 0 := by omega
                  have hesn : es = [] := List.length_eq_zero_iff.1 hes0
                  have LN := Lib.hid (lenO P1.out)
                  rw [HBo.out.len] at LN
                  unfold psP at LN
                  go_wp2_with fail
                  refine LN.out.mono ?_
                  rintro e wz ⟨rfl, rfl⟩
                  go_wp2
                  go_roundw
                  case rel => exact ⟨k + 1, _, _, _, by go_num, by omega, by omega, P1, S1, HBo, B1⟩
                  case measure => simp [intOf]; omega
                rcases Nat.eq_zero_or_pos m.length with hm0 | hm0
                case inr =>
                  have hesz : ¬ (es.length : Int) = 0 := by omega
                  have hesn : ¬ es = [] := fun e => by rw [e] at hes0; simp at hes0
                  have hmz : (m.length : Int) > 0 := by omega
                  have LN := Lib.hid (lenO P1.out)
                  rw [HBo.out.len] at LN
                  unfold psP at LN
                  go_wp2_with fail
                  refine LN.out.mono ?_
                  rintro e wz ⟨rfl, rfl⟩
                  go_wp2
                  go_roundw
                  case rel => exact ⟨k + 1, _, _, _, by go_num, by omega, by omega, P1, S1, HBo, B1⟩
                  case measure => simp [intOf]; omega
                have hesz : ¬ (es.length : Int) = 0 := by omega
                have hesn : ¬ es = [] := fun e => by rw [e] at hes0; simp at hes0
                have hesz2 : (0 : Int) < (es.length : Int) := by omega
                obtain rfl : m = [] := List.length_eq_zero_iff.1 hm0
                obtain rfl : L = [] := List.length_eq_zero_iff.1 (by rw [hLm]; rfl)
                obtain ⟨n0, hn0, he⟩ := idx_any num 20000 (by decide) (by decide)
                rw [show ((20000 : Nat) : Int) = 20000 from rfl] at he
                obtain ⟨ge, oe, rfl, hge, hce⟩ := HEX.out hes0
                obtain ⟨y, hy⟩ : ∃ y, es[0]! = y := ⟨_, rfl⟩
                have HC := Lib.hid (show W.cell? ⟨ge, oe, none⟩ = some (.int .i64 y.1) ∧ W.cell? ⟨ge, oe + 1, none⟩ = some (.int .i64 y.2) from by
                  have := atH hce hes0
                  rw [hy] at this
                  simpa using this)
                obtain ⟨y1, y2⟩ := y
                have eF := HE.out.cell 1 (by omega)
                simp only [errG, List.getD_cons_zero, List.getD_cons_succ] at eF
                have hel1 := cell_lt eF
                have HEF := Lib.hid eF
                simp only [List.length_nil] at *
                clear hy hce HEX hes0 eF
                go_wp2_with fail
                (try simp only [he])
                go_loopw [150] (fun i wr => ∃ (j : Nat) (L' : List Hd), i = .int .i64 j ∧ j ≤ n0 ∧ Hid (L'.length = min j 16384) ∧ Hid (HpO Z W.heap.size wr pa L') ∧ Hid (wr.heap[ob]? = some (.cells #[.int .i64 4, .int .i64 num, .slice (some ⟨ge, oe, none⟩) es.length ce0] 29 (0, 0))) ∧ Hid (RowKit.Below W.heap.size W wr)) (fun i _ => n0 - (intOf i).toNat)
                case atStart => exact ⟨0, [], rfl, Nat.zero_le _, Lib.hid (by simp), P1, X1, B1⟩
                case round =>
                  clear P1 X1 B1 x0 x1' x2' hob S1 he
                  obtain ⟨j, L', rfl, hj, HL, HP2, HX2, HB2⟩ := hrel
                  obtain ⟨⟨x0, x1', x2'⟩, _, _, _⟩ := three_cells HX2.out
                  have hob := cell_lt x0
                  have hL16 : L'.length ≤ 16384 := by rw [HL.out]; omega
                  by_cases hjn : j < n0
                  · have hjz : (j : Int) < n0 := by omega
                    have c1 := Bc HB2.out hge HC.out.1
                    have c2 := Bc HB2.out hge HC.out.2
                    (try dsimp only at c1 c2)
                    have hgw := Bl HB2.out hge
                    have A3 := Lib.hid (Ba (Below.refl _ wr) (.cells #[.int .i64 y1, .int .i64 y2] 35))
                    obtain ⟨hp3, hs3⟩ := HP2.out.beside A3.out (slN_lit (w := wr) (cs := #[.int .i64 y1, .int .i64 y2]) (t := 35) (b := wr.heap.size) [((y1, y2) : Hd)] rfl rfl (by unfold maxLen; simp))
                    have B3 := Lib.hid (Bt HB2.out A3.out)
                    by_cases hj16 : j < 16384
                    · have hj16z : (j : Int) < 16384 := by omega
                      have C3 := Lib.hid (pushO hp3 _ _ hs3 (fun b e => .inl (.inr e)) hL16 (by rw [HL.out]; simp; omega))
                      unfold psP at C3
                      clear hp3 hs3
                      go_wp2_with fail
                      refine C3.out.mono ?_
                      rintro e w4 ⟨rfl, hp4, ht4⟩
                      have P4 := Lib.hid (hp4.forget (N' := Z) (fun b e => .inl e))
                      have X4 := Lib.hid (ht4.blk (blk_below HX2.out A3.out) (fun e => e.2 (.inl ZX.out)))
                      have B4 := Lib.hid (B3.out.trans (OffZ.below ht4 B3.out.size))
                      have HL4 := Lib.hid (show (pushesL ltH L' [((y1, y2) : Hd)]).length = min (j + 1) 16384 by rw [pushesL_len, HL.out]; simp; omega)
                      clear hp4 ht4 C3
                      go_wp2
                      go_roundw
                      case rel => exact ⟨j + 1, _, by go_num, by omega, HL4, P4, X4, B4⟩
                      case measure => simp [intOf]; omega
                    · have hj16z : ¬ (j : Int) < 16384 := by omega
                      have C3 := Lib.hid (pushO_full hp3 _ _ hs3.sl hL16 (by rw [HL.out]; simp; omega) _ _ (Bc B3.out hel1 HEF.out))
                      unfold psP at C3
                      clear hp3 hs3
                      go_wp2_with fail
                      refine C3.out.mono ?_
                      rintro e w4 ⟨rfl, hb4⟩
                      have P4 := Lib.hid (HP2.out.below (Bt A3.out hb4))
                      have X4 := Lib.hid (blk_below HX2.out (Bt A3.out hb4))
                      have B4 := Lib.hid (Bt B3.out hb4)
                      have HL4 := Lib.hid (show L'.length = min (j + 1) 16384 by rw [HL.out]; omega)
                      clear hb4 C3
                      go_wp2
                      go_roundw
                      case rel => exact ⟨j + 1, L', by go_num, by omega, HL4, P4, X4, B4⟩
                      case measure => simp [intOf]; omega
                  · have hjz : ¬ (j : Int) < n0 := by omega
                    have HJ := Lib.hid (show j = n0 by omega)
                    have LN9 := Lib.hid (lenO HP2.out)
                    have CL9 := Lib.hid (clearO HP2.out)
                    obtain ⟨q, hq⟩ : ∃ q, q = L'.length := ⟨_, rfl⟩
                    rw [← hq] at LN9
                    have hmin : min (n0 : Int) 16384 = (q : Int) := by have := HJ.out; rw [hq, HL.out]; omega
                    unfold psP at LN9 CL9
                    clear hq hL16
                    go_wp2_with fail
                    refine LN9.out.mono ?_
                    rintro e w9 ⟨rfl, rfl⟩
                    go_wp2_with fail
                    refine CL9.out.mono ?_
                    rintro e w10 ⟨rfl, hp10, ht10⟩
                    have P10 := Lib.hid hp10
                    have B10 := Lib.hid (HB2.out.trans (OffZ.below ht10 HB2.out.size))
                    have S10 := Lib.hid (SlN.nil (N := Z) (enc := encH) (w := w10) pm0 cm0 (by unfold maxLen; exact mm2))
                    clear hp10 ht10 CL9 LN9
                    have LN := Lib.hid (lenO P10.out)
                    rw [HBo.out.len] at LN
                    unfold psP at LN
                    go_wp2_with fail
                    refine LN.out.mono ?_
                    rintro e wz ⟨rfl, rfl⟩
                    go_wp2
                    go_roundw
                    case rel => exact ⟨k + 1, _, _, _, by go_num, by omega, by simp, P10, S10, HBo, B10⟩
                    case measure => simp [intOf]; omega
            · skip
              as_aux_lemma =>
                obtain ⟨pe, ce, eqm, me1, me2, _⟩ := S1.out
                subst eqm
                unfold maxLen at me2
                have LN := Lib.hid (lenO P1.out)
                rw [HBo.out.len] at LN
                unfold psP at LN
                go_wp2_with fail
                refine LN.out.mono ?_
                rintro e wz ⟨rfl, rfl⟩
                go_wp2
                go_roundw
                case rel => exact ⟨k + 1, _, _, _, by go_num, by omega, by omega, P1, S1, HBo, B1⟩
                case measure => simp [intOf]; omega
    · have hkz : ¬ (k : Int) < ops.length := by omega
      go_wp2
      go_ret
      exact ⟨rfl, HB.out⟩
end Go.Proofs.YtaceahjomhgccaaDoor
