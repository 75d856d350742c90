import Derived.Test.YthgkbmeilolapaaGreatDoorZ13
import Derived.Test.YthgkbmeilolapaaGreatDoorZ4
import Derived.Deep.CutBlock
import Derived.Deep.DeepCutAuto

/-
  The walk of TablesOrders.
-/
namespace Go.Proofs.YthgkbmeilolapaaGreatDoor
set_option linter.unusedSimpArgs false
set_option linter.unusedVariables false
open Go.RowKit Go.Sort Go.Lib Go.Shelf

/-- Two entities: one of the row, one of what has been added. -/
structure Duo (L : List En) (row R : List Vl) : Prop where
  good : Good L
  a : fndE L (0, 1) = some row
  b : fndE L (1, 1) = some R
  len : L.length = 2
theorem Duo.two {L : List En} {row R : List Vl} (h : Duo L row R) : ∀ r ∈ L, r = ((0, 1), row) ∨ r = ((1, 1), R) := fun r hr => by
  have ha := (fndE_some h.good.rise).1 h.a
  have hb := (fndE_some h.good.rise).1 h.b
  have hl := h.len
  match L, hl with
  | [p, q], _ =>
    simp only [List.mem_cons, List.not_mem_nil, or_false] at ha hb hr
    rcases ha with ha | ha <;> rcases hb with hb | hb
    · rw [← ha] at hb; simp at hb
    · rcases hr with rfl | rfl
      · exact .inl ha.symm
      · exact .inr hb.symm
    · rcases hr with rfl | rfl
      · exact .inr hb.symm
      · exact .inl ha.symm
    · rw [← ha] at hb; simp at hb
theorem nM_small {L : List En} (h : L.length ≤ 32) : nM L ≤ 32 := Nat.le_trans (nM_le_len L) h
theorem duo_start {row : List Vl} (hr : RightV row) : putEN [] (0, 1) row = 0 ∧ putEN (putEL [] (0, 1) row) (1, 1) [] = 0 ∧ Duo (putEL (putEL [] (0, 1) row) (1, 1) []) row [] := by
  have p1 : putEN [] (0, 1) row = 0 := by
    unfold putEN
    rw [if_neg (by simp [fndE]), if_pos ((rightB_iff row).2 hr), if_pos ⟨by simp, nM_small (by rw [len_insE]; simp)⟩]
  have e1 : putEL [] (0, 1) row = insE [] ((0, 1), row) := by unfold putEL; rw [if_pos p1]
  have e0 : (insE [] ((0, 1), row) : List En) = [((0, 1), row)] := by simp [insE, posE]
  have r1 : rightB [] = true := by decide
  have hnx : ((1, 1) : Hd) ∉ hds [((0, 1), row)] := by simp [hds]
  have hf : fndE [((0, 1), row)] (1, 1) = none := by simp [fndE]
  have p2 : putEN [((0, 1), row)] (1, 1) [] = 0 := by
    unfold putEN
    rw [hf, if_neg (by simp), if_pos r1, if_pos ⟨by simp, nM_small (by rw [len_insE]; simp)⟩]
  have g1 : Good [((0, 1), row)] := by
    have := good_nil.ins (h := (0, 1)) (l := row) ⟨by decide, by decide⟩ hr (by simp [hds]) (by simp) (nM_small (by rw [len_insE]; simp))
    rwa [e0] at this
  rw [e1, e0]
  refine ⟨p1, p2, ?_⟩
  have e2 : putEL [((0, 1), row)] (1, 1) [] = insE [((0, 1), row)] ((1, 1), []) := by unfold putEL; rw [if_pos p2]
  rw [e2]
  refine ⟨g1.ins ⟨by decide, by decide⟩ ((rightB_iff []).1 r1) hnx (by simp) (nM_small (by rw [len_insE]; simp)), ?_, ?_, by rw [len_insE]; simp⟩
  · rw [fndE_insE g1.rise hnx, if_neg (by simp)]; simp [fndE]
  · rw [fndE_insE g1.rise hnx, if_pos rfl]
theorem duo_step {L : List En} {row R : List Vl} (h : Duo L row R) (hr : RightV R) {x : Vl} (hx : chk x = 0) (hh : hasK R x.1 = false) : addEN L (1, 1) x = 0 ∧ Duo (addEL L (1, 1) x) row (putV R x) := by
  have hb := (fndE_some h.good.rise).1 h.b
  have hm : nM (setE L (1, 1) (putV R x)) ≤ 32 := nM_small (by rw [len_setE, h.len]; omega)
  have p1 : addEN L (1, 1) x = 0 := by
    unfold addEN
    rw [rowE_of h.b, if_pos (by rw [h.b]; rfl), if_pos hx, if_neg (by rw [hh]; decide)]
    unfold moveEN
    rw [if_pos hm]
  have e1 : addEL L (1, 1) x = setE L (1, 1) (putV R x) := by unfold addEL; rw [if_pos p1, rowE_of h.b]
  rw [e1]
  refine ⟨p1, h.good.set hb (putV_right hr hx) hm, ?_, ?_, by rw [len_setE]; exact h.len⟩
  · rw [fndE_setE h.good.rise hb, if_neg (by decide)]; exact h.a
  · rw [fndE_setE h.good.rise hb, if_pos rfl]
theorem duo_end {L : List En} {row : List Vl} (h : Duo L row row) (hr : RightV row) : nM L = 1 := by
  refine msk_one (mask_lt hr) fun q => ?_
  rw [Bool.eq_iff_iff, hasM_iff, decide_eq_true_eq]
  constructor
  · rintro ⟨r, hr2, rfl⟩
    rcases h.two r hr2 with rfl | rfl <;> rfl
  · rintro rfl
    exact ⟨_, (fndE_some h.good.rise).1 h.a, rfl⟩
theorem HdOk11 : HdOk (1, 1) := ⟨by decide, by decide⟩

section
variable {A : Nat → Addr}
set_option maxHeartbeats 4000000 in
set_option maxRecDepth 100000 in
theorem tablesOrders_walk (l : List Vl) (v : Value) (x : Int) (w : World) (hl : Sl encV w v l) (hE : Er8 w A) (hT : TabW w) : Calls Tryz.prog 6 #[v, .int .i64 x] w fun e w' => e = .returned (.bool true) ∧ RowKit.Below w.heap.size w w' := by
  have C0 := Lib.hid (alive8_any w hE hT)
  have HA := Lib.hid (Era.of hE hT (Nat.le_refl w.heap.size))
  have HV := Lib.hid hl.slN
  obtain ⟨pv, cv, rfl, hcv, hcm, _⟩ := hl
  have hcv2 : l.length ≤ 9223372036854775807 := by unfold maxLen at hcm; omega
  clear hE hT
  by_cases h0 : l.length < 1
  · have h0' : (l.length : Int) < 1 := by omega
    go_enter Tryz.func6, Tryz.ntmps6
    go_wp2_with fail
    refine C0.out.mono ?_
    rintro e w1 ⟨rfl, hb1⟩
    go_wp2
    go_ret
    exact ⟨rfl, hb1⟩
  · have h0' : ¬ (l.length : Int) < 1 := by omega
    by_cases h10 : l.length > 10
    · have h10' : (l.length : Int) > 10 := by omega
      go_enter Tryz.func6, Tryz.ntmps6
      go_wp2_with fail
      refine C0.out.mono ?_
      rintro e w1 ⟨rfl, hb1⟩
      go_wp2
      go_ret
      exact ⟨rfl, hb1⟩
    · have h10' : ¬ (l.length : Int) > 10 := by omega
      have HR : Hid (∀ W, RowKit.Below w.heap.size w W → _) := fun W hb => rright_call l _ W (HV.out.sl.below hb) (by omega)
      cases hrb : rightB l with
      | false =>
        rw [hrb] at HR
        go_enter Tryz.func6, Tryz.ntmps6
        go_wp2_with fail
        refine C0.out.mono ?_
        rintro e w1 ⟨rfl, hb1⟩
        have B1 := Lib.hid hb1
        clear hb1
        go_wp2_with fail
        refine (HR.out _ B1.out).mono ?_
        rintro e w2 ⟨rfl, hb2⟩
        have B2 := Bt B1.out hb2
        go_wp2
        go_ret
        exact ⟨rfl, B2⟩
      | true =>
        rw [hrb] at HR
        have hr := (rightB_iff l).1 hrb
        obtain ⟨p1, p2, D0⟩ := duo_start hr
        have HRt := Lib.hid hr
        have HLen := Lib.hid (show 0 < l.length ∧ l.length ≤ 10 by omega)
        have NW : Hid (∀ W, RowKit.Below w.heap.size w W → Calls Tryz.prog 10 #[] W fun e w' => ∃ ps, e = .returned (psP ps) ∧ StoO NoN w.heap.size w' ps [] ∧ RowKit.Below W.heap.size W w') := fun W hb => newS hb.size (fun b e => e.elim)
        obtain ⟨m, hm, he⟩ := idx_any x l.length (by omega) (by omega)
        have HM := Lib.hid hm
        have hz0 : ¬ (l.length : Int) = 0 := by omega
        have hz1 : ¬ l = [] := fun e => by subst e; simp at h0
        have hul : IntKind.u64.wrap (l.length : Int) = l.length := by rw [IntKind.wrap_u64]; omega
        clear hr hrb hm
        go_enter Tryz.func6, Tryz.ntmps6
        go_wp2_with fail
        refine C0.out.mono ?_
        rintro e w1 ⟨rfl, hb1⟩
        have B1 := Lib.hid hb1
        clear hb1 C0
        go_wp2_with fail
        refine (HR.out _ B1.out).mono ?_
        rintro e w2 ⟨rfl, hb2⟩
        have B2 := Lib.hid (Bt B1.out hb2)
        clear hb2 HR B1
        go_wp2_with fail
        refine (NW.out _ B2.out).mono ?_
        rintro e w3 ⟨ps, rfl, hS3, hb3⟩
        have B3 := Lib.hid (Bt B2.out hb3)
        have bA := Ba (Ba (Below.refl _ w3) (.cells #[.int .i64 0, .int .i64 1] 31)) (.cells #[.int .i64 1, .int .i64 1] 31)
        have S4 := Lib.hid (hS3.off bA)
        have X4 := Lib.hid (blk_below (heap_alloc_new w3 (.cells #[.int .i64 0, .int .i64 1] 31)) (Ba (Below.refl _ _) (.cells #[.int .i64 1, .int .i64 1] 31)))
        have Y4 := Lib.hid (show ((w3.alloc (.cells #[.int .i64 0, .int .i64 1] 31)).alloc (.cells #[.int .i64 1, .int .i64 1] 31)).heap[w3.heap.size + 1]? = some (.cells #[.int .i64 1, .int .i64 1] 31 (0, 0)) by have := heap_alloc_new (w3.alloc (.cells #[.int .i64 0, .int .i64 1] 31)) (.cells #[.int .i64 1, .int .i64 1] 31); simpa using this)
        have B4 := Lib.hid (Bt B3.out bA)
        have hs4 : ((w3.alloc (.cells #[.int .i64 0, .int .i64 1] 31)).alloc (.cells #[.int .i64 1, .int .i64 1] 31)).heap.size = w3.heap.size + 2 := by simp
        have C1 := Lib.hid (putS S4.out 0 1 HdOk01 l _ (HV.out.below B4.out) (fun b e => .inl e) (by omega) (HA.out.below B4.out))
        rw [p1, errV_no] at C1
        obtain ⟨N, hN⟩ : ∃ N : Nat → Prop, N = (fun b => NoN b ∨ (w3.heap.size ≤ b ∧ b < ((w3.alloc (.cells #[.int .i64 0, .int .i64 1] 31)).alloc (.cells #[.int .i64 1, .int .i64 1] 31)).heap.size)) := ⟨_, rfl⟩
        rw [← hN] at C1 S4
        have HNa := Lib.hid (show N w3.heap.size ∧ N (w3.heap.size + 1) by rw [hN]; exact ⟨.inr ⟨Nat.le_refl _, by omega⟩, .inr ⟨by omega, by omega⟩⟩)
        clear hb3 NW hS3 bA hN hs4
        go_wp2_with fail
        refine C1.out.mono ?_
        rintro e w5 ⟨rfl, hS5, ht5⟩
        have C2 := Lib.hid (putS hS5 1 1 HdOk11 [] (.slice none 0 0) (N' := fun _ => False) (SlN.nil none 0 (Nat.zero_le _)) (fun b e => e.elim) (by decide) ((HA.out.below B4.out).tch ht5))
        rw [p2, errV_no] at C2
        have B5 := Lib.hid (B4.out.trans (OffT.below ht5 B4.out.size))
        have X5 := Lib.hid (ht5.blk X4.out (fun e => e.2 HNa.out.1))
        have Y5 := Lib.hid (ht5.blk Y4.out (fun e => e.2 HNa.out.2))
        obtain ⟨a0, a1, _, _⟩ := two_cells Y5.out
        have hal := cell_lt a0
        clear hS5 ht5 X4 Y4 S4 C1
        go_wp2_with fail
        refine C2.out.mono ?_
        rintro e w6 ⟨rfl, hS6, ht6⟩
        have S6 := Lib.hid hS6
        have B6 := Lib.hid (B5.out.trans (OffT.below ht6 B5.out.size))
        have X6 := Lib.hid (ht6.blk X5.out (fun e => e.2 HNa.out.1))
        have Y6 := Lib.hid (ht6.blk Y5.out (fun e => e.2 HNa.out.2))
        generalize putEL (putEL [] (0, 1) l) (1, 1) [] = L0 at *
        clear hS6 ht6 X5 Y5 C2 a0 a1 hal
        go_wp2
        go_loopw [44] (fun s44 wr => ∃ (k : Nat) (R : List Vl) (L : List En), s44 = .int .i64 k ∧ k ≤ l.length ∧ Hid (StoO N w.heap.size wr ps L) ∧ Hid (Duo L l R) ∧ Hid (Got l m k R) ∧ Hid (wr.heap[w3.heap.size]? = some (.cells #[.int .i64 0, .int .i64 1] 31 (0, 0))) ∧ Hid (wr.heap[w3.heap.size + 1]? = some (.cells #[.int .i64 1, .int .i64 1] 31 (0, 0))) ∧ Hid (RowKit.Below w.heap.size w wr)) (fun i _ => l.length - (intOf i).toNat)
        case atStart => exact ⟨0, [], L0, rfl, Nat.zero_le _, S6, Lib.hid D0, Lib.hid (Got.zero _ _), X6, Y6, B6⟩
        case round =>
          obtain ⟨k, R, L, rfl, hk, HS, HD, HG, HX, HY, HB⟩ := hrel
          by_cases hkn : k < l.length
          · have hlt : (k + m) % l.length < l.length := Nat.mod_lt _ (by omega)
            obtain ⟨j, hj⟩ : ∃ j, j = (k + m) % l.length := ⟨_, rfl⟩
            have hjl : j < l.length := by omega
            have ej : ((k : Int) + (m : Int)).tmod (l.length : Int) = (j : Int) := by rw [hj, ← Int.natCast_add, Int.tmod_eq_emod_of_nonneg (Int.natCast_nonneg _), Int.natCast_emod]
            have hm9 := HM.out
            have hl10 : l.length ≤ 10 := by omega
            have hA1 : IntKind.i64.wrap ((IntKind.u64.wrap x).tmod (l.length : Int)) = (m : Int) := by
              have he9 := he
              generalize (IntKind.u64.wrap x).tmod (l.length : Int) = t at he9 ⊢
              rw [IntKind.wrap_i64]
              unfold wrap64 at he9
              exact he9
            have hA2 : IntKind.i64.wrap ((k : Int) + (m : Int)) = (k : Int) + (m : Int) := by rw [IntKind.wrap_i64]; omega
            have hjz : (j : Int) < (l.length : Int) := by omega
            have hmem : l[j]! ∈ l := by rw [getElem!_pos l j hjl]; exact List.getElem_mem _
            have hck := HRt.out.2 _ hmem
            have hh := HG.out.has HRt.out.1 HM.out hkn
            have hgs := HG.out.step HRt.out HM.out hkn
            rw [← hj] at hh hgs
            obtain ⟨q1, D1⟩ := duo_step HD.out HG.out.right hck hh
            obtain ⟨p', c', e', _, _, hcell⟩ := HV.out
            simp only [Value.slice.injEq] at e'
            obtain ⟨rfl, _, rfl⟩ := e'
            obtain ⟨g, o, rfl, hg, _, hcells⟩ := hcell (by omega)
            obtain ⟨v0, v1, v2⟩ := atV hcells hjl
            have HGs := Lib.hid hgs
            have HD1 := Lib.hid D1
            generalize l[j]! = y at *
            obtain ⟨y1, y2, y3⟩ := y
            dsimp only at v0 v1 v2
            replace v0 := Bc HB.out hg v0
            replace v1 := Bc HB.out hg v1
            replace v2 := Bc HB.out hg v2
            have hgr : g < wr.heap.size := Nat.lt_of_lt_of_le hg HB.out.size
            obtain ⟨a0, a1, _, _⟩ := two_cells HY.out
            have hal := cell_lt a0
            have CA : Hid (∀ W, RowKit.Below wr.heap.size wr W → _) := fun W hb => addS (HS.out.below hb) 1 1 HdOk11 y1 y2 y3 ((HA.out.below HB.out).below hb)
            rw [q1, errV_no] at CA
            have n1 : ¬ OffT w.heap.size N (w3.heap.size + 1) := fun e => e.2 HNa.out.2
            have n2 : ¬ OffT w.heap.size N g := fun e => by have := e.1; omega
            have HCS : Hid (∀ W1 W2 : World, RowKit.Below wr.heap.size wr W1 → Tch (OffT w.heap.size N) W1 W2 → (W2.cell? ⟨w3.heap.size + 1, 0, none⟩ = some (.int .i64 1) ∧ W2.cell? ⟨w3.heap.size + 1, 1, none⟩ = some (.int .i64 1) ∧ W2.cell? ⟨g, o + j * 3, none⟩ = some (.int .i64 y1) ∧ W2.cell? ⟨g, o + j * 3 + 1, none⟩ = some (.int .i64 y2) ∧ W2.cell? ⟨g, o + j * 3 + 2, none⟩ = some (.int .i64 y3))) := fun W1 W2 hb ht =>
              ⟨ht.cell (Bl hb hal) n1 (Bc hb hal a0), ht.cell (Bl hb hal) n1 (Bc hb hal a1), ht.cell (Bl hb hgr) n2 (Bc hb hgr v0), ht.cell (Bl hb hgr) n2 (Bc hb hgr v1), ht.cell (Bl hb hgr) n2 (Bc hb hgr v2)⟩
            clear hmem hck hh hgs D1 q1 hcells hcell hlt n1 n2 hj
            go_wp2_with fail
            go_region_held3 (fun W => W.cell? ⟨w3.heap.size + 1, 0, none⟩ = some (.int .i64 1) ∧ W.cell? ⟨w3.heap.size + 1, 1, none⟩ = some (.int .i64 1) ∧ W.cell? ⟨g, o + j * 3, none⟩ = some (.int .i64 y1) ∧ W.cell? ⟨g, o + j * 3 + 1, none⟩ = some (.int .i64 y2) ∧ W.cell? ⟨g, o + j * 3 + 2, none⟩ = some (.int .i64 y3)) (first | exact ⟨a0, a1, v0, v1, v2⟩ | exact hst) ((go_at_call 26; refine (CA.out _ (Bd (Below.refl _ wr))).mono ?_; rintro e w5 ⟨rfl, hS5, ht5⟩; have hst := HCS.out _ _ (Bd (Below.refl _ wr)) ht5))
            have S5 := Lib.hid hS5
            have X5 := Lib.hid (ht5.blk (show wr.drew.heap[w3.heap.size]? = _ from HX.out) (fun e => e.2 HNa.out.1))
            have Y5 := Lib.hid (ht5.blk (show wr.drew.heap[w3.heap.size + 1]? = _ from HY.out) (fun e => e.2 HNa.out.2))
            have B5 := Lib.hid ((Bd HB.out).trans (OffT.below ht5 (show w.heap.size ≤ wr.drew.heap.size from HB.out.size)))
            clear hS5 ht5 hst a0 a1 v0 v1 v2 hal
            go_wp2
            go_roundw
            case measure => simp [intOf]; omega
            case rel => exact ⟨k + 1, _, _, by go_num, by omega, S5, HD1, HGs, X5, Y5, B5⟩
          · have hkk : k = l.length := by omega
            have hRl := (hkk ▸ HG.out : Got l m l.length R).all HRt.out HM.out
            have D9 := Lib.hid (hRl ▸ HD.out : Duo L l l)
            have CE : Hid (∀ W, RowKit.Below wr.heap.size wr W → _) := fun W hb => entS (HS.out.below hb) 0 1 HdOk01 ((HA.out.below HB.out).below hb)
            have CF : Hid (∀ W, RowKit.Below wr.heap.size wr W → _) := fun W hb => entS (HS.out.below hb) 1 1 HdOk11 ((HA.out.below HB.out).below hb)
            have eE : entE L (0, 1) = ((0, 1), l) := by unfold entE; rw [D9.out.a, rowE_of D9.out.a]; rfl
            have eF : entE L (1, 1) = ((1, 1), l) := by unfold entE; rw [D9.out.b, rowE_of D9.out.b]; rfl
            have nE : takeEN L (0, 1) = 0 := by unfold takeEN; rw [D9.out.a]; rfl
            have nF : takeEN L (1, 1) = 0 := by unfold takeEN; rw [D9.out.b]; rfl
            rw [eE, nE, errV_no] at CE
            rw [eF, nF, errV_no] at CF
            have hn1 := duo_end D9.out HRt.out
            have CM : Hid (∀ W, RowKit.Below wr.heap.size wr W → _) := fun W hb => masksS1 (HS.out.below hb) (by rw [hn1]; exact Nat.le_refl _)
            have hml : (mskE L).length = 1 := hn1
            rw [hml] at CM
            obtain ⟨a0, a1, _, _⟩ := two_cells HX.out
            have hal := cell_lt a0
            clear eE eF nE nF hn1 hml hRl
            go_wp2_with fail
            refine (CE.out _ (Below.refl _ wr)).mono ?_
            rintro e w5 ⟨v5, rfl, hs5, hb5⟩
            obtain ⟨p5, c5, rfl, _, _, _⟩ := id hs5
            have bE := Ba (Below.refl _ w5) (.cells #[.int .i64 0, .int .i64 1, .slice p5 l.length c5] 38)
            have B5 := Lib.hid (Bt hb5 bE)
            have E5 := Lib.hid (heap_alloc_new w5 (.cells #[.int .i64 0, .int .i64 1, .slice p5 l.length c5] 38))
            have S5 := Lib.hid (hs5.below bE)
            obtain ⟨b0, b1, _, _⟩ := two_cells (blk_below HY.out B5.out)
            have hbl := cell_lt b0
            clear hs5 hb5 bE CE a0 a1 hal
            go_wp2_with fail
            refine (CF.out _ B5.out).mono ?_
            rintro e w6 ⟨v6, rfl, hs6, hb6⟩
            obtain ⟨p6, c6, rfl, _, _, _⟩ := id hs6
            have bE := Ba (Below.refl _ w6) (.cells #[.int .i64 1, .int .i64 1, .slice p6 l.length c6] 38)
            have B6 := Lib.hid (Bt (Bt B5.out hb6) bE)
            have E6 := Lib.hid (blk_below (blk_below E5.out hb6) bE)
            have F6 := Lib.hid (heap_alloc_new w6 (.cells #[.int .i64 1, .int .i64 1, .slice p6 l.length c6] 38))
            have S6 := Lib.hid ((S5.out.below hb6).below bE)
            have U6 := Lib.hid (hs6.below bE)
            obtain ⟨⟨b0, b1, b2⟩, _, _, _⟩ := three_cells E6.out
            have hbl := cell_lt b0
            clear hs6 hb6 bE CF E5 S5
            go_wp2_with fail
            refine (same_call l l _ _ _ S6.out U6.out).mono ?_
            rintro e w7 ⟨rfl, hg7⟩
            have B7 := Lib.hid (Bt B6.out hg7.below)
            have htt : decide (l = l) = true := decide_eq_true rfl
            clear hg7 b0 b1 b2 hbl
            go_wp2_with fail
            refine (CM.out _ B7.out).mono ?_
            rintro e w8 ⟨v8, rfl, ho8, hb8⟩
            obtain ⟨p8, c8, rfl, _, _, _⟩ := row_val ho8
            have B8 := Bt HB.out (Bt B7.out hb8)
            clear ho8 hb8
            go_wp2
            go_ret
            exact ⟨rfl, B8⟩
end
end Go.Proofs.YthgkbmeilolapaaGreatDoor

/-
  Whatever row and number it is given, TablesOrders answers true and leaves its arguments as they were. Conditions: the errors' variables that it names read as the program's text lays them (the card ties them to that text).
-/
namespace Go.Proofs.YthgkbmeilolapaaGreatDoor
set_option linter.unusedSimpArgs false
set_option linter.unusedVariables false
open Go.ChangeShapes Go.WideShapes Go.ChangeAt Go.RowKit Go.Joins

set_option maxRecDepth 100000 in
theorem tablesOrders_lifted (os : Os) (started : os.Started) (H : Type) (enc : TypeId × Value → H) :
    ReturnsInHanded {} Tryz.checked os 6 .any (fun w args => (Rows.tablesOrdersSpec.pre enc Tryz.prog Tryz.f6 [] false w args ∧ laidMetH Tryz.prog Rows.tablesOrdersRow.laid w) ∧ sizedMet enc Tryz.prog Tryz.f6 (OpenSpec.ofChange Rows.tablesOrdersSpec) false w args)
      (Rows.tablesOrdersSpec.post enc Tryz.prog Tryz.f6 false true false false) := by
  refine returnsInHanded_of_change_and (C := Tryz.checked) (X := fun w _ => laidMetH Tryz.prog Rows.tablesOrdersRow.laid w) (fun _ _ _ hh h => h.of_heap hh) own started (by kernel_rfl) Tryz.func6
    (ChangeSpec.witness_shaped (enc := enc) (C := Tryz.checked) (os := os) (X := fun w _ => laidMetH Tryz.prog Rows.tablesOrdersRow.laid w) false (World.doorLaid Tryz.prog 220 os) #[.slice none 0 0, .int .i64 0] 8 rfl (World.shaped_of_RefB (by kernel_rfl) (by kernel_rfl)) (by kernel_rfl) (by kernel_rfl) (by kernel_rfl) (laidMetH_of_parts3 (fuel := 8) (laidMet_of_run' 8 (by kernel_rfl) (by kernel_rfl)) (by kernel_rfl) (by kernel_rfl))) ?_
  intro W base args ds gs before hval0 hW _ _ hL _
  have hval : ∀ (j : Nat) t v, Tryz.f6.params[j]? = some t → args[j]? = some v → Value.okWide Tryz.prog W .any base t v := hval0
  have hW' := hW
  obtain ⟨p, q, hA0, hV, rfl, hfz, hnd⟩ := hW
  have hA : DataW.TrodAll enc Tryz.prog W 0 (fun _ => true) true Tryz.f6.params.toList args.toList ds p := hA0
  rw [Tryz.params6] at hA hval
  obtain ⟨v0, vs0, d0, ds0, p0, q0, hargs, rfl, rfl, h0, r0⟩ := trodAll_cons hA
  obtain ⟨v1, vs1, d1, ds1, p1, q1, rfl, rfl, rfl, h1, r1⟩ := trodAll_cons r0
  obtain ⟨rfl, rfl, rfl⟩ := trodAll_nil r1
  obtain rfl : args = #[v0, v1] := by cases args; simp_all
  obtain ⟨l0, hl0⟩ := open_vals (hval 0 32 v0 rfl rfl) h0
  obtain ⟨x1, rfl, rfl, rfl, w1⟩ := open_int Tryz.underlying3 (hval 1 3 v1 rfl rfl) h1
  clear hA0 hval0
  have hL' : laidMet Tryz.prog Rows.tablesOrdersRow.laid W := by
    have h := hL
    rw [MakeChecks.laidMetH_plain _ _ _ (by kernel_rfl)] at h
    exact h
  have hT := tab_of hL'
  obtain ⟨A, hE⟩ := er8_list hL' (.tail _ (.head _)) (.tail _ (.tail _ (.head _))) (.tail _ (.tail _ (.tail _ (.head _)))) (.tail _ (.tail _ (.tail _ (.tail _ (.head _))))) (.tail _ (.tail _ (.tail _ (.tail _ (.tail _ (.head _)))))) (.tail _ (.tail _ (.tail _ (.tail _ (.tail _ (.tail _ (.head _)))))))
  refine (tablesOrders_walk l0 v0 x1 W hl0 hE hT).mono fun e W' ⟨he, hb⟩ => ?_
  subst he
  exact ⟨_, rfl, law_post laidOut (by kernel_rfl) rfl (by kernel_rfl) Tryz.underlying4 (fun ds hd => by match ds, hd with | [_, _], _ => rfl) hW' hb⟩

theorem tablesOrders_row : Rows.TablesOrdersSaid :=
  OpenClaim.holds_of_wide 6 Tryz.f6 rfl rfl rfl rfl rfl rfl rfl ⟨rfl, rfl, rfl, rfl, rfl⟩ rfl rfl rfl rfl rfl (by kernel_rfl) Tryz.func6 (by kernel_rfl)
    (of_decide_eq_true (by kernel_rfl)) (by unfold Func.isWrapper; first | (rw [if_pos (by decide +kernel)]; kernel_rfl) | (rw [if_neg (by decide +kernel)]; exact ⟨rfl, rfl⟩))
    (fun os started H enc _ => tablesOrders_lifted os started H enc)

theorem tablesOrders_holds : Rows.TablesOrdersCardSaid :=
  Claim7.holds_tied_plain_at .later [] Rows.tablesOrdersCard.laidKinds true Rows.tablesOrdersCard.stood.harness true
    tablesOrders_row (fun _ h => by cases h) (by kernel_rfl) (fun _ h => by cases h) tablesOrders_row_tie rfl ⟨rfl, rfl⟩ (by kernel_rfl) rfl
    (fun f fn hf hfn => by
      obtain rfl : f = 6 := Option.some.inj ((show Tryz.prog.funcNamed "paddock/paddocklaw08.TablesOrders" = some 6 by kernel_rfl).symm.trans hf) |>.symm
      obtain rfl : fn = Tryz.f6 := (Option.some.inj (Tryz.func6.symm.trans hfn)).symm
      exact ⟨by kernel_rfl, fun j t ht => by
        rw [Tryz.params6] at ht
        have hm : t ∈ [32, 3] := by
          have := Array.mem_of_getElem? ht
          simp at this ⊢
          omega
        have hall : ([32, 3].all fun u => !Tryz.prog.wantsStandIn u) = true := by kernel_rfl
        exact (show Tryz.prog.wantsStandIn t = false by simpa using List.all_eq_true.1 hall t hm)⟩)
    (by kernel_rfl)
#print axioms tablesOrders_holds
end Go.Proofs.YthgkbmeilolapaaGreatDoor
