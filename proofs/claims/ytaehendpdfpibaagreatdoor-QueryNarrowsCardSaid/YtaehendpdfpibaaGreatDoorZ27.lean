import Derived.Test.YtaehendpdfpibaaGreatDoorZ26
import Derived.Test.YtaehendpdfpibaaGreatDoorZ12
import Derived.Test.YtaehendpdfpibaaGreatDoorZ13

/-
  Queries of the program: Entities, Boxes, Fits, Both.
-/
namespace Go.Proofs.YtaehendpdfpibaaGreatDoor
set_option linter.unusedSimpArgs false
set_option linter.unusedVariables false
open Go.RowKit Go.Sort Go.Lib Go.Shelf

theorem hds_at9 {L : List En} {k : Nat} (hk : k < L.length) : (hds L)[k]! = L[k]!.1 := map_at (fun r : En => r.1) L hk
theorem hds_len9 (L : List En) : (hds L).length = L.length := by simp [hds]
theorem take_step9 {α : Type} [Inhabited α] {l : List α} {k : Nat} (hk : k < l.length) : l.take (k + 1) = l.take k ++ [l[k]!] := by
  rw [List.take_add_one, List.getElem?_eq_getElem hk, getElem!_pos l k hk]
  rfl
abbrev eB (x1 x2 : Int) (p : Option Addr) (n c : Nat) : Obj := .cells #[.int .i64 x1, .int .i64 x2, .slice p n c] 38
def TrueN : Nat → Prop := fun _ => True
theorem boxA_form (l : List Vl) : ∃ a b c d : Int, boxA l = .agg #[.int .i64 a, .int .i64 b, .int .i64 c, .int .i64 d] := by
  cases e : boxV l with
  | none => exact ⟨0, 0, 0, 0, boxA_no e⟩
  | some x => obtain ⟨a, b, c, d⟩ := x; exact ⟨a, b, c, d, boxA_yes e⟩
/-- The handles of those that have a box. -/
def bxE (X : List En) : List Hd := hds (X.filter fun r => boxB r.2)
theorem bxE_step {X : List En} {k : Nat} (hk : k < X.length) : bxE (X.take (k + 1)) = if boxB X[k]!.2 = true then bxE (X.take k) ++ [X[k]!.1] else bxE (X.take k) := by
  rw [getElem!_pos X k hk]
  unfold bxE hds
  rw [List.take_add_one, List.getElem?_eq_getElem hk, List.filter_append, List.map_append]
  cases e : boxB X[k].2 <;> simp [List.filter_cons, e]
theorem bxE_len (X : List En) : (bxE X).length ≤ X.length := by
  unfold bxE hds
  rw [List.length_map]
  exact List.length_filter_le _ _
theorem own_lo {w : World} {base et k n : Nat} {v : Value} {xs : List Value} (h : w.ownsRow base et k v n xs) {g : Nat} (hg : v.ownBlock = some g) : base ≤ g := by
  rcases h.2 with ⟨rfl, _⟩ | ⟨g', cap, cur, rfl, hb, _⟩
  · simp [Value.ownBlock] at hg
  · simp only [Value.ownBlock, Option.some.injEq] at hg
    subst hg
    exact hb
theorem SlN.inside9 {α : Type} {enc : α → List Value} {N : Nat → Prop} {w : World} {v : Value} {l : List α} (h : SlN N enc w v l) : SlN (fun b => N b ∧ b < w.heap.size) enc w v l := by
  obtain ⟨p, cap, rfl, h1, h2, h⟩ := h
  exact ⟨p, cap, rfl, h1, h2, fun hl => by obtain ⟨g, o, e, h3, h5, h4⟩ := h hl; exact ⟨g, o, e, h3, ⟨h5, h3⟩, h4⟩⟩
/-- What lies off a row of the call's own lies off it when the row has grown. -/
theorem SlN.app9 {α : Type} {enc : α → List Value} {w6 w7 : World} {v6 v7 u : Value} {l : List α} (h : SlN (fun b => v6.ownBlock ≠ some b) enc w6 u l) (hg : w6.grownBy w7 v6.ownBlock) (hat : v7.ownBlock = v6.ownBlock ∨ v7.ownBlock = some w6.heap.size) : SlN (fun b => v7.ownBlock ≠ some b) enc w7 u l :=
  (h.inside9.kept (Tch.grown (M := fun b => v6.ownBlock = some b) hg (fun g e => e)) (fun b e c => e.1 c)).mono (fun b e c => by
    rcases hat with q | q
    · exact e.1 (q ▸ c)
    · have := Option.some.inj (q.symm.trans c)
      omega)
section
variable {N : Nat → Prop} {base ps : Nat} {w w' : World} {L : List En} {A : Nat → Addr}
theorem entS2 (h : StoO N base w ps L) (x1 x2 : Int) (hx : HdOk (x1, x2)) (hA : Era base w A) : Calls Tryz.prog 19 #[psP ps, .agg #[.int .i64 x1, .int .i64 x2]] w fun e w' => ∃ v, e = .returned (.tuple #[.agg #[.int .i64 (entE L (x1, x2)).1.1, .int .i64 (entE L (x1, x2)).1.2, v], errV A (takeEN L (x1, x2))]) ∧ SlN (fun b => w.heap.size ≤ b) encV w' v (entE L (x1, x2)).2 ∧ RowKit.Below w.heap.size w w' :=
  h.read fun M bt bp tt pl MT hS => (sent_call hS x1 x2 hx hA.er8 hA.bits).mono fun e w' ⟨v, h1, h2, h3⟩ => ⟨v, h1, SlN.of lenV h2 rfl, h3⟩
set_option maxHeartbeats 4000000 in
set_option maxRecDepth 100000 in
theorem qentities (h : StoO N base w ps L) (hA : Era base w A) (a b : Nat) (ha : a < 18446744073709551616) (hb : b < 18446744073709551616) :
    Calls Tryz.prog 26 #[qV a b, psP ps] w fun e w' => ∃ v, e = .returned v ∧ LsE w' TrueN v (ansE L a b) ∧ RowKit.Below w.heap.size w w' := by
  have bb := Ba (Below.refl _ w) (qB a b)
  have B0 := Lib.hid bb
  have S0 := Lib.hid (h.below bb)
  have HA := Lib.hid (hA.below bb)
  have HG := Lib.hid h.good
  have C := Lib.hid (qhandles (h.below bb) a b ha hb)
  have hlenX : (ansE L a b).length ≤ 128 := Nat.le_trans (len_ans L a b) HG.out.len
  have hHX : ∀ k, k < (ansE L a b).length → (hds (ansE L a b))[k]! = (ansE L a b)[k]!.1 := fun k hk => hds_at9 hk
  have hHL := hds_len9 (ansE L a b)
  have hEnt : ∀ k, k < (ansE L a b).length → entE L (ansE L a b)[k]!.1 = (ansE L a b)[k]! ∧ takeEN L (ansE L a b)[k]!.1 = 0 ∧ HdOk (ansE L a b)[k]!.1 := fun k hk => by
    have e1 := entE_of (ans_ent HG.out.rise hk)
    exact ⟨e1.1, e1.2, HG.out.hd _ (ans_mem hk).1⟩
  have HENT := Lib.hid hEnt
  have HHX := Lib.hid hHX
  have hst : ∀ k, k < (ansE L a b).length → (ansE L a b).take (k + 1) = (ansE L a b).take k ++ [(ansE L a b)[k]!] := fun k hk => take_step9 hk
  have HST := Lib.hid hst
  obtain ⟨X, hX⟩ : ∃ X, X = ansE L a b := ⟨_, rfl⟩
  rw [← hX] at C HENT HHX hlenX hHL HST
  rw [← hX]
  obtain ⟨H, hH⟩ : ∃ H, H = hds X := ⟨_, rfl⟩
  rw [← hH] at C HHX hHL
  obtain ⟨W, hW⟩ : ∃ W, W = w.alloc (qB a b) := ⟨_, rfl⟩
  have b0 := Lib.hid (heap_alloc_new w (qB a b))
  rw [← hW] at B0 C S0 HA b0
  clear h hA bb hX hH hEnt hHX ha hb hst
  go_enter Tryz.func26, Tryz.ntmps26
  go_wp2_with fail
  rw [← hW]
  clear hW
  refine C.out.mono ?_
  rintro e w1 ⟨v1, rfl, hs1, hb1⟩
  obtain ⟨p1, c1, rfl, hc1, hc2, hp1⟩ := hs1
  have HP1 := Lib.hid hp1
  have B1 := Lib.hid (Bt B0.out hb1)
  have S1 := Lib.hid (S0.out.below hb1)
  have A1 := Lib.hid (HA.out.below hb1)
  have hn2 : X.length ≤ 9223372036854775807 := by omega
  clear hb1 C hp1 hc2 S0 HA
  rw [hHL] at hc1
  rw [hHL]
  go_wp2
  go_loopw [5, 14] (fun s5 s14 wr => ∃ (k : Nat) (Z : List Zn), s14 = .int .i64 k ∧ k ≤ X.length ∧ Hid (wr.ownsRow w1.heap.size 38 3 s5 Z.length (flat encZ Z)) ∧ Hid (Z.map Prod.fst = X.take k) ∧ Hid (∀ z ∈ Z, SlN (fun b => s5.ownBlock ≠ some b) encV wr (slV z.2) z.1.2) ∧ Hid (RowKit.Below w1.heap.size w1 wr)) (fun _ i _ => X.length - (intOf i).toNat)
  case atStart => exact ⟨0, [], rfl, Nat.zero_le _, Lib.hid (World.ownsRow_nil _ _ _ _), Lib.hid rfl, Lib.hid (fun z hz => nomatch hz), Lib.hid (Below.refl _ _)⟩
  case round =>
    obtain ⟨k, Z, rfl, hk, HO, HZ, HS, HB⟩ := hrel
    have hZl : Z.length = k := by
      have := congrArg List.length HZ.out
      rw [List.length_map, List.length_take] at this
      omega
    by_cases hkn : k < X.length
    · have hkz : (k : Int) < (X.length : Int) := by omega
      obtain ⟨g1, o1, rfl, hg1, hcells⟩ := HP1.out (by omega)
      have d1 : w1.cell? ⟨g1, o1 + k * 2, none⟩ = some (.int .i64 H[k]!.1) := sl_at lenH hcells (show k < H.length by omega) 0 _ rfl
      have d2 : w1.cell? ⟨g1, o1 + k * 2 + 1, none⟩ = some (.int .i64 H[k]!.2) := sl_at lenH hcells (show k < H.length by omega) 1 _ rfl
      rw [HHX.out k hkn] at d1 d2
      obtain ⟨n1, n2, n3⟩ := HENT.out k hkn
      have HSK := Lib.hid (HST.out k hkn)
      replace d1 := Bc HB.out hg1 d1
      replace d2 := Bc HB.out hg1 d2
      have hgr : g1 < wr.heap.size := Nat.lt_of_lt_of_le hg1 HB.out.size
      generalize X[k]! = y at *
      obtain ⟨⟨y1, y2⟩, yl⟩ := y
      dsimp only at d1 d2 n1 n2 n3
      have bA := Ba (Below.refl _ wr) (.cells #[.int .i64 y1, .int .i64 y2] 31)
      have BA := Lib.hid (Bt HB.out bA)
      have CE := Lib.hid (entS2 (S1.out.below BA.out) y1 y2 n3 (A1.out.below BA.out))
      rw [n1, n2, errV_no] at CE
      have OA := Lib.hid (row_below HO.out bA)
      have SA := Lib.hid (fun z hz => (HS.out z hz).below bA)
      clear n1 n2 n3 hcells bA
      go_wp2_with fail
      refine CE.out.mono ?_
      rintro e w5 ⟨v5, rfl, hs5, hb5⟩
      obtain ⟨p5, c5, rfl, _, _, _⟩ := id hs5
      have hwa : wr.heap.size < (wr.alloc (.cells #[.int .i64 y1, .int .i64 y2] 31)).heap.size := by simp
      have Y4 := Lib.hid (show SlN (fun b => u5.ownBlock ≠ some b) encV w5 (.slice p5 yl.length c5) yl from hs5.mono (fun b e c => by have := row_lt HO.out c; omega))
      have bE := Ba (Ba (Below.refl _ w5) (eB y1 y2 p5 yl.length c5)) (eB y1 y2 p5 yl.length c5)
      have hz6 : w5.heap.size + 1 = (w5.alloc (eB y1 y2 p5 yl.length c5)).heap.size := by simp
      have B5 := Lib.hid (Bt BA.out (Bt hb5 bE))
      have O5 := Lib.hid (row_below OA.out (Bt hb5 bE))
      have SZ := Lib.hid (fun z hz => (SA.out z hz).below (Bt hb5 bE))
      have Y5 := Lib.hid (Y4.out.below bE)
      have L5 := Lib.hid (sl_lit (enc := encZ) (w := w5.alloc (eB y1 y2 p5 yl.length c5)) (cs := #[.int .i64 y1, .int .i64 y2, .slice p5 yl.length c5]) (t := 38) (b := w5.heap.size + 1) [(((y1, y2), yl), (p5, yl.length, c5))] hz6 rfl (by unfold maxLen; simp))
      clear hs5 hb5 bE CE hwa Y4 d1 d2 hgr BA OA SA hz6
      go_wp2_with (at_builtin; refine wpl_app2 apZ rfl _ _ rfl w1.heap.size (by rfl) (by rfl) O5.out rfl L5.out (by simp; omega) B5.out.size ?_; intro v7 w7 hown7 hgrow7 hat7 hnil7; have O7 := Lib.hid hown7; have B7 := Lib.hid (grownB B5.out O5.out hgrow7); have Z7 := Lib.hid (fun z hz => (SZ.out z hz).app9 hgrow7 hat7); have Y7 := Lib.hid (Y5.out.app9 hgrow7 hat7); clear hown7 hgrow7 hat7 hnil7)
      go_roundw
      case measure => simp [intOf]; omega
      case rel => exact ⟨k + 1, Z ++ [(((y1, y2), yl), (p5, yl.length, c5))], by go_num, by omega, O7, Lib.hid (by rw [List.map_append, HZ.out, HSK.out]; rfl), Lib.hid (fun z hz => by
        rcases List.mem_append.1 hz with e | e
        · exact Z7.out z e
        · rw [List.mem_singleton.1 e]; exact Y7.out), B7⟩
    · have hkk : k = X.length := by omega
      have HZ9 := HZ.out
      rw [hkk, List.take_length] at HZ9
      have FIN := Lib.hid (show LsE wr TrueN u5 X from ⟨Z, (SlN.of lenZ HO.out rfl).mono (fun _ _ => trivial), HZ9, fun z hz => (HS.out z hz).mono (fun _ _ => trivial)⟩)
      have BF := Lib.hid (Bt B1.out HB.out)
      clear HZ9 hkk
      go_wp2
      go_ret
      exact ⟨_, rfl, FIN.out, BF.out⟩
set_option maxHeartbeats 4000000 in
set_option maxRecDepth 100000 in
theorem qboxes (h : StoO N base w ps L) (hA : Era base w A) (a b : Nat) (ha : a < 18446744073709551616) (hb : b < 18446744073709551616) :
    Calls Tryz.prog 28 #[qV a b, psP ps] w fun e w' => ∃ v, e = .returned v ∧ Sl encH w' v (bxE (ansE L a b)) ∧ RowKit.Below w.heap.size w w' := by
  have bb := Ba (Below.refl _ w) (qB a b)
  have B0 := Lib.hid bb
  have HG := Lib.hid h.good
  have C := Lib.hid (qentities (h.below bb) (hA.below bb) a b ha hb)
  have hlenX : (ansE L a b).length ≤ 128 := Nat.le_trans (len_ans L a b) HG.out.len
  have hRt : ∀ k, k < (ansE L a b).length → RightV (ansE L a b)[k]!.2 := fun k hk => HG.out.right _ (ans_mem hk).1
  have HRT := Lib.hid hRt
  obtain ⟨X, hX⟩ : ∃ X, X = ansE L a b := ⟨_, rfl⟩
  rw [← hX] at C HRT hlenX
  rw [← hX]
  obtain ⟨W, hW⟩ : ∃ W, W = w.alloc (qB a b) := ⟨_, rfl⟩
  have b0 := Lib.hid (heap_alloc_new w (qB a b))
  rw [← hW] at B0 C b0
  clear h hA bb hX hRt ha hb HG
  go_enter Tryz.func28, Tryz.ntmps28
  go_wp2_with fail
  rw [← hW]
  clear hW
  refine C.out.mono ?_
  rintro e w1 ⟨v1, rfl, hs1, hb1⟩
  obtain ⟨p1, c1, rfl, hc1, hc2⟩ := hs1.form
  have HP1 := Lib.hid hs1
  have B1 := Lib.hid (Bt B0.out hb1)
  have hn2 : X.length ≤ 9223372036854775807 := by omega
  clear hb1 C hs1 hc2
  go_wp2
  go_loopw [5, 14] (fun s5 s14 wr => ∃ (k : Nat), s14 = .int .i64 k ∧ k ≤ X.length ∧ Hid (wr.ownsRow w1.heap.size 31 2 s5 (bxE (X.take k)).length (flat encH (bxE (X.take k)))) ∧ Hid (RowKit.Below w1.heap.size w1 wr)) (fun _ i _ => X.length - (intOf i).toNat)
  case atStart => exact ⟨0, rfl, Nat.zero_le _, Lib.hid (World.ownsRow_nil _ _ _ _), Lib.hid (Below.refl _ _)⟩
  case round =>
    obtain ⟨k, rfl, hk, HO, HB⟩ := hrel
    by_cases hkn : k < X.length
    · have hkz : (k : Int) < (X.length : Int) := by omega
      have hbl := Nat.le_trans (bxE_len (X.take k)) (show (X.take k).length ≤ k by simp; omega)
      have HST := Lib.hid (bxE_step hkn)
      have hrt := HRT.out k hkn
      obtain ⟨g, o, sp, c, rfl, hg, _, d1, d2, d3, hsl, hq1, hq2⟩ := HP1.out.at hkn
      replace d1 := Bc HB.out hg d1
      replace d2 := Bc HB.out hg d2
      replace d3 := Bc HB.out hg d3
      have hgr : g < wr.heap.size := Nat.lt_of_lt_of_le hg HB.out.size
      generalize X[k]! = y at *
      obtain ⟨⟨y1, y2⟩, yl⟩ := y
      dsimp only at d1 d2 d3 hsl hrt HST
      have bE := Ba (Below.refl _ wr) (eB y1 y2 sp yl.length c)
      have E1 := Lib.hid (heap_alloc_new wr (eB y1 y2 sp yl.length c))
      have BE := Lib.hid (Bt HB.out bE)
      have OE := Lib.hid (row_below HO.out bE)
      have CB := Lib.hid (box_call yl _ (wr.alloc (eB y1 y2 sp yl.length c)) (hsl.sl.below BE.out) hrt.2)
      obtain ⟨x1, x2, x3, x4, hx4⟩ := boxA_form yl
      rw [hx4] at CB
      clear hx4 hsl hrt bE
      obtain ⟨q, hq⟩ : ∃ q, q = boxB yl := ⟨_, rfl⟩
      rw [← hq] at CB HST
      generalize yl.length = n9 at *
      clear hq
      obtain ⟨⟨e0, e1, e2⟩, _, _, _⟩ := three_cells E1.out
      have hel := cell_lt e0
      cases q with
      | true =>
        have hst := HST.out
        simp only [if_true] at hst
        have HS1 := Lib.hid hst
        clear hst HST
        go_wp2_with fail
        refine CB.out.mono ?_
        rintro e w5 ⟨rfl, hb5⟩
        have bX := Ba (Ba (Below.refl _ w5) (.cells #[.int .i64 x1, .int .i64 x2, .int .i64 x3, .int .i64 x4] 70)) (.cells #[.int .i64 y1, .int .i64 y2] 31)
        have B5 := Lib.hid (Bt BE.out (Bt hb5 bX))
        have O5 := Lib.hid (row_below OE.out (Bt hb5 bX))
        have hz6 : w5.heap.size + 1 = (w5.alloc (.cells #[.int .i64 x1, .int .i64 x2, .int .i64 x3, .int .i64 x4] 70)).heap.size := by simp
        have L5 := Lib.hid (sl_lit (enc := encH) (w := w5.alloc (.cells #[.int .i64 x1, .int .i64 x2, .int .i64 x3, .int .i64 x4] 70)) (cs := #[.int .i64 y1, .int .i64 y2]) (t := 31) (b := w5.heap.size + 1) [(y1, y2)] hz6 rfl (by unfold maxLen; simp))
        obtain ⟨⟨e0, e1, e2⟩, _, _, _⟩ := three_cells (blk_below E1.out hb5)
        have hel := cell_lt e0
        clear hb5 bX CB d1 d2 d3 hgr BE OE hz6
        go_wp2_with (at_builtin; refine wpl_app2 apHd rfl _ _ rfl w1.heap.size (by rfl) (by rfl) O5.out rfl L5.out (by simp; omega) B5.out.size ?_; intro v7 w7 hown7 hgrow7 hat7 hnil7; have O7 := Lib.hid hown7; have B7 := Lib.hid (grownB B5.out O5.out hgrow7); clear hown7 hgrow7 hat7 hnil7)
        go_roundw
        case measure => simp [intOf]; omega
        case rel => exact ⟨k + 1, by go_num, by omega, Lib.hid (by rw [HS1.out]; exact O7.out), B7⟩
      | false =>
        have hst := HST.out
        simp only [Bool.false_eq_true, if_false] at hst
        have HS1 := Lib.hid hst
        clear hst HST
        go_wp2_with fail
        refine CB.out.mono ?_
        rintro e w5 ⟨rfl, hb5⟩
        have bX := Ba (Below.refl _ w5) (.cells #[.int .i64 x1, .int .i64 x2, .int .i64 x3, .int .i64 x4] 70)
        have B5 := Lib.hid (Bt BE.out (Bt hb5 bX))
        have O5 := Lib.hid (row_below OE.out (Bt hb5 bX))
        clear hb5 bX CB d1 d2 d3 hgr BE OE
        go_wp2
        go_roundw
        case measure => simp [intOf]; omega
        case rel => exact ⟨k + 1, by go_num, by omega, Lib.hid (by rw [HS1.out]; exact O5.out), B5⟩
    · have hkk : k = X.length := by omega
      have HO9 := HO.out
      rw [hkk, List.take_length] at HO9
      have FIN := Lib.hid (row_sl lenH HO9 rfl)
      have BF := Lib.hid (Bt B1.out HB.out)
      clear HO9 hkk
      go_wp2
      go_ret
      exact ⟨_, rfl, FIN.out, BF.out⟩
end
set_option maxHeartbeats 1000000 in
theorem qboth (a b c d : Nat) (ha : a < 18446744073709551616) (hb : b < 18446744073709551616) (hc : c < 18446744073709551616) (hd : d < 18446744073709551616) (w : World) :
    Calls Tryz.prog 30 #[qV a b, qV c d] w fun e w' => e = .returned (qV (a ||| c) (b ||| d)) ∧ RowKit.Below w.heap.size w w' := by
  have o0 := u64_or_nat a c ha hc
  have o1 := u64_or_nat b d hb hd
  obtain ⟨x, hx⟩ : ∃ x, x = a ||| c := ⟨_, rfl⟩
  obtain ⟨y, hy⟩ : ∃ y, y = b ||| d := ⟨_, rfl⟩
  rw [← hx] at o0 ⊢
  rw [← hy] at o1 ⊢
  clear hx hy ha hb hc hd
  go_enter Tryz.func30, Tryz.ntmps30
  go_wp2
  exact bodyPost_ret (v := qV x y) (by simp [results, Tryz.results30, go_sem, *]) rfl ⟨rfl, (by repeat (first | with_reducible exact Below.refl _ _ | with_reducible assumption | with_reducible apply Ba | with_reducible apply Bd | with_reducible apply Bn | with_reducible apply Bg | (with_reducible refine Bs ?_ (by first | (simp; done) | (simp; omega)) _) | (with_reducible refine Bt ?_ (by assumption)) | (with_reducible refine Bt ?_ (Gr.below (by assumption)))))⟩
end Go.Proofs.YtaehendpdfpibaaGreatDoor

/-
  The reference's queries: Fits, Entities; two rows of entities that are the same.
-/
namespace Go.Proofs.YtaehendpdfpibaaGreatDoor
set_option linter.unusedSimpArgs false
set_option linter.unusedVariables false
open Go.RowKit Go.Sort Go.Lib Go.Shelf

theorem ansE_step {L : List En} {k : Nat} (hk : k < L.length) (a b : Nat) : ansE (L.take (k + 1)) a b = if fitN (maskV L[k]!.2) a b = true then ansE (L.take k) a b ++ [L[k]!] else ansE (L.take k) a b := by
  rw [getElem!_pos L k hk]
  unfold ansE
  rw [List.take_add_one, List.getElem?_eq_getElem hk, List.filter_append]
  cases e : fitN (maskV L[k].2) a b <;> simp [List.filter_cons, e]
set_option maxHeartbeats 4000000 in
set_option maxRecDepth 100000 in
theorem rqents {N1 : Nat → Prop} (X : List En) (v : Value) (a b : Nat) (ha : a < 18446744073709551616) (hb : b < 18446744073709551616) (w : World) (hv : LsE w N1 v X) (hr : ∀ r ∈ X, RightV r.2) (hlen : X.length ≤ 1000) :
    Calls Tryz.prog 23 #[v, .int .u64 a, .int .u64 b] w fun e w' => ∃ v, e = .returned v ∧ LsE w' TrueN v (ansE X a b) ∧ RowKit.Below w.heap.size w w' := by
  obtain ⟨p1, c1, rfl, hc1, hc2⟩ := hv.form
  have HL := Lib.hid hv
  have HR := Lib.hid hr
  have CF : Hid (∀ l v W, Sl encV W v l → RightV l → l.length ≤ 100000 → Calls Tryz.prog 61 #[v, .int .u64 a, .int .u64 b] W fun e w' => e = .returned (.bool (fitN (maskV l) a b)) ∧ RowKit.Below W.heap.size W w') := fun l v W h1 h2 h3 => rqfits a b ha hb l v W h1 h2 h3
  clear hv hr ha hb
  go_enter Tryz.func23, Tryz.ntmps23
  go_wp2
  go_loopw [7, 13] (fun s7 s13 wr => ∃ (k : Nat) (Z : List Zn), s13 = .int .i64 k ∧ k ≤ X.length ∧ Hid (wr.ownsRow w.heap.size 38 3 s7 Z.length (flat encZ Z)) ∧ Hid (Z.length ≤ k) ∧ Hid (Z.map Prod.fst = ansE (X.take k) a b) ∧ Hid (∀ z ∈ Z, SlN (fun b => b < w.heap.size) encV wr (slV z.2) z.1.2) ∧ Hid (RowKit.Below w.heap.size w wr)) (fun _ i _ => X.length - (intOf i).toNat)
  case atStart => exact ⟨0, [], rfl, Nat.zero_le _, Lib.hid (World.ownsRow_made w #[] 0 (Nat.le_refl _) (Nat.zero_le _) (by simp)), Lib.hid (Nat.le_refl _), Lib.hid rfl, Lib.hid (fun z hz => nomatch hz), Lib.hid (by repeat (first | with_reducible exact Below.refl _ _ | with_reducible assumption | with_reducible apply Ba | with_reducible apply Bd | with_reducible apply Bn | with_reducible apply Bg | (with_reducible refine Bs ?_ (by first | (simp; done) | (simp; omega)) _) | (with_reducible refine Bt ?_ (by assumption)) | (with_reducible refine Bt ?_ (Gr.below (by assumption)))))⟩
  case round =>
    obtain ⟨k, Z, rfl, hk, HO, HZl, HZ, HS, HB⟩ := hrel
    by_cases hkn : k < X.length
    · have hkz : (k : Int) < (X.length : Int) := by omega
      have HST := Lib.hid (ansE_step hkn a b)
      have hrt := HR.out X[k]! (by rw [getElem!_pos X k hkn]; exact List.getElem_mem _)
      obtain ⟨g, o, sp, c, rfl, hg, _, d1, d2, d3, hsl, hq1, hq2⟩ := HL.out.at hkn
      replace d1 := Bc HB.out hg d1
      replace d2 := Bc HB.out hg d2
      replace d3 := Bc HB.out hg d3
      have hgr : g < wr.heap.size := Nat.lt_of_lt_of_le hg HB.out.size
      have hl9 : X[k]!.2.length ≤ 100000 := by
        have := rowL_len X[k]!.2; rw [(right_row hrt).2] at this
        omega
      generalize X[k]! = y at *
      obtain ⟨⟨y1, y2⟩, yl⟩ := y
      dsimp only at d1 d2 d3 hsl hrt HST hl9
      have bE := Ba (Below.refl _ wr) (eB y1 y2 sp yl.length c)
      have E1 := Lib.hid (heap_alloc_new wr (eB y1 y2 sp yl.length c))
      have BE := Lib.hid (Bt HB.out bE)
      have CB := Lib.hid (CF.out yl _ (wr.alloc (eB y1 y2 sp yl.length c)) (hsl.sl.below BE.out) hrt hl9)
      have SV := Lib.hid hsl.sl.slN
      have OE := Lib.hid (row_below HO.out bE)
      have SE := Lib.hid (fun z hz => (HS.out z hz).below bE)
      obtain ⟨q, hq⟩ : ∃ q, q = fitN (maskV yl) a b := ⟨_, rfl⟩
      rw [← hq] at CB HST
      clear hq hsl hrt bE hl9
      obtain ⟨⟨e0, e1, e2⟩, _, _, _⟩ := three_cells E1.out
      have hel := cell_lt e0
      cases q with
      | true =>
        have hst := HST.out
        simp only [if_true] at hst
        have HS1 := Lib.hid hst
        clear hst HST
        go_wp2_with fail
        refine CB.out.mono ?_
        rintro e w5 ⟨rfl, hb5⟩
        have bX := Ba (Below.refl _ w5) (eB y1 y2 sp yl.length c)
        have B5 := Lib.hid (Bt BE.out (Bt hb5 bX))
        have O5 := Lib.hid (row_below OE.out (Bt hb5 bX))
        have S5 := Lib.hid (fun z hz => (SE.out z hz).below (Bt hb5 bX))
        have V5 := Lib.hid (SV.out.below B5.out)
        have L5 := Lib.hid (sl_lit (enc := encZ) (w := w5) (cs := #[.int .i64 y1, .int .i64 y2, .slice sp yl.length c]) (t := 38) (b := w5.heap.size) [(((y1, y2), yl), (sp, yl.length, c))] rfl rfl (by unfold maxLen; simp))
        obtain ⟨⟨e0, e1, e2⟩, _, _, _⟩ := three_cells (blk_below E1.out hb5)
        have hel := cell_lt e0
        have hzl := HZl.out
        clear hb5 bX CB d1 d2 d3 hgr BE OE SE SV
        go_wp2_with (at_builtin; refine wpl_app2 apZ rfl _ _ rfl w.heap.size (by rfl) (by rfl) O5.out rfl L5.out (by simp; omega) B5.out.size ?_; intro v7 w7 hown7 hgrow7 hat7 hnil7; have O7 := Lib.hid hown7; have B7 := Lib.hid (grownB B5.out O5.out hgrow7); have Z7 := Lib.hid (fun z hz => (S5.out z hz).kept (Tch.grown (M := fun b => w.heap.size ≤ b) hgrow7 (fun g hg => own_lo O5.out hg)) (fun b e c => by omega)); have Y7 := Lib.hid (V5.out.kept (Tch.grown (M := fun b => w.heap.size ≤ b) hgrow7 (fun g hg => own_lo O5.out hg)) (fun b e c => by omega)); clear hown7 hgrow7 hat7 hnil7)
        go_roundw
        case measure => simp [intOf]; omega
        case rel => exact ⟨k + 1, Z ++ [(((y1, y2), yl), (sp, yl.length, c))], by go_num, by omega, O7, Lib.hid (by simp; omega), Lib.hid (by rw [List.map_append, HZ.out, HS1.out]; rfl), Lib.hid (fun z hz => by
          rcases List.mem_append.1 hz with e | e
          · exact Z7.out z e
          · rw [List.mem_singleton.1 e]; exact Y7.out), B7⟩
      | false =>
        have hst := HST.out
        simp only [Bool.false_eq_true, if_false] at hst
        have HS1 := Lib.hid hst
        clear hst HST
        go_wp2_with fail
        refine CB.out.mono ?_
        rintro e w5 ⟨rfl, hb5⟩
        have B5 := Lib.hid (Bt BE.out hb5)
        have O5 := Lib.hid (row_below OE.out hb5)
        have S5 := Lib.hid (fun z hz => (SE.out z hz).below hb5)
        have hzl := HZl.out
        clear hb5 CB d1 d2 d3 hgr BE OE SE SV
        go_wp2
        go_roundw
        case measure => simp [intOf]; omega
        case rel => exact ⟨k + 1, Z, by go_num, by omega, O5, Lib.hid (by omega), Lib.hid (by rw [HS1.out]; exact HZ.out), S5, B5⟩
    · have hkk : k = X.length := by omega
      have HZ9 := HZ.out
      rw [hkk, List.take_length] at HZ9
      have FIN := Lib.hid (show LsE wr TrueN u7 (ansE X a b) from ⟨Z, (SlN.of lenZ HO.out rfl).mono (fun _ _ => trivial), HZ9, fun z hz => (HS.out z hz).mono (fun _ _ => trivial)⟩)
      clear HZ9 hkk
      go_wp2
      go_ret
      exact ⟨_, rfl, FIN.out, HB.out⟩
set_option maxHeartbeats 4000000 in
set_option maxRecDepth 100000 in
theorem rsameAll {N1 N2 : Nat → Prop} (X : List En) (va vb : Value) (w : World) (ha : LsE w N1 va X) (hb : LsE w N2 vb X) (hlen : X.length ≤ 1000) :
    Calls Tryz.prog 25 #[va, vb] w fun e w' => e = .returned (.bool true) ∧ RowKit.Below w.heap.size w w' := by
  obtain ⟨p1, c1, rfl, hc1, hc2⟩ := ha.form
  obtain ⟨p2, c2, rfl, hc3, hc4⟩ := hb.form
  have HA := Lib.hid ha
  have HB := Lib.hid hb
  clear ha hb
  go_enter Tryz.func25, Tryz.ntmps25
  go_wp2
  go_loopw [13] (fun s13 wr => ∃ (k : Nat), s13 = .int .i64 k ∧ k ≤ X.length ∧ Hid (RowKit.Below w.heap.size w wr)) (fun i _ => X.length - (intOf i).toNat)
  case atStart => exact ⟨0, rfl, Nat.zero_le _, Lib.hid (Below.refl _ _)⟩
  case round =>
    obtain ⟨k, rfl, hk, HZ⟩ := hrel
    by_cases hkn : k < X.length
    · have hkz : (k : Int) < (X.length : Int) := by omega
      obtain ⟨g, o, sp, c, e9, hg, _, d1, d2, d3, hsl, hq1, hq2⟩ := HA.out.at hkn
      obtain ⟨g', o', sp', c', e8, hg', _, d1', d2', d3', hsl', hq1', hq2'⟩ := HB.out.at hkn
      replace d1 := Bc HZ.out hg d1
      replace d2 := Bc HZ.out hg d2
      replace d3 := Bc HZ.out hg d3
      replace d1' := Bc HZ.out hg' d1'
      replace d2' := Bc HZ.out hg' d2'
      replace d3' := Bc HZ.out hg' d3'
      have hgr : g < wr.heap.size := Nat.lt_of_lt_of_le hg HZ.out.size
      have hgr' : g' < wr.heap.size := Nat.lt_of_lt_of_le hg' HZ.out.size
      subst e9 e8
      generalize X[k]! = y at *
      obtain ⟨⟨y1, y2⟩, yl⟩ := y
      dsimp only at d1 d2 d3 d1' d2' d3' hsl hsl'
      have CS : Hid (∀ W, RowKit.Below wr.heap.size wr W → Calls Tryz.prog 47 #[.agg #[.int .i64 y1, .int .i64 y2, .slice sp yl.length c], .agg #[.int .i64 y1, .int .i64 y2, .slice sp' yl.length c']] W fun e w' => e = .returned (.bool true) ∧ RowKit.Below W.heap.size W w') := fun W hb => (rsame_call y1 y2 y1 y2 yl yl _ _ W (hsl.sl.below (Bt HZ.out hb)) (hsl'.sl.below (Bt HZ.out hb))).mono fun e w' ⟨h1, h2⟩ => ⟨by rw [h1]; simp, h2.below⟩
      clear hsl hsl'
      go_wp2_with fail
      refine wp_region_held_drew (S := (fun w' => Below (wr).heap.size (wr) w' ∧ ∀ b_1 o, b_1 < (wr).heap.size → w'.cell? ⟨b_1, o, none⟩ = (wr).cell? ⟨b_1, o, none⟩)) (by kernel_rfl) (keep0 _) (fun hHeld => ?_)
      (refine wpAnyH_take (i := 0) (v := ?_) rfl (by kernel_rfl) (by kernel_rfl) (by kernel_rfl) (fun _ _ _ h => h) (Or.inl ⟨by rfl, ?rt⟩) (by assumption) ?_; case rt => (intro w hSw; (try dsimp only at hSw); go_simp; (try with_reducible rfl))); (try simp only [Act.put, List.getElem_toArray, List.getElem_cons_succ, List.getElem_cons_zero, List.setIfInBounds_toArray, List.set_cons_zero, List.set_cons_succ])
      (refine wpAnyH_take (i := 1) (v := ?_) rfl (by kernel_rfl) (by kernel_rfl) (by kernel_rfl) (fun _ _ _ h => h) (Or.inl ⟨by rfl, ?rt⟩) (by assumption) ?_; case rt => (intro w hSw; (try dsimp only at hSw); go_simp; (try with_reducible rfl))); (try simp only [Act.put, List.getElem_toArray, List.getElem_cons_succ, List.getElem_cons_zero, List.setIfInBounds_toArray, List.set_cons_zero, List.set_cons_succ])
      (refine wpAnyH_take (i := 2) (v := ?_) rfl (by kernel_rfl) (by kernel_rfl) (by kernel_rfl) (fun _ _ _ h => h) (Or.inl ⟨by rfl, ?rt⟩) (by assumption) ?_; case rt => (intro w hSw; (try dsimp only at hSw); go_simp; (try with_reducible rfl))); (try simp only [Act.put, List.getElem_toArray, List.getElem_cons_succ, List.getElem_cons_zero, List.setIfInBounds_toArray, List.set_cons_zero, List.set_cons_succ])
      (refine wpAnyH_take (i := 3) (v := ?_) rfl (by kernel_rfl) (by kernel_rfl) (by kernel_rfl) (fun _ _ _ h => h) (Or.inl ⟨by rfl, ?rt⟩) (by assumption) ?_; case rt => (intro w hSw; (try dsimp only at hSw); go_simp; (try with_reducible rfl))); (try simp only [Act.put, List.getElem_toArray, List.getElem_cons_succ, List.getElem_cons_zero, List.setIfInBounds_toArray, List.set_cons_zero, List.set_cons_succ])
      (refine wpAnyH_take (i := 4) (v := ?_) rfl (by kernel_rfl) (by kernel_rfl) (by kernel_rfl) (fun _ _ _ h => h) (Or.inl ⟨by rfl, ?rt⟩) (by assumption) ?_; case rt => (intro w hSw; (try dsimp only at hSw); go_simp; (try with_reducible rfl))); (try simp only [Act.put, List.getElem_toArray, List.getElem_cons_succ, List.getElem_cons_zero, List.setIfInBounds_toArray, List.set_cons_zero, List.set_cons_succ])
      (refine wpAnyH_take (i := 5) (v := ?_) rfl (by kernel_rfl) (by kernel_rfl) (by kernel_rfl) (fun _ _ _ h => h) (Or.inl ⟨by rfl, ?rt⟩) (by assumption) ?_; case rt => (intro w hSw; (try dsimp only at hSw); go_simp; (try with_reducible rfl))); (try simp only [Act.put, List.getElem_toArray, List.getElem_cons_succ, List.getElem_cons_zero, List.setIfInBounds_toArray, List.set_cons_zero, List.set_cons_succ])
      (refine wpAnyH_take (i := 6) (v := ?_) rfl (by kernel_rfl) (by kernel_rfl) (by kernel_rfl) (fun _ _ _ h => h) (Or.inl ⟨by rfl, ?rt⟩) (by assumption) ?_; case rt => (intro w hSw; (try dsimp only at hSw); go_simp; (try with_reducible rfl))); (try simp only [Act.put, List.getElem_toArray, List.getElem_cons_succ, List.getElem_cons_zero, List.setIfInBounds_toArray, List.set_cons_zero, List.set_cons_succ])
      (refine wpAnyH_take (i := 7) (v := ?_) rfl (by kernel_rfl) (by kernel_rfl) (by kernel_rfl) (fun _ _ _ h => h) (Or.inl ⟨by rfl, ?rt⟩) (by assumption) ?_; case rt => (intro w hSw; (try dsimp only at hSw); go_simp; (try with_reducible rfl))); (try simp only [Act.put, List.getElem_toArray, List.getElem_cons_succ, List.getElem_cons_zero, List.setIfInBounds_toArray, List.set_cons_zero, List.set_cons_succ])
      (refine wpAnyH_ready (rs := [8]) (by kernel_rfl) (by simp) ?_; refine AllReadyH.cons rfl (fun K hK => ?_) AllReadyH.nil; go_simp; refine (CS.out _ hHeld.1).mono ?_; rintro e w1 ⟨rfl, hb1⟩; refine hK.out _ _ (keepB (by assumption) hb1) (fun hHeld => ?_); clear hK K); (try simp only [Act.put, List.getElem_toArray, List.getElem_cons_succ, List.getElem_cons_zero, List.setIfInBounds_toArray, List.set_cons_zero, List.set_cons_succ])
      (refine wpAnyH_take (i := 9) (v := ?_) rfl (by kernel_rfl) (by kernel_rfl) (by kernel_rfl) (fun _ _ _ h => h) (Or.inl ⟨by rfl, ?rt⟩) (by assumption) ?_; case rt => (intro w hSw; (try dsimp only at hSw); go_simp; (try with_reducible rfl))); (try simp only [Act.put, List.getElem_toArray, List.getElem_cons_succ, List.getElem_cons_zero, List.setIfInBounds_toArray, List.set_cons_zero, List.set_cons_succ])
      refine wpAnyH_done (by kernel_rfl) ?_ _
      have B1 := Lib.hid (Bt HZ.out hHeld.1)
      clear hHeld hb1
      go_wp2
      go_roundw
      case measure => simp [intOf]; omega
      case rel => exact ⟨k + 1, by go_num, by omega, B1⟩
    · go_wp2
      go_ret
      exact ⟨rfl, HZ.out⟩
end Go.Proofs.YtaehendpdfpibaaGreatDoor

/-
  Pure: a kind's bit alone; a query and its other half; boxes in order; what asks more.
-/
namespace Go.Proofs.YtaehendpdfpibaaGreatDoor
set_option linter.unusedSimpArgs false
set_option linter.unusedVariables false
open Go.RowKit Go.Sort Go.Lib Go.Shelf

theorem one_kind {k : Nat} : foldN true 0 [(k : Int)] = 2 ^ k := by simp [foldN, opN]
theorem fit_one (m k : Nat) : fitN m (2 ^ k) 0 = m.testBit k ∧ fitN m 0 (2 ^ k) = !m.testBit k := by
  constructor
  · rw [Bool.eq_iff_iff, fitN_iff]
    constructor
    · rintro ⟨h, _⟩
      exact h k (by rw [Nat.testBit_two_pow]; simp)
    · intro h
      refine ⟨fun i hi => ?_, fun i _ => Nat.zero_testBit i⟩
      rw [Nat.testBit_two_pow] at hi
      have : k = i := by simpa using hi
      rw [← this]; exact h
  · unfold fitN
    rw [and_bit]
    simp
theorem filt_two {α : Type} (p : α → Bool) : ∀ l : List α, (l.filter p).length + (l.filter fun x => !p x).length = l.length
  | [] => rfl
  | x :: l => by
    have := filt_two p l
    cases h : p x <;> simp [List.filter_cons, h] <;> omega
theorem ans_one (L : List En) (k : Nat) : ansE L (2 ^ k) 0 = L.filter (fun r => (maskV r.2).testBit k) ∧ ansE L 0 (2 ^ k) = L.filter (fun r => !(maskV r.2).testBit k) :=
  ⟨List.filter_congr fun r _ => (fit_one _ k).1, List.filter_congr fun r _ => (fit_one _ k).2⟩
theorem ans_halves {L : List En} (hL : RiseE L) (k : Nat) :
    (hds (ansE L (2 ^ k) 0)).length + (hds (ansE L 0 (2 ^ k))).length = (hds L).length ∧ srt ltH (hds (ansE L (2 ^ k) 0) ++ hds (ansE L 0 (2 ^ k))) = hds L ∧ (ansE L (2 ^ k ||| 0) (0 ||| 2 ^ k)).length = 0 := by
  obtain ⟨e1, e2⟩ := ans_one L k
  refine ⟨?_, ?_, ?_⟩
  · rw [hds_len9, hds_len9, hds_len9, e1, e2]
    exact filt_two _ L
  · refine srt_eq sto_hd hL fun z => ?_
    rw [e1, e2, List.mem_append]
    unfold hds
    simp only [List.mem_map, List.mem_filter]
    constructor
    · rintro ⟨r, hr, rfl⟩
      cases h : (maskV r.2).testBit k
      · exact .inr ⟨r, ⟨hr, by rw [h]; rfl⟩, rfl⟩
      · exact .inl ⟨r, ⟨hr, h⟩, rfl⟩
    · rintro (⟨r, hr, rfl⟩ | ⟨r, hr, rfl⟩)
      · exact ⟨r, hr.1, rfl⟩
      · exact ⟨r, hr.1, rfl⟩
  · rw [ans_two, List.length_eq_zero_iff, List.filter_eq_nil_iff]
    intro r _
    rw [(fit_one _ k).1, (fit_one _ k).2]
    simp
theorem ans_more {L : List En} {a b k : Nat} {i : Nat} (hi : i < (ansE L (a ||| 2 ^ k) b).length) : (ansE L (a ||| 2 ^ k) b)[i]!.1 ∈ hds (ansE L a b) := by
  obtain ⟨h1, h2⟩ := ans_mem hi
  have h3 := fitN_both (maskV (ansE L (a ||| 2 ^ k) b)[i]!.2) a b (2 ^ k) 0
  rw [Nat.or_zero, h2] at h3
  have h4 := (Bool.and_eq_true _ _ ▸ h3.symm : _ ∧ _).1
  exact List.mem_map.2 ⟨_, List.mem_filter.2 ⟨h1, h4⟩, rfl⟩
theorem more_kind (a k : Nat) : foldN true a [(k : Int)] = a ||| 2 ^ k := by simp [foldN, opN]
/-- Boxes, in order. -/
theorem bxE_at {X : List En} {i : Nat} (hi : i < X.length) (hb : boxB X[i]!.2 = true) : (bxE (X.take i)).length < (bxE X).length ∧ (bxE X)[(bxE (X.take i)).length]! = X[i]!.1 := by
  have h1 := bxE_step hi
  rw [if_pos hb] at h1
  have h2 : bxE X = bxE (X.take (i + 1)) ++ bxE (X.drop (i + 1)) := by
    conv => lhs; rw [← List.take_append_drop (i + 1) X]
    unfold bxE hds
    rw [List.filter_append, List.map_append]
  have hl : (bxE (X.take i)).length < (bxE X).length := by rw [h2, h1]; simp
  refine ⟨hl, ?_⟩
  rw [getElem!_pos (bxE X) _ hl]
  have : (bxE X)[(bxE (X.take i)).length]? = some X[i]!.1 := by
    rw [h2, h1, List.append_assoc, List.getElem?_append_right (Nat.le_refl _)]
    simp
  rw [List.getElem?_eq_getElem hl] at this
  exact Option.some.inj this
/-- At the list of a plain region's operations: an append under a guard that holds. -/
theorem wpl_app2g {α : Type} {enc : α → List Value} {st et k : Nat} {z : Value} {bytes : Nat} (A : Ap enc st et k z bytes) {w : World} {ops : Array Oper} {rest : List Oper} {o : Oper} {a : Act} {Q : Exit → Act → World → Prop} (hgd : Region.wanted o (yielded ops a.tmps) = true) (s x : Operand) (ho : o.op = .call { callee := .builtin .append, args := #[s, x], argTypes := #[st, st] }) (base : Nat)
    {v vx : Value} {n : Nat} {la lb : List α} (hs : a.eval s = v) (hx : a.eval x = vx) (hown : w.ownsRow base et k v n (flat enc la)) (hn : n = la.length) (hX : Sl enc w vx lb) (hlen : la.length + lb.length ≤ 1000000) (hbase : base ≤ w.heap.size)
    (h : ∀ v' w', w'.ownsRow base et k v' (la ++ lb).length (flat enc (la ++ lb)) → w.grownBy w' v.ownBlock → (v'.ownBlock = v.ownBlock ∨ v'.ownBlock = some w.heap.size) → (lb = [] → v' = v) → wpList Tryz.prog ops Q rest (a.put o.dst v') w') : wpList Tryz.prog ops Q (o :: rest) a w := by
  unfold wpList
  rw [if_pos hgd]
  exact .inl (wp_app2 A s x ho base hs hx hown hn hX hlen hbase h)
end Go.Proofs.YtaehendpdfpibaaGreatDoor

/-
  The reference's Has of handles.
-/
namespace Go.Proofs.YtaehendpdfpibaaGreatDoor
set_option linter.unusedSimpArgs false
set_option linter.unusedVariables false
open Go.RowKit Go.Sort Go.Lib Go.Shelf
set_option maxHeartbeats 1000000 in
/-- The reference's Has. -/
theorem has_call (l : List Hd) (v : Value) (a b : Int) (w : World) (hl : Sl encH w v l) : Calls Tryz.prog 36 #[v, .agg #[.int .i64 a, .int .i64 b]] w fun e w' => e = .returned (.bool (decide ((a, b) ∈ l))) ∧ Gr w w' := by
  obtain ⟨p, cap, rfl, h1, h2, h⟩ := hl
  have hbig : l.length ≤ 9223372036854775807 := by unfold maxLen at h2; omega
  have eq1 := eqH_run
  have gd1 := gdH_run
  have HL := Lib.hid h
  clear h h2
  go_enter Tryz.func36, Tryz.ntmps36
  go_wp2
  go_loopw [9] (fun i wr => ∃ k : Nat, k ≤ l.length ∧ i = .int .i64 k ∧ Gr (w.alloc (.cells #[.int .i64 a, .int .i64 b] 31)) wr ∧ ¬ (a, b) ∈ l.take k) (fun i _ => l.length - (intOf i).toNat)
  case atStart => exact ⟨0, Nat.zero_le _, rfl, (by repeat (first | with_reducible exact Gr.refl _ | with_reducible assumption | with_reducible apply Gr.alloc | with_reducible apply Gr.drewN | with_reducible apply Gr.drew | with_reducible apply Gr.grow | (with_reducible refine Gr.trans ?_ (by assumption)))), by simp⟩
  case round =>
    obtain ⟨k, hk, rfl, hg, ht⟩ := hrel
    have hb1 := hg.below
    by_cases hkn : k < l.length
    · obtain ⟨g, o, rfl, hg1, hg2⟩ := HL.out (by omega)
      obtain ⟨c1, c2⟩ := atH hg2 hkn
      have hgl : g < wr.heap.size := by have := hb1.size; simp at this; omega
      have hlw : w.heap.size < wr.heap.size := by have := hb1.size; simp at this; omega
      replace c1 : wr.cell? ⟨g, o + k * 2, none⟩ = _ := (hb1.cell (p := ⟨g, o + k * 2, none⟩) (by simp; omega)).trans ((by simp [World.cell?_alloc_past (w := w) _ g _ hg1]; exact c1))
      replace c2 : wr.cell? ⟨g, o + k * 2 + 1, none⟩ = _ := (hb1.cell (p := ⟨g, o + k * 2 + 1, none⟩) (by simp; omega)).trans ((by simp [World.cell?_alloc_past (w := w) _ g _ hg1]; exact c2))
      have d1 : wr.cell? ⟨w.heap.size, 0, none⟩ = some (.int .i64 a) := (hb1.cell (p := ⟨w.heap.size, 0, none⟩) (by simp)).trans (by simp)
      have d2 : wr.cell? ⟨w.heap.size, 1, none⟩ = some (.int .i64 b) := (hb1.cell (p := ⟨w.heap.size, 1, none⟩) (by simp)).trans (by simp)
      have et : l.take (k + 1) = l.take k ++ [l[k]!] := by rw [getElem!_pos l k hkn]; exact List.take_succ_eq_append_getElem hkn
      generalize hx : l[k]! = x at *
      obtain ⟨x1, x2⟩ := x
      dsimp only at c1 c2
      have hne0 : ¬ w.heap.size = wr.heap.size := by omega
      have HT := Lib.hid ht
      have HX := Lib.hid hx
      have ET := Lib.hid et
      clear ht hg2 hb1 hx et
      by_cases hxy : ((x1, x2) : Hd) = (a, b)
      · obtain ⟨rfl, rfl⟩ : x1 = a ∧ x2 = b := by simpa using hxy
        have hm : decide (((x1, x2) : Hd) ∈ l) = true := decide_eq_true (List.mem_of_mem_take (by rw [ET.out]; simp : ((x1, x2) : Hd) ∈ l.take (k + 1)))
        have HM := Lib.hid hm
        clear hm hxy
        go_wp2
        go_ret
        exact ⟨by rw [HM.out]; rfl, (by repeat (first | with_reducible exact Gr.refl _ | with_reducible assumption | with_reducible apply Gr.alloc | with_reducible apply Gr.drewN | with_reducible apply Gr.drew | with_reducible apply Gr.grow | (with_reducible refine Gr.trans ?_ (by assumption))))⟩
      · have e2 := and_ne hxy
        have hm : ¬ ((a, b) : Hd) ∈ l.take (k + 1) := by
          rw [ET.out]
          simp only [List.mem_append, List.mem_singleton, not_or]
          exact ⟨HT.out, fun e => hxy e.symm⟩
        have HM := Lib.hid hm
        clear hm hxy
        go_wp2
        go_roundw
        case measure => simp [intOf]; omega
        case rel => exact ⟨k + 1, by omega, by go_num, (by repeat (first | with_reducible exact Gr.refl _ | with_reducible assumption | with_reducible apply Gr.alloc | with_reducible apply Gr.drewN | with_reducible apply Gr.drew | with_reducible apply Gr.grow | (with_reducible refine Gr.trans ?_ (by assumption)))), HM.out⟩
    · have hkn' : k = l.length := by omega
      have hm : decide (((a, b) : Hd) ∈ l) = false := decide_eq_false (by rwa [hkn', List.take_length] at ht)
      have HM := Lib.hid hm
      clear hm ht
      go_wp2
      go_ret
      exact ⟨by rw [HM.out]; rfl, (by repeat (first | with_reducible exact Gr.refl _ | with_reducible assumption | with_reducible apply Gr.alloc | with_reducible apply Gr.drewN | with_reducible apply Gr.drew | with_reducible apply Gr.grow | (with_reducible refine Gr.trans ?_ (by assumption))))⟩

end Go.Proofs.YtaehendpdfpibaaGreatDoor

/-
  The arguments' shapes: a query; rows and a query's masks together.
-/
namespace Go.Proofs.YtaehendpdfpibaaGreatDoor
set_option linter.unusedSimpArgs false
set_option linter.unusedVariables false
open Go.ChangeShapes Go.WideShapes Go.ChangeAt Go.RowKit Go.Joins Go.Sort
section
variable {H : Type} {enc : TypeId × Value → H} {W : World} {b0 : Nat} {held : Bool} {v : Value} {d : DataW H} {p : List MemPlace}
theorem cellsQry : Tryz.prog.cellsOf 62 = 2 := by kernel_rfl
theorem cellsAsk : Tryz.prog.cellsOf 56 = 3 := by kernel_rfl
set_option maxRecDepth 100000 in
theorem open_query (hv : Value.okWide Tryz.prog W .any b0 62 v) (h : DataW.Trod enc Tryz.prog W 0 (fun _ => true) held 62 v d p) :
    ∃ a b : Nat, v = .agg #[.int .u64 (a : Int), .int .u64 (b : Int)] ∧ a < 18446744073709551616 ∧ b < 18446744073709551616 := by
  obtain ⟨c0, c1, y0, y1, m, rfl, rfl, rfl, h0, h1⟩ := open_agg2 Tryz.underlying62 (by kernel_rfl) cellsQry hv h
  obtain ⟨a, e0, _, wa⟩ := DataW.trod_int Tryz.underlying60 h0
  obtain ⟨b, e1, _, wb⟩ := DataW.trod_int Tryz.underlying60 h1
  simp at e0 e1
  subst e0 e1
  obtain ⟨a', rfl, ha⟩ := nat_u64 wa
  obtain ⟨b', rfl, hb⟩ := nat_u64 wb
  exact ⟨a', b', rfl, ha, hb⟩
set_option maxRecDepth 100000 in
theorem open_rowsC {fuel : Nat} {c : Value} {x : DataW H × List MemPlace} (hf : DataW.trod enc Tryz.prog W 0 (fun _ => true) held fuel 53 [c] = some x) : ∃ l : List Rr, Sl encRr W c l ∧ ∀ x ∈ l, Sl encV W x.1 x.2 := by
  rcases Go.Deep.open_slice Tryz.underlying53 hf with ⟨hcs, _⟩ | ⟨a, len, cap, m, k, D, Pl, hcs, _, hl, hm, hmm, hx, hi⟩
  · simp at hcs
    subst hcs
    exact ⟨[], Sl.nil none 0 (Nat.zero_le _), by simp⟩
  · simp at hcs
    subst hcs
    simp only [if_true] at hmm
    subst hmm
    refine sl_of_elemsP (p := fun x : Rr => Sl encV W x.1 x.2) lenRr (by omega) hl hm fun i hic => ?_
    obtain ⟨cs', hc, ht⟩ := hi i (by omega)
    rw [cellsVals] at hc
    obtain ⟨_, hlen, hat⟩ := World.cells?_some hc
    match cs', hlen with
    | [c0], _ =>
      obtain ⟨l, hl5⟩ := open_valsC ht
      refine ⟨(c0, l), hl5, fun c u hu => ?_⟩
      have hcl : c < 1 := by have := (List.getElem?_eq_some_iff.1 hu).1; rwa [lenRr] at this
      have k0 := hat c (by simpa using hcl)
      rw [Go.Deep.add_add] at k0
      rw [k0]
      exact hu
set_option maxRecDepth 100000 in
theorem open_ask (hv : Value.okWide Tryz.prog W .any b0 56 v) (h : DataW.Trod enc Tryz.prog W 0 (fun _ => true) held 56 v d p) :
    ∃ (c : Value) (l : List Rr) (a b : Nat), v = .agg #[c, .int .u64 (a : Int), .int .u64 (b : Int)] ∧ Sl encRr W c l ∧ (∀ x ∈ l, Sl encV W x.1 x.2) ∧ a < 18446744073709551616 ∧ b < 18446744073709551616 := by
  obtain ⟨c0, c1, c2, y0, y1, y2, m, rfl, rfl, rfl, h0, h1, h2⟩ := open_agg3 Tryz.underlying56 (by kernel_rfl) cellsAsk hv h
  obtain ⟨l, hl1, hl2⟩ := open_rowsC h0
  obtain ⟨a, e1, _, wa⟩ := DataW.trod_int Tryz.underlying54 h1
  obtain ⟨b, e2, _, wb⟩ := DataW.trod_int Tryz.underlying54 h2
  simp at e1 e2
  subst e1 e2
  obtain ⟨a', rfl, ha⟩ := nat_u64 wa
  obtain ⟨b', rfl, hb⟩ := nat_u64 wb
  exact ⟨c0, l, a', b', rfl, hl1, hl2, ha, hb⟩
end
end Go.Proofs.YtaehendpdfpibaaGreatDoor
