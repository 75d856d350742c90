/-
  HandlesOnce, walked.
-/
import Derived.Test.YthodmicoejnfaaaDoorMap
import Derived.Test.YthodmicoejnfaaaDoorOp
import Derived.Test.YthodmicoejnfaaaDoorBck
namespace Go.Proofs.YthodmicoejnfaaaDoor
set_option linter.unusedSimpArgs false
set_option linter.unusedVariables false
open Go.RowKit Go.Sort Go.Lib Go.Shelf Go.ChangeShapes Go.WideShapes

/-- A HANDLE AND A BOOL AS RECORDS OF OUR OWN: the walker's simp splits what ranges over a pair or over a bool. -/
structure KH where
  a : Int
  b : Int
structure KB where
  c : Bool
def mkHd (x : KH) : Value := .agg #[.int .i64 x.a, .int .i64 x.b]
def mkB (x : KB) : Value := .bool x.c
theorem invHd (key : Value) (kl : Lit) (h : keyOf Tryd.prog 40 key = some kl) : ∃ x, key = mkHd x := by
  obtain ⟨x, e, _⟩ := keyH_inv h
  exact ⟨⟨x.1, x.2⟩, e⟩
theorem invB (v : Value) (y : DataW Unit × List MemPlace) (h : plainElem Tryd.prog 4 v = some y) : ∃ c, v = mkB c := by
  obtain ⟨c, e, _⟩ := elemB_inv h
  exact ⟨⟨c⟩, e⟩
section
variable {w w' : World}
theorem grown_below (h : w.grownBy w' none) : RowKit.Below w.heap.size w w' := ⟨h.os, h.tape, h.output, h.size, fun k hk => h.block k hk (by simp)⟩
theorem below_grown (h : RowKit.Below w.heap.size w w') : w.grownBy w' none := ⟨h.os, h.tape, h.output, h.size, fun k hk _ => h.block k hk⟩
theorem bel_iter {wc : World} (h : RowKit.Below wc.heap.size wc w) (hg : w.grownBy w' (some wc.heap.size)) : RowKit.Below wc.heap.size wc w' :=
  ⟨hg.os.trans h.os, hg.tape.trans h.tape, hg.output.trans h.output, Nat.le_trans h.size hg.size, fun k hk => (hg.block k (Nat.lt_of_lt_of_le hk h.size) (by simp; omega)).trans (h.block k hk)⟩
theorem bel_map {a : World} {b : Nat} (h : RowKit.Below a.heap.size a w) (hg : w.grownBy w' (some b)) (hb : a.heap.size ≤ b) : RowKit.Below a.heap.size a w' :=
  ⟨hg.os.trans h.os, hg.tape.trans h.tape, hg.output.trans h.output, Nat.le_trans h.size hg.size, fun k hk => (hg.block k (Nat.lt_of_lt_of_le hk h.size) (by simp; omega)).trans (h.block k hk)⟩
theorem mapH_mono {b n : Nat} {G : List Hd} (h : MapH w b n G) : MapH w b (n + 1) G := ⟨h.1.mono (Nat.le_succ n), h.2⟩
theorem blk_map {b n : Nat} {G : List Hd} (h : MapH w b n G) {b2 : Nat} {c : Array Value} {t : Nat} {f : Nat × Nat} (hb : w.heap[b2]? = some (.cells c t f)) (hg : w.grownBy w' (some b)) : w'.heap[b2]? = some (.cells c t f) :=
  (hg.block b2 (Array.getElem?_eq_some_iff.1 hb).1 (fun e => by
    obtain ⟨⟨es, cl, hm, _⟩, _⟩ := h
    rw [Option.some.inj e, hm] at hb
    cases hb)).trans hb
theorem row_map {b n : Nat} {G : List Hd} (h : MapH w b n G) {b0 et k m : Nat} {v : Value} {xs : List Value} (hr : w.ownsRow b0 et k v m xs) (hg : w.grownBy w' (some b)) : w'.ownsRow b0 et k v m xs :=
  row_keep hr (fun g e => by
    obtain ⟨c, hc⟩ := row_type hr e
    exact (blk_map h hc hg).trans hc.symm)
theorem PoolX.map {T base pa b n : Nat} {X : Nat → Prop} {S : List Slt} {Fr : List Int} {G : List Hd} (hp : PoolX T base X w pa S Fr) (h : MapH w b n G) (hg : w.grownBy w' (some b)) : PoolX T base X w' pa S Fr :=
  hp.keep hg.size fun b2 cs t f hb _ => (blk_map h hb hg).trans hb.symm
end

set_option maxHeartbeats 4000000 in
set_option maxRecDepth 100000 in
theorem once_walk (l : List Opr) (v : Value) (w : World) (hv : Sl encO w v l) (A : Nat → Addr) (hE : Errs w A) : Calls Tryd.prog 4 #[v] w fun e w' => e = .returned (.bool true) ∧ RowKit.Below w.heap.size w w' := by
  obtain ⟨p0, c0, rfl, v1, v2, v3⟩ := hv
  unfold maxLen at v2
  have HV := Lib.hid v3
  have HE := Lib.hid hE
  clear v3 hE
  have hmm := @run_makeMap Tryd.prog
  by_cases hbig : l.length ≤ 150
  · have hb : ¬ (150 : Int) < (l.length : Int) := by omega
    go_enter Tryd.func4, Tryd.ntmps4
    go_wp2_with fail
    refine (alive_any w).mono ?_
    rintro e w1 ⟨rfl, hb1⟩
    have B1 := Lib.hid hb1
    clear hb1
    go_wp2_with fail
    refine (newX w.heap.size NoX w1 B1.out.size (noX w1)).mono ?_
    rintro e w2 ⟨pa, rfl, hp2, hb2⟩
    have B2 := Lib.hid (B1.out.trans (hb2.mono B1.out.size))
    have hw2 : w.heap.size ≤ w2.heap.size := B2.out.size
    have DM := Lib.hid (Ba (Ba (Ba (Below.refl _ w2) (.map #[] 0)) (.map #[] 0)) (.cells #[] 40))
    have P2 := Lib.hid (hp2.below DM.out)
    have G2 := Lib.hid ((MapH.made w2).below (Ba (Ba (Below.refl _ (w2.alloc (.map #[] 0))) (.map #[] 0)) (.cells #[] 40)))
    have N2 := Lib.hid (show MapH (((w2.alloc (.map #[] 0)).alloc (.map #[] 0)).alloc (.cells #[] 40)) (w2.heap.size + 1) 0 [] by
      have := (MapH.made (w2.alloc (.map #[] 0))).below (Ba (Below.refl _ _) (.cells #[] 40))
      simpa using this)
    have R2 := Lib.hid (show (((w2.alloc (.map #[] 0)).alloc (.map #[] 0)).alloc (.cells #[] 40)).ownsRow w.heap.size 40 2 (.slice (some ⟨((w2.alloc (.map #[] 0)).alloc (.map #[] 0)).heap.size, 0, none⟩) 0 0) ([] : List Hd).length (flat encH []) from World.ownsRow_lit _ #[] 0 (by simp; omega) (Nat.zero_le _) rfl)
    clear hp2 hb2
    go_wp2_with fail
    clear hmm
    go_loopw [6, 25] (fun v i wr => ∃ (k : Nat) (S : List Slt) (Fr : List Int) (L G N : List Hd), k ≤ l.length ∧ i = .int .i64 k ∧ PoolX 67 w.heap.size NoX wr pa S Fr ∧ Right S Fr ∧ wr.ownsRow w.heap.size 40 2 v L.length (flat encH L) ∧ MapH wr w2.heap.size k G ∧ MapH wr (w2.heap.size + 1) k N ∧ OnceInv k S L G N ∧ RowKit.Below w.heap.size w wr) (fun _ i _ => l.length - (intOf i).toNat)
    case atStart =>
      refine ⟨0, [], [], [], [], [], Nat.zero_le _, rfl, P2.out, right_new, (by simpa using R2.out), G2.out, N2.out, once_new, B2.out.trans (DM.out.mono B2.out.size)⟩
    case round =>
      obtain ⟨k, S, Fr, L, G, N, hk, rfl, hp, r, hr, hG, hN, hI, hb⟩ := hrel
      have HP := Lib.hid hp
      have HRt := Lib.hid r
      have HR := Lib.hid hr
      have HGm := Lib.hid hG
      have HNm := Lib.hid hN
      have HI := Lib.hid hI
      have HB := Lib.hid hb
      have hLl : L.length ≤ 128 := by
        rw [← hI.count]
        exact Nat.le_trans (listN_len S S.length) r.len
      clear hp r hr hG hN hI hb
      by_cases hkn : k < l.length
      · obtain ⟨g, o, rfl, hg, cO⟩ := HV.out (by omega)
        obtain ⟨d1, d2, d3, d4⟩ := atO cO hkn
        replace d1 := Bc HB.out hg d1
        replace d2 := Bc HB.out hg d2
        replace d3 := Bc HB.out hg d3
        replace d4 := Bc HB.out hg d4
        clear cO
        generalize l[k]!.1 = kd at *
        generalize l[k]!.2.1 = n at *
        generalize l[k]!.2.2.1 = hi at *
        generalize l[k]!.2.2.2 = hgn at *
        obtain ⟨pl, cl, rfl, q1, q2, q3⟩ := row_val HR.out
        unfold maxLen at q2
        have HO := Lib.hid (Ba (Below.refl _ wr) (.cells #[.int .i64 kd, .int .i64 n, .int .i64 hi, .int .i64 hgn] 42))
        obtain ⟨wo, hwo⟩ : ∃ wo, wo = wr.alloc (.cells #[.int .i64 kd, .int .i64 n, .int .i64 hi, .int .i64 hgn] 42) := ⟨_, rfl⟩
        have Po := Lib.hid (HP.out.below HO.out)
        have Ro := Lib.hid (row_below HR.out HO.out)
        have Go := Lib.hid (HGm.out.below HO.out)
        have No := Lib.hid (HNm.out.below HO.out)
        have Bo := Lib.hid (HB.out.trans (HO.out.mono HB.out.size))
        rw [← hwo] at Po Ro Go No Bo
        have HWo := Lib.hid hwo
        clear hwo
        obtain ⟨wp, rfl⟩ : ∃ wp : World, wp = wr := ⟨_, rfl⟩
        by_cases hfree : kd = 2 ∧ 0 < L.length
        · skip
          obtain ⟨rfl, hlen⟩ := hfree
          obtain ⟨g2, rfl, hg2, _⟩ := q3 hlen
          obtain ⟨m, hm, he⟩ := idx_any n L.length hlen (by omega)
          obtain ⟨y0, y1⟩ := row_cellsH Ro.out m hm
          obtain ⟨f1, f2, f3, f4⟩ := OnceInv.free HI.out HRt.out (by omega) hm
          have f5 := Past.ok f4 HRt.out
          have RF := Lib.hid (right_free HRt.out f1)
          generalize L[m]! = x at y0 y1 f1 f2 f3 f4 f5 RF
          obtain ⟨h0, h1⟩ := x
          dsimp only at y0 y1 f5
          have XOK := Lib.hid (show HdOk (h0, h1) from ⟨wf64 (by omega) (by omega), wf64 (by omega) (by omega)⟩)
          have F1 := Lib.hid f1
          have F2 := Lib.hid f2
          have F3 := Lib.hid f3
          rw [HWo.out] at y0 y1
          clear q3 f1 f2 f3 f4 f5
          go_wp2_with fail
          rw [← HWo.out]
          clear y0 y1
          have hszo : wp.heap.size + 1 = wo.heap.size := by rw [HWo.out]; simp
          have DA := Lib.hid (Bd (Ba (Below.refl _ wo) (.cells #[.int .i64 h0, .int .i64 h1] 40)))
          have hl1 : m ≤ L.length := by omega
          have hl2 : m ≤ cl := by omega
          have hl3 : m + 1 ≤ L.length := by omega
          have hl4 : m + 1 ≤ cl := by omega
          have FR := Lib.hid (rowH_front (row_below Ro.out DA.out) rfl m hl1)
          have TL := Lib.hid (rowH_tail (row_below Ro.out DA.out) rfl (m + 1) hl3)
          have LE := Lib.hid (show (L.take m).length + (L.drop (m + 1)).length ≤ 1000000 by simp; omega)
          have Z3 := Lib.hid (show w.heap.size ≤ (wo.alloc (.cells #[.int .i64 h0, .int .i64 h1] 40)).drew.heap.size from Nat.le_trans Bo.out.size DA.out.size)
          have hz0 : (0 : Int) ≤ (m : Int) + 1 := by omega
          have hz1 : (m : Int) + 1 ≤ (L.length : Int) := by omega
          have hwr : IntKind.i64.wrap ((m : Int) + 1) = (m : Int) + 1 := IntWalk.i64_in _ (by omega)
          have hwr2 : ((m : Int) + 1).toNat = m + 1 := by omega
          have HG2 := Lib.hid (row_lt Ro.out (g := g2) rfl)
          have HSZ := Lib.hid hszo
          clear hszo
          go_region_held3 (fun _ => True) (trivial) ((refine step_app2 apH rfl (.tmp 51) (.tmp 55) rfl w.heap.size (by rfl) (by rfl) FR.out rfl TL.out LE.out Z3.out ?_; intro v5 w5 hown5 hgrow5 hat5 _))
          all_goals
            have P5 := Lib.hid ((Po.out.below DA.out).grown FR.out (by decide) hgrow5)
            have B5 := Lib.hid (grownB (Bo.out.trans (DA.out.mono Bo.out.size)) FR.out hgrow5)
            have G5 := Lib.hid ((Go.out.below DA.out).grown FR.out hgrow5)
            have N5 := Lib.hid ((No.out.below DA.out).grown FR.out hgrow5)
            have X5 := Lib.hid (show w5.heap[wp.heap.size + 1]? = some (.cells #[.int .i64 h0, .int .i64 h1] 40) from by rw [HSZ.out]; exact (hgrow5.block wo.heap.size (by show wo.heap.size < (wo.alloc (.cells #[.int .i64 h0, .int .i64 h1] 40)).heap.size; simp) (by simp only [Value.ownBlock, ne_eq, Option.some.injEq]; have := HG2.out; omega)).trans (heap_alloc_new wo (.cells #[.int .i64 h0, .int .i64 h1] 40)))
            rw [erase_split] at hown5
            have O5 := Lib.hid hown5
            obtain ⟨pv, cv, rfl, _, _, _⟩ := row_val hown5
            clear hown5 hgrow5 hat5 hwr hwr2 he hz0 hz1
            obtain ⟨z0, z1, _, _⟩ := two_cells X5.out
            go_wp2_with (at_mapUpdate; refine wpList_mapUpdate_own _ rfl _ _ _ 55 rfl 40 4 hdKeyed underlyingMap _ (w2.heap.size + 1) k (setH N) (by rfl) N5.out.1 (by unfold maxLen; omega) _ _ _ (by rfl) (by rfl) (keyH XOK.out) _ [] (plainElem_bool Tryd.underlying4 true) ?_; intro w6 hown6 hgrow6; have N6 := Lib.hid (MapH.put N5.out.2 XOK.out hown6); have G6 := Lib.hid (G5.out.other hgrow6 (by omega)); have P6 := Lib.hid (P5.out.map N5.out hgrow6); have O6 := Lib.hid (row_map N5.out O5.out hgrow6); have X6 := Lib.hid (blk_map N5.out X5.out hgrow6); have B6 := Lib.hid (bel_map B5.out hgrow6 (show w.heap.size ≤ w2.heap.size + 1 by omega)); clear hown6 hgrow6; obtain ⟨z2, z3, _, _⟩ := two_cells X6.out)
            all_goals
              refine (freeX P6.out HRt.out h0 h1 F1.out).mono ?_
              rintro e w7 ⟨rfl, hp7, hk7⟩
              have P7 := Lib.hid hp7
              have G7 := Lib.hid (G6.out.kq hk7)
              have N7 := Lib.hid (N6.out.kq hk7)
              have O7 := Lib.hid (hk7.row O6.out (by decide))
              have X7 := Lib.hid (hk7.cells X6.out (by decide))
              have B7 := Lib.hid (B6.out.trans (hk7.below B6.out.size))
              clear hp7 hk7 z0 z1 z2 z3
              obtain ⟨z0, z1, _, _⟩ := two_cells X7.out
              go_wp2_with fail
              refine (freeX_no P7.out h0 h1 F3.out _ _ (errNone_at (HE.out.below B7.out))).mono ?_
              rintro e w8 ⟨rfl, hb8⟩
              have P8 := Lib.hid (P7.out.below hb8)
              have G8 := Lib.hid (G7.out.below hb8)
              have N8 := Lib.hid (N7.out.below hb8)
              have O8 := Lib.hid (row_below O7.out hb8)
              have B8 := Lib.hid (B7.out.trans (hb8.mono B7.out.size))
              clear hb8
              go_wp2_with fail
              refine (num_none (HE.out.below B8.out)).mono ?_
              rintro e wc ⟨rfl, hb9⟩
              have PT := Lib.hid (P8.out.below hb9)
              have GT := Lib.hid (mapH_mono (G8.out.below hb9))
              have NT := Lib.hid (N8.out.below hb9)
              have OT := Lib.hid (row_below O8.out hb9)
              have BT := Lib.hid (B8.out.trans (hb9.mono B8.out.size))
              have RT := Lib.hid RF.out
              have IT := Lib.hid F2.out
              clear hb9
              have hsT := RT.out.len
              have hnT := OnceInv.count IT.out
              have HCnt := Lib.hid hnT
              clear hnT
              go_wp2_with (at_range; refine wpList_range_own _ rfl _ 55 rfl 40 4 hdKeyed underlyingMap (plainElem Tryd.prog 4) (w2.heap.size + 1) (k + 1) (setH (N ++ [(h0, h1)])) (by rfl) NT.out.1 ?_; intro wR hrg0 hgR hsR; skip)
              go_frame
              have RG0 := Lib.hid hrg0
              have BR0 := Lib.hid (grown_below hgR)
              clear hrg0 hgR hsR
              go_loopw [96] (fun _ wr => ∃ left cnt, wr.ranges Tryd.prog 40 (plainElem Tryd.prog 4) (w2.heap.size + 1) wc.heap.size (k + 1) (setH (N ++ [(h0, h1)])) left cnt ∧ RowKit.Below wc.heap.size wc wr) (fun _ wr => wr.rangeLeft (w2.heap.size + 1) wc.heap.size)
              case atStart => exact ⟨_, _, RG0.out, BR0.out⟩
              case round =>
                obtain ⟨left, cnt, hrg, hbw⟩ := hrel
                have RG := Lib.hid hrg
                have BW := Lib.hid hbw
                clear hrg hbw
                go_wp2_with (at_next; refine wpList_next_ranges _ rfl _ rfl 40 hdKeyed (plainElem Tryd.prog 4) mkHd mkB invHd invB (w2.heap.size + 1) wc.heap.size (k + 1) (setH (N ++ [(h0, h1)])) left cnt (by rfl) RG.out ?_ ?_)
                · intro _ _
                  have HC := Lib.hid (count_call (PT.out.below BW.out).at.choose_spec (by omega))
                  rw [HCnt.out] at HC
                  have HPT := Lib.hid (PT.out.below BW.out)
                  have HOT := Lib.hid (row_below OT.out BW.out)
                  have HGT := Lib.hid (GT.out.below BW.out)
                  have HNT := Lib.hid (NT.out.below BW.out)
                  have HBT := Lib.hid (BT.out.trans (BW.out.mono BT.out.size))
                  go_wp2_with fail
                  refine HC.out.mono ?_
                  rintro e w9 ⟨rfl, hb9⟩
                  have E9 := Lib.hid hb9
                  clear hb9
                  go_wp2
                  go_roundw
                  case measure => simp [intOf]; omega
                  case rel => exact ⟨k + 1, (freeS S (h0, h1)), (freeF Fr (h0, h1)), (L.eraseIdx m), G, (N ++ [(h0, h1)]), by omega, by go_num, HPT.out.below E9.out, RT.out, (by first | exact row_below HOT.out E9.out | (have q := row_below HOT.out E9.out; simp only [List.length_append, List.length_cons, List.length_nil, Nat.zero_add] at q ⊢; exact q)), HGT.out.below E9.out, HNT.out.below E9.out, IT.out, HBT.out.trans (E9.out.mono HBT.out.size)⟩
                · intro x c kl yd yp wn cnt' hkey hlk hy hat hrgn hlt hgn hszn hen
                  obtain ⟨x0, x1⟩ := x
                  obtain ⟨cb⟩ := c
                  dsimp only [mkHd, mkB] at hkey hen ⊢
                  have hin := MapH.seen (x := (x0, x1)) NT.out.2 hkey hat
                  have HD := Lib.hid (OnceInv.dead IT.out hin)
                  have BN := Lib.hid (bel_iter (w' := wn) BW.out (by simpa using hgn))
                  have PN := Lib.hid (PT.out.below BN.out)
                  have RN := Lib.hid (hrgn.alloc (.cells #[.int .i64 x0, .int .i64 x1] 40))
                  have LV := Lib.hid (lives_call (PN.out.below (Ba (Below.refl _ wn) (.cells #[.int .i64 x0, .int .i64 x1] 40))).at.choose_spec x0 x1)
                  rw [HD.out] at LV
                  have HLT := Lib.hid hlt
                  clear hkey hlk hy hat hrgn hlt hgn hin
                  go_wp2_with fail
                  refine LV.out.mono ?_
                  rintro e w9 ⟨rfl, hb9⟩
                  have RZ : Hid (w9.ranges Tryd.prog 40 (plainElem Tryd.prog 4) (w2.heap.size + 1) wc.heap.size (k + 1) (setH (N ++ [(h0, h1)])) (fun z => left z && !z.sameKey kl) cnt') := Lib.hid (by simpa using RN.out.kept (below_grown hb9) (by simp) (by simp))
                  have BZ := Lib.hid ((Ba BN.out (.cells #[.int .i64 x0, .int .i64 x1] 40)).trans (hb9.mono (Ba BN.out (.cells #[.int .i64 x0, .int .i64 x1] 40)).size))
                  clear hb9 hen
                  go_wp2
                  go_roundw
                  case measure => rw [RZ.out.left_eq, RG.out.left_eq]; exact HLT.out
                  case rel => exact ⟨_, _, RZ.out, BZ.out⟩
        · clear q3
          cases ht : takeP S Fr with
          | none =>
            have HT := Lib.hid (takeX_none Po.out ht _ _ (errFull_at (HE.out.below Bo.out)))
            have hL128 : ((L.length : Int) == 128) = true := by
              have := OnceInv.full HI.out HRt.out (by omega) ht
              simp [this]
            clear ht
            by_cases hk2 : kd = 2
            · have hz2 : ¬ 0 < L.length := fun h => hfree ⟨hk2, h⟩
              have h128 : (L.length : Int) = 128 := by simpa using hL128
              exact absurd h128 (by omega)
            · have hz : (kd == 2) = false := by simpa using hk2
              clear hfree hk2
              go_wp2_with fail
              rw [← HWo.out]
              refine HT.out.mono ?_
              rintro e w3 ⟨rfl, hb3⟩
              have D4 := Lib.hid (Ba hb3 (.cells #[.int .i64 0, .int .i64 0] 40))
              have PT := Lib.hid (Po.out.below D4.out)
              have GT := Lib.hid (mapH_mono (Go.out.below D4.out))
              have NT := Lib.hid (mapH_mono (No.out.below D4.out))
              have OT := Lib.hid (row_below Ro.out D4.out)
              have BT := Lib.hid (Bo.out.trans (D4.out.mono Bo.out.size))
              have RT := Lib.hid HRt.out
              have IT := Lib.hid HI.out.next
              clear hb3
              have hLn : ((L.length : Int) != 128) = false := by
                have h128 : (L.length : Int) = 128 := by simpa using hL128
                simp [h128]
              have hsT := RT.out.len
              have hnT := OnceInv.count IT.out
              have HCnt := Lib.hid hnT
              clear hnT
              go_wp2_with (at_range; refine wpList_range_own _ rfl _ 55 rfl 40 4 hdKeyed underlyingMap (plainElem Tryd.prog 4) (w2.heap.size + 1) (k + 1) (setH N) (by rfl) NT.out.1 ?_; intro wR hrg0 hgR hsR; have hszw : (w3.alloc (.cells #[.int .i64 0, .int .i64 0] 40)).heap.size = w3.heap.size + 1 := (by simp); rw [hszw] at hrg0; try rw [hszw]; try simp only [hLn])
              go_frame
              have RG0 := Lib.hid hrg0
              have BR0 := Lib.hid (grown_below hgR)
              clear hrg0 hgR hsR
              go_loopw [96] (fun _ wr => ∃ left cnt, wr.ranges Tryd.prog 40 (plainElem Tryd.prog 4) (w2.heap.size + 1) (w3.heap.size + 1) (k + 1) (setH N) left cnt ∧ RowKit.Below (w3.alloc (.cells #[.int .i64 0, .int .i64 0] 40)).heap.size (w3.alloc (.cells #[.int .i64 0, .int .i64 0] 40)) wr) (fun _ wr => wr.rangeLeft (w2.heap.size + 1) (w3.heap.size + 1))
              case atStart => exact ⟨_, _, RG0.out, BR0.out⟩
              case round =>
                obtain ⟨left, cnt, hrg, hbw⟩ := hrel
                have RG := Lib.hid hrg
                have BW := Lib.hid hbw
                clear hrg hbw
                go_wp2_with (at_next; refine wpList_next_ranges _ rfl _ rfl 40 hdKeyed (plainElem Tryd.prog 4) mkHd mkB invHd invB (w2.heap.size + 1) (w3.heap.size + 1) (k + 1) (setH N) left cnt (by rfl) RG.out ?_ ?_)
                · intro _ _
                  have HC := Lib.hid (count_call (PT.out.below BW.out).at.choose_spec (by omega))
                  rw [HCnt.out] at HC
                  have HPT := Lib.hid (PT.out.below BW.out)
                  have HOT := Lib.hid (row_below OT.out BW.out)
                  have HGT := Lib.hid (GT.out.below BW.out)
                  have HNT := Lib.hid (NT.out.below BW.out)
                  have HBT := Lib.hid (BT.out.trans (BW.out.mono BT.out.size))
                  go_wp2_with fail
                  refine HC.out.mono ?_
                  rintro e w9 ⟨rfl, hb9⟩
                  have E9 := Lib.hid hb9
                  clear hb9
                  go_wp2
                  go_roundw
                  case measure => simp [intOf]; omega
                  case rel => exact ⟨k + 1, S, Fr, L, G, N, by omega, by go_num, HPT.out.below E9.out, RT.out, (by first | exact row_below HOT.out E9.out | (have q := row_below HOT.out E9.out; simp only [List.length_append, List.length_cons, List.length_nil, Nat.zero_add] at q ⊢; exact q)), HGT.out.below E9.out, HNT.out.below E9.out, IT.out, HBT.out.trans (E9.out.mono HBT.out.size)⟩
                · intro x c kl yd yp wn cnt' hkey hlk hy hat hrgn hlt hgn hszn hen
                  obtain ⟨x0, x1⟩ := x
                  obtain ⟨cb⟩ := c
                  dsimp only [mkHd, mkB] at hkey hen ⊢
                  have hin := MapH.seen (x := (x0, x1)) NT.out.2 hkey hat
                  have HD := Lib.hid (OnceInv.dead IT.out hin)
                  have BN := Lib.hid (bel_iter (w' := wn) BW.out (by simpa using hgn))
                  have PN := Lib.hid (PT.out.below BN.out)
                  have RN := Lib.hid (hrgn.alloc (.cells #[.int .i64 x0, .int .i64 x1] 40))
                  have LV := Lib.hid (lives_call (PN.out.below (Ba (Below.refl _ wn) (.cells #[.int .i64 x0, .int .i64 x1] 40))).at.choose_spec x0 x1)
                  rw [HD.out] at LV
                  have HLT := Lib.hid hlt
                  clear hkey hlk hy hat hrgn hlt hgn hin
                  go_wp2_with fail
                  refine LV.out.mono ?_
                  rintro e w9 ⟨rfl, hb9⟩
                  have RZ : Hid (w9.ranges Tryd.prog 40 (plainElem Tryd.prog 4) (w2.heap.size + 1) (w3.heap.size + 1) (k + 1) (setH N) (fun z => left z && !z.sameKey kl) cnt') := Lib.hid (by simpa using RN.out.kept (below_grown hb9) (by simp) (by simp))
                  have BZ := Lib.hid ((Ba BN.out (.cells #[.int .i64 x0, .int .i64 x1] 40)).trans (hb9.mono (Ba BN.out (.cells #[.int .i64 x0, .int .i64 x1] 40)).size))
                  clear hb9 hen
                  go_wp2
                  go_roundw
                  case measure => rw [RZ.out.left_eq, RG.out.left_eq]; exact HLT.out
                  case rel => exact ⟨_, _, RZ.out, BZ.out⟩
          | some q =>
            obtain ⟨⟨h0, h1⟩, S', Fr'⟩ := q
            have HT := Lib.hid (takeX Po.out HRt.out ht)
            have RT0 := Lib.hid (right_take HRt.out ht)
            obtain ⟨f1, f2, f3, f4, f5, f6, f7⟩ := OnceInv.take HI.out HRt.out ht
            dsimp only at f4 f5 f6 f7
            have XOK := Lib.hid (show HdOk (h0, h1) from ⟨wf64 (by omega) (by omega), wf64 (by omega) (by omega)⟩)
            have F1 := Lib.hid f1
            have F2 := Lib.hid f2
            have IT0 := Lib.hid f3
            clear ht f1 f2 f3 f4 f5 f6 f7
            by_cases hk2 : kd = 2
            · have hz : ¬ 0 < L.length := fun h => hfree ⟨hk2, h⟩
              have hz2 : ¬ (0 : Int) < (L.length : Int) := by omega
              subst hk2
              clear hfree
              go_wp2_with fail
              rw [← HWo.out]
              refine HT.out.mono ?_
              rintro e w3 ⟨rfl, hp3, hk3⟩
              have D4 := Lib.hid (Ba (Below.refl _ w3) (.cells #[.int .i64 h0, .int .i64 h1] 40))
              have P4 := Lib.hid (hp3.below D4.out)
              have G4 := Lib.hid ((Go.out.kq hk3).below D4.out)
              have N4 := Lib.hid ((No.out.kq hk3).below D4.out)
              have O4 := Lib.hid (row_below (hk3.row Ro.out (by decide)) D4.out)
              have B4 := Lib.hid (Bo.out.trans ((hk3.below Bo.out.size).trans (D4.out.mono (Nat.le_trans Bo.out.size hk3.size))))
              have X4 := Lib.hid (heap_alloc_new w3 (.cells #[.int .i64 h0, .int .i64 h1] 40))
              have e1 := G4.out.no XOK.out F1.out
              have e2 := N4.out.no XOK.out F2.out
              clear hp3 hk3
              go_wp2_with (first
                | (at_mapUpdate; refine wpList_mapUpdate_own _ rfl _ _ _ 55 rfl 40 4 hdKeyed underlyingMap _ w2.heap.size k (setH G) (by rfl) G4.out.1 (by unfold maxLen; omega) _ _ _ (by rfl) (by rfl) (keyH XOK.out) _ [] (plainElem_bool Tryd.underlying4 true) ?_; intro w6 hown6 hgrow6; have G6 := Lib.hid (MapH.put G4.out.2 XOK.out hown6); have N6 := Lib.hid (N4.out.other hgrow6 (by omega)); have P6 := Lib.hid (P4.out.map G4.out hgrow6); have O6 := Lib.hid (row_map G4.out O4.out hgrow6); have X6 := Lib.hid (blk_map G4.out X4.out hgrow6); have B6 := Lib.hid (bel_map B4.out hgrow6 (show w.heap.size ≤ w2.heap.size by omega)); clear hown6 hgrow6 e1 e2; obtain ⟨z2, z3, _, _⟩ := two_cells X6.out; have D7 := Lib.hid (Ba (Below.refl _ w6) (.cells #[.int .i64 h0, .int .i64 h1] 40)); have O7 := Lib.hid (row_below O6.out D7.out); have S7 := Lib.hid (sl_lit (enc := encH) (w := w6) (cs := #[.int .i64 h0, .int .i64 h1]) (t := 40) (b := w6.heap.size) [(h0, h1)] rfl rfl (by unfold maxLen; simp)); have B7 := Lib.hid (B6.out.trans (D7.out.mono B6.out.size)))
                | (at_builtin; refine wpl_app2 apH rfl _ _ rfl w.heap.size (by rfl) (by rfl) O7.out rfl S7.out (by simp; omega) B7.out.size ?_; intro v5 wc hown5 hgrow5 hat5 _; have PT := Lib.hid ((P6.out.below D7.out).grown O7.out (by decide) hgrow5); have BT := Lib.hid (grownB B7.out O7.out hgrow5); have GT := Lib.hid ((G6.out.below D7.out).grown O7.out hgrow5); have NT := Lib.hid (mapH_mono ((N6.out.below D7.out).grown O7.out hgrow5)); have OT := Lib.hid hown5; obtain ⟨pv, cv, rfl, _, _, _⟩ := row_val hown5; clear hown5 hgrow5 hat5; have RT := Lib.hid RT0.out; have IT := Lib.hid IT0.out)
                | (at_range; refine wpList_range_own _ rfl _ 55 rfl 40 4 hdKeyed underlyingMap (plainElem Tryd.prog 4) (w2.heap.size + 1) (k + 1) (setH N) (by rfl) NT.out.1 ?_; intro wR hrg0 hgR hsR))
              go_frame
              have hsT := RT.out.len
              have hnT := OnceInv.count IT.out
              have HCnt := Lib.hid hnT
              clear hnT
              have RG0 := Lib.hid hrg0
              have BR0 := Lib.hid (grown_below hgR)
              clear hrg0 hgR hsR
              go_loopw [96] (fun _ wr => ∃ left cnt, wr.ranges Tryd.prog 40 (plainElem Tryd.prog 4) (w2.heap.size + 1) wc.heap.size (k + 1) (setH N) left cnt ∧ RowKit.Below wc.heap.size wc wr) (fun _ wr => wr.rangeLeft (w2.heap.size + 1) wc.heap.size)
              case atStart => exact ⟨_, _, RG0.out, BR0.out⟩
              case round =>
                obtain ⟨left, cnt, hrg, hbw⟩ := hrel
                have RG := Lib.hid hrg
                have BW := Lib.hid hbw
                clear hrg hbw
                go_wp2_with (at_next; refine wpList_next_ranges _ rfl _ rfl 40 hdKeyed (plainElem Tryd.prog 4) mkHd mkB invHd invB (w2.heap.size + 1) wc.heap.size (k + 1) (setH N) left cnt (by rfl) RG.out ?_ ?_)
                · intro _ _
                  have HC := Lib.hid (count_call (PT.out.below BW.out).at.choose_spec (by omega))
                  rw [HCnt.out] at HC
                  have HPT := Lib.hid (PT.out.below BW.out)
                  have HOT := Lib.hid (row_below OT.out BW.out)
                  have HGT := Lib.hid (GT.out.below BW.out)
                  have HNT := Lib.hid (NT.out.below BW.out)
                  have HBT := Lib.hid (BT.out.trans (BW.out.mono BT.out.size))
                  go_wp2_with fail
                  refine HC.out.mono ?_
                  rintro e w9 ⟨rfl, hb9⟩
                  have E9 := Lib.hid hb9
                  clear hb9
                  go_wp2
                  go_roundw
                  case measure => simp [intOf]; omega
                  case rel => exact ⟨k + 1, S', Fr', (L ++ [(h0, h1)]), (G ++ [(h0, h1)]), N, by omega, by go_num, HPT.out.below E9.out, RT.out, (by first | exact row_below HOT.out E9.out | (have q := row_below HOT.out E9.out; simp only [List.length_append, List.length_cons, List.length_nil, Nat.zero_add] at q ⊢; exact q)), HGT.out.below E9.out, HNT.out.below E9.out, IT.out, HBT.out.trans (E9.out.mono HBT.out.size)⟩
                · intro x c kl yd yp wn cnt' hkey hlk hy hat hrgn hlt hgn hszn hen
                  obtain ⟨x0, x1⟩ := x
                  obtain ⟨cb⟩ := c
                  dsimp only [mkHd, mkB] at hkey hen ⊢
                  have hin := MapH.seen (x := (x0, x1)) NT.out.2 hkey hat
                  have HD := Lib.hid (OnceInv.dead IT.out hin)
                  have BN := Lib.hid (bel_iter (w' := wn) BW.out (by simpa using hgn))
                  have PN := Lib.hid (PT.out.below BN.out)
                  have RN := Lib.hid (hrgn.alloc (.cells #[.int .i64 x0, .int .i64 x1] 40))
                  have LV := Lib.hid (lives_call (PN.out.below (Ba (Below.refl _ wn) (.cells #[.int .i64 x0, .int .i64 x1] 40))).at.choose_spec x0 x1)
                  rw [HD.out] at LV
                  have HLT := Lib.hid hlt
                  clear hkey hlk hy hat hrgn hlt hgn hin
                  go_wp2_with fail
                  refine LV.out.mono ?_
                  rintro e w9 ⟨rfl, hb9⟩
                  have RZ : Hid (w9.ranges Tryd.prog 40 (plainElem Tryd.prog 4) (w2.heap.size + 1) wc.heap.size (k + 1) (setH N) (fun z => left z && !z.sameKey kl) cnt') := Lib.hid (by simpa using RN.out.kept (below_grown hb9) (by simp) (by simp))
                  have BZ := Lib.hid ((Ba BN.out (.cells #[.int .i64 x0, .int .i64 x1] 40)).trans (hb9.mono (Ba BN.out (.cells #[.int .i64 x0, .int .i64 x1] 40)).size))
                  clear hb9 hen
                  go_wp2
                  go_roundw
                  case measure => rw [RZ.out.left_eq, RG.out.left_eq]; exact HLT.out
                  case rel => exact ⟨_, _, RZ.out, BZ.out⟩
            · have hz : (kd == 2) = false := by simpa using hk2
              clear hfree hk2
              go_wp2_with fail
              rw [← HWo.out]
              refine HT.out.mono ?_
              rintro e w3 ⟨rfl, hp3, hk3⟩
              have D4 := Lib.hid (Ba (Below.refl _ w3) (.cells #[.int .i64 h0, .int .i64 h1] 40))
              have P4 := Lib.hid (hp3.below D4.out)
              have G4 := Lib.hid ((Go.out.kq hk3).below D4.out)
              have N4 := Lib.hid ((No.out.kq hk3).below D4.out)
              have O4 := Lib.hid (row_below (hk3.row Ro.out (by decide)) D4.out)
              have B4 := Lib.hid (Bo.out.trans ((hk3.below Bo.out.size).trans (D4.out.mono (Nat.le_trans Bo.out.size hk3.size))))
              have X4 := Lib.hid (heap_alloc_new w3 (.cells #[.int .i64 h0, .int .i64 h1] 40))
              have e1 := G4.out.no XOK.out F1.out
              have e2 := N4.out.no XOK.out F2.out
              clear hp3 hk3
              go_wp2_with (first
                | (at_mapUpdate; refine wpList_mapUpdate_own _ rfl _ _ _ 55 rfl 40 4 hdKeyed underlyingMap _ w2.heap.size k (setH G) (by rfl) G4.out.1 (by unfold maxLen; omega) _ _ _ (by rfl) (by rfl) (keyH XOK.out) _ [] (plainElem_bool Tryd.underlying4 true) ?_; intro w6 hown6 hgrow6; have G6 := Lib.hid (MapH.put G4.out.2 XOK.out hown6); have N6 := Lib.hid (N4.out.other hgrow6 (by omega)); have P6 := Lib.hid (P4.out.map G4.out hgrow6); have O6 := Lib.hid (row_map G4.out O4.out hgrow6); have X6 := Lib.hid (blk_map G4.out X4.out hgrow6); have B6 := Lib.hid (bel_map B4.out hgrow6 (show w.heap.size ≤ w2.heap.size by omega)); clear hown6 hgrow6 e1 e2; obtain ⟨z2, z3, _, _⟩ := two_cells X6.out; have D7 := Lib.hid (Ba (Below.refl _ w6) (.cells #[.int .i64 h0, .int .i64 h1] 40)); have O7 := Lib.hid (row_below O6.out D7.out); have S7 := Lib.hid (sl_lit (enc := encH) (w := w6) (cs := #[.int .i64 h0, .int .i64 h1]) (t := 40) (b := w6.heap.size) [(h0, h1)] rfl rfl (by unfold maxLen; simp)); have B7 := Lib.hid (B6.out.trans (D7.out.mono B6.out.size)))
                | (at_builtin; refine wpl_app2 apH rfl _ _ rfl w.heap.size (by rfl) (by rfl) O7.out rfl S7.out (by simp; omega) B7.out.size ?_; intro v5 wc hown5 hgrow5 hat5 _; have PT := Lib.hid ((P6.out.below D7.out).grown O7.out (by decide) hgrow5); have BT := Lib.hid (grownB B7.out O7.out hgrow5); have GT := Lib.hid ((G6.out.below D7.out).grown O7.out hgrow5); have NT := Lib.hid (mapH_mono ((N6.out.below D7.out).grown O7.out hgrow5)); have OT := Lib.hid hown5; obtain ⟨pv, cv, rfl, _, _, _⟩ := row_val hown5; clear hown5 hgrow5 hat5; have RT := Lib.hid RT0.out; have IT := Lib.hid IT0.out)
                | (at_range; refine wpList_range_own _ rfl _ 55 rfl 40 4 hdKeyed underlyingMap (plainElem Tryd.prog 4) (w2.heap.size + 1) (k + 1) (setH N) (by rfl) NT.out.1 ?_; intro wR hrg0 hgR hsR))
              go_frame
              have hsT := RT.out.len
              have hnT := OnceInv.count IT.out
              have HCnt := Lib.hid hnT
              clear hnT
              have RG0 := Lib.hid hrg0
              have BR0 := Lib.hid (grown_below hgR)
              clear hrg0 hgR hsR
              go_loopw [96] (fun _ wr => ∃ left cnt, wr.ranges Tryd.prog 40 (plainElem Tryd.prog 4) (w2.heap.size + 1) wc.heap.size (k + 1) (setH N) left cnt ∧ RowKit.Below wc.heap.size wc wr) (fun _ wr => wr.rangeLeft (w2.heap.size + 1) wc.heap.size)
              case atStart => exact ⟨_, _, RG0.out, BR0.out⟩
              case round =>
                obtain ⟨left, cnt, hrg, hbw⟩ := hrel
                have RG := Lib.hid hrg
                have BW := Lib.hid hbw
                clear hrg hbw
                go_wp2_with (at_next; refine wpList_next_ranges _ rfl _ rfl 40 hdKeyed (plainElem Tryd.prog 4) mkHd mkB invHd invB (w2.heap.size + 1) wc.heap.size (k + 1) (setH N) left cnt (by rfl) RG.out ?_ ?_)
                · intro _ _
                  have HC := Lib.hid (count_call (PT.out.below BW.out).at.choose_spec (by omega))
                  rw [HCnt.out] at HC
                  have HPT := Lib.hid (PT.out.below BW.out)
                  have HOT := Lib.hid (row_below OT.out BW.out)
                  have HGT := Lib.hid (GT.out.below BW.out)
                  have HNT := Lib.hid (NT.out.below BW.out)
                  have HBT := Lib.hid (BT.out.trans (BW.out.mono BT.out.size))
                  go_wp2_with fail
                  refine HC.out.mono ?_
                  rintro e w9 ⟨rfl, hb9⟩
                  have E9 := Lib.hid hb9
                  clear hb9
                  go_wp2
                  go_roundw
                  case measure => simp [intOf]; omega
                  case rel => exact ⟨k + 1, S', Fr', (L ++ [(h0, h1)]), (G ++ [(h0, h1)]), N, by omega, by go_num, HPT.out.below E9.out, RT.out, (by first | exact row_below HOT.out E9.out | (have q := row_below HOT.out E9.out; simp only [List.length_append, List.length_cons, List.length_nil, Nat.zero_add] at q ⊢; exact q)), HGT.out.below E9.out, HNT.out.below E9.out, IT.out, HBT.out.trans (E9.out.mono HBT.out.size)⟩
                · intro x c kl yd yp wn cnt' hkey hlk hy hat hrgn hlt hgn hszn hen
                  obtain ⟨x0, x1⟩ := x
                  obtain ⟨cb⟩ := c
                  dsimp only [mkHd, mkB] at hkey hen ⊢
                  have hin := MapH.seen (x := (x0, x1)) NT.out.2 hkey hat
                  have HD := Lib.hid (OnceInv.dead IT.out hin)
                  have BN := Lib.hid (bel_iter (w' := wn) BW.out (by simpa using hgn))
                  have PN := Lib.hid (PT.out.below BN.out)
                  have RN := Lib.hid (hrgn.alloc (.cells #[.int .i64 x0, .int .i64 x1] 40))
                  have LV := Lib.hid (lives_call (PN.out.below (Ba (Below.refl _ wn) (.cells #[.int .i64 x0, .int .i64 x1] 40))).at.choose_spec x0 x1)
                  rw [HD.out] at LV
                  have HLT := Lib.hid hlt
                  clear hkey hlk hy hat hrgn hlt hgn hin
                  go_wp2_with fail
                  refine LV.out.mono ?_
                  rintro e w9 ⟨rfl, hb9⟩
                  have RZ : Hid (w9.ranges Tryd.prog 40 (plainElem Tryd.prog 4) (w2.heap.size + 1) wc.heap.size (k + 1) (setH N) (fun z => left z && !z.sameKey kl) cnt') := Lib.hid (by simpa using RN.out.kept (below_grown hb9) (by simp) (by simp))
                  have BZ := Lib.hid ((Ba BN.out (.cells #[.int .i64 x0, .int .i64 x1] 40)).trans (hb9.mono (Ba BN.out (.cells #[.int .i64 x0, .int .i64 x1] 40)).size))
                  clear hb9 hen
                  go_wp2
                  go_roundw
                  case measure => rw [RZ.out.left_eq, RG.out.left_eq]; exact HLT.out
                  case rel => exact ⟨_, _, RZ.out, BZ.out⟩
      · go_wp2
        go_ret
        exact ⟨rfl, HB.out⟩
  · have hb : (150 : Int) < (l.length : Int) := by omega
    go_enter Tryd.func4, Tryd.ntmps4
    go_wp2_with fail
    refine (alive_any w).mono ?_
    rintro e w1 ⟨rfl, hb1⟩
    go_wp2_with fail
    go_ret
    exact ⟨rfl, hb1⟩
end Go.Proofs.YthodmicoejnfaaaDoor
