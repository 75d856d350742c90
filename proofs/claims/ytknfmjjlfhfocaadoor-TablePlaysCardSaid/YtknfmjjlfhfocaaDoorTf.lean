/-
  The table's Take: the entity goes, in every column the last one takes its place; the columns come in whatever order.
-/
import Derived.Test.YtknfmjjlfhfocaaDoorTe
namespace Go.Proofs.YtknfmjjlfhfocaaDoor
set_option linter.unusedSimpArgs false
set_option linter.unusedVariables false
open Go.RowKit Go.Sort Go.Lib Go.Shelf

section
variable {w : World} {M : Nat → Prop} {pt q : Nat} {R : List En} {A : Nat → Addr}
set_option maxHeartbeats 2000000 in
theorem ttake_no (h : Tab w M pt q R) (i : Int) (hn : ¬ (0 ≤ i ∧ i < R.length)) (hE : Er7 w A) : Calls Tryd.prog 14 #[ptP pt, .int .i64 i] w fun e w' => e = .returned (.tuple #[.agg #[.int .i64 0, .int .i64 0, .slice none 0 0], errC A 0]) ∧ RowKit.Below w.heap.size w w' := by
  have HH : Hid (∀ W, RowKit.Below w.heap.size w W → Calls Tryd.prog 24 #[ptP pt, .int .i64 i] W fun e w' => e = .returned (.tuple #[.agg #[.int .i64 0, .int .i64 0, .slice none 0 0], errC A 0]) ∧ RowKit.Below W.heap.size W w') := fun W hb => tent_no (h.below hb) i hn (hE.below hb)
  clear h hn hE
  unfold errC at *
  generalize A 0 = ea at *
  go_enter Tryd.func14, Tryd.ntmps14
  go_wp2_with fail
  refine (HH.out _ (Ba (Below.refl _ w) _)).mono ?_
  rintro e w1 ⟨rfl, hb1⟩
  have b1 := blk_below (heap_alloc_new w (.cells #[.int .i64 0, .int .i64 0, .slice none 0 0] 51)) hb1
  obtain ⟨⟨r0, r1, r2⟩, r3, r4, r5⟩ := three_cells b1
  have hr := cell_lt r0
  have B1 := Lib.hid (Bt (Ba (Below.refl _ w) (.cells #[.int .i64 0, .int .i64 0, .slice none 0 0] 51)) hb1)
  clear hb1 b1
  go_wp2
  exact bodyPost_ret (v := .tuple #[.agg #[.int .i64 0, .int .i64 0, .slice none 0 0], .iface 141 (.pointer (some ea))]) (by simp [results, Tryd.results14, go_sem, *]) rfl ⟨rfl, Ba (Bs (Bs (Bs B1.out (Nat.le_refl _) _) (Nat.le_refl _) _) (Nat.le_refl _) _) _⟩

set_option maxHeartbeats 4000000 in
set_option maxRecDepth 100000 in
theorem ttake_yes (h : Tab w M pt q R) (n : Nat) (hn : n < R.length) (hTW : TabW w) : Calls Tryd.prog 14 #[ptP pt, .int .i64 n] w fun e w' => (∃ v, e = .returned (.tuple #[.agg #[.int .i64 R[n]!.1.1, .int .i64 R[n]!.1.2, v], .nilIface]) ∧ w'.ownsRow w.heap.size 41 3 v R[n]!.2.length (flat encV R[n]!.2)) ∧ Tab w' (New M w w') pt q (takeC R n) ∧ Tch M w w' := by
  have HN : Hid (∀ W, RowKit.Below w.heap.size w W → Calls Tryd.prog 24 #[ptP pt, .int .i64 n] W fun e w' => ∃ v, e = .returned (.tuple #[.agg #[.int .i64 R[n]!.1.1, .int .i64 R[n]!.1.2, v], .nilIface]) ∧ w'.ownsRow W.heap.size 41 3 v R[n]!.2.length (flat encV R[n]!.2) ∧ RowKit.Below W.heap.size W w') := fun W hb => tent_yes (h.below hb) n hn (hTW.below hb)
  have HLT := Lib.hid h.lt
  have hOk := h.ok
  obtain ⟨ph, pm, f, hTb, hq, hf, hR, hlen⟩ := h
  have HT := Lib.hid hTb
  have HA : Hid (∀ W, RowKit.Below w.heap.size w W → Calls Tryd.prog 42 #[ptP ph, .int .i64 n] W fun e w' => (∃ x, e = .returned x) ∧ TabM w' (New M W w') pt ph pm q f ((takeC R n).map fun r => r.1) (colK R) ∧ Tch (Mc M pt pm) W w') := fun W hb => by
    rw [← takeC_map (fun r : En => r.1) R n hn]
    exact (hTb.below hb).askH (P := fun e => ∃ x, e = .returned x) fun MH hH => (takeH_yes hH n (by simpa using hn)).mono fun e w' ⟨h1, h2⟩ => ⟨⟨_, h1⟩, h2⟩
  have HEnd : Hid (∀ W (M' : Nat → Prop) (C : Int → List Vl), TabM W M' pt ph pm q f ((takeC R n).map fun r => r.1) C → (∀ k, C k = takeC (colK R k) n) → Tab W M' pt q (takeC R n)) := fun W M' C hT e => by
    refine ⟨ph, pm, f, hT.congr rfl (fun k _ => ?_), hq, hf, fun r hr => ?_, by rw [takeC_len]; omega⟩
    · rw [e k]; exact takeC_map _ R n hn
    · unfold takeC at hr
      rcases List.mem_or_eq_of_mem_set (List.mem_of_mem_take hr) with c | c
      · exact hOk r c
      · rw [c, getElem!_pos R _ (by omega)]; exact hOk _ (List.getElem_mem _)
  have HN2 := Lib.hid hn
  generalize hrow : R[n]!.2 = l at *
  generalize hhd : R[n]!.1 = x at *
  obtain ⟨x1, x2⟩ := x
  dsimp only at HN ⊢
  generalize takeC R n = R' at *
  generalize hH' : (R'.map fun r => r.1) = H' at *
  clear hH' hrow hhd hOk hTb hf hTW hn hR hq hlen
  go_enter Tryd.func14, Tryd.ntmps14
  go_wp2_with fail
  refine (HN.out _ (Ba (Below.refl _ w) _)).mono ?_
  rintro e w1 ⟨v, rfl, ho, hb1⟩
  have b1 := blk_below (heap_alloc_new w (.cells #[.int .i64 0, .int .i64 0, .slice none 0 0] 51)) hb1
  have B1 := Lib.hid (Bt (Ba (Below.refl _ w) (.cells #[.int .i64 0, .int .i64 0, .slice none 0 0] 51)) hb1)
  have hxl : w.heap.size < w1.heap.size := (Array.getElem?_eq_some_iff.1 b1).1
  have ho1 := row_mono ho (show w.heap.size ≤ _ by simp)
  obtain ⟨pv, cv, rfl, _, _, _⟩ := row_val ho
  obtain ⟨W1, hW1⟩ : ∃ W1, W1 = w1.alloc (.cells #[.int .i64 x1, .int .i64 x2, .slice pv l.length cv] 51) := ⟨_, rfl⟩
  have bb : RowKit.Below w1.heap.size w1 W1 := by rw [hW1]; exact Ba (Below.refl _ _) _
  have BW1 := Lib.hid (show RowKit.Below w.heap.size w W1 from Bt B1.out bb)
  have R1 := Lib.hid (blk_below b1 bb)
  have V1 := Lib.hid (row_below ho1 bb)
  have E1 := Lib.hid (show W1.heap[w1.heap.size]? = some (.cells #[.int .i64 x1, .int .i64 x2, .slice pv l.length cv] 51 (0, 0)) by rw [hW1]; exact heap_alloc_new w1 _)
  obtain ⟨⟨c0, c1, c2⟩, f0, f1, f2⟩ := three_cells (HT.out.below BW1.out).head
  have hl := cell_lt c0
  have hel : w1.heap.size < W1.heap.size := (Array.getElem?_eq_some_iff.1 E1.out).1
  have HC := Lib.hid (HA.out W1 BW1.out)
  rw [hW1] at c0 c1 c2 f0 f1 f2 hl HC
  clear b1 hb1 ho ho1 B1 bb HN HA
  go_wp2_with fail
  generalize w1.heap.size = eb at *
  refine HC.out.mono ?_
  rintro e w2 ⟨⟨x0, rfl⟩, hT2, ht2⟩
  rw [← hW1] at hT2 ht2
  have hrb : w.heap.size < W1.heap.size := by omega
  have nM : ∀ b, w.heap.size ≤ b → ¬ M b := fun b hb e => by have := HLT.out b e; omega
  have nMc : ∀ b, w.heap.size ≤ b → ¬ Mc M pt pm b := fun b hb e => nM b hb e.1
  have V2 := Lib.hid (row_keep V1.out (fun g hg => ht2.block g (row_lt V1.out hg) (nMc g (row_base V1.out hg))))
  have E2 := Lib.hid (ht2.blk E1.out (nMc eb (by omega)))
  have R2 := Lib.hid (ht2.blk R1.out (nMc _ (Nat.le_refl _)))
  have T2 := Lib.hid ((Tch.of BW1.out : Tch M w W1).more (ht2.mono Mc.of))
  have HT2 := Lib.hid hT2
  have hs2 := ht2.size
  have HS1 := Lib.hid (show w.heap.size ≤ W1.heap.size ∧ eb < W1.heap.size from ⟨by omega, hel⟩)
  have NM := Lib.hid nM
  have V1' := V1.out
  clear hT2 ht2 HC hW1 c0 c1 c2 f0 f1 f2 hl V1 E1 R1 BW1 nM nMc HT
  obtain ⟨⟨c0, c1, c2⟩, f0, f1, f2⟩ := three_cells HT2.out.head
  have hl := cell_lt c0
  go_wp2_with (at_range; refine wpl_rangeP rfl _ rfl (by rfl) HT2.out.map ?_; intro w3 cnt3 hrg3 hg3 hsz3 _)
  have hb3 := grown_below hg3
  have V3 := Lib.hid (row_below V2.out hb3)
  have E3 := Lib.hid (blk_below E2.out hb3)
  have R3 := Lib.hid (blk_below R2.out hb3)
  have T3 := Lib.hid (T2.out.bel hb3)
  have HT3 := Lib.hid (HT2.out.below hb3)
  have HRG := Lib.hid hrg3
  have nr : ¬ New M W1 w2 w2.heap.size := fun e => by
    rcases e with e | e
    · exact NM.out _ (by omega) e
    · omega
  have hre : eb < w2.heap.size := by omega
  have VW := Lib.hid (fun g' (hg' : (Value.slice pv l.length cv).ownBlock = some g') => row_lt V1' hg')
  have HS3 := Lib.hid (show W1.heap.size ≤ w2.heap.size ∧ w2.heap.size < w3.heap.size from ⟨hs2, by omega⟩)
  obtain ⟨r, hr⟩ : ∃ r, r = w2.heap.size := ⟨_, rfl⟩
  rw [← hr] at HRG nr hre HS3 ⊢
  have HS4 := Lib.hid hb3.size
  clear hr hb3 hrg3 hg3 hsz3 V2 E2 R2 T2 HT2 c0 c1 c2 f0 f1 f2 hl hs2
  (try go_frame)
  go_loopw [9] (fun _ wr => ∃ (left : Int → Bool) (cnt : Nat) (M' : Nat → Prop), Hid (RngP wr pm r 64 f left cnt) ∧ Hid (TabM wr M' pt ph pm q f H' (fun k => if left k then colK R k else takeC (colK R k) n)) ∧ Hid (∀ b, M' b → New M W1 wr b) ∧ ¬ M' r ∧ Hid (wr.heap[eb]? = some (.cells #[.int .i64 x1, .int .i64 x2, .slice pv l.length cv] 51 (0, 0))) ∧ Hid (wr.heap[w.heap.size]? = some (.cells #[.int .i64 0, .int .i64 0, .slice none 0 0] 51 (0, 0))) ∧ Hid (wr.ownsRow w.heap.size 41 3 (.slice pv l.length cv) l.length (flat encV l)) ∧ Hid (Tch M w wr) ∧ Hid (∀ b, M' b → ¬ (w.heap.size ≤ b ∧ b < W1.heap.size)) ∧ W1.heap.size ≤ wr.heap.size) (fun _ wr => wr.rangeLeft pm r)
  case atStart => exact ⟨_, _, New M W1 w2, HRG, (show Hid _ from HT3.out.congr rfl (fun k hk => by simp [hk])), fun b e => e.imp id (fun e => ⟨e.1, Nat.lt_of_lt_of_le e.2 HS4.out⟩), nr, E3, R3, V3, T3, fun b e q => (e.elim (fun e => NM.out b q.1 e) (fun e => by omega)), by have := HS3.out; omega⟩
  case round =>
    obtain ⟨left, cnt, M', RG, HTr, HNew, nr', Er, Rr, Vr, Tr, HOff, hsz⟩ := hrel
    obtain ⟨⟨e0, e1, e2⟩, g0, g1, g2⟩ := three_cells Er.out
    have hle := cell_lt e0
    obtain ⟨⟨r0, r1, r2⟩, z0, z1, z2⟩ := three_cells Rr.out
    have hlr := cell_lt r0
    have hne : ¬ eb = w.heap.size := by have := HS1.out; omega
    have hne2 : ¬ w.heap.size = eb := by have := HS1.out; omega
    go_wp2_with (at_next; refine wpl_nextP rfl _ rfl (by rfl) RG.out ?_ ?_)
    · intro hl0
      go_wp2
      have HT5 := HTr.out.congr (C' := fun k => takeC (colK R k) n) rfl (fun k _ => by simp [hl0 k])
      have HT6 := HT5.kept (far3_tch wr w.heap.size (.int .i64 x1) (.int .i64 x2) (.slice pv l.length cv)) (fun b e1 e2 => HOff.out b e1 (by have := HS1.out; omega))
      have HT7 := (HEnd.out _ _ _ HT6 (fun k => rfl)).mono (M' := New M w (((wr.setCell ⟨w.heap.size, 0, none⟩ (.int .i64 x1)).setCell ⟨w.heap.size, 1, none⟩ (.int .i64 x2)).setCell ⟨w.heap.size, 2, none⟩ (.slice pv l.length cv)))
        (fun b e => (HNew.out b e).imp id (fun e => ⟨by have := HS1.out; omega, by simpa using e.2⟩)) (New.lt HLT.out (by simpa using Tr.out.size))
      exact bodyPost_ret (v := .tuple #[.agg #[.int .i64 x1, .int .i64 x2, .slice pv l.length cv], .nilIface]) (by simp [results, Tryd.results14, go_sem, *]) rfl ⟨⟨_, rfl, set3_row Rr.out Vr.out (by decide) _ _ _⟩, HT7, Tr.out.fresh3 (Nat.le_refl _) _ _ _⟩
    · intro k g w4 cnt4 hkw hlk hfk hrg4 hlt4 hg4 hsz4 hen4
      have t4 := tch_grown (M := fun b => b = r) hg4 rfl
      have nR : ¬ w.heap.size = r := by have := HS1.out; have := HS3.out; omega
      have nE : ¬ eb = r := by have := HS1.out; have := HS3.out; omega
      have nV : ∀ g', (Value.slice pv l.length cv).ownBlock = some g' → ¬ g' = r := fun g' hg' e => by
        have h1 := row_lt V3.out hg'
        have h2 := VW.out g' hg'
        have := HS3.out
        omega
      have E4 := Lib.hid (t4.blk Er.out nE)
      have R4 := Lib.hid (t4.blk Rr.out nR)
      have V4 := Lib.hid (row_keep Vr.out (fun g' hg' => t4.block g' (row_lt Vr.out hg') (nV g' hg')))
      have HT4 := Lib.hid (HTr.out.kept t4 (fun b e1 e2 => nr' (e2 ▸ e1)))
      have T4 := Lib.hid (show Tch M w w4 from ⟨t4.os.trans Tr.out.os, t4.tape.trans Tr.out.tape, t4.output.trans Tr.out.output, Nat.le_trans Tr.out.size t4.size, fun b h1 h2 => (t4.block b (Nat.lt_of_lt_of_le h1 Tr.out.size) (fun e => by have := HS1.out; have := HS3.out; omega)).trans (Tr.out.block b h1 h2)⟩)
      have RG4 := Lib.hid hrg4
      have FC := Lib.hid (HT4.out.askC hfk (P := fun e => ∃ x, e = .returned x) (L' := takeC (colK R k) n) (fn := 43) (args := #[ptP g, .int .i64 n]) fun MC hC => (takeV_yes hC n (by simp only [hlk, if_true]; rw [colK_len]; exact HN2.out)).mono fun e w' ⟨h1, h2⟩ => ⟨⟨_, h1⟩, by simpa only [hlk, if_true] using h2⟩)
      have HLF := Lib.hid RG.out.left_eq
      clear hg4 hrg4 t4 nR nE nV e0 e1 e2 g0 g1 g2 hle r0 r1 r2 z0 z1 z2 hlr
      go_wp2_with fail
      refine FC.out.mono ?_
      rintro e w5 ⟨⟨x0, rfl⟩, hT5, ht5⟩
      have RG5 := RG4.out.kept ht5 (fun e => e.2.2 rfl) (fun e => nr' e.1)
      go_wp2
      go_roundw
      case measure => rw [RG5.left_eq, HLF.out]; exact hlt4
      case rel =>
        have hnM : ∀ b, w.heap.size ≤ b → b < W1.heap.size → ¬ Mc M' pt pm b := fun b h1 h2 e => HOff.out b e.1 ⟨h1, h2⟩
        have hs4 : wr.heap.size = w4.heap.size := hsz4.symm
        refine ⟨_, _, New M' w4 w5, RG5, (show Hid _ from hT5.congr rfl (fun y hy => ?_)), fun b e => ?_, ?_, ?_, ?_, ?_, ?_, ?_, ?_⟩
        · show (if y = k then takeC (colK R k) n else (if left y then colK R y else takeC (colK R y) n)) = (if (left y && !decide (y = k)) then colK R y else takeC (colK R y) n)
          by_cases c : y = k
          · subst c; simp
          · simp [c]
        · rcases e with e | e
          · exact (HNew.out b e).imp id (fun e => ⟨e.1, Nat.lt_of_lt_of_le e.2 (by rw [hs4]; exact ht5.size)⟩)
          · exact .inr ⟨by omega, e.2⟩
        · intro e
          rcases e with e | e
          · exact nr' e
          · have := RG4.out.lt; omega
        · exact ht5.blk E4.out (hnM eb (by have := HS1.out; omega) HS1.out.2)
        · exact ht5.blk R4.out (hnM _ (Nat.le_refl _) (by have := HS1.out; omega))
        · exact row_keep V4.out (fun g' hg' => ht5.block g' (row_lt V4.out hg') (hnM g' (row_base V4.out hg') (VW.out g' hg')))
        · refine ⟨ht5.os.trans T4.out.os, ht5.tape.trans T4.out.tape, ht5.output.trans T4.out.output, Nat.le_trans T4.out.size ht5.size, fun b h1 h2 => (ht5.block b (Nat.lt_of_lt_of_le h1 T4.out.size) (fun e => ?_)).trans (T4.out.block b h1 h2)⟩
          rcases HNew.out b e.1 with c | c
          · exact h2 c
          · have := HS1.out; omega
        · intro b e q
          rcases e with e | e
          · exact HOff.out b e q
          · omega
        · have := ht5.size; omega
end
end Go.Proofs.YtknfmjjlfhfocaaDoor
