import Derived.Test.YtaehendpdfpibaaGreatDoorZ5
import Derived.Test.YtaehendpdfpibaaGreatDoorZ4

/-
  The table's Get, Set.
-/
namespace Go.Proofs.YtaehendpdfpibaaGreatDoor
set_option linter.unusedSimpArgs false
set_option linter.unusedVariables false
open Go.RowKit Go.Sort Go.Lib Go.Shelf

section
variable {w : World} {M : Nat → Prop} {pt q : Nat} {R : List En} {A : Nat → Addr}
theorem colK_len (R : List En) (k : Int) : (colK R k).length = R.length := by simp [colK]
theorem colK_at (R : List En) (k : Int) {n : Nat} (hn : n < R.length) : (colK R k)[n]! = fndV R[n]!.2 k := by
  rw [getElem!_pos (colK R k) n (by rw [colK_len]; exact hn), getElem!_pos R n hn]
  simp [colK]
theorem err_cells (A : Nat → Addr) (n : Nat) : errC A n = .iface 258 (.pointer (some (A n))) := rfl

set_option maxHeartbeats 2000000 in
/-- Get, where columnAt refuses. -/
theorem tget_err (i k : Int) (ea : Addr) (h : ∀ W, RowKit.Below w.heap.size w W → Calls Tryz.prog 98 #[ptP pt, .int .i64 i, .int .i64 k] W fun e w' => e = .returned (.tuple #[.pointer none, .iface 258 (.pointer (some ea))]) ∧ RowKit.Below W.heap.size W w') :
    Calls Tryz.prog 57 #[ptP pt, .int .i64 i, .int .i64 k] w fun e w' => e = .returned (.tuple #[.agg #[.int .i64 0, .int .i64 0, .int .i64 0], .iface 258 (.pointer (some ea))]) ∧ RowKit.Below w.heap.size w w' := by
  have HC := Lib.hid h
  clear h
  go_enter Tryz.func57, Tryz.ntmps57
  go_wp2_with fail
  refine (HC.out _ (Ba (Below.refl _ w) _)).mono ?_
  rintro e w1 ⟨rfl, hb1⟩
  have b1 := blk_below (heap_alloc_new w (.cells #[.int .i64 0, .int .i64 0, .int .i64 0] 34)) hb1
  obtain ⟨⟨r0, r1, r2⟩, r3, r4, r5⟩ := three_cells b1
  have hr := cell_lt r0
  have B1 := Lib.hid (Bt (Ba (Below.refl _ w) (.cells #[.int .i64 0, .int .i64 0, .int .i64 0] 34)) hb1)
  clear hb1 b1
  go_wp2
  exact bodyPost_ret (v := .tuple #[.agg #[.int .i64 0, .int .i64 0, .int .i64 0], .iface 258 (.pointer (some ea))]) (by simp [results, Tryz.results57, go_sem, *]) rfl ⟨rfl, Bs (Bs (Bs B1.out (Nat.le_refl _) _) (Nat.le_refl _) _) (Nat.le_refl _) _⟩
theorem tget_no (h : Tab w M pt q R) (i k : Int) (hn : ¬ (0 ≤ i ∧ i < R.length)) (hE : Er7 w A) : Calls Tryz.prog 57 #[ptP pt, .int .i64 i, .int .i64 k] w fun e w' => e = .returned (.tuple #[.agg #[.int .i64 0, .int .i64 0, .int .i64 0], errC A 0]) ∧ RowKit.Below w.heap.size w w' :=
  tget_err i k (A 0) (fun W hb => tcol_no (h.below hb) i k hn (hE.below hb))
theorem tget_kind (h : Tab w M pt q R) (n : Nat) (hn : n < R.length) (k : Int) (hk : k ∉ Ks q) (hkw : (Lit.int .i64 k).wf = true) (hE : Er7 w A) : Calls Tryz.prog 57 #[ptP pt, .int .i64 n, .int .i64 k] w fun e w' => e = .returned (.tuple #[.agg #[.int .i64 0, .int .i64 0, .int .i64 0], errC A 4]) ∧ RowKit.Below w.heap.size w w' :=
  tget_err n k (A 4) (fun W hb => tcol_kind (h.below hb) n hn k hk hkw (hE.below hb))
set_option maxHeartbeats 2000000 in
theorem tget_yes (h : Tab w M pt q R) (n : Nat) (hn : n < R.length) (k : Int) (hk : k ∈ Ks q) (hkw : (Lit.int .i64 k).wf = true) : Calls Tryz.prog 57 #[ptP pt, .int .i64 n, .int .i64 k] w fun e w' => e = .returned (.tuple #[aggV (fndV R[n]!.2 k), .nilIface]) ∧ RowKit.Below w.heap.size w w' := by
  have h0 := h
  obtain ⟨ph, pm, f, hT, _, hf, _⟩ := h
  obtain ⟨g, hg⟩ : ∃ g, f k = some g := Option.isSome_iff_exists.1 (by rw [hf k]; exact decide_eq_true hk)
  have HC : Hid (∀ W, RowKit.Below w.heap.size w W → Calls Tryz.prog 98 #[ptP pt, .int .i64 n, .int .i64 k] W fun e w' => e = .returned (.tuple #[ptP g, .nilIface]) ∧ RowKit.Below W.heap.size W w') := fun W hb => tcol_yes (h0.below hb) n hn k hkw (hT.below hb) hg
  obtain ⟨MC, hC⟩ := hT.col hg
  have HG : Hid (∀ W, RowKit.Below w.heap.size w W → Calls Tryz.prog 99 #[ptP g, .int .i64 n] W fun e w' => e = .returned (.tuple #[aggV (fndV R[n]!.2 k), .nilIface]) ∧ RowKit.Below W.heap.size W w') := fun W hb => by
    have := getV_yes (hC.below hb) n (by rw [colK_len]; exact hn)
    rwa [colK_at R k hn] at this
  clear h0 hT hC hf hg
  unfold aggV at *
  generalize fndV R[n]!.2 k = x at *
  obtain ⟨x1, x2, x3⟩ := x
  dsimp only at *
  go_enter Tryz.func57, Tryz.ntmps57
  go_wp2_with fail
  refine (HC.out _ (Ba (Below.refl _ w) _)).mono ?_
  rintro e w1 ⟨rfl, hb1⟩
  have b1 := blk_below (heap_alloc_new w (.cells #[.int .i64 0, .int .i64 0, .int .i64 0] 34)) hb1
  have B1 := Lib.hid (Bt (Ba (Below.refl _ w) (.cells #[.int .i64 0, .int .i64 0, .int .i64 0] 34)) hb1)
  clear hb1
  go_wp2_with fail
  refine (HG.out _ B1.out).mono ?_
  rintro e w2 ⟨rfl, hb2⟩
  have B2 := Lib.hid (Bt B1.out hb2)
  have b2 := blk_below b1 hb2
  obtain ⟨⟨r0, r1, r2⟩, r3, r4, r5⟩ := three_cells b2
  have hr := cell_lt r0
  clear hb2 b1 b2
  go_wp2
  exact bodyPost_ret (v := .tuple #[.agg #[.int .i64 x1, .int .i64 x2, .int .i64 x3], .nilIface]) (by simp [results, Tryz.results57, go_sem, *]) rfl ⟨rfl, Bs (Bs (Bs B2.out (Nat.le_refl _) _) (Nat.le_refl _) _) (Nat.le_refl _) _⟩

/-! ### Set. -/
set_option maxHeartbeats 2000000 in
theorem tset_err (i x1 x2 x3 : Int) (ea : Addr) (h : ∀ W, RowKit.Below w.heap.size w W → Calls Tryz.prog 98 #[ptP pt, .int .i64 i, .int .i64 x1] W fun e w' => e = .returned (.tuple #[.pointer none, .iface 258 (.pointer (some ea))]) ∧ RowKit.Below W.heap.size W w') :
    Calls Tryz.prog 95 #[ptP pt, .int .i64 i, .agg #[.int .i64 x1, .int .i64 x2, .int .i64 x3]] w fun e w' => e = .returned (.iface 258 (.pointer (some ea))) ∧ RowKit.Below w.heap.size w w' := by
  have HC := Lib.hid h
  clear h
  go_enter Tryz.func95, Tryz.ntmps95
  go_wp2_with fail
  refine (HC.out _ (Ba (Below.refl _ w) _)).mono ?_
  rintro e w1 ⟨rfl, hb1⟩
  have B1 := Lib.hid (Bt (Ba (Below.refl _ w) (.cells #[.int .i64 x1, .int .i64 x2, .int .i64 x3] 34)) hb1)
  go_wp2
  go_ret
  exact ⟨rfl, B1.out⟩
theorem tset_no (h : Tab w M pt q R) (i x1 x2 x3 : Int) (hn : ¬ (0 ≤ i ∧ i < R.length)) (hE : Er7 w A) : Calls Tryz.prog 95 #[ptP pt, .int .i64 i, .agg #[.int .i64 x1, .int .i64 x2, .int .i64 x3]] w fun e w' => e = .returned (errC A 0) ∧ RowKit.Below w.heap.size w w' :=
  tset_err i x1 x2 x3 (A 0) (fun W hb => tcol_no (h.below hb) i x1 hn (hE.below hb))
theorem tset_kind (h : Tab w M pt q R) (n : Nat) (hn : n < R.length) (x1 x2 x3 : Int) (hk : x1 ∉ Ks q) (hkw : (Lit.int .i64 x1).wf = true) (hE : Er7 w A) : Calls Tryz.prog 95 #[ptP pt, .int .i64 n, .agg #[.int .i64 x1, .int .i64 x2, .int .i64 x3]] w fun e w' => e = .returned (errC A 4) ∧ RowKit.Below w.heap.size w w' :=
  tset_err n x1 x2 x3 (A 4) (fun W hb => tcol_kind (h.below hb) n hn x1 hk hkw (hE.below hb))
set_option maxHeartbeats 2000000 in
theorem tset_chk (h : Tab w M pt q R) (n : Nat) (hn : n < R.length) (x1 x2 x3 : Int) (hk : x1 ∈ Ks q) (hkw : (Lit.int .i64 x1).wf = true) (hc : chk (x1, x2, x3) ≠ 0) (hE : Er7 w A) : Calls Tryz.prog 95 #[ptP pt, .int .i64 n, .agg #[.int .i64 x1, .int .i64 x2, .int .i64 x3]] w fun e w' => e = .returned (errC A (chk (x1, x2, x3) - 1)) ∧ RowKit.Below w.heap.size w w' := by
  have h0 := h
  obtain ⟨ph, pm, f, hT, _, hf, _⟩ := h
  obtain ⟨g, hg⟩ : ∃ g, f x1 = some g := Option.isSome_iff_exists.1 (by rw [hf x1]; exact decide_eq_true hk)
  have HC : Hid (∀ W, RowKit.Below w.heap.size w W → Calls Tryz.prog 98 #[ptP pt, .int .i64 n, .int .i64 x1] W fun e w' => e = .returned (.tuple #[ptP g, .nilIface]) ∧ RowKit.Below W.heap.size W w') := fun W hb => tcol_yes (h0.below hb) n hn x1 hkw (hT.below hb) hg
  have HK : Hid (∀ W, RowKit.Below w.heap.size w W → Calls Tryz.prog 74 #[.agg #[.int .i64 x1, .int .i64 x2, .int .i64 x3]] W fun e w' => e = .returned (.iface 258 (.pointer (some (A (chk (x1, x2, x3) - 1))))) ∧ Gr W w') := fun W hb => by
    have := check_any (x1, x2, x3) A W (hE.below hb).er
    rwa [errV_at A _ hc] at this
  clear h0 hT hf hg hE hc
  unfold errC
  generalize A (chk (x1, x2, x3) - 1) = ea at *
  go_enter Tryz.func95, Tryz.ntmps95
  go_wp2_with fail
  refine (HC.out _ (Ba (Below.refl _ w) _)).mono ?_
  rintro e w1 ⟨rfl, hb1⟩
  have b1 := blk_below (heap_alloc_new w (.cells #[.int .i64 x1, .int .i64 x2, .int .i64 x3] 34)) hb1
  obtain ⟨⟨r0, r1, r2⟩, r3, r4, r5⟩ := three_cells b1
  have hr := cell_lt r0
  have B1 := Lib.hid (Bt (Ba (Below.refl _ w) (.cells #[.int .i64 x1, .int .i64 x2, .int .i64 x3] 34)) hb1)
  clear hb1 b1
  go_wp2_with fail
  refine (HK.out _ B1.out).mono ?_
  rintro e w2 ⟨rfl, hg2⟩
  have B2 := Lib.hid (Bt B1.out hg2.below)
  clear hg2
  go_wp2
  go_ret
  exact ⟨rfl, B2.out⟩
theorem colK_set {w : World} {R : List En} {q : Nat} (hR : ∀ r ∈ R, EntOk q r) {n : Nat} (hn : n < R.length) {v : Vl} (hv : chk v = 0) (hk : v.1 ∈ Ks q) {k : Int} (hk2 : k ∈ Ks q) :
    (if k = v.1 then (colK R v.1).set n v else colK R k) = colK (R.set n (R[n].1, putV R[n].2 v)) k := by
  have e := put_fnd (hR _ (List.getElem_mem hn)) hv hk hk2
  unfold colK
  rw [List.map_set, e]
  by_cases c : k = v.1
  · rw [if_pos c, if_pos c, c]
  · rw [if_neg c, if_neg c]
    apply List.ext_getElem?
    intro j
    rw [List.getElem?_set]
    by_cases d : n = j
    · subst d
      rw [if_pos rfl, if_pos (by simpa using hn), List.getElem?_map, List.getElem?_eq_getElem hn]
      rfl
    · rw [if_neg d]
theorem fst_set {R : List En} {n : Nat} (hn : n < R.length) (l : List Vl) : R.map (fun r => r.1) = (R.set n (R[n].1, l)).map fun r => r.1 := by
  rw [List.map_set]
  apply List.ext_getElem?
  intro j
  rw [List.getElem?_set]
  by_cases d : n = j
  · subst d
    rw [if_pos rfl, if_pos (by simpa using hn), List.getElem?_map, List.getElem?_eq_getElem hn]
    rfl
  · rw [if_neg d]
set_option maxHeartbeats 2000000 in
theorem tset_yes (h : Tab w M pt q R) (n : Nat) (hn : n < R.length) (x1 x2 x3 : Int) (hk : x1 ∈ Ks q) (hkw : (Lit.int .i64 x1).wf = true) (hc : chk (x1, x2, x3) = 0) (hE : Er7 w A) :
    Calls Tryz.prog 95 #[ptP pt, .int .i64 n, .agg #[.int .i64 x1, .int .i64 x2, .int .i64 x3]] w fun e w' => e = .returned .nilIface ∧ Tab w' (New M w w') pt q (R.set n (R[n].1, putV R[n].2 (x1, x2, x3))) ∧ Tch M w w' := by
  have h0 := h
  obtain ⟨ph, pm, f, hT, hq, hf, hR, hlen⟩ := h
  obtain ⟨g, hg⟩ : ∃ g, f x1 = some g := Option.isSome_iff_exists.1 (by rw [hf x1]; exact decide_eq_true hk)
  have HC : Hid (∀ W, RowKit.Below w.heap.size w W → Calls Tryz.prog 98 #[ptP pt, .int .i64 n, .int .i64 x1] W fun e w' => e = .returned (.tuple #[ptP g, .nilIface]) ∧ RowKit.Below W.heap.size W w') := fun W hb => tcol_yes (h0.below hb) n hn x1 hkw (hT.below hb) hg
  have HK : Hid (∀ W, RowKit.Below w.heap.size w W → Calls Tryz.prog 74 #[.agg #[.int .i64 x1, .int .i64 x2, .int .i64 x3]] W fun e w' => e = .returned .nilIface ∧ Gr W w') := fun W hb => by
    have := check_any (x1, x2, x3) A W (hE.below hb).er
    rwa [hc, errV_no] at this
  have HS : Hid (∀ W, RowKit.Below w.heap.size w W → Calls Tryz.prog 140 #[ptP g, .int .i64 n, .agg #[.int .i64 x1, .int .i64 x2, .int .i64 x3]] W fun e w' => e = .returned .nilIface ∧ Tab w' (New M W w') pt q (R.set n (R[n].1, putV R[n].2 (x1, x2, x3))) ∧ Tch M W w') := fun W hb => by
    refine ((hT.below hb).askC hg (P := fun e => e = .returned .nilIface) (L' := (colK R x1).set n (x1, x2, x3)) fun MC hC => setV_yes hC n (by rw [colK_len]; exact hn) x1 x2 x3).mono fun e w' ⟨he, ht, hh⟩ => ⟨he, ⟨ph, pm, f, ht.congr (fst_set hn _) (fun k hk2 => ?_), hq, hf, fun r hr => ?_, by simpa using hlen⟩, hh.mono Mc.of⟩
    · rw [hf k] at hk2
      exact colK_set (w := w) hR hn (v := (x1, x2, x3)) hc hk (of_decide_eq_true hk2)
    · rcases List.mem_or_eq_of_mem_set hr with e | e
      · exact hR r e
      · rw [e]
        exact ent_put (hR _ (List.getElem_mem hn)) hc hk
  have HLT := Lib.hid h0.lt
  generalize hR' : R.set n (R[n].1, putV R[n].2 (x1, x2, x3)) = R' at *
  clear h0 hT hf hg hE hc hR hR'
  go_enter Tryz.func95, Tryz.ntmps95
  go_wp2_with fail
  refine (HC.out _ (Ba (Below.refl _ w) _)).mono ?_
  rintro e w1 ⟨rfl, hb1⟩
  have b1 := blk_below (heap_alloc_new w (.cells #[.int .i64 x1, .int .i64 x2, .int .i64 x3] 34)) hb1
  obtain ⟨⟨r0, r1, r2⟩, r3, r4, r5⟩ := three_cells b1
  have hr := cell_lt r0
  have B1 := Lib.hid (Bt (Ba (Below.refl _ w) (.cells #[.int .i64 x1, .int .i64 x2, .int .i64 x3] 34)) hb1)
  clear hb1
  go_wp2_with fail
  refine (HK.out _ B1.out).mono ?_
  rintro e w2 ⟨rfl, hg2⟩
  have b2 := blk_below b1 hg2.below
  have B2 := Lib.hid (Bt B1.out hg2.below)
  clear b1 r0 r1 r2 r3 r4 r5 hr hg2
  obtain ⟨⟨r0, r1, r2⟩, r3, r4, r5⟩ := three_cells b2
  have hr := cell_lt r0
  clear b2
  go_wp2_with fail
  refine (HS.out _ B2.out).mono ?_
  rintro e w3 ⟨rfl, hT3, ht3⟩
  have HT3 := Lib.hid hT3
  have HH3 := Lib.hid ht3
  clear hT3 ht3
  go_wp2
  go_ret
  exact ⟨rfl, HT3.out.into HLT.out B2.out.size HH3.out.size, (Tch.of B2.out).more HH3.out⟩
end
end Go.Proofs.YtaehendpdfpibaaGreatDoor

/-
  The table's Entity.
-/
namespace Go.Proofs.YtaehendpdfpibaaGreatDoor
set_option linter.unusedSimpArgs false
set_option linter.unusedVariables false
open Go.RowKit Go.Sort Go.Lib Go.Shelf

section
variable {w : World} {M : Nat → Prop} {pt q : Nat} {R : List En} {A : Nat → Addr}
set_option maxHeartbeats 2000000 in
theorem tent_no (h : Tab w M pt q R) (i : Int) (hn : ¬ (0 ≤ i ∧ i < R.length)) (hE : Er7 w A) : Calls Tryz.prog 60 #[ptP pt, .int .i64 i] w fun e w' => e = .returned (.tuple #[.agg #[.int .i64 0, .int .i64 0, .slice none 0 0], errC A 0]) ∧ RowKit.Below w.heap.size w w' := by
  have HH : Hid (∀ W, RowKit.Below w.heap.size w W → Calls Tryz.prog 84 #[ptP pt, .int .i64 i] W fun e w' => e = .returned (.tuple #[.agg #[.int .i64 0, .int .i64 0], errC A 0]) ∧ RowKit.Below W.heap.size W w') := fun W hb => thandle_no (h.below hb) i hn (hE.below hb)
  clear h hn hE
  unfold errC at *
  generalize A 0 = ea at *
  go_enter Tryz.func60, Tryz.ntmps60
  go_wp2_with fail
  refine (HH.out _ (Ba (Below.refl _ w) _)).mono ?_
  rintro e w1 ⟨rfl, hb1⟩
  have b1 := blk_below (heap_alloc_new w (.cells #[.int .i64 0, .int .i64 0, .slice none 0 0] 38)) hb1
  obtain ⟨⟨r0, r1, r2⟩, r3, r4, r5⟩ := three_cells b1
  have hr := cell_lt r0
  have B1 := Lib.hid (Bt (Ba (Below.refl _ w) (.cells #[.int .i64 0, .int .i64 0, .slice none 0 0] 38)) hb1)
  clear hb1 b1
  go_wp2
  exact bodyPost_ret (v := .tuple #[.agg #[.int .i64 0, .int .i64 0, .slice none 0 0], .iface 258 (.pointer (some ea))]) (by simp [results, Tryz.results60, go_sem, *]) rfl ⟨rfl, Ba (Bs (Bs (Bs B1.out (Nat.le_refl _) _) (Nat.le_refl _) _) (Nat.le_refl _) _) _⟩

set_option maxHeartbeats 4000000 in
set_option maxRecDepth 100000 in
theorem tent_yes (h : Tab w M pt q R) (n : Nat) (hn : n < R.length) (hT : TabW w) : Calls Tryz.prog 60 #[ptP pt, .int .i64 n] w fun e w' => ∃ v, e = .returned (.tuple #[.agg #[.int .i64 R[n]!.1.1, .int .i64 R[n]!.1.2, v], .nilIface]) ∧ w'.ownsRow w.heap.size 34 3 v R[n]!.2.length (flat encV R[n]!.2) ∧ RowKit.Below w.heap.size w w' := by
  have hOk := h.ok R[n]! (by rw [getElem!_pos R n hn]; exact List.getElem_mem hn)
  have h0 := h
  have hq := h.hq
  obtain ⟨ph, pm, f, hTb, _, hf, _⟩ := h
  have HT := Lib.hid hTb
  have HF := Lib.hid hf
  have HH : Hid (∀ W, RowKit.Below w.heap.size w W → Calls Tryz.prog 84 #[ptP pt, .int .i64 n] W fun e w' => e = .returned (.tuple #[aggH R[n]!.1, .nilIface]) ∧ RowKit.Below W.heap.size W w') := fun W hb => thandle_yes (h0.below hb) n hn
  have HK : Hid (∀ W, RowKit.Below w.heap.size w W → Calls Tryz.prog 102 #[.int .u64 q] W fun e w' => ∃ v', e = .returned v' ∧ w'.ownsRow W.heap.size 3 1 v' (Ks q).length (flat encI (Ks q)) ∧ RowKit.Below W.heap.size W w') := fun W hb => mkinds_call q (by omega) W (hT.below hb)
  have HG : Hid (∀ W k g, f k = some g → RowKit.Below w.heap.size w W → Calls Tryz.prog 99 #[ptP g, .int .i64 n] W fun e w' => e = .returned (.tuple #[aggV (fndV R[n]!.2 k), .nilIface]) ∧ RowKit.Below W.heap.size W w') := fun W k g hk hb => by
    obtain ⟨MC, hC⟩ := hTb.col hk
    have := getV_yes (hC.below hb) n (by rw [colK_len]; exact hn)
    rwa [colK_at R k hn] at this
  have HV := Lib.hid (ent_vals hOk)
  have HKL := Lib.hid (Ks_len q)
  have HKK := Lib.hid (Ks_kind hq)
  obtain ⟨K, hKe⟩ : ∃ K, K = Ks q := ⟨_, rfl⟩
  rw [← hKe] at HK HV HKL HKK HF
  generalize hrow : R[n]!.2 = l at *
  generalize hhd : R[n]!.1 = x at *
  obtain ⟨x1, x2⟩ := x
  unfold aggH at HH
  dsimp only at HH ⊢
  clear hKe hrow hhd hOk h0 hTb hf hT hn
  go_enter Tryz.func60, Tryz.ntmps60
  go_wp2_with fail
  refine (HH.out _ (Ba (Below.refl _ w) _)).mono ?_
  rintro e w1 ⟨rfl, hb1⟩
  have b1 := blk_below (heap_alloc_new w (.cells #[.int .i64 0, .int .i64 0, .slice none 0 0] 38)) hb1
  have B1 := Lib.hid (Bt (Ba (Below.refl _ w) (.cells #[.int .i64 0, .int .i64 0, .slice none 0 0] 38)) hb1)
  clear hb1
  obtain ⟨W1, hW1⟩ : ∃ W1, W1 = (w1.alloc (.cells #[.int .i64 x1, .int .i64 x2] 31)).alloc (.cells #[.int .i64 x1, .int .i64 x2, .slice none 0 0] 38) := ⟨_, rfl⟩
  have BW1 := Lib.hid (show RowKit.Below w.heap.size w W1 by rw [hW1]; exact Ba (Ba B1.out _) _)
  have r1 := Lib.hid (show W1.heap[w.heap.size]? = some (.cells #[.int .i64 0, .int .i64 0, .slice none 0 0] 38 (0, 0)) by rw [hW1]; exact blk_below (blk_below b1 (Ba (Below.refl _ _) _)) (Ba (Below.refl _ _) _))
  have e1 := Lib.hid (show W1.heap[w1.heap.size + 1]? = some (.cells #[.int .i64 x1, .int .i64 x2, .slice none 0 0] 38 (0, 0)) by rw [hW1]; have := heap_alloc_new (w1.alloc (.cells #[.int .i64 x1, .int .i64 x2] 31)) (.cells #[.int .i64 x1, .int .i64 x2, .slice none 0 0] 38); simpa using this)
  have hxl : w.heap.size < w1.heap.size := (Array.getElem?_eq_some_iff.1 b1).1
  obtain ⟨⟨c0, c1, c2⟩, f0, f1, f2⟩ := three_cells (HT.out.below BW1.out).head
  have hl := cell_lt c0
  rw [hW1] at c0 c1 c2 f0 f1 f2 hl BW1 r1 e1
  clear b1 hW1
  go_wp2_with fail
  refine (HK.out _ BW1.out).mono ?_
  rintro e w2 ⟨vk, rfl, hok, hb2⟩
  have B2 := Lib.hid (Bt BW1.out hb2)
  have r2 := Lib.hid (blk_below r1.out hb2)
  have e2 := Lib.hid (blk_below e1.out hb2)
  have SK := Lib.hid (row_mono hok BW1.out.size)
  obtain ⟨pk, ck, rfl, _, _, _⟩ := row_val hok
  have hx2 : w1.heap.size + 1 < w2.heap.size := (Array.getElem?_eq_some_iff.1 e2.out).1
  have hre : w.heap.size < w1.heap.size + 1 := by omega
  generalize w1.heap.size + 1 = eb at *
  clear hok hb2 c0 c1 c2 f0 f1 f2 hl BW1 r1 e1 HH HK B1
  have hKb : K.length ≤ 9223372036854775807 := by have := HKL.out; omega
  go_wp2
  go_loopg [31] K.length (fun gk s31 wr => ∃ j : Nat, s31 = .int .i64 j ∧ j ≤ K.length ∧ K.length - j ≤ gk ∧ ∃ vs, Hid (wr.heap[eb]? = some (.cells #[.int .i64 x1, .int .i64 x2, vs] 38 (0, 0))) ∧ Hid (wr.heap[w.heap.size]? = some (.cells #[.int .i64 0, .int .i64 0, .slice none 0 0] 38 (0, 0))) ∧ Hid (wr.ownsRow w.heap.size 34 3 vs j (flat encV (l.take j))) ∧ Hid (RowKit.Below w.heap.size w wr) ∧ Hid (wr.ownsRow w.heap.size 3 1 (.slice pk K.length ck) K.length (flat encI K)))
  case atStart => exact ⟨0, rfl, Nat.zero_le _, by omega, .slice none 0 0, e2, r2, (by rw [List.take_zero]; exact World.ownsRow_nil _ _ _ _), B2, SK⟩
  case round =>
    obtain ⟨j, rfl, hj, hgk, vs, HE, HR, HO, HB, HS⟩ := hrel
    obtain ⟨⟨e0, e1, e2⟩, g0, g1, g2⟩ := three_cells HE.out
    have hle := cell_lt e0
    obtain ⟨⟨r0, r1, r2⟩, z0, z1, z2⟩ := three_cells HR.out
    have hlr := cell_lt r0
    have hne : ¬ eb = w.heap.size := by omega
    have hne2 : ¬ w.heap.size = eb := by omega
    by_cases hjn : j < K.length
    · obtain ⟨pv, cv, hvs, _, _, _⟩ := row_val HO.out
      obtain ⟨p', c', e', _, _, hsk⟩ := row_sl lenI HS.out rfl
      obtain ⟨gk', ok', e3, hgl, hcells⟩ := hsk (by omega)
      simp only [Value.slice.injEq] at e'
      obtain ⟨rfl, _, rfl⟩ := e'
      subst e3
      have d1 := atI hcells hjn
      have hmem : K[j]! ∈ K := by rw [getElem!_pos K j hjn]; exact List.getElem_mem hjn
      have hyl : fndV l K[j]! = l[j]! ∧ j < l.length := by
        have hlen : l.length = K.length := by rw [← HV.out, List.length_map]
        refine ⟨?_, by omega⟩
        have e1 : (K.map fun k => fndV l k)[j]! = fndV l K[j]! := by rw [getElem!_pos _ j (by simpa using hjn), List.getElem_map, getElem!_pos K j hjn]
        rw [HV.out] at e1
        exact e1.symm
      have hkk := (kindB_iff _).1 (HKK.out _ hmem)
      obtain ⟨g, hg⟩ : ∃ g, f K[j]! = some g := Option.isSome_iff_exists.1 (by rw [HF.out]; exact decide_eq_true hmem)
      have hm := (HT.out.below HB.out).map.look K[j]! (WalkArith.wf_i64 (by omega))
      rw [hg] at hm
      dsimp only [ptrV] at hm
      have FG := Lib.hid (HG.out wr K[j]! g hg HB.out)
      rw [hyl.1] at FG
      unfold aggV at FG
      have hst := Lib.hid (take_snoc l hyl.2)
      have hll : (l.take j).length = j := by rw [List.length_take]; omega
      have HLL := Lib.hid hll
      generalize l[j]! = y at *
      obtain ⟨y1, y2, y3⟩ := y
      dsimp only at FG
      generalize K[j]! = k at *
      obtain ⟨⟨c0, c1, c2⟩, f0, f1, f2⟩ := three_cells (HT.out.below HB.out).head
      have hl := cell_lt c0
      have hj2 : j ≤ 64 := by have := HKL.out; omega
      clear hcells hyl hmem hkk hg hll
      go_wp2_with fail
      refine FG.out.mono ?_
      rintro e w3 ⟨rfl, hb3⟩
      have E3 := blk_below HE.out hb3
      obtain ⟨⟨e0, e1, e2⟩, g0, g1, g2⟩ := three_cells E3
      have hle := cell_lt e0
      have O3 := Lib.hid (row_below HO.out hb3)
      have K3 := Lib.hid (row_below HS.out hb3)
      have R3 := Lib.hid (blk_below HR.out hb3)
      have B3 := Lib.hid (Bt HB.out hb3)
      obtain ⟨W4, hW4⟩ : ∃ W4, W4 = (w3.alloc (.cells #[.int .i64 y1, .int .i64 y2, .int .i64 y3] 34)).alloc (.cells #[.int .i64 y1, .int .i64 y2, .int .i64 y3] 34) := ⟨_, rfl⟩
      have bb : RowKit.Below w3.heap.size w3 W4 := by rw [hW4]; exact Ba (Ba (Below.refl _ _) _) _
      have O4 := Lib.hid (row_below O3.out bb)
      have K4 := Lib.hid (row_below K3.out bb)
      have R4 := Lib.hid (blk_below R3.out bb)
      have E4 := Lib.hid (blk_below E3 bb)
      have B4 := Lib.hid (Bt B3.out bb)
      have S4 := Lib.hid (show Sl encV W4 (.slice (some ⟨w3.heap.size + 1, 0, none⟩) 1 1) [(y1, y2, y3)] by rw [hW4]; exact sl_lit (enc := encV) (w := w3.alloc (.cells #[.int .i64 y1, .int .i64 y2, .int .i64 y3] 34)) (cs := #[.int .i64 y1, .int .i64 y2, .int .i64 y3]) (t := 34) (b := w3.heap.size + 1) [(y1, y2, y3)] (by simp) rfl (by unfold maxLen; simp))
      have LE := Lib.hid (show w.heap.size ≤ W4.heap.size from B4.out.size)
      rw [hW4] at O4 K4 R4 E4 B4 S4 LE
      clear bb hW4 E3 HE HR HO HS O3 K3 R3 hb3 hm d1 c0 c1 c2 f0 f1 f2 hl r0 r1 r2 z0 z1 z2 hlr
      subst hvs
      go_wp2_with (at_builtin; go_loud (refine wpl_app apV rfl _ _ rfl w.heap.size (by rfl) (by rfl) O4.out HLL.out.symm S4.out (by rw [HLL.out]; show j + 1 ≤ 1000000; omega) LE.out ?_; intro v5 w5 hown5 hgrow5 _; replace hown5 : w5.ownsRow w.heap.size 34 3 v5 (j + 1) (flat encV (l.take j ++ [(y1, y2, y3)])) := (by rw [HLL.out] at hown5; exact hown5); obtain ⟨p5, c5, rfl, _, _, _⟩ := row_val hown5; have E5 := grown_far O4.out hgrow5 E4.out (by decide); obtain ⟨⟨e0, e1, e2⟩, g0, g1, g2⟩ := three_cells E5; have hle := cell_lt e0))
      have R5 := grown_far O4.out hgrow5 R4.out (by decide)
      have K5 := grown_row O4.out hgrow5 K4.out (by decide)
      have B5 := grownB B4.out O4.out hgrow5
      have E6 := heap_setCell_same w5 eb 2 _ _ (.slice p5 (j + 1) c5) E5
      go_roundg (K.length - (j + 1))
      case measure => exact Nat.lt_of_lt_of_le (Nat.sub_lt_sub_left hjn (Nat.lt_succ_self j)) hgk
      case rel =>
        refine ⟨j + 1, by go_num, hjn, Nat.le_refl _, .slice p5 (j + 1) c5, ?_, blk_far R5 hne2 _, ?_, Bs B5 (show w.heap.size ≤ eb from Nat.le_of_lt hre) _, set_row E5 K5 (by decide) _ _⟩
        · show _ = _
          simpa using E6
        · refine set_row E5 ?_ (by decide) _ _
          rw [hst.out]
          exact hown5
    · have hjj : j = K.length := by omega
      have hl' : l.take j = l := List.take_of_length_le (by rw [hjj, ← HV.out, List.length_map]; exact Nat.le_refl _)
      have HLN := Lib.hid (show j = l.length by rw [hjj, ← HV.out, List.length_map])
      have HO' := Lib.hid HO.out
      rw [hl'] at HO'
      obtain ⟨pv, cv, rfl, _, _, _⟩ := row_val HO'.out
      go_wp2
      exact bodyPost_ret (v := .tuple #[.agg #[.int .i64 x1, .int .i64 x2, .slice pv j cv], .nilIface]) (by simp [results, Tryz.results60, go_sem, *]) rfl ⟨_, rfl, HLN.out ▸ set3_row HR.out HO'.out (by decide) _ _ _, Bs (Bs (Bs HB.out (Nat.le_refl _) _) (Nat.le_refl _) _) (Nat.le_refl _) _⟩
end
end Go.Proofs.YtaehendpdfpibaaGreatDoor

/-
  The table's Take: the entity goes, in every column the last one takes its place; the columns come in whatever order.
-/
namespace Go.Proofs.YtaehendpdfpibaaGreatDoor
set_option linter.unusedSimpArgs false
set_option linter.unusedVariables false
open Go.RowKit Go.Sort Go.Lib Go.Shelf

section
variable {w : World} {M : Nat → Prop} {pt q : Nat} {R : List En} {A : Nat → Addr}
set_option maxHeartbeats 2000000 in
theorem ttake_no (h : Tab w M pt q R) (i : Int) (hn : ¬ (0 ≤ i ∧ i < R.length)) (hE : Er7 w A) : Calls Tryz.prog 83 #[ptP pt, .int .i64 i] w fun e w' => e = .returned (.tuple #[.agg #[.int .i64 0, .int .i64 0, .slice none 0 0], errC A 0]) ∧ RowKit.Below w.heap.size w w' := by
  have HH : Hid (∀ W, RowKit.Below w.heap.size w W → Calls Tryz.prog 60 #[ptP pt, .int .i64 i] W fun e w' => e = .returned (.tuple #[.agg #[.int .i64 0, .int .i64 0, .slice none 0 0], errC A 0]) ∧ RowKit.Below W.heap.size W w') := fun W hb => tent_no (h.below hb) i hn (hE.below hb)
  clear h hn hE
  unfold errC at *
  generalize A 0 = ea at *
  go_enter Tryz.func83, Tryz.ntmps83
  go_wp2_with fail
  refine (HH.out _ (Ba (Below.refl _ w) _)).mono ?_
  rintro e w1 ⟨rfl, hb1⟩
  have b1 := blk_below (heap_alloc_new w (.cells #[.int .i64 0, .int .i64 0, .slice none 0 0] 38)) hb1
  obtain ⟨⟨r0, r1, r2⟩, r3, r4, r5⟩ := three_cells b1
  have hr := cell_lt r0
  have B1 := Lib.hid (Bt (Ba (Below.refl _ w) (.cells #[.int .i64 0, .int .i64 0, .slice none 0 0] 38)) hb1)
  clear hb1 b1
  go_wp2
  exact bodyPost_ret (v := .tuple #[.agg #[.int .i64 0, .int .i64 0, .slice none 0 0], .iface 258 (.pointer (some ea))]) (by simp [results, Tryz.results83, go_sem, *]) rfl ⟨rfl, Ba (Bs (Bs (Bs B1.out (Nat.le_refl _) _) (Nat.le_refl _) _) (Nat.le_refl _) _) _⟩

set_option maxHeartbeats 4000000 in
set_option maxRecDepth 100000 in
theorem ttake_yes (h : Tab w M pt q R) (n : Nat) (hn : n < R.length) (hTW : TabW w) : Calls Tryz.prog 83 #[ptP pt, .int .i64 n] w fun e w' => (∃ v, e = .returned (.tuple #[.agg #[.int .i64 R[n]!.1.1, .int .i64 R[n]!.1.2, v], .nilIface]) ∧ w'.ownsRow w.heap.size 34 3 v R[n]!.2.length (flat encV R[n]!.2)) ∧ Tab w' (New M w w') pt q (takeC R n) ∧ Tch M w w' := by
  have HN : Hid (∀ W, RowKit.Below w.heap.size w W → Calls Tryz.prog 60 #[ptP pt, .int .i64 n] W fun e w' => ∃ v, e = .returned (.tuple #[.agg #[.int .i64 R[n]!.1.1, .int .i64 R[n]!.1.2, v], .nilIface]) ∧ w'.ownsRow W.heap.size 34 3 v R[n]!.2.length (flat encV R[n]!.2) ∧ RowKit.Below W.heap.size W w') := fun W hb => tent_yes (h.below hb) n hn (hTW.below hb)
  have HLT := Lib.hid h.lt
  have hOk := h.ok
  obtain ⟨ph, pm, f, hTb, hq, hf, hR, hlen⟩ := h
  have HT := Lib.hid hTb
  have HA : Hid (∀ W, RowKit.Below w.heap.size w W → Calls Tryz.prog 130 #[ptP ph, .int .i64 n] W fun e w' => (∃ x, e = .returned x) ∧ TabM w' (New M W w') pt ph pm q f ((takeC R n).map fun r => r.1) (colK R) ∧ Tch (Mc M pt pm) W w') := fun W hb => by
    rw [← takeC_map (fun r : En => r.1) R n hn]
    exact (hTb.below hb).askH (P := fun e => ∃ x, e = .returned x) fun MH hH => (takeH_yes hH n (by simpa using hn)).mono fun e w' ⟨h1, h2⟩ => ⟨⟨_, h1⟩, h2⟩
  have HEnd : Hid (∀ W (M' : Nat → Prop) (C : Int → List Vl), TabM W M' pt ph pm q f ((takeC R n).map fun r => r.1) C → (∀ k, C k = takeC (colK R k) n) → Tab W M' pt q (takeC R n)) := fun W M' C hT e => by
    refine ⟨ph, pm, f, hT.congr rfl (fun k _ => ?_), hq, hf, fun r hr => ?_, by rw [takeC_len]; omega⟩
    · rw [e k]; exact takeC_map _ R n hn
    · unfold takeC at hr
      rcases List.mem_or_eq_of_mem_set (List.mem_of_mem_take hr) with c | c
      · exact hOk r c
      · rw [c, getElem!_pos R _ (by omega)]; exact hOk _ (List.getElem_mem _)
  have HN2 := Lib.hid hn
  generalize hrow : R[n]!.2 = l at *
  generalize hhd : R[n]!.1 = x at *
  obtain ⟨x1, x2⟩ := x
  dsimp only at HN ⊢
  generalize takeC R n = R' at *
  generalize hH' : (R'.map fun r => r.1) = H' at *
  clear hH' hrow hhd hOk hTb hf hTW hn hR hq hlen
  go_enter Tryz.func83, Tryz.ntmps83
  go_wp2_with fail
  refine (HN.out _ (Ba (Below.refl _ w) _)).mono ?_
  rintro e w1 ⟨v, rfl, ho, hb1⟩
  have b1 := blk_below (heap_alloc_new w (.cells #[.int .i64 0, .int .i64 0, .slice none 0 0] 38)) hb1
  have B1 := Lib.hid (Bt (Ba (Below.refl _ w) (.cells #[.int .i64 0, .int .i64 0, .slice none 0 0] 38)) hb1)
  have hxl : w.heap.size < w1.heap.size := (Array.getElem?_eq_some_iff.1 b1).1
  have ho1 := row_mono ho (show w.heap.size ≤ _ by simp)
  obtain ⟨pv, cv, rfl, _, _, _⟩ := row_val ho
  obtain ⟨W1, hW1⟩ : ∃ W1, W1 = w1.alloc (.cells #[.int .i64 x1, .int .i64 x2, .slice pv l.length cv] 38) := ⟨_, rfl⟩
  have bb : RowKit.Below w1.heap.size w1 W1 := by rw [hW1]; exact Ba (Below.refl _ _) _
  have BW1 := Lib.hid (show RowKit.Below w.heap.size w W1 from Bt B1.out bb)
  have R1 := Lib.hid (blk_below b1 bb)
  have V1 := Lib.hid (row_below ho1 bb)
  have E1 := Lib.hid (show W1.heap[w1.heap.size]? = some (.cells #[.int .i64 x1, .int .i64 x2, .slice pv l.length cv] 38 (0, 0)) by rw [hW1]; exact heap_alloc_new w1 _)
  obtain ⟨⟨c0, c1, c2⟩, f0, f1, f2⟩ := three_cells (HT.out.below BW1.out).head
  have hl := cell_lt c0
  have hel : w1.heap.size < W1.heap.size := (Array.getElem?_eq_some_iff.1 E1.out).1
  have HC := Lib.hid (HA.out W1 BW1.out)
  rw [hW1] at c0 c1 c2 f0 f1 f2 hl HC
  clear b1 hb1 ho ho1 B1 bb HN HA
  go_wp2_with fail
  generalize w1.heap.size = eb at *
  refine HC.out.mono ?_
  rintro e w2 ⟨⟨x0, rfl⟩, hT2, ht2⟩
  rw [← hW1] at hT2 ht2
  have hrb : w.heap.size < W1.heap.size := by omega
  have nM : ∀ b, w.heap.size ≤ b → ¬ M b := fun b hb e => by have := HLT.out b e; omega
  have nMc : ∀ b, w.heap.size ≤ b → ¬ Mc M pt pm b := fun b hb e => nM b hb e.1
  have V2 := Lib.hid (row_keep V1.out (fun g hg => ht2.block g (row_lt V1.out hg) (nMc g (row_base V1.out hg))))
  have E2 := Lib.hid (ht2.blk E1.out (nMc eb (by omega)))
  have R2 := Lib.hid (ht2.blk R1.out (nMc _ (Nat.le_refl _)))
  have T2 := Lib.hid ((Tch.of BW1.out : Tch M w W1).more (ht2.mono Mc.of))
  have HT2 := Lib.hid hT2
  have hs2 := ht2.size
  have HS1 := Lib.hid (show w.heap.size ≤ W1.heap.size ∧ eb < W1.heap.size from ⟨by omega, hel⟩)
  have NM := Lib.hid nM
  have V1' := V1.out
  clear hT2 ht2 HC hW1 c0 c1 c2 f0 f1 f2 hl V1 E1 R1 BW1 nM nMc HT
  obtain ⟨⟨c0, c1, c2⟩, f0, f1, f2⟩ := three_cells HT2.out.head
  have hl := cell_lt c0
  go_wp2_with (at_range; refine wpl_rangeP rfl _ rfl (by rfl) HT2.out.map ?_; intro w3 cnt3 hrg3 hg3 hsz3 _)
  have hb3 := grown_below hg3
  have V3 := Lib.hid (row_below V2.out hb3)
  have E3 := Lib.hid (blk_below E2.out hb3)
  have R3 := Lib.hid (blk_below R2.out hb3)
  have T3 := Lib.hid (T2.out.bel hb3)
  have HT3 := Lib.hid (HT2.out.below hb3)
  have HRG := Lib.hid hrg3
  have nr : ¬ New M W1 w2 w2.heap.size := fun e => by
    rcases e with e | e
    · exact NM.out _ (by omega) e
    · omega
  have hre : eb < w2.heap.size := by omega
  have VW := Lib.hid (fun g' (hg' : (Value.slice pv l.length cv).ownBlock = some g') => row_lt V1' hg')
  have HS3 := Lib.hid (show W1.heap.size ≤ w2.heap.size ∧ w2.heap.size < w3.heap.size from ⟨hs2, by omega⟩)
  obtain ⟨r, hr⟩ : ∃ r, r = w2.heap.size := ⟨_, rfl⟩
  rw [← hr] at HRG nr hre HS3 ⊢
  have HS4 := Lib.hid hb3.size
  clear hr hb3 hrg3 hg3 hsz3 V2 E2 R2 T2 HT2 c0 c1 c2 f0 f1 f2 hl hs2
  (try go_frame)
  go_loopw [9] (fun _ wr => ∃ (left : Int → Bool) (cnt : Nat) (M' : Nat → Prop), Hid (RngP wr pm r 64 f left cnt) ∧ Hid (TabM wr M' pt ph pm q f H' (fun k => if left k then colK R k else takeC (colK R k) n)) ∧ Hid (∀ b, M' b → New M W1 wr b) ∧ ¬ M' r ∧ Hid (wr.heap[eb]? = some (.cells #[.int .i64 x1, .int .i64 x2, .slice pv l.length cv] 38 (0, 0))) ∧ Hid (wr.heap[w.heap.size]? = some (.cells #[.int .i64 0, .int .i64 0, .slice none 0 0] 38 (0, 0))) ∧ Hid (wr.ownsRow w.heap.size 34 3 (.slice pv l.length cv) l.length (flat encV l)) ∧ Hid (Tch M w wr) ∧ Hid (∀ b, M' b → ¬ (w.heap.size ≤ b ∧ b < W1.heap.size)) ∧ W1.heap.size ≤ wr.heap.size) (fun _ wr => wr.rangeLeft pm r)
  case atStart => exact ⟨_, _, New M W1 w2, HRG, (show Hid _ from HT3.out.congr rfl (fun k hk => by simp [hk])), fun b e => e.imp id (fun e => ⟨e.1, Nat.lt_of_lt_of_le e.2 HS4.out⟩), nr, E3, R3, V3, T3, fun b e q => (e.elim (fun e => NM.out b q.1 e) (fun e => by omega)), by have := HS3.out; omega⟩
  case round =>
    obtain ⟨left, cnt, M', RG, HTr, HNew, nr', Er, Rr, Vr, Tr, HOff, hsz⟩ := hrel
    obtain ⟨⟨e0, e1, e2⟩, g0, g1, g2⟩ := three_cells Er.out
    have hle := cell_lt e0
    obtain ⟨⟨r0, r1, r2⟩, z0, z1, z2⟩ := three_cells Rr.out
    have hlr := cell_lt r0
    have hne : ¬ eb = w.heap.size := by have := HS1.out; omega
    have hne2 : ¬ w.heap.size = eb := by have := HS1.out; omega
    go_wp2_with (at_next; refine wpl_nextP rfl _ rfl (by rfl) RG.out ?_ ?_)
    · intro hl0
      go_wp2
      have HT5 := HTr.out.congr (C' := fun k => takeC (colK R k) n) rfl (fun k _ => by simp [hl0 k])
      have HT6 := HT5.kept (far3_tch wr w.heap.size (.int .i64 x1) (.int .i64 x2) (.slice pv l.length cv)) (fun b e1 e2 => HOff.out b e1 (by have := HS1.out; omega))
      have HT7 := (HEnd.out _ _ _ HT6 (fun k => rfl)).mono (M' := New M w (((wr.setCell ⟨w.heap.size, 0, none⟩ (.int .i64 x1)).setCell ⟨w.heap.size, 1, none⟩ (.int .i64 x2)).setCell ⟨w.heap.size, 2, none⟩ (.slice pv l.length cv)))
        (fun b e => (HNew.out b e).imp id (fun e => ⟨by have := HS1.out; omega, by simpa using e.2⟩)) (New.lt HLT.out (by simpa using Tr.out.size))
      exact bodyPost_ret (v := .tuple #[.agg #[.int .i64 x1, .int .i64 x2, .slice pv l.length cv], .nilIface]) (by simp [results, Tryz.results83, go_sem, *]) rfl ⟨⟨_, rfl, set3_row Rr.out Vr.out (by decide) _ _ _⟩, HT7, Tr.out.fresh3 (Nat.le_refl _) _ _ _⟩
    · intro k g w4 cnt4 hkw hlk hfk hrg4 hlt4 hg4 hsz4 hen4
      have t4 := tch_grown (M := fun b => b = r) hg4 rfl
      have nR : ¬ w.heap.size = r := by have := HS1.out; have := HS3.out; omega
      have nE : ¬ eb = r := by have := HS1.out; have := HS3.out; omega
      have nV : ∀ g', (Value.slice pv l.length cv).ownBlock = some g' → ¬ g' = r := fun g' hg' e => by
        have h1 := row_lt V3.out hg'
        have h2 := VW.out g' hg'
        have := HS3.out
        omega
      have E4 := Lib.hid (t4.blk Er.out nE)
      have R4 := Lib.hid (t4.blk Rr.out nR)
      have V4 := Lib.hid (row_keep Vr.out (fun g' hg' => t4.block g' (row_lt Vr.out hg') (nV g' hg')))
      have HT4 := Lib.hid (HTr.out.kept t4 (fun b e1 e2 => nr' (e2 ▸ e1)))
      have T4 := Lib.hid (show Tch M w w4 from ⟨t4.os.trans Tr.out.os, t4.tape.trans Tr.out.tape, t4.output.trans Tr.out.output, Nat.le_trans Tr.out.size t4.size, fun b h1 h2 => (t4.block b (Nat.lt_of_lt_of_le h1 Tr.out.size) (fun e => by have := HS1.out; have := HS3.out; omega)).trans (Tr.out.block b h1 h2)⟩)
      have RG4 := Lib.hid hrg4
      have FC := Lib.hid (HT4.out.askC hfk (P := fun e => ∃ x, e = .returned x) (L' := takeC (colK R k) n) (fn := 131) (args := #[ptP g, .int .i64 n]) fun MC hC => (takeV_yes hC n (by simp only [hlk, if_true]; rw [colK_len]; exact HN2.out)).mono fun e w' ⟨h1, h2⟩ => ⟨⟨_, h1⟩, by simpa only [hlk, if_true] using h2⟩)
      have HLF := Lib.hid RG.out.left_eq
      clear hg4 hrg4 t4 nR nE nV e0 e1 e2 g0 g1 g2 hle r0 r1 r2 z0 z1 z2 hlr
      go_wp2_with fail
      refine FC.out.mono ?_
      rintro e w5 ⟨⟨x0, rfl⟩, hT5, ht5⟩
      have RG5 := RG4.out.kept ht5 (fun e => e.2.2 rfl) (fun e => nr' e.1)
      go_wp2
      go_roundw
      case measure => rw [RG5.left_eq, HLF.out]; exact hlt4
      case rel =>
        have hnM : ∀ b, w.heap.size ≤ b → b < W1.heap.size → ¬ Mc M' pt pm b := fun b h1 h2 e => HOff.out b e.1 ⟨h1, h2⟩
        have hs4 : wr.heap.size = w4.heap.size := hsz4.symm
        refine ⟨_, _, New M' w4 w5, RG5, (show Hid _ from hT5.congr rfl (fun y hy => ?_)), fun b e => ?_, ?_, ?_, ?_, ?_, ?_, ?_, ?_⟩
        · show (if y = k then takeC (colK R k) n else (if left y then colK R y else takeC (colK R y) n)) = (if (left y && !decide (y = k)) then colK R y else takeC (colK R y) n)
          by_cases c : y = k
          · subst c; simp
          · simp [c]
        · rcases e with e | e
          · exact (HNew.out b e).imp id (fun e => ⟨e.1, Nat.lt_of_lt_of_le e.2 (by rw [hs4]; exact ht5.size)⟩)
          · exact .inr ⟨by omega, e.2⟩
        · intro e
          rcases e with e | e
          · exact nr' e
          · have := RG4.out.lt; omega
        · exact ht5.blk E4.out (hnM eb (by have := HS1.out; omega) HS1.out.2)
        · exact ht5.blk R4.out (hnM _ (Nat.le_refl _) (by have := HS1.out; omega))
        · exact row_keep V4.out (fun g' hg' => ht5.block g' (row_lt V4.out hg') (hnM g' (row_base V4.out hg') (VW.out g' hg')))
        · refine ⟨ht5.os.trans T4.out.os, ht5.tape.trans T4.out.tape, ht5.output.trans T4.out.output, Nat.le_trans T4.out.size ht5.size, fun b h1 h2 => (ht5.block b (Nat.lt_of_lt_of_le h1 T4.out.size) (fun e => ?_)).trans (T4.out.block b h1 h2)⟩
          rcases HNew.out b e.1 with c | c
          · exact h2 c
          · have := HS1.out; omega
        · intro b e q
          rcases e with e | e
          · exact HOff.out b e q
          · omega
        · have := ht5.size; omega
end
end Go.Proofs.YtaehendpdfpibaaGreatDoor

/-
  The table's Add.
-/
namespace Go.Proofs.YtaehendpdfpibaaGreatDoor
set_option linter.unusedSimpArgs false
set_option linter.unusedVariables false
open Go.RowKit Go.Sort Go.Lib Go.Shelf

section
variable {w : World} {M : Nat → Prop} {pt q : Nat} {R : List En} {A : Nat → Addr}
abbrev zErr (A : Nat → Addr) (n : Nat) : Value := .tuple #[.int .i64 0, errC A n]
set_option maxHeartbeats 2000000 in
set_option maxRecDepth 100000 in
theorem tadd_wrong (h1 h2 : Int) (l : List Vl) (v : Value) (hv : Sl encV w v l) (hr : rightB l = false) (hE : Er7 w A) : Calls Tryz.prog 118 #[ptP pt, .agg #[.int .i64 h1, .int .i64 h2], v] w fun e w' => e = .returned (zErr A 6) ∧ RowKit.Below w.heap.size w w' := by
  have HR : Hid (∀ W, RowKit.Below w.heap.size w W → Calls Tryz.prog 71 #[v] W fun e w' => e = .returned (.bool false) ∧ RowKit.Below W.heap.size W w') := fun W hb => (right_call l v A W (hv.below hb) (hE.below hb).er).mono fun e w' ⟨h1, h2⟩ => ⟨by rw [h1, hr], h2.below⟩
  have HE := Lib.hid hE
  obtain ⟨p, cap, rfl, _, _, _⟩ := hv
  clear hE hr
  obtain ⟨W0, hW0⟩ : ∃ W0, W0 = w.alloc (.cells #[.int .i64 h1, .int .i64 h2] 31) := ⟨_, rfl⟩
  have B0 := Lib.hid (show RowKit.Below w.heap.size w W0 by rw [hW0]; exact Ba (Below.refl _ w) _)
  go_enter Tryz.func118, Tryz.ntmps118
  go_wp2_with fail
  rw [← hW0]
  clear hW0
  refine wp_region_held_drew (S := (fun w' => Below (W0).heap.size (W0) w' ∧ ∀ b_1 o, b_1 < (W0).heap.size → w'.cell? ⟨b_1, o, none⟩ = (W0).cell? ⟨b_1, o, none⟩)) (by kernel_rfl) (keep0 _) (fun hHeld => ?_)
  (refine wpAnyH_take (i := 0) (v := ?_) rfl (by kernel_rfl) (by kernel_rfl) (by kernel_rfl) (fun _ _ _ h => h) (Or.inl ⟨by rfl, ?rt⟩) (by assumption) ?_; case rt => (intro w hSw; (try dsimp only at hSw); go_simp; (try with_reducible rfl))); (try simp only [Act.put, List.getElem_toArray, List.getElem_cons_succ, List.getElem_cons_zero, List.setIfInBounds_toArray, List.set_cons_zero, List.set_cons_succ])
  (refine wpAnyH_ready (rs := [1]) (by kernel_rfl) (by simp) ?_; refine AllReadyH.cons rfl (fun K hK => ?_) AllReadyH.nil; go_simp; refine (HR.out _ (Bd B0.out)).mono ?_; rintro e w1 ⟨rfl, hb1⟩; refine hK.out _ _ (keepB (by assumption) hb1) (fun hHeld => ?_); clear hK K); (try simp only [Act.put, List.getElem_toArray, List.getElem_cons_succ, List.getElem_cons_zero, List.setIfInBounds_toArray, List.set_cons_zero, List.set_cons_succ])
  (refine wpAnyH_take (i := 2) (v := ?_) rfl (by kernel_rfl) (by kernel_rfl) (by kernel_rfl) (fun _ _ _ h => h) (Or.inl ⟨by rfl, ?rt⟩) (by assumption) ?_; case rt => (intro w hSw; (try dsimp only at hSw); go_simp; (try with_reducible rfl))); (try simp only [Act.put, List.getElem_toArray, List.getElem_cons_succ, List.getElem_cons_zero, List.setIfInBounds_toArray, List.set_cons_zero, List.set_cons_succ])
  (refine wpAnyH_take (i := 3) (v := ?_) rfl (by kernel_rfl) (by kernel_rfl) (by kernel_rfl) (fun _ _ _ h => h) (Or.inl ⟨by rfl, ?rt⟩) (by assumption) ?_; case rt => (intro w hSw; (try dsimp only at hSw); go_simp; (try with_reducible rfl))); (try simp only [Act.put, List.getElem_toArray, List.getElem_cons_succ, List.getElem_cons_zero, List.setIfInBounds_toArray, List.set_cons_zero, List.set_cons_succ])
  refine wpAnyH_take (i := 4) (v := undef) rfl (by kernel_rfl) (by kernel_rfl) (by kernel_rfl) (fun _ _ _ h => h) (Or.inr ⟨by rfl, rfl⟩) (by assumption) ?_; (try simp only [Act.put, List.getElem_toArray, List.getElem_cons_succ, List.getElem_cons_zero, List.setIfInBounds_toArray, List.set_cons_zero, List.set_cons_succ])
  refine wpAnyH_take (i := 5) (v := undef) rfl (by kernel_rfl) (by kernel_rfl) (by kernel_rfl) (fun _ _ _ h => h) (Or.inr ⟨by rfl, rfl⟩) (by assumption) ?_; (try simp only [Act.put, List.getElem_toArray, List.getElem_cons_succ, List.getElem_cons_zero, List.setIfInBounds_toArray, List.set_cons_zero, List.set_cons_succ])
  refine wpAnyH_take (i := 6) (v := undef) rfl (by kernel_rfl) (by kernel_rfl) (by kernel_rfl) (fun _ _ _ h => h) (Or.inr ⟨by rfl, rfl⟩) (by assumption) ?_; (try simp only [Act.put, List.getElem_toArray, List.getElem_cons_succ, List.getElem_cons_zero, List.setIfInBounds_toArray, List.set_cons_zero, List.set_cons_succ])
  refine wpAnyH_take (i := 7) (v := undef) rfl (by kernel_rfl) (by kernel_rfl) (by kernel_rfl) (fun _ _ _ h => h) (Or.inr ⟨by rfl, rfl⟩) (by assumption) ?_; (try simp only [Act.put, List.getElem_toArray, List.getElem_cons_succ, List.getElem_cons_zero, List.setIfInBounds_toArray, List.set_cons_zero, List.set_cons_succ])
  refine wpAnyH_take (i := 8) (v := undef) rfl (by kernel_rfl) (by kernel_rfl) (by kernel_rfl) (fun _ _ _ h => h) (Or.inr ⟨by rfl, rfl⟩) (by assumption) ?_; (try simp only [Act.put, List.getElem_toArray, List.getElem_cons_succ, List.getElem_cons_zero, List.setIfInBounds_toArray, List.set_cons_zero, List.set_cons_succ])
  refine wpAnyH_take (i := 9) (v := undef) rfl (by kernel_rfl) (by kernel_rfl) (by kernel_rfl) (fun _ _ _ h => h) (Or.inr ⟨by rfl, rfl⟩) (by assumption) ?_; (try simp only [Act.put, List.getElem_toArray, List.getElem_cons_succ, List.getElem_cons_zero, List.setIfInBounds_toArray, List.set_cons_zero, List.set_cons_succ])
  refine wpAnyH_take (i := 10) (v := undef) rfl (by kernel_rfl) (by kernel_rfl) (by kernel_rfl) (fun _ _ _ h => h) (Or.inr ⟨by rfl, rfl⟩) (by assumption) ?_; (try simp only [Act.put, List.getElem_toArray, List.getElem_cons_succ, List.getElem_cons_zero, List.setIfInBounds_toArray, List.set_cons_zero, List.set_cons_succ])
  (refine wpAnyH_take (i := 11) (v := ?_) rfl (by kernel_rfl) (by kernel_rfl) (by kernel_rfl) (fun _ _ _ h => h) (Or.inl ⟨by rfl, ?rt⟩) (by assumption) ?_; case rt => (intro w hSw; (try dsimp only at hSw); go_simp; (try with_reducible rfl))); (try simp only [Act.put, List.getElem_toArray, List.getElem_cons_succ, List.getElem_cons_zero, List.setIfInBounds_toArray, List.set_cons_zero, List.set_cons_succ])
  refine wpAnyH_done (by kernel_rfl) ?_ _
  have B1 := Lib.hid (Bt B0.out hHeld.1)
  have fe := (HE.out.below B1.out).form
  clear hHeld hb1
  go_wp2_with fail
  go_region
  go_wp2
  go_ret2
  exact ⟨rfl, B1.out.drew⟩
set_option maxHeartbeats 2000000 in
set_option maxRecDepth 100000 in
theorem tadd_mask (h : Tab w M pt q R) (h1 h2 : Int) (l : List Vl) (v : Value) (hv : Sl encV w v l) (hlen : l.length ≤ 100000) (hr : rightB l = true) (hm : maskV l ≠ q) (hE : Er7 w A) : Calls Tryz.prog 118 #[ptP pt, .agg #[.int .i64 h1, .int .i64 h2], v] w fun e w' => e = .returned (zErr A 6) ∧ RowKit.Below w.heap.size w w' := by
  have HR : Hid (∀ W, RowKit.Below w.heap.size w W → Calls Tryz.prog 71 #[v] W fun e w' => e = .returned (.bool true) ∧ RowKit.Below W.heap.size W w') := fun W hb => (right_call l v A W (hv.below hb) (hE.below hb).er).mono fun e w' ⟨h1, h2⟩ => ⟨by rw [h1, hr], h2.below⟩
  have HM : Hid (∀ W, RowKit.Below w.heap.size w W → Calls Tryz.prog 66 #[v] W fun e w' => e = .returned (.int .u64 (maskV l : Nat)) ∧ RowKit.Below W.heap.size W w') := fun W hb => mask_call l v (A 4) W (hv.below hb) ((rightB_iff l).1 hr).2 (hE.below hb).er.k hlen
  have HE := Lib.hid hE
  have hne : ((maskV l : Int) != (q : Int)) = true := by simp; omega
  generalize maskV l = ml at *
  obtain ⟨p, cap, rfl, _, _, _⟩ := hv
  obtain ⟨ph, pm, f, hT, _⟩ := h
  clear hE hr hm
  obtain ⟨W0, hW0⟩ : ∃ W0, W0 = w.alloc (.cells #[.int .i64 h1, .int .i64 h2] 31) := ⟨_, rfl⟩
  have B0 := Lib.hid (show RowKit.Below w.heap.size w W0 by rw [hW0]; exact Ba (Below.refl _ w) _)
  obtain ⟨⟨c0, c1, c2⟩, f0, f1, f2⟩ := three_cells (hT.below B0.out).head
  have hl := cell_lt c0
  clear hT
  go_enter Tryz.func118, Tryz.ntmps118
  go_wp2_with fail
  rw [← hW0]
  clear hW0
  refine wp_region_held_drew (S := (fun w' => Below (W0).heap.size (W0) w' ∧ ∀ b_1 o, b_1 < (W0).heap.size → w'.cell? ⟨b_1, o, none⟩ = (W0).cell? ⟨b_1, o, none⟩)) (by kernel_rfl) (keep0 _) (fun hHeld => ?_)
  (refine wpAnyH_take (i := 0) (v := ?_) rfl (by kernel_rfl) (by kernel_rfl) (by kernel_rfl) (fun _ _ _ h => h) (Or.inl ⟨by rfl, ?rt⟩) (by assumption) ?_; case rt => (intro w hSw; (try dsimp only at hSw); go_simp; (try with_reducible rfl))); (try simp only [Act.put, List.getElem_toArray, List.getElem_cons_succ, List.getElem_cons_zero, List.setIfInBounds_toArray, List.set_cons_zero, List.set_cons_succ])
  (refine wpAnyH_ready (rs := [1]) (by kernel_rfl) (by simp) ?_; refine AllReadyH.cons rfl (fun K hK => ?_) AllReadyH.nil; go_simp; refine (HR.out _ (Bd B0.out)).mono ?_; rintro e w1 ⟨rfl, hb1⟩; refine hK.out _ _ (keepB (by assumption) hb1) (fun hHeld => ?_); clear hK K); (try simp only [Act.put, List.getElem_toArray, List.getElem_cons_succ, List.getElem_cons_zero, List.setIfInBounds_toArray, List.set_cons_zero, List.set_cons_succ])
  (refine wpAnyH_take (i := 2) (v := ?_) rfl (by kernel_rfl) (by kernel_rfl) (by kernel_rfl) (fun _ _ _ h => h) (Or.inl ⟨by rfl, ?rt⟩) (by assumption) ?_; case rt => (intro w hSw; (try dsimp only at hSw); go_simp; (try with_reducible rfl))); (try simp only [Act.put, List.getElem_toArray, List.getElem_cons_succ, List.getElem_cons_zero, List.setIfInBounds_toArray, List.set_cons_zero, List.set_cons_succ])
  (refine wpAnyH_take (i := 3) (v := ?_) rfl (by kernel_rfl) (by kernel_rfl) (by kernel_rfl) (fun _ _ _ h => h) (Or.inl ⟨by rfl, ?rt⟩) (by assumption) ?_; case rt => (intro w hSw; (try dsimp only at hSw); go_simp; (try with_reducible rfl))); (try simp only [Act.put, List.getElem_toArray, List.getElem_cons_succ, List.getElem_cons_zero, List.setIfInBounds_toArray, List.set_cons_zero, List.set_cons_succ])
  (refine wpAnyH_take (i := 4) (v := ?_) rfl (by kernel_rfl) (by kernel_rfl) (by kernel_rfl) (fun _ _ _ h => h) (Or.inl ⟨by rfl, ?rt⟩) (by assumption) ?_; case rt => (intro w hSw; (try dsimp only at hSw); go_simp; (try with_reducible rfl))); (try simp only [Act.put, List.getElem_toArray, List.getElem_cons_succ, List.getElem_cons_zero, List.setIfInBounds_toArray, List.set_cons_zero, List.set_cons_succ])
  (refine wpAnyH_take (i := 6) (v := ?_) rfl (by kernel_rfl) (by kernel_rfl) (by kernel_rfl) (fun _ _ _ h => h) (Or.inl ⟨by rfl, ?rt⟩) (by assumption) ?_; case rt => (intro w hSw; (try dsimp only at hSw); go_simp; (try with_reducible rfl))); (try simp only [Act.put, List.getElem_toArray, List.getElem_cons_succ, List.getElem_cons_zero, List.setIfInBounds_toArray, List.set_cons_zero, List.set_cons_succ])
  (refine wpAnyH_take (i := 7) (v := ?_) rfl (by kernel_rfl) (by kernel_rfl) (by kernel_rfl) (fun _ _ _ h => h) (Or.inl ⟨by rfl, ?rt⟩) (by assumption) ?_; case rt => (intro w hSw; (try dsimp only at hSw); go_simp; (try with_reducible rfl))); (try simp only [Act.put, List.getElem_toArray, List.getElem_cons_succ, List.getElem_cons_zero, List.setIfInBounds_toArray, List.set_cons_zero, List.set_cons_succ])
  (refine wpAnyH_take (i := 8) (v := ?_) rfl (by kernel_rfl) (by kernel_rfl) (by kernel_rfl) (fun _ _ _ h => h) (Or.inl ⟨by rfl, ?rt⟩) (by assumption) ?_; case rt => (intro w hSw; (try dsimp only at hSw); go_simp; (try with_reducible rfl))); (try simp only [Act.put, List.getElem_toArray, List.getElem_cons_succ, List.getElem_cons_zero, List.setIfInBounds_toArray, List.set_cons_zero, List.set_cons_succ])
  (refine wpAnyH_take (i := 9) (v := ?_) rfl (by kernel_rfl) (by kernel_rfl) (by kernel_rfl) (fun _ _ _ h => h) (Or.inl ⟨by rfl, ?rt⟩) (by assumption) ?_; case rt => (intro w hSw; (try dsimp only at hSw); go_simp; (try with_reducible rfl))); (try simp only [Act.put, List.getElem_toArray, List.getElem_cons_succ, List.getElem_cons_zero, List.setIfInBounds_toArray, List.set_cons_zero, List.set_cons_succ])
  (refine wpAnyH_ready (rs := [5]) (by kernel_rfl) (by simp) ?_; refine AllReadyH.cons rfl (fun K hK => ?_) AllReadyH.nil; go_simp; refine (HM.out _ (Bt B0.out hHeld.1)).mono ?_; rintro e w1 ⟨rfl, hb1⟩; refine hK.out _ _ (keepB (by assumption) hb1) (fun hHeld => ?_); clear hK K); (try simp only [Act.put, List.getElem_toArray, List.getElem_cons_succ, List.getElem_cons_zero, List.setIfInBounds_toArray, List.set_cons_zero, List.set_cons_succ])
  (refine wpAnyH_take (i := 10) (v := ?_) rfl (by kernel_rfl) (by kernel_rfl) (by kernel_rfl) (fun _ _ _ h => h) (Or.inl ⟨by rfl, ?rt⟩) (by assumption) ?_; case rt => (intro w hSw; (try dsimp only at hSw); go_simp; (try with_reducible rfl))); (try simp only [Act.put, List.getElem_toArray, List.getElem_cons_succ, List.getElem_cons_zero, List.setIfInBounds_toArray, List.set_cons_zero, List.set_cons_succ])
  (refine wpAnyH_take (i := 11) (v := ?_) rfl (by kernel_rfl) (by kernel_rfl) (by kernel_rfl) (fun _ _ _ h => h) (Or.inl ⟨by rfl, ?rt⟩) (by assumption) ?_; case rt => (intro w hSw; (try dsimp only at hSw); go_simp; (try with_reducible rfl))); (try simp only [Act.put, List.getElem_toArray, List.getElem_cons_succ, List.getElem_cons_zero, List.setIfInBounds_toArray, List.set_cons_zero, List.set_cons_succ])
  refine wpAnyH_done (by kernel_rfl) ?_ _
  have B1 := Lib.hid (Bt B0.out hHeld.1)
  have fe := (HE.out.below B1.out).form
  clear hHeld hb1
  go_wp2_with fail
  go_region
  go_wp2
  go_ret2
  exact ⟨rfl, B1.out.drew⟩
end
end Go.Proofs.YtaehendpdfpibaaGreatDoor
