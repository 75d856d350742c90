/-
  The table's Get, Set.
-/
import Derived.Test.YtknfmjjlfhfocaaDoorTc
import Derived.Test.YtknfmjjlfhfocaaDoorVr
namespace Go.Proofs.YtknfmjjlfhfocaaDoor
set_option linter.unusedSimpArgs false
set_option linter.unusedVariables false
open Go.RowKit Go.Sort Go.Lib Go.Shelf

section
variable {w : World} {M : Nat → Prop} {pt q : Nat} {R : List En} {A : Nat → Addr}
theorem colK_len (R : List En) (k : Int) : (colK R k).length = R.length := by simp [colK]
theorem colK_at (R : List En) (k : Int) {n : Nat} (hn : n < R.length) : (colK R k)[n]! = fndV R[n]!.2 k := by
  rw [getElem!_pos (colK R k) n (by rw [colK_len]; exact hn), getElem!_pos R n hn]
  simp [colK]
theorem err_cells (A : Nat → Addr) (n : Nat) : errC A n = .iface 141 (.pointer (some (A n))) := rfl

set_option maxHeartbeats 2000000 in
/-- Get, where columnAt refuses. -/
theorem tget_err (i k : Int) (ea : Addr) (h : ∀ W, RowKit.Below w.heap.size w W → Calls Tryd.prog 44 #[ptP pt, .int .i64 i, .int .i64 k] W fun e w' => e = .returned (.tuple #[.pointer none, .iface 141 (.pointer (some ea))]) ∧ RowKit.Below W.heap.size W w') :
    Calls Tryd.prog 17 #[ptP pt, .int .i64 i, .int .i64 k] w fun e w' => e = .returned (.tuple #[.agg #[.int .i64 0, .int .i64 0, .int .i64 0], .iface 141 (.pointer (some ea))]) ∧ RowKit.Below w.heap.size w w' := by
  have HC := Lib.hid h
  clear h
  go_enter Tryd.func17, Tryd.ntmps17
  go_wp2_with fail
  refine (HC.out _ (Ba (Below.refl _ w) _)).mono ?_
  rintro e w1 ⟨rfl, hb1⟩
  have b1 := blk_below (heap_alloc_new w (.cells #[.int .i64 0, .int .i64 0, .int .i64 0] 41)) hb1
  obtain ⟨⟨r0, r1, r2⟩, r3, r4, r5⟩ := three_cells b1
  have hr := cell_lt r0
  have B1 := Lib.hid (Bt (Ba (Below.refl _ w) (.cells #[.int .i64 0, .int .i64 0, .int .i64 0] 41)) hb1)
  clear hb1 b1
  go_wp2
  exact bodyPost_ret (v := .tuple #[.agg #[.int .i64 0, .int .i64 0, .int .i64 0], .iface 141 (.pointer (some ea))]) (by simp [results, Tryd.results17, go_sem, *]) rfl ⟨rfl, Bs (Bs (Bs B1.out (Nat.le_refl _) _) (Nat.le_refl _) _) (Nat.le_refl _) _⟩
theorem tget_no (h : Tab w M pt q R) (i k : Int) (hn : ¬ (0 ≤ i ∧ i < R.length)) (hE : Er7 w A) : Calls Tryd.prog 17 #[ptP pt, .int .i64 i, .int .i64 k] w fun e w' => e = .returned (.tuple #[.agg #[.int .i64 0, .int .i64 0, .int .i64 0], errC A 0]) ∧ RowKit.Below w.heap.size w w' :=
  tget_err i k (A 0) (fun W hb => tcol_no (h.below hb) i k hn (hE.below hb))
theorem tget_kind (h : Tab w M pt q R) (n : Nat) (hn : n < R.length) (k : Int) (hk : k ∉ Ks q) (hkw : (Lit.int .i64 k).wf = true) (hE : Er7 w A) : Calls Tryd.prog 17 #[ptP pt, .int .i64 n, .int .i64 k] w fun e w' => e = .returned (.tuple #[.agg #[.int .i64 0, .int .i64 0, .int .i64 0], errC A 4]) ∧ RowKit.Below w.heap.size w w' :=
  tget_err n k (A 4) (fun W hb => tcol_kind (h.below hb) n hn k hk hkw (hE.below hb))
set_option maxHeartbeats 2000000 in
theorem tget_yes (h : Tab w M pt q R) (n : Nat) (hn : n < R.length) (k : Int) (hk : k ∈ Ks q) (hkw : (Lit.int .i64 k).wf = true) : Calls Tryd.prog 17 #[ptP pt, .int .i64 n, .int .i64 k] w fun e w' => e = .returned (.tuple #[aggV (fndV R[n]!.2 k), .nilIface]) ∧ RowKit.Below w.heap.size w w' := by
  have h0 := h
  obtain ⟨ph, pm, f, hT, _, hf, _⟩ := h
  obtain ⟨g, hg⟩ : ∃ g, f k = some g := Option.isSome_iff_exists.1 (by rw [hf k]; exact decide_eq_true hk)
  have HC : Hid (∀ W, RowKit.Below w.heap.size w W → Calls Tryd.prog 44 #[ptP pt, .int .i64 n, .int .i64 k] W fun e w' => e = .returned (.tuple #[ptP g, .nilIface]) ∧ RowKit.Below W.heap.size W w') := fun W hb => tcol_yes (h0.below hb) n hn k hkw (hT.below hb) hg
  obtain ⟨MC, hC⟩ := hT.col hg
  have HG : Hid (∀ W, RowKit.Below w.heap.size w W → Calls Tryd.prog 45 #[ptP g, .int .i64 n] W fun e w' => e = .returned (.tuple #[aggV (fndV R[n]!.2 k), .nilIface]) ∧ RowKit.Below W.heap.size W w') := fun W hb => by
    have := getV_yes (hC.below hb) n (by rw [colK_len]; exact hn)
    rwa [colK_at R k hn] at this
  clear h0 hT hC hf hg
  unfold aggV at *
  generalize fndV R[n]!.2 k = x at *
  obtain ⟨x1, x2, x3⟩ := x
  dsimp only at *
  go_enter Tryd.func17, Tryd.ntmps17
  go_wp2_with fail
  refine (HC.out _ (Ba (Below.refl _ w) _)).mono ?_
  rintro e w1 ⟨rfl, hb1⟩
  have b1 := blk_below (heap_alloc_new w (.cells #[.int .i64 0, .int .i64 0, .int .i64 0] 41)) hb1
  have B1 := Lib.hid (Bt (Ba (Below.refl _ w) (.cells #[.int .i64 0, .int .i64 0, .int .i64 0] 41)) hb1)
  clear hb1
  go_wp2_with fail
  refine (HG.out _ B1.out).mono ?_
  rintro e w2 ⟨rfl, hb2⟩
  have B2 := Lib.hid (Bt B1.out hb2)
  have b2 := blk_below b1 hb2
  obtain ⟨⟨r0, r1, r2⟩, r3, r4, r5⟩ := three_cells b2
  have hr := cell_lt r0
  clear hb2 b1 b2
  go_wp2
  exact bodyPost_ret (v := .tuple #[.agg #[.int .i64 x1, .int .i64 x2, .int .i64 x3], .nilIface]) (by simp [results, Tryd.results17, go_sem, *]) rfl ⟨rfl, Bs (Bs (Bs B2.out (Nat.le_refl _) _) (Nat.le_refl _) _) (Nat.le_refl _) _⟩

/-! ### Set. -/
set_option maxHeartbeats 2000000 in
theorem tset_err (i x1 x2 x3 : Int) (ea : Addr) (h : ∀ W, RowKit.Below w.heap.size w W → Calls Tryd.prog 44 #[ptP pt, .int .i64 i, .int .i64 x1] W fun e w' => e = .returned (.tuple #[.pointer none, .iface 141 (.pointer (some ea))]) ∧ RowKit.Below W.heap.size W w') :
    Calls Tryd.prog 19 #[ptP pt, .int .i64 i, .agg #[.int .i64 x1, .int .i64 x2, .int .i64 x3]] w fun e w' => e = .returned (.iface 141 (.pointer (some ea))) ∧ RowKit.Below w.heap.size w w' := by
  have HC := Lib.hid h
  clear h
  go_enter Tryd.func19, Tryd.ntmps19
  go_wp2_with fail
  refine (HC.out _ (Ba (Below.refl _ w) _)).mono ?_
  rintro e w1 ⟨rfl, hb1⟩
  have B1 := Lib.hid (Bt (Ba (Below.refl _ w) (.cells #[.int .i64 x1, .int .i64 x2, .int .i64 x3] 41)) hb1)
  go_wp2
  go_ret
  exact ⟨rfl, B1.out⟩
theorem tset_no (h : Tab w M pt q R) (i x1 x2 x3 : Int) (hn : ¬ (0 ≤ i ∧ i < R.length)) (hE : Er7 w A) : Calls Tryd.prog 19 #[ptP pt, .int .i64 i, .agg #[.int .i64 x1, .int .i64 x2, .int .i64 x3]] w fun e w' => e = .returned (errC A 0) ∧ RowKit.Below w.heap.size w w' :=
  tset_err i x1 x2 x3 (A 0) (fun W hb => tcol_no (h.below hb) i x1 hn (hE.below hb))
theorem tset_kind (h : Tab w M pt q R) (n : Nat) (hn : n < R.length) (x1 x2 x3 : Int) (hk : x1 ∉ Ks q) (hkw : (Lit.int .i64 x1).wf = true) (hE : Er7 w A) : Calls Tryd.prog 19 #[ptP pt, .int .i64 n, .agg #[.int .i64 x1, .int .i64 x2, .int .i64 x3]] w fun e w' => e = .returned (errC A 4) ∧ RowKit.Below w.heap.size w w' :=
  tset_err n x1 x2 x3 (A 4) (fun W hb => tcol_kind (h.below hb) n hn x1 hk hkw (hE.below hb))
set_option maxHeartbeats 2000000 in
theorem tset_chk (h : Tab w M pt q R) (n : Nat) (hn : n < R.length) (x1 x2 x3 : Int) (hk : x1 ∈ Ks q) (hkw : (Lit.int .i64 x1).wf = true) (hc : chk (x1, x2, x3) ≠ 0) (hE : Er7 w A) : Calls Tryd.prog 19 #[ptP pt, .int .i64 n, .agg #[.int .i64 x1, .int .i64 x2, .int .i64 x3]] w fun e w' => e = .returned (errC A (chk (x1, x2, x3) - 1)) ∧ RowKit.Below w.heap.size w w' := by
  have h0 := h
  obtain ⟨ph, pm, f, hT, _, hf, _⟩ := h
  obtain ⟨g, hg⟩ : ∃ g, f x1 = some g := Option.isSome_iff_exists.1 (by rw [hf x1]; exact decide_eq_true hk)
  have HC : Hid (∀ W, RowKit.Below w.heap.size w W → Calls Tryd.prog 44 #[ptP pt, .int .i64 n, .int .i64 x1] W fun e w' => e = .returned (.tuple #[ptP g, .nilIface]) ∧ RowKit.Below W.heap.size W w') := fun W hb => tcol_yes (h0.below hb) n hn x1 hkw (hT.below hb) hg
  have HK : Hid (∀ W, RowKit.Below w.heap.size w W → Calls Tryd.prog 46 #[.agg #[.int .i64 x1, .int .i64 x2, .int .i64 x3]] W fun e w' => e = .returned (.iface 141 (.pointer (some (A (chk (x1, x2, x3) - 1))))) ∧ Gr W w') := fun W hb => by
    have := check_any (x1, x2, x3) A W (hE.below hb).er
    rwa [errV_at A _ hc] at this
  clear h0 hT hf hg hE hc
  unfold errC
  generalize A (chk (x1, x2, x3) - 1) = ea at *
  go_enter Tryd.func19, Tryd.ntmps19
  go_wp2_with fail
  refine (HC.out _ (Ba (Below.refl _ w) _)).mono ?_
  rintro e w1 ⟨rfl, hb1⟩
  have b1 := blk_below (heap_alloc_new w (.cells #[.int .i64 x1, .int .i64 x2, .int .i64 x3] 41)) hb1
  obtain ⟨⟨r0, r1, r2⟩, r3, r4, r5⟩ := three_cells b1
  have hr := cell_lt r0
  have B1 := Lib.hid (Bt (Ba (Below.refl _ w) (.cells #[.int .i64 x1, .int .i64 x2, .int .i64 x3] 41)) hb1)
  clear hb1 b1
  go_wp2_with fail
  refine (HK.out _ B1.out).mono ?_
  rintro e w2 ⟨rfl, hg2⟩
  have B2 := Lib.hid (Bt B1.out hg2.below)
  clear hg2
  go_wp2
  go_ret
  exact ⟨rfl, B2.out⟩
theorem colK_set {w : World} {R : List En} {q : Nat} (hR : ∀ r ∈ R, EntOk q r) {n : Nat} (hn : n < R.length) {v : Vl} (hv : chk v = 0) (hk : v.1 ∈ Ks q) {k : Int} (hk2 : k ∈ Ks q) :
    (if k = v.1 then (colK R v.1).set n v else colK R k) = colK (R.set n (R[n].1, putV R[n].2 v)) k := by
  have e := put_fnd (hR _ (List.getElem_mem hn)) hv hk hk2
  unfold colK
  rw [List.map_set, e]
  by_cases c : k = v.1
  · rw [if_pos c, if_pos c, c]
  · rw [if_neg c, if_neg c]
    apply List.ext_getElem?
    intro j
    rw [List.getElem?_set]
    by_cases d : n = j
    · subst d
      rw [if_pos rfl, if_pos (by simpa using hn), List.getElem?_map, List.getElem?_eq_getElem hn]
      rfl
    · rw [if_neg d]
theorem fst_set {R : List En} {n : Nat} (hn : n < R.length) (l : List Vl) : R.map (fun r => r.1) = (R.set n (R[n].1, l)).map fun r => r.1 := by
  rw [List.map_set]
  apply List.ext_getElem?
  intro j
  rw [List.getElem?_set]
  by_cases d : n = j
  · subst d
    rw [if_pos rfl, if_pos (by simpa using hn), List.getElem?_map, List.getElem?_eq_getElem hn]
    rfl
  · rw [if_neg d]
set_option maxHeartbeats 2000000 in
theorem tset_yes (h : Tab w M pt q R) (n : Nat) (hn : n < R.length) (x1 x2 x3 : Int) (hk : x1 ∈ Ks q) (hkw : (Lit.int .i64 x1).wf = true) (hc : chk (x1, x2, x3) = 0) (hE : Er7 w A) :
    Calls Tryd.prog 19 #[ptP pt, .int .i64 n, .agg #[.int .i64 x1, .int .i64 x2, .int .i64 x3]] w fun e w' => e = .returned .nilIface ∧ Tab w' (New M w w') pt q (R.set n (R[n].1, putV R[n].2 (x1, x2, x3))) ∧ Tch M w w' := by
  have h0 := h
  obtain ⟨ph, pm, f, hT, hq, hf, hR, hlen⟩ := h
  obtain ⟨g, hg⟩ : ∃ g, f x1 = some g := Option.isSome_iff_exists.1 (by rw [hf x1]; exact decide_eq_true hk)
  have HC : Hid (∀ W, RowKit.Below w.heap.size w W → Calls Tryd.prog 44 #[ptP pt, .int .i64 n, .int .i64 x1] W fun e w' => e = .returned (.tuple #[ptP g, .nilIface]) ∧ RowKit.Below W.heap.size W w') := fun W hb => tcol_yes (h0.below hb) n hn x1 hkw (hT.below hb) hg
  have HK : Hid (∀ W, RowKit.Below w.heap.size w W → Calls Tryd.prog 46 #[.agg #[.int .i64 x1, .int .i64 x2, .int .i64 x3]] W fun e w' => e = .returned .nilIface ∧ Gr W w') := fun W hb => by
    have := check_any (x1, x2, x3) A W (hE.below hb).er
    rwa [hc, errV_no] at this
  have HS : Hid (∀ W, RowKit.Below w.heap.size w W → Calls Tryd.prog 47 #[ptP g, .int .i64 n, .agg #[.int .i64 x1, .int .i64 x2, .int .i64 x3]] W fun e w' => e = .returned .nilIface ∧ Tab w' (New M W w') pt q (R.set n (R[n].1, putV R[n].2 (x1, x2, x3))) ∧ Tch M W w') := fun W hb => by
    refine ((hT.below hb).askC hg (P := fun e => e = .returned .nilIface) (L' := (colK R x1).set n (x1, x2, x3)) fun MC hC => setV_yes hC n (by rw [colK_len]; exact hn) x1 x2 x3).mono fun e w' ⟨he, ht, hh⟩ => ⟨he, ⟨ph, pm, f, ht.congr (fst_set hn _) (fun k hk2 => ?_), hq, hf, fun r hr => ?_, by simpa using hlen⟩, hh.mono Mc.of⟩
    · rw [hf k] at hk2
      exact colK_set (w := w) hR hn (v := (x1, x2, x3)) hc hk (of_decide_eq_true hk2)
    · rcases List.mem_or_eq_of_mem_set hr with e | e
      · exact hR r e
      · rw [e]
        exact ent_put (hR _ (List.getElem_mem hn)) hc hk
  have HLT := Lib.hid h0.lt
  generalize hR' : R.set n (R[n].1, putV R[n].2 (x1, x2, x3)) = R' at *
  clear h0 hT hf hg hE hc hR hR'
  go_enter Tryd.func19, Tryd.ntmps19
  go_wp2_with fail
  refine (HC.out _ (Ba (Below.refl _ w) _)).mono ?_
  rintro e w1 ⟨rfl, hb1⟩
  have b1 := blk_below (heap_alloc_new w (.cells #[.int .i64 x1, .int .i64 x2, .int .i64 x3] 41)) hb1
  obtain ⟨⟨r0, r1, r2⟩, r3, r4, r5⟩ := three_cells b1
  have hr := cell_lt r0
  have B1 := Lib.hid (Bt (Ba (Below.refl _ w) (.cells #[.int .i64 x1, .int .i64 x2, .int .i64 x3] 41)) hb1)
  clear hb1
  go_wp2_with fail
  refine (HK.out _ B1.out).mono ?_
  rintro e w2 ⟨rfl, hg2⟩
  have b2 := blk_below b1 hg2.below
  have B2 := Lib.hid (Bt B1.out hg2.below)
  clear b1 r0 r1 r2 r3 r4 r5 hr hg2
  obtain ⟨⟨r0, r1, r2⟩, r3, r4, r5⟩ := three_cells b2
  have hr := cell_lt r0
  clear b2
  go_wp2_with fail
  refine (HS.out _ B2.out).mono ?_
  rintro e w3 ⟨rfl, hT3, ht3⟩
  have HT3 := Lib.hid hT3
  have HH3 := Lib.hid ht3
  clear hT3 ht3
  go_wp2
  go_ret
  exact ⟨rfl, HT3.out.into HLT.out B2.out.size HH3.out.size, (Tch.of B2.out).more HH3.out⟩
end
end Go.Proofs.YtknfmjjlfhfocaaDoor
