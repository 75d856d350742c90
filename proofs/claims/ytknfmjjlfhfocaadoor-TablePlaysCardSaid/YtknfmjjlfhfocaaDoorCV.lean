/-
  The calls of Column[paddock/api.Value], at a column in memory.
-/
import Derived.Test.YtknfmjjlfhfocaaDoorCo
import Derived.Test.YtknfmjjlfhfocaaDoorVl
import Derived.Lib.SliceRun
import Derived.Shelf.SlSortCmp.QuietGrown
import Derived.Deep.LoopGhost
namespace Go.Proofs.YtknfmjjlfhfocaaDoor
set_option linter.unusedSimpArgs false
set_option linter.unusedVariables false
open Go.RowKit Go.Sort Go.Lib Go.Shelf

section
variable {pa : Nat} {L : List Vl} {m : Int} {M : Nat → Prop} {w : World}
/-- A column of this type. -/
abbrev ColV (w : World) (M : Nat → Prop) (pa : Nat) (L : List Vl) (m : Int) : Prop := ColAt encV 41 3 109 w M pa L m

theorem newV_call (m : Int) (w : World) : Calls Tryd.prog 34 #[.int .i64 m] w (ColNew encV 41 3 109 w [] (max m 0)) := by
  have X := Lib.hid (col_made (enc := encV) (et := 41) (k := 3) (w := w) (L := []) (v := .slice none 0 0) (Below.refl _ w) (World.ownsRow_nil _ _ _ _) 109 (max m 0))
  go_enter Tryd.func34, Tryd.ntmps34
  go_wp2
  go_ret
  exact ⟨_, rfl, X.out.at, (by repeat (first | with_reducible exact Below.refl _ _ | with_reducible assumption | with_reducible apply Ba | with_reducible apply Bd | with_reducible apply Bn | with_reducible apply Bg | (with_reducible refine Bs ?_ (by first | (simp; done) | (simp; omega)) _) | (with_reducible refine Bt ?_ (by assumption)) | (with_reducible refine Bt ?_ (Gr.below (by assumption)))))⟩

theorem isPlaceV_call (hp : ColV w M pa L m) (i : Int) : Calls Tryd.prog 65 #[.pointer (some ⟨pa, 0, none⟩), .int .i64 i] w fun e w' => e = .returned (.bool (decide (0 ≤ i ∧ i < L.length))) ∧ w = w' := by
  obtain ⟨p, cap, hi, h1, h2, _⟩ := hp.open
  have hl := hi.lt
  obtain ⟨c0, c1, f0, f1⟩ := hi.cells
  clear hi hp
  by_cases a : 0 ≤ i
  · by_cases b : i < L.length
    · have e : decide (0 ≤ i ∧ i < L.length) = true := decide_eq_true ⟨a, b⟩
      rw [e]
      clear e
      go_enter Tryd.func65, Tryd.ntmps65
      go_wp2
      go_ret
      exact ⟨rfl, rfl⟩
    · have e : decide (0 ≤ i ∧ i < L.length) = false := decide_eq_false (fun h => b h.2)
      rw [e]
      clear e
      go_enter Tryd.func65, Tryd.ntmps65
      go_wp2
      go_ret
      exact ⟨rfl, rfl⟩
  · have e : decide (0 ≤ i ∧ i < L.length) = false := decide_eq_false (fun h => a h.1)
    rw [e]
    clear e
    go_enter Tryd.func65, Tryd.ntmps65
    go_wp2
    go_ret
    exact ⟨rfl, rfl⟩

theorem lenV_call (hp : ColV w M pa L m) : Calls Tryd.prog 64 #[.pointer (some ⟨pa, 0, none⟩)] w fun e w' => e = .returned (.int .i64 L.length) ∧ w = w' := by
  obtain ⟨p, cap, hi, h1, h2, _⟩ := hp.open
  have hl := hi.lt
  obtain ⟨c0, c1, f0, f1⟩ := hi.cells
  clear hi hp
  go_enter Tryd.func64, Tryd.ntmps64
  go_wp2
  go_ret
  exact ⟨rfl, rfl⟩

set_option maxHeartbeats 1000000 in
set_option maxRecDepth 100000 in
theorem getV_yes (hp : ColV w M pa L m) (n : Nat) (hn : n < L.length) : Calls Tryd.prog 45 #[.pointer (some ⟨pa, 0, none⟩), .int .i64 n] w fun e w' => e = .returned (.tuple #[aggV L[n]!, .nilIface]) ∧ RowKit.Below w.heap.size w w' := by
  have hP : Hid (∀ W, RowKit.Below w.heap.size w W → Calls Tryd.prog 65 #[.pointer (some ⟨pa, 0, none⟩), .int .i64 n] W fun e w' => e = .returned (.bool true) ∧ W = w') := fun W h => by
    have := isPlaceV_call (hp.below h) n
    rwa [decide_eq_true (show 0 ≤ (n : Int) ∧ (n : Int) < L.length from ⟨by omega, by omega⟩)] at this
  obtain ⟨p, cap, hi, h1, h2, h3⟩ := hp.open
  obtain ⟨g, rfl, hg⟩ := h3 (by omega)
  have hl := hi.lt
  obtain ⟨c0, c1, f0, f1⟩ := hi.cells
  obtain ⟨⟨d1, d2, d3⟩, _⟩ := rowV hi.2.2.1 hn
  clear hi hp h3
  unfold aggV
  generalize L[n]! = x at *
  obtain ⟨x1, x2, x3⟩ := x
  dsimp only at *
  go_enter Tryd.func45, Tryd.ntmps45
  go_wp2_with fail
  refine (hP.out _ (Ba (Below.refl _ w) _)).mono ?_
  rintro e w1 ⟨rfl, rfl⟩
  go_wp2
  exact bodyPost_ret (v := .tuple #[.agg #[.int .i64 x1, .int .i64 x2, .int .i64 x3], .nilIface]) (by simp [results, Tryd.results45, go_sem, *]) rfl ⟨rfl, (by repeat (first | with_reducible exact Below.refl _ _ | with_reducible assumption | with_reducible apply Ba | with_reducible apply Bd | with_reducible apply Bn | with_reducible apply Bg | (with_reducible refine Bs ?_ (by first | (simp; done) | (simp; omega)) _) | (with_reducible refine Bt ?_ (by assumption)) | (with_reducible refine Bt ?_ (Gr.below (by assumption)))))⟩
set_option maxHeartbeats 1000000 in
set_option maxRecDepth 100000 in
theorem getV_no (hp : ColV w M pa L m) (i : Int) (hn : ¬ (0 ≤ i ∧ i < L.length)) (t : TypeId) (v : Value) (hE : w.cell? ⟨1, 0, none⟩ = some (.iface t v)) : Calls Tryd.prog 45 #[.pointer (some ⟨pa, 0, none⟩), .int .i64 i] w fun e w' => e = .returned (.tuple #[.agg #[.int .i64 0, .int .i64 0, .int .i64 0], .iface t v]) ∧ RowKit.Below w.heap.size w w' := by
  have hP : Hid (∀ W, RowKit.Below w.heap.size w W → Calls Tryd.prog 65 #[.pointer (some ⟨pa, 0, none⟩), .int .i64 i] W fun e w' => e = .returned (.bool false) ∧ W = w') := fun W h => by
    have := isPlaceV_call (hp.below h) i
    rwa [decide_eq_false hn] at this
  have hel := cell_lt hE
  clear hp hn
  go_enter Tryd.func45, Tryd.ntmps45
  go_wp2_with fail
  refine (hP.out _ (Ba (Below.refl _ w) _)).mono ?_
  rintro e w1 ⟨rfl, rfl⟩
  have hE2 : ((w.alloc (.cells #[.int .i64 0, .int .i64 0, .int .i64 0] 41)).alloc (.cells #[.int .i64 0, .int .i64 0, .int .i64 0] 41)).cell? ⟨1, 0, none⟩ = some (.iface t v) := Bc (W := w) (by repeat (first | with_reducible exact Below.refl _ _ | with_reducible assumption | with_reducible apply Ba | with_reducible apply Bd | with_reducible apply Bn | with_reducible apply Bg | (with_reducible refine Bs ?_ (by first | (simp; done) | (simp; omega)) _) | (with_reducible refine Bt ?_ (by assumption)) | (with_reducible refine Bt ?_ (Gr.below (by assumption))))) hel hE
  go_wp2_with fail
  go_region
  all_goals
    go_wp2
    exact bodyPost_ret (v := .tuple #[.agg #[.int .i64 0, .int .i64 0, .int .i64 0], .iface t v]) (by simp [results, Tryd.results45, go_sem, *]) rfl ⟨rfl, (by repeat (first | with_reducible exact Below.refl _ _ | with_reducible assumption | with_reducible apply Ba | with_reducible apply Bd | with_reducible apply Bn | with_reducible apply Bg | (with_reducible refine Bs ?_ (by first | (simp; done) | (simp; omega)) _) | (with_reducible refine Bt ?_ (by assumption)) | (with_reducible refine Bt ?_ (Gr.below (by assumption)))))⟩

set_option maxHeartbeats 1000000 in
set_option maxRecDepth 100000 in
theorem setV_yes (hp : ColV w M pa L m) (n : Nat) (hn : n < L.length) (x1 x2 x3 : Int) : Calls Tryd.prog 47 #[.pointer (some ⟨pa, 0, none⟩), .int .i64 n, .agg #[.int .i64 x1, .int .i64 x2, .int .i64 x3]] w fun e w' => e = .returned .nilIface ∧ ColV w' (New M w w') pa (L.set n (x1, x2, x3)) m ∧ Tch M w w' := by
  have hP : Hid (∀ W, RowKit.Below w.heap.size w W → Calls Tryd.prog 65 #[.pointer (some ⟨pa, 0, none⟩), .int .i64 n] W fun e w' => e = .returned (.bool true) ∧ W = w') := fun W h => by
    have := isPlaceV_call (hp.below h) n
    rwa [decide_eq_true (show 0 ≤ (n : Int) ∧ (n : Int) < L.length from ⟨by omega, by omega⟩)] at this
  obtain ⟨p, cap, hi, h1, h2, h3⟩ := hp.open
  obtain ⟨g, rfl, hg⟩ := h3 (by omega)
  have hl := hi.lt
  obtain ⟨W1, hW1⟩ : ∃ W1, W1 = w.alloc (.cells #[.int .i64 x1, .int .i64 x2, .int .i64 x3] 41) := ⟨_, rfl⟩
  have hb1 : RowKit.Below w.heap.size w W1 := by rw [hW1]; exact Ba (Below.refl _ w) _
  have P1 := hi.below hb1
  obtain ⟨c0, c1, f0, f1⟩ := P1.cells
  obtain ⟨⟨d1, d2, d3⟩, z1, z2, z3⟩ := rowV P1.2.2.1 hn
  have b1 : W1.heap[w.heap.size]? = some (.cells #[.int .i64 x1, .int .i64 x2, .int .i64 x3] 41 (0, 0)) := by rw [hW1]; exact heap_alloc_new w _
  obtain ⟨⟨e1, e2, e3⟩, _⟩ := three_cells b1
  have hl1 := Bl hb1 hl
  have hlg := Bl hb1 hg
  have HI := Lib.hid P1
  have HB := Lib.hid hb1
  clear hi hp h3 hb1 P1 b1
  generalize L[n]! = y at *
  go_enter Tryd.func47, Tryd.ntmps47
  go_wp2_with fail
  rw [← hW1]
  clear hW1
  refine (hP.out _ HB.out).mono ?_
  rintro e w1 ⟨rfl, rfl⟩
  go_wp2_with fail
  go_region
  all_goals
    obtain ⟨k1, t1⟩ := colV_put (by decide) HI.out n hn x1 x2 x3
    go_wp2
    go_ret
    exact ⟨rfl, (k1.below (Bd (Below.refl _ _))).at.mono (fun b h => .inl h), ((Tch.of HB.out).more t1).drew⟩
set_option maxHeartbeats 1000000 in
set_option maxRecDepth 100000 in
theorem setV_no (hp : ColV w M pa L m) (i : Int) (hn : ¬ (0 ≤ i ∧ i < L.length)) (x1 x2 x3 : Int) (t : TypeId) (v : Value) (hE : w.cell? ⟨1, 0, none⟩ = some (.iface t v)) : Calls Tryd.prog 47 #[.pointer (some ⟨pa, 0, none⟩), .int .i64 i, .agg #[.int .i64 x1, .int .i64 x2, .int .i64 x3]] w fun e w' => e = .returned (.iface t v) ∧ RowKit.Below w.heap.size w w' := by
  have hP : Hid (∀ W, RowKit.Below w.heap.size w W → Calls Tryd.prog 65 #[.pointer (some ⟨pa, 0, none⟩), .int .i64 i] W fun e w' => e = .returned (.bool false) ∧ W = w') := fun W h => by
    have := isPlaceV_call (hp.below h) i
    rwa [decide_eq_false hn] at this
  have hel := cell_lt hE
  clear hp hn
  go_enter Tryd.func47, Tryd.ntmps47
  go_wp2_with fail
  refine (hP.out _ (Ba (Below.refl _ w) _)).mono ?_
  rintro e w1 ⟨rfl, rfl⟩
  go_wp2
  go_ret
  exact ⟨rfl, (by repeat (first | with_reducible exact Below.refl _ _ | with_reducible assumption | with_reducible apply Ba | with_reducible apply Bd | with_reducible apply Bn | with_reducible apply Bg | (with_reducible refine Bs ?_ (by first | (simp; done) | (simp; omega)) _) | (with_reducible refine Bt ?_ (by assumption)) | (with_reducible refine Bt ?_ (Gr.below (by assumption)))))⟩

set_option maxHeartbeats 1000000 in
set_option maxRecDepth 100000 in
theorem pushV_no (hp : ColV w M pa L m) (l : List Vl) (vl : Value) (hv : Sl encV w vl l) (hm : 0 ≤ m) (hm2 : m ≤ 9223372036854775807) (hn : m - L.length < l.length) (t : TypeId) (v : Value) (hE : w.cell? ⟨2, 0, none⟩ = some (.iface t v)) :
    Calls Tryd.prog 40 #[.pointer (some ⟨pa, 0, none⟩), vl] w fun e w' => e = .returned (.iface t v) ∧ RowKit.Below w.heap.size w w' := by
  obtain ⟨p, cap, hi, h1, h2, h3⟩ := hp.open
  have hl := hi.lt
  obtain ⟨c0, c1, f0, f1⟩ := hi.cells
  obtain ⟨p2, cap2, rfl, q1, q2, _⟩ := hv
  unfold maxLen at q2
  clear hi hp h3
  go_enter Tryd.func40, Tryd.ntmps40
  go_wp2_with fail
  go_quiet (fail)
  go_wp2
  go_ret
  exact ⟨rfl, (by repeat (first | with_reducible exact Below.refl _ _ | with_reducible assumption | with_reducible apply Ba | with_reducible apply Bd | with_reducible apply Bn | with_reducible apply Bg | (with_reducible refine Bs ?_ (by first | (simp; done) | (simp; omega)) _) | (with_reducible refine Bt ?_ (by assumption)) | (with_reducible refine Bt ?_ (Gr.below (by assumption)))))⟩
set_option maxHeartbeats 2000000 in
set_option maxRecDepth 100000 in
theorem pushV_yes (hp : ColV w M pa L m) (l : List Vl) (vl : Value) (hv : Sl encV w vl l) (hm : 0 ≤ m) (hm2 : m ≤ 9223372036854775807) (hn : ¬ m - L.length < l.length) (hlen : L.length + l.length ≤ 1000000) :
    Calls Tryd.prog 40 #[.pointer (some ⟨pa, 0, none⟩), vl] w fun e w' => e = .returned .nilIface ∧ ColV w' (New M w w') pa (L ++ l) m ∧ Tch M w w' := by
  obtain ⟨p, cap, hi, h1, h2, h3⟩ := hp.open
  have hl := hi.lt
  obtain ⟨c0, c1, f0, f1⟩ := hi.cells
  have HV := Lib.hid hv
  obtain ⟨p2, cap2, rfl, q1, q2, _⟩ := hv
  unfold maxLen at q2
  have HI := Lib.hid hi
  clear hi hp h3
  go_enter Tryd.func40, Tryd.ntmps40
  go_wp2_with fail
  go_quiet (fail)
  have P1 := Lib.hid (HI.out.below (Bn (Below.refl _ w)) : ColIs encV 41 3 109 (w.drewN nq) M pa _ L m)
  have V1 := Lib.hid (HV.out.below (Bn (Below.refl _ w)) : Sl encV (w.drewN nq) _ l)
  go_wp2_with (at_builtin; refine wpl_app2 apV rfl _ _ rfl 0 (by rfl) (by rfl) P1.out.2.2.1 rfl V1.out hlen (Nat.zero_le _) ?_; intro v4 w4 hown4 hgrow4 hat4 _; obtain ⟨p4, c4, rfl, _, _, _⟩ := row_val hown4; have hrow4 := Lib.hid (row_grown P1.out.2.2.2 hown4 hgrow4 hat4); have G4 := Lib.hid (P1.out.grown (by decide) hgrow4); obtain ⟨z0, _, z1, _⟩ := two_cells G4.out; clear hown4 hgrow4 hat4)
  obtain ⟨P5, t5⟩ := col_put (T := 109) (M := New M w w4) (by decide) G4.out (.inl P1.out.2.1) hrow4.out.1
  have hlenS : (L ++ l).length = L.length + l.length := by simp
  rw [hlenS] at P5 t5
  go_ret
  exact ⟨rfl, P5.at.mono (New.mono (by simp)), ((Tch.of (Bn (Below.refl _ w))).more hrow4.out.2).trans t5⟩

set_option maxHeartbeats 4000000 in
set_option maxRecDepth 100000 in
theorem takeV_yes (hp : ColV w M pa L m) (n : Nat) (hn : n < L.length) : Calls Tryd.prog 43 #[.pointer (some ⟨pa, 0, none⟩), .int .i64 n] w fun e w' => e = .returned (.tuple #[aggV L[n]!, .nilIface]) ∧ ColV w' (New M w w') pa (takeC L n) m ∧ Tch M w w' := by
  have hG := Lib.hid (fun W (h : RowKit.Below w.heap.size w W) => getV_yes (hp.below h) n hn)
  have hL := Lib.hid (fun W (h : RowKit.Below w.heap.size w W) => lenV_call (hp.below h))
  obtain ⟨p, cap, hi0, h1, h2, h3⟩ := hp.open
  obtain ⟨g, rfl, hg⟩ := h3 (by omega)
  obtain ⟨hi, hMM⟩ := hi0.tight
  have HM := Lib.hid hMM
  have hl := hi.lt
  have HI := Lib.hid hi
  obtain ⟨q, hq⟩ : ∃ q, L.length = q + 1 := ⟨L.length - 1, by omega⟩
  have hll : (L.length : Int) - 1 = (q : Int) := by omega
  have hqL : q < L.length := by omega
  have HQ := Lib.hid hq
  have H1Q := Lib.hid (show L.length - q = 1 by omega)
  have hqc : q < cap := by omega
  have hqc2 : ¬ cap = q := by omega
  have hqi : (q : Int) < (L.length : Int) := by omega
  clear hi hi0 hp h3 hq hMM
  unfold aggV at *
  obtain ⟨x, hx⟩ : ∃ x, x = L[n]! := ⟨_, rfl⟩
  rw [← hx] at hG ⊢
  clear hx
  obtain ⟨x1, x2, x3⟩ := x
  dsimp only at *
  go_enter Tryd.func43, Tryd.ntmps43
  go_wp2_with fail
  refine (hG.out _ (Ba (Below.refl _ w) _)).mono ?_
  rintro e w1 ⟨rfl, hb1⟩
  have B1 := Lib.hid (Bt (Ba (Below.refl _ w) (.cells #[.int .i64 0, .int .i64 0, .int .i64 0] 41)) hb1)
  have R1 := Lib.hid (show w1.heap[w.heap.size]? = some (.cells #[.int .i64 0, .int .i64 0, .int .i64 0] 41 (0, 0)) from blk_below (heap_alloc_new w _) hb1)
  clear hb1
  go_wp2_with fail
  refine (hL.out _ (Ba B1.out _)).mono ?_
  rintro e w2 ⟨rfl, hw2⟩
  have B2 := Lib.hid (show RowKit.Below w.heap.size w w2 by rw [← hw2]; exact Ba B1.out _)
  have R2 := Lib.hid (show w2.heap[w.heap.size]? = some (.cells #[.int .i64 0, .int .i64 0, .int .i64 0] 41 (0, 0)) by rw [← hw2]; exact blk_below R1.out (Ba (Below.refl _ _) _))
  have X2 := Lib.hid (show w2.heap[w1.heap.size]? = some (.cells #[.int .i64 x1, .int .i64 x2, .int .i64 x3] 41 (0, 0)) by rw [← hw2]; exact heap_alloc_new w1 _)
  have hrx : w.heap.size < w1.heap.size := (Array.getElem?_eq_some_iff.1 R1.out).1
  clear hw2 B1 R1
  generalize w1.heap.size = xb at *
  go_wp2_with fail
  clear hll
  have P2 := Lib.hid (HI.out.below B2.out)
  obtain ⟨k0, _, kf, _⟩ := P2.out.cells
  obtain ⟨⟨d1, d2, d3⟩, z1, z2, z3⟩ := rowV P2.out.2.2.1 hn
  obtain ⟨⟨f1, f2, f3⟩, _⟩ := rowV P2.out.2.2.1 hqL
  generalize L[n]! = y at d1 d2 d3
  obtain ⟨c, hc⟩ : ∃ c, L[q]! = c := ⟨_, rfl⟩
  rw [hc] at f1 f2 f3
  have HC := Lib.hid hc
  clear hc
  obtain ⟨c1, c2, c3⟩ := c
  dsimp only at f1 f2 f3
  have hl2 := Bl B2.out hl
  have hlg2 := Bl B2.out hg
  obtain ⟨P3, t3⟩ := colV_put (by decide) P2.out n hn c1 c2 c3
  have P3' := Lib.hid P3
  have T3' := Lib.hid t3
  have hst : (((w2.setCell ⟨g, n * 3, none⟩ (.int .i64 c1)).setCell ⟨g, n * 3 + 1, none⟩ (.int .i64 c2)).setCell ⟨g, n * 3 + 2, none⟩ (.int .i64 c3)).drew.cell? ⟨pa, 0, none⟩ = some (.slice (some ⟨g, 0, none⟩) L.length cap) ∧ (((w2.setCell ⟨g, n * 3, none⟩ (.int .i64 c1)).setCell ⟨g, n * 3 + 1, none⟩ (.int .i64 c2)).setCell ⟨g, n * 3 + 2, none⟩ (.int .i64 c3)).drew.cell? ⟨g, q * 3, none⟩ = some (.int .i64 c1) ∧ (((w2.setCell ⟨g, n * 3, none⟩ (.int .i64 c1)).setCell ⟨g, n * 3 + 1, none⟩ (.int .i64 c2)).setCell ⟨g, n * 3 + 2, none⟩ (.int .i64 c3)).drew.cell? ⟨g, q * 3 + 1, none⟩ = some (.int .i64 c2) ∧ (((w2.setCell ⟨g, n * 3, none⟩ (.int .i64 c1)).setCell ⟨g, n * 3 + 1, none⟩ (.int .i64 c2)).setCell ⟨g, n * 3 + 2, none⟩ (.int .i64 c3)).drew.cell? ⟨g, q * 3 + 2, none⟩ = some (.int .i64 c3) := by
    obtain ⟨⟨u1, u2, u3⟩, _⟩ := rowV (show World.ownsRow _ 0 41 3 (.slice (some ⟨g, 0, none⟩) (L.set n (c1, c2, c3)).length cap) (L.set n (c1, c2, c3)).length (flat encV (L.set n (c1, c2, c3))) from (by have := P3.2.2.1; rwa [show (Value.slice (some ⟨g, 0, none⟩) L.length cap) = .slice (some ⟨g, 0, none⟩) (L.set n (c1, c2, c3)).length cap by rw [List.length_set]] at this)) (show q < (L.set n (c1, c2, c3)).length by simpa using hqL)
    have e : (L.set n (c1, c2, c3))[q]! = (c1, c2, c3) := by
      rw [getElem!_pos _ _ (by simpa using hqL), List.getElem_set]
      split
      · rfl
      · rw [← HC.out, getElem!_pos L _ hqL]
    rw [e] at u1 u2 u3
    exact ⟨P3.cells.1, u1, u2, u3⟩
  clear P3 t3
  go_region_held3 (fun w' => w'.cell? ⟨pa, 0, none⟩ = some (.slice (some ⟨g, 0, none⟩) L.length cap) ∧ w'.cell? ⟨g, q * 3, none⟩ = some (.int .i64 c1) ∧ w'.cell? ⟨g, q * 3 + 1, none⟩ = some (.int .i64 c2) ∧ w'.cell? ⟨g, q * 3 + 2, none⟩ = some (.int .i64 c3)) (first | exact ⟨k0, f1, f2, f3⟩ | exact hst) (fail)
  all_goals
    obtain ⟨W1, hW1⟩ : ∃ W1, W1 = (((w2.setCell ⟨g, n * 3, none⟩ (.int .i64 c1)).setCell ⟨g, n * 3 + 1, none⟩ (.int .i64 c2)).setCell ⟨g, n * 3 + 2, none⟩ (.int .i64 c3)).drew := ⟨_, rfl⟩
    have P4 : ColIs encV 41 3 109 W1 (fun b => b = pa ∨ (Value.slice (some ⟨g, 0, none⟩) L.length cap).ownBlock = some b) pa (.slice (some ⟨g, 0, none⟩) L.length cap) (L.set n (c1, c2, c3)) m := by rw [hW1]; exact P3'.out
    have t4 : Tch (fun b => b = pa ∨ (Value.slice (some ⟨g, 0, none⟩) L.length cap).ownBlock = some b) w2 W1 := by rw [hW1]; exact T3'.out.drew
    rw [← hW1]
    clear hW1 hst P3' T3' d1 d2 d3 f1 f2 f3 k0 kf z1 z2 z3
    have nR : ¬ (w.heap.size = pa ∨ (Value.slice (some ⟨g, 0, none⟩) L.length cap).ownBlock = some w.heap.size) := by
      simp only [Value.ownBlock, Option.some.injEq]; omega
    have nX : ¬ (xb = pa ∨ (Value.slice (some ⟨g, 0, none⟩) L.length cap).ownBlock = some xb) := by
      simp only [Value.ownBlock, Option.some.injEq]; omega
    have hW2 : ∃ W2, (∀ ty, (Builtin.clear_ #[39] ty #[.slice (some ⟨g, q * 3, none⟩) (L.length - q) (cap - q)]).run Tryd.prog W1 = .ok (.tuple #[]) W2) ∧ ColIs encV 41 3 109 W2 (fun b => b = pa ∨ (Value.slice (some ⟨g, 0, none⟩) L.length cap).ownBlock = some b) pa (.slice (some ⟨g, 0, none⟩) L.length cap) ((L.set n (c1, c2, c3)).set q (0, 0, 0)) m ∧ Tch (fun b => b = pa ∨ (Value.slice (some ⟨g, 0, none⟩) L.length cap).ownBlock = some b) W1 W2 := by
      obtain ⟨P5, t5⟩ := colV_put (by decide) P4 q (by simpa using hqL) 0 0 0
      refine ⟨_, fun ty => ?_, P5, t5⟩
      have hr := own_of_row lenV P4.2.2.1 rfl
      obtain ⟨p', cap', e, _, _, hh⟩ := hr
      obtain ⟨g', e2, _, _, hH⟩ := hh (by simp; omega)
      subst e2
      simp only [Value.slice.injEq, Option.some.injEq, Addr.mk.injEq] at e
      obtain ⟨⟨rfl, _⟩, _⟩ := e
      have := clear_run lenV (by decide) oneV Tryd.prog (t := 39) (e := 41) (zv := .agg #[.int .i64 0, .int .i64 0, .int .i64 0]) (0, 0, 0) Tryd.underlying39 (fun w => by kernel_rfl) rfl hH q (by simpa using hqL) (cap - q) ty
      have e1 : (L.set n (c1, c2, c3)).toArray.size = L.length := by simp
      rw [e1, H1Q.out, Nat.zero_add] at this
      rw [H1Q.out]
      exact this
    obtain ⟨W2, hcl, P5, t5⟩ := hW2
    have HP5 := Lib.hid P5
    have T5 := Lib.hid (t4.more t5)
    have X5 := T5.out.blk X2.out nX
    have R5 := T5.out.blk R2.out nR
    obtain ⟨⟨a1, a2, a3⟩, _⟩ := three_cells X5
    obtain ⟨⟨r1, r2, r3⟩, v1, v2, v3⟩ := three_cells R5
    obtain ⟨u0, _, uf, _⟩ := P4.cells
    obtain ⟨k0, _, kf, _⟩ := P5.cells
    have hl4 := P4.lt
    have hl5 := P5.lt
    have m1 : ¬ pa = xb := by omega
    have m2 : ¬ xb = pa := by omega
    have m3 : ¬ pa = w.heap.size := by omega
    have m4 : ¬ w.heap.size = pa := by omega
    have m5 : ¬ g = w.heap.size := by omega
    have lr5 : w.heap.size < W2.heap.size := (Array.getElem?_eq_some_iff.1 R5).1
    have lx5 : xb < W2.heap.size := (Array.getElem?_eq_some_iff.1 X5).1
    clear P4 P5 t4 t5 nR nX X5 R5
    go_wp2
    obtain ⟨P7, t7⟩ := HP5.out.front (by decide) lenV q (by simp; omega)
    rw [← HC.out, takeC_eq L n q (0, 0, 0) HQ.out] at P7
    have P8 := P7.far3 w.heap.size (fun e => e.elim m4 (fun e => by simp only [Value.ownBlock, Option.some.injEq] at e; exact m5 e)) (.int .i64 x1) (.int .i64 x2) (.int .i64 x3)
    have T8 := ((Tch.of B2.out).more (T5.out.more t7)).fresh3 (Nat.le_refl _) (.int .i64 x1) (.int .i64 x2) (.int .i64 x3)
    exact bodyPost_ret (v := .tuple #[.agg #[.int .i64 x1, .int .i64 x2, .int .i64 x3], .nilIface]) (by simp [results, Tryd.results43, go_sem, *]) rfl ⟨rfl, P8.at.mono (fun b h => .inl (HM.out b h)), T8.mono HM.out⟩

theorem allV_call (hp : ColV w M pa L m) (hlen : L.length ≤ 100000) : Calls Tryd.prog 68 #[.pointer (some ⟨pa, 0, none⟩)] w fun e w' => ∃ v, e = .returned v ∧ w'.ownsRow w.heap.size 41 3 v L.length (flat encV L) ∧ RowKit.Below w.heap.size w w' := by
  obtain ⟨p, cap, hi, h1, h2, _⟩ := hp.open
  have hl := hi.lt
  obtain ⟨c0, c1, f0, f1⟩ := hi.cells
  have hC := Lib.hid (cloneV_call L _ w (hi.2.2.sl lenV) hlen)
  clear hi hp
  go_enter Tryd.func68, Tryd.ntmps68
  go_wp2_with fail
  refine hC.out.mono ?_
  rintro e w1 ⟨v1, rfl, _, ho1, hb1⟩
  obtain ⟨p1, c1', rfl, _, _, _⟩ := row_val ho1
  go_wp2
  go_ret
  exact ⟨_, rfl, ho1, hb1⟩

set_option maxHeartbeats 1000000 in
set_option maxRecDepth 100000 in
theorem ccloneV_call (hp : ColV w M pa L m) (hlen : L.length ≤ 100000) : Calls Tryd.prog 48 #[.pointer (some ⟨pa, 0, none⟩)] w (ColNew encV 41 3 109 w L m) := by
  have HA := Lib.hid (fun W (h : RowKit.Below w.heap.size w W) => (allV_call (hp.below h) hlen).mono (fun e w' (q : ∃ v', e = .returned v' ∧ _ ∧ RowKit.Below W.heap.size W w') => (show ∃ v', e = .returned v' ∧ w'.ownsRow w.heap.size 41 3 v' L.length (flat encV L) ∧ RowKit.Below W.heap.size W w' from q.imp fun v' ⟨he, ho, hb⟩ => ⟨he, row_mono ho h.size, hb⟩)))
  obtain ⟨p, cap, hi, h1, h2, _⟩ := hp.open
  have hl := hi.lt
  obtain ⟨c0, c1, f0, f1⟩ := hi.cells
  clear hi hp
  go_enter Tryd.func48, Tryd.ntmps48
  go_wp2_with fail
  go_region_held3 (fun w' => RowKit.Below w.heap.size w w' ∧ ∀ b_1 o, b_1 < w.heap.size → w'.cell? ⟨b_1, o, none⟩ = w.cell? ⟨b_1, o, none⟩) (first | exact keep0 _ | exact keepB (by assumption) hb1 | exact keepA (by assumption) _ | assumption) ((go_at_call 68; refine (HA.out _ (Bd (Below.refl _ w))).mono ?_; rintro e w1 ⟨v1, rfl, ho1, hb1⟩; obtain ⟨p1, c1', rfl, _, _, _⟩ := row_val ho1; have X1 := Lib.hid (col_made (Bt (Bd (Below.refl _ w)) hb1) ho1 109 m); clear ho1))
  all_goals
    go_wp2
    go_ret
    exact ⟨_, rfl, X1.out.at, Ba (Bt (Bd (Below.refl _ w)) hb1) _⟩
end
end Go.Proofs.YtknfmjjlfhfocaaDoor
