import Derived.Test.YtaehendpdfpibaaGreatDoorZ4
import Derived.Test.YtaehendpdfpibaaGreatDoorZ3
import Derived.Lib.SliceRun
import Derived.Shelf.SlSortCmp.QuietGrown
import Derived.Deep.LoopGhost
import Derived.Maps.RangeWalk
import Derived.Maps.Views
import Derived.Maps.OwnOps
import Derived.Maps.OwnSet
import Derived.StringKeys
import Derived.DeepKeys5

/-
  The calls of Column[paddock/api.Value], at a column in memory.
-/
namespace Go.Proofs.YtaehendpdfpibaaGreatDoor
set_option linter.unusedSimpArgs false
set_option linter.unusedVariables false
open Go.RowKit Go.Sort Go.Lib Go.Shelf

section
variable {pa : Nat} {L : List Vl} {m : Int} {M : Nat → Prop} {w : World}
/-- A column of this type. -/
abbrev ColV (w : World) (M : Nat → Prop) (pa : Nat) (L : List Vl) (m : Int) : Prop := ColAt encV 34 3 198 w M pa L m

theorem newV_call (m : Int) (w : World) : Calls Tryz.prog 152 #[.int .i64 m] w (ColNew encV 34 3 198 w [] (max m 0)) := by
  have X := Lib.hid (col_made (enc := encV) (et := 34) (k := 3) (w := w) (L := []) (v := .slice none 0 0) (Below.refl _ w) (World.ownsRow_nil _ _ _ _) 198 (max m 0))
  go_enter Tryz.func152, Tryz.ntmps152
  go_wp2
  go_ret
  exact ⟨_, rfl, X.out.at, (by repeat (first | with_reducible exact Below.refl _ _ | with_reducible assumption | with_reducible apply Ba | with_reducible apply Bd | with_reducible apply Bn | with_reducible apply Bg | (with_reducible refine Bs ?_ (by first | (simp; done) | (simp; omega)) _) | (with_reducible refine Bt ?_ (by assumption)) | (with_reducible refine Bt ?_ (Gr.below (by assumption)))))⟩

theorem isPlaceV_call (hp : ColV w M pa L m) (i : Int) : Calls Tryz.prog 141 #[.pointer (some ⟨pa, 0, none⟩), .int .i64 i] w fun e w' => e = .returned (.bool (decide (0 ≤ i ∧ i < L.length))) ∧ w = w' := by
  obtain ⟨p, cap, hi, h1, h2, _⟩ := hp.open
  have hl := hi.lt
  obtain ⟨c0, c1, f0, f1⟩ := hi.cells
  clear hi hp
  by_cases a : 0 ≤ i
  · by_cases b : i < L.length
    · have e : decide (0 ≤ i ∧ i < L.length) = true := decide_eq_true ⟨a, b⟩
      rw [e]
      clear e
      go_enter Tryz.func141, Tryz.ntmps141
      go_wp2
      go_ret
      exact ⟨rfl, rfl⟩
    · have e : decide (0 ≤ i ∧ i < L.length) = false := decide_eq_false (fun h => b h.2)
      rw [e]
      clear e
      go_enter Tryz.func141, Tryz.ntmps141
      go_wp2
      go_ret
      exact ⟨rfl, rfl⟩
  · have e : decide (0 ≤ i ∧ i < L.length) = false := decide_eq_false (fun h => a h.1)
    rw [e]
    clear e
    go_enter Tryz.func141, Tryz.ntmps141
    go_wp2
    go_ret
    exact ⟨rfl, rfl⟩

theorem lenV_call (hp : ColV w M pa L m) : Calls Tryz.prog 161 #[.pointer (some ⟨pa, 0, none⟩)] w fun e w' => e = .returned (.int .i64 L.length) ∧ w = w' := by
  obtain ⟨p, cap, hi, h1, h2, _⟩ := hp.open
  have hl := hi.lt
  obtain ⟨c0, c1, f0, f1⟩ := hi.cells
  clear hi hp
  go_enter Tryz.func161, Tryz.ntmps161
  go_wp2
  go_ret
  exact ⟨rfl, rfl⟩

set_option maxHeartbeats 1000000 in
set_option maxRecDepth 100000 in
theorem getV_yes (hp : ColV w M pa L m) (n : Nat) (hn : n < L.length) : Calls Tryz.prog 99 #[.pointer (some ⟨pa, 0, none⟩), .int .i64 n] w fun e w' => e = .returned (.tuple #[aggV L[n]!, .nilIface]) ∧ RowKit.Below w.heap.size w w' := by
  have hP : Hid (∀ W, RowKit.Below w.heap.size w W → Calls Tryz.prog 141 #[.pointer (some ⟨pa, 0, none⟩), .int .i64 n] W fun e w' => e = .returned (.bool true) ∧ W = w') := fun W h => by
    have := isPlaceV_call (hp.below h) n
    rwa [decide_eq_true (show 0 ≤ (n : Int) ∧ (n : Int) < L.length from ⟨by omega, by omega⟩)] at this
  obtain ⟨p, cap, hi, h1, h2, h3⟩ := hp.open
  obtain ⟨g, rfl, hg⟩ := h3 (by omega)
  have hl := hi.lt
  obtain ⟨c0, c1, f0, f1⟩ := hi.cells
  obtain ⟨⟨d1, d2, d3⟩, _⟩ := rowV hi.2.2.1 hn
  clear hi hp h3
  unfold aggV
  generalize L[n]! = x at *
  obtain ⟨x1, x2, x3⟩ := x
  dsimp only at *
  go_enter Tryz.func99, Tryz.ntmps99
  go_wp2_with fail
  refine (hP.out _ (Ba (Below.refl _ w) _)).mono ?_
  rintro e w1 ⟨rfl, rfl⟩
  go_wp2
  exact bodyPost_ret (v := .tuple #[.agg #[.int .i64 x1, .int .i64 x2, .int .i64 x3], .nilIface]) (by simp [results, Tryz.results99, go_sem, *]) rfl ⟨rfl, (by repeat (first | with_reducible exact Below.refl _ _ | with_reducible assumption | with_reducible apply Ba | with_reducible apply Bd | with_reducible apply Bn | with_reducible apply Bg | (with_reducible refine Bs ?_ (by first | (simp; done) | (simp; omega)) _) | (with_reducible refine Bt ?_ (by assumption)) | (with_reducible refine Bt ?_ (Gr.below (by assumption)))))⟩
set_option maxHeartbeats 1000000 in
set_option maxRecDepth 100000 in
theorem getV_no (hp : ColV w M pa L m) (i : Int) (hn : ¬ (0 ≤ i ∧ i < L.length)) (t : TypeId) (v : Value) (hE : w.cell? ⟨0, 0, none⟩ = some (.iface t v)) : Calls Tryz.prog 99 #[.pointer (some ⟨pa, 0, none⟩), .int .i64 i] w fun e w' => e = .returned (.tuple #[.agg #[.int .i64 0, .int .i64 0, .int .i64 0], .iface t v]) ∧ RowKit.Below w.heap.size w w' := by
  have hP : Hid (∀ W, RowKit.Below w.heap.size w W → Calls Tryz.prog 141 #[.pointer (some ⟨pa, 0, none⟩), .int .i64 i] W fun e w' => e = .returned (.bool false) ∧ W = w') := fun W h => by
    have := isPlaceV_call (hp.below h) i
    rwa [decide_eq_false hn] at this
  have hel := cell_lt hE
  clear hp hn
  go_enter Tryz.func99, Tryz.ntmps99
  go_wp2_with fail
  refine (hP.out _ (Ba (Below.refl _ w) _)).mono ?_
  rintro e w1 ⟨rfl, rfl⟩
  have hE2 : ((w.alloc (.cells #[.int .i64 0, .int .i64 0, .int .i64 0] 34)).alloc (.cells #[.int .i64 0, .int .i64 0, .int .i64 0] 34)).cell? ⟨0, 0, none⟩ = some (.iface t v) := Bc (W := w) (by repeat (first | with_reducible exact Below.refl _ _ | with_reducible assumption | with_reducible apply Ba | with_reducible apply Bd | with_reducible apply Bn | with_reducible apply Bg | (with_reducible refine Bs ?_ (by first | (simp; done) | (simp; omega)) _) | (with_reducible refine Bt ?_ (by assumption)) | (with_reducible refine Bt ?_ (Gr.below (by assumption))))) hel hE
  go_wp2_with fail
  go_region
  all_goals
    go_wp2
    exact bodyPost_ret (v := .tuple #[.agg #[.int .i64 0, .int .i64 0, .int .i64 0], .iface t v]) (by simp [results, Tryz.results99, go_sem, *]) rfl ⟨rfl, (by repeat (first | with_reducible exact Below.refl _ _ | with_reducible assumption | with_reducible apply Ba | with_reducible apply Bd | with_reducible apply Bn | with_reducible apply Bg | (with_reducible refine Bs ?_ (by first | (simp; done) | (simp; omega)) _) | (with_reducible refine Bt ?_ (by assumption)) | (with_reducible refine Bt ?_ (Gr.below (by assumption)))))⟩

set_option maxHeartbeats 1000000 in
set_option maxRecDepth 100000 in
theorem setV_yes (hp : ColV w M pa L m) (n : Nat) (hn : n < L.length) (x1 x2 x3 : Int) : Calls Tryz.prog 140 #[.pointer (some ⟨pa, 0, none⟩), .int .i64 n, .agg #[.int .i64 x1, .int .i64 x2, .int .i64 x3]] w fun e w' => e = .returned .nilIface ∧ ColV w' (New M w w') pa (L.set n (x1, x2, x3)) m ∧ Tch M w w' := by
  have hP : Hid (∀ W, RowKit.Below w.heap.size w W → Calls Tryz.prog 141 #[.pointer (some ⟨pa, 0, none⟩), .int .i64 n] W fun e w' => e = .returned (.bool true) ∧ W = w') := fun W h => by
    have := isPlaceV_call (hp.below h) n
    rwa [decide_eq_true (show 0 ≤ (n : Int) ∧ (n : Int) < L.length from ⟨by omega, by omega⟩)] at this
  obtain ⟨p, cap, hi, h1, h2, h3⟩ := hp.open
  obtain ⟨g, rfl, hg⟩ := h3 (by omega)
  have hl := hi.lt
  obtain ⟨W1, hW1⟩ : ∃ W1, W1 = w.alloc (.cells #[.int .i64 x1, .int .i64 x2, .int .i64 x3] 34) := ⟨_, rfl⟩
  have hb1 : RowKit.Below w.heap.size w W1 := by rw [hW1]; exact Ba (Below.refl _ w) _
  have P1 := hi.below hb1
  obtain ⟨c0, c1, f0, f1⟩ := P1.cells
  obtain ⟨⟨d1, d2, d3⟩, z1, z2, z3⟩ := rowV P1.2.2.1 hn
  have b1 : W1.heap[w.heap.size]? = some (.cells #[.int .i64 x1, .int .i64 x2, .int .i64 x3] 34 (0, 0)) := by rw [hW1]; exact heap_alloc_new w _
  obtain ⟨⟨e1, e2, e3⟩, _⟩ := three_cells b1
  have hl1 := Bl hb1 hl
  have hlg := Bl hb1 hg
  have HI := Lib.hid P1
  have HB := Lib.hid hb1
  clear hi hp h3 hb1 P1 b1
  generalize L[n]! = y at *
  go_enter Tryz.func140, Tryz.ntmps140
  go_wp2_with fail
  rw [← hW1]
  clear hW1
  refine (hP.out _ HB.out).mono ?_
  rintro e w1 ⟨rfl, rfl⟩
  go_wp2_with fail
  go_region
  all_goals
    obtain ⟨k1, t1⟩ := colV_put (by decide) HI.out n hn x1 x2 x3
    go_wp2
    go_ret
    exact ⟨rfl, (k1.below (Bd (Below.refl _ _))).at.mono (fun b h => .inl h), ((Tch.of HB.out).more t1).drew⟩
set_option maxHeartbeats 1000000 in
set_option maxRecDepth 100000 in
theorem setV_no (hp : ColV w M pa L m) (i : Int) (hn : ¬ (0 ≤ i ∧ i < L.length)) (x1 x2 x3 : Int) (t : TypeId) (v : Value) (hE : w.cell? ⟨0, 0, none⟩ = some (.iface t v)) : Calls Tryz.prog 140 #[.pointer (some ⟨pa, 0, none⟩), .int .i64 i, .agg #[.int .i64 x1, .int .i64 x2, .int .i64 x3]] w fun e w' => e = .returned (.iface t v) ∧ RowKit.Below w.heap.size w w' := by
  have hP : Hid (∀ W, RowKit.Below w.heap.size w W → Calls Tryz.prog 141 #[.pointer (some ⟨pa, 0, none⟩), .int .i64 i] W fun e w' => e = .returned (.bool false) ∧ W = w') := fun W h => by
    have := isPlaceV_call (hp.below h) i
    rwa [decide_eq_false hn] at this
  have hel := cell_lt hE
  clear hp hn
  go_enter Tryz.func140, Tryz.ntmps140
  go_wp2_with fail
  refine (hP.out _ (Ba (Below.refl _ w) _)).mono ?_
  rintro e w1 ⟨rfl, rfl⟩
  go_wp2
  go_ret
  exact ⟨rfl, (by repeat (first | with_reducible exact Below.refl _ _ | with_reducible assumption | with_reducible apply Ba | with_reducible apply Bd | with_reducible apply Bn | with_reducible apply Bg | (with_reducible refine Bs ?_ (by first | (simp; done) | (simp; omega)) _) | (with_reducible refine Bt ?_ (by assumption)) | (with_reducible refine Bt ?_ (Gr.below (by assumption)))))⟩

set_option maxHeartbeats 1000000 in
set_option maxRecDepth 100000 in
theorem pushV_no (hp : ColV w M pa L m) (l : List Vl) (vl : Value) (hv : Sl encV w vl l) (hm : 0 ≤ m) (hm2 : m ≤ 9223372036854775807) (hn : m - L.length < l.length) (t : TypeId) (v : Value) (hE : w.cell? ⟨1, 0, none⟩ = some (.iface t v)) :
    Calls Tryz.prog 155 #[.pointer (some ⟨pa, 0, none⟩), vl] w fun e w' => e = .returned (.iface t v) ∧ RowKit.Below w.heap.size w w' := by
  obtain ⟨p, cap, hi, h1, h2, h3⟩ := hp.open
  have hl := hi.lt
  obtain ⟨c0, c1, f0, f1⟩ := hi.cells
  obtain ⟨p2, cap2, rfl, q1, q2, _⟩ := hv
  unfold maxLen at q2
  clear hi hp h3
  go_enter Tryz.func155, Tryz.ntmps155
  go_wp2_with fail
  go_quiet (fail)
  go_wp2
  go_ret
  exact ⟨rfl, (by repeat (first | with_reducible exact Below.refl _ _ | with_reducible assumption | with_reducible apply Ba | with_reducible apply Bd | with_reducible apply Bn | with_reducible apply Bg | (with_reducible refine Bs ?_ (by first | (simp; done) | (simp; omega)) _) | (with_reducible refine Bt ?_ (by assumption)) | (with_reducible refine Bt ?_ (Gr.below (by assumption)))))⟩
set_option maxHeartbeats 2000000 in
set_option maxRecDepth 100000 in
theorem pushV_yes (hp : ColV w M pa L m) (l : List Vl) (vl : Value) (hv : Sl encV w vl l) (hm : 0 ≤ m) (hm2 : m ≤ 9223372036854775807) (hn : ¬ m - L.length < l.length) (hlen : L.length + l.length ≤ 1000000) :
    Calls Tryz.prog 155 #[.pointer (some ⟨pa, 0, none⟩), vl] w fun e w' => e = .returned .nilIface ∧ ColV w' (New M w w') pa (L ++ l) m ∧ Tch M w w' := by
  obtain ⟨p, cap, hi, h1, h2, h3⟩ := hp.open
  have hl := hi.lt
  obtain ⟨c0, c1, f0, f1⟩ := hi.cells
  have HV := Lib.hid hv
  obtain ⟨p2, cap2, rfl, q1, q2, _⟩ := hv
  unfold maxLen at q2
  have HI := Lib.hid hi
  clear hi hp h3
  go_enter Tryz.func155, Tryz.ntmps155
  go_wp2_with fail
  go_quiet (fail)
  have P1 := Lib.hid (HI.out.below (Bn (Below.refl _ w)) : ColIs encV 34 3 198 (w.drewN nq) M pa _ L m)
  have V1 := Lib.hid (HV.out.below (Bn (Below.refl _ w)) : Sl encV (w.drewN nq) _ l)
  go_wp2_with (at_builtin; refine wpl_app2 apV rfl _ _ rfl 0 (by rfl) (by rfl) P1.out.2.2.1 rfl V1.out hlen (Nat.zero_le _) ?_; intro v4 w4 hown4 hgrow4 hat4 _; obtain ⟨p4, c4, rfl, _, _, _⟩ := row_val hown4; have hrow4 := Lib.hid (row_grown P1.out.2.2.2 hown4 hgrow4 hat4); have G4 := Lib.hid (P1.out.grown (by decide) hgrow4); obtain ⟨z0, _, z1, _⟩ := two_cells G4.out; clear hown4 hgrow4 hat4)
  obtain ⟨P5, t5⟩ := col_put (T := 198) (M := New M w w4) (by decide) G4.out (.inl P1.out.2.1) hrow4.out.1
  have hlenS : (L ++ l).length = L.length + l.length := by simp
  rw [hlenS] at P5 t5
  go_ret
  exact ⟨rfl, P5.at.mono (New.mono (by simp)), ((Tch.of (Bn (Below.refl _ w))).more hrow4.out.2).trans t5⟩

set_option maxHeartbeats 4000000 in
set_option maxRecDepth 100000 in
theorem takeV_yes (hp : ColV w M pa L m) (n : Nat) (hn : n < L.length) : Calls Tryz.prog 131 #[.pointer (some ⟨pa, 0, none⟩), .int .i64 n] w fun e w' => e = .returned (.tuple #[aggV L[n]!, .nilIface]) ∧ ColV w' (New M w w') pa (takeC L n) m ∧ Tch M w w' := by
  have hG := Lib.hid (fun W (h : RowKit.Below w.heap.size w W) => getV_yes (hp.below h) n hn)
  have hL := Lib.hid (fun W (h : RowKit.Below w.heap.size w W) => lenV_call (hp.below h))
  obtain ⟨p, cap, hi0, h1, h2, h3⟩ := hp.open
  obtain ⟨g, rfl, hg⟩ := h3 (by omega)
  obtain ⟨hi, hMM⟩ := hi0.tight
  have HM := Lib.hid hMM
  have hl := hi.lt
  have HI := Lib.hid hi
  obtain ⟨q, hq⟩ : ∃ q, L.length = q + 1 := ⟨L.length - 1, by omega⟩
  have hll : (L.length : Int) - 1 = (q : Int) := by omega
  have hqL : q < L.length := by omega
  have HQ := Lib.hid hq
  have H1Q := Lib.hid (show L.length - q = 1 by omega)
  have hqc : q < cap := by omega
  have hqc2 : ¬ cap = q := by omega
  have hqi : (q : Int) < (L.length : Int) := by omega
  clear hi hi0 hp h3 hq hMM
  unfold aggV at *
  obtain ⟨x, hx⟩ : ∃ x, x = L[n]! := ⟨_, rfl⟩
  rw [← hx] at hG ⊢
  clear hx
  obtain ⟨x1, x2, x3⟩ := x
  dsimp only at *
  go_enter Tryz.func131, Tryz.ntmps131
  go_wp2_with fail
  refine (hG.out _ (Ba (Below.refl _ w) _)).mono ?_
  rintro e w1 ⟨rfl, hb1⟩
  have B1 := Lib.hid (Bt (Ba (Below.refl _ w) (.cells #[.int .i64 0, .int .i64 0, .int .i64 0] 34)) hb1)
  have R1 := Lib.hid (show w1.heap[w.heap.size]? = some (.cells #[.int .i64 0, .int .i64 0, .int .i64 0] 34 (0, 0)) from blk_below (heap_alloc_new w _) hb1)
  clear hb1
  go_wp2_with fail
  refine (hL.out _ (Ba B1.out _)).mono ?_
  rintro e w2 ⟨rfl, hw2⟩
  have B2 := Lib.hid (show RowKit.Below w.heap.size w w2 by rw [← hw2]; exact Ba B1.out _)
  have R2 := Lib.hid (show w2.heap[w.heap.size]? = some (.cells #[.int .i64 0, .int .i64 0, .int .i64 0] 34 (0, 0)) by rw [← hw2]; exact blk_below R1.out (Ba (Below.refl _ _) _))
  have X2 := Lib.hid (show w2.heap[w1.heap.size]? = some (.cells #[.int .i64 x1, .int .i64 x2, .int .i64 x3] 34 (0, 0)) by rw [← hw2]; exact heap_alloc_new w1 _)
  have hrx : w.heap.size < w1.heap.size := (Array.getElem?_eq_some_iff.1 R1.out).1
  clear hw2 B1 R1
  generalize w1.heap.size = xb at *
  go_wp2_with fail
  clear hll
  have P2 := Lib.hid (HI.out.below B2.out)
  obtain ⟨k0, _, kf, _⟩ := P2.out.cells
  obtain ⟨⟨d1, d2, d3⟩, z1, z2, z3⟩ := rowV P2.out.2.2.1 hn
  obtain ⟨⟨f1, f2, f3⟩, _⟩ := rowV P2.out.2.2.1 hqL
  generalize L[n]! = y at d1 d2 d3
  obtain ⟨c, hc⟩ : ∃ c, L[q]! = c := ⟨_, rfl⟩
  rw [hc] at f1 f2 f3
  have HC := Lib.hid hc
  clear hc
  obtain ⟨c1, c2, c3⟩ := c
  dsimp only at f1 f2 f3
  have hl2 := Bl B2.out hl
  have hlg2 := Bl B2.out hg
  obtain ⟨P3, t3⟩ := colV_put (by decide) P2.out n hn c1 c2 c3
  have P3' := Lib.hid P3
  have T3' := Lib.hid t3
  have hst : (((w2.setCell ⟨g, n * 3, none⟩ (.int .i64 c1)).setCell ⟨g, n * 3 + 1, none⟩ (.int .i64 c2)).setCell ⟨g, n * 3 + 2, none⟩ (.int .i64 c3)).drew.cell? ⟨pa, 0, none⟩ = some (.slice (some ⟨g, 0, none⟩) L.length cap) ∧ (((w2.setCell ⟨g, n * 3, none⟩ (.int .i64 c1)).setCell ⟨g, n * 3 + 1, none⟩ (.int .i64 c2)).setCell ⟨g, n * 3 + 2, none⟩ (.int .i64 c3)).drew.cell? ⟨g, q * 3, none⟩ = some (.int .i64 c1) ∧ (((w2.setCell ⟨g, n * 3, none⟩ (.int .i64 c1)).setCell ⟨g, n * 3 + 1, none⟩ (.int .i64 c2)).setCell ⟨g, n * 3 + 2, none⟩ (.int .i64 c3)).drew.cell? ⟨g, q * 3 + 1, none⟩ = some (.int .i64 c2) ∧ (((w2.setCell ⟨g, n * 3, none⟩ (.int .i64 c1)).setCell ⟨g, n * 3 + 1, none⟩ (.int .i64 c2)).setCell ⟨g, n * 3 + 2, none⟩ (.int .i64 c3)).drew.cell? ⟨g, q * 3 + 2, none⟩ = some (.int .i64 c3) := by
    obtain ⟨⟨u1, u2, u3⟩, _⟩ := rowV (show World.ownsRow _ 0 34 3 (.slice (some ⟨g, 0, none⟩) (L.set n (c1, c2, c3)).length cap) (L.set n (c1, c2, c3)).length (flat encV (L.set n (c1, c2, c3))) from (by have := P3.2.2.1; rwa [show (Value.slice (some ⟨g, 0, none⟩) L.length cap) = .slice (some ⟨g, 0, none⟩) (L.set n (c1, c2, c3)).length cap by rw [List.length_set]] at this)) (show q < (L.set n (c1, c2, c3)).length by simpa using hqL)
    have e : (L.set n (c1, c2, c3))[q]! = (c1, c2, c3) := by
      rw [getElem!_pos _ _ (by simpa using hqL), List.getElem_set]
      split
      · rfl
      · rw [← HC.out, getElem!_pos L _ hqL]
    rw [e] at u1 u2 u3
    exact ⟨P3.cells.1, u1, u2, u3⟩
  clear P3 t3
  go_region_held3 (fun w' => w'.cell? ⟨pa, 0, none⟩ = some (.slice (some ⟨g, 0, none⟩) L.length cap) ∧ w'.cell? ⟨g, q * 3, none⟩ = some (.int .i64 c1) ∧ w'.cell? ⟨g, q * 3 + 1, none⟩ = some (.int .i64 c2) ∧ w'.cell? ⟨g, q * 3 + 2, none⟩ = some (.int .i64 c3)) (first | exact ⟨k0, f1, f2, f3⟩ | exact hst) (fail)
  all_goals
    obtain ⟨W1, hW1⟩ : ∃ W1, W1 = (((w2.setCell ⟨g, n * 3, none⟩ (.int .i64 c1)).setCell ⟨g, n * 3 + 1, none⟩ (.int .i64 c2)).setCell ⟨g, n * 3 + 2, none⟩ (.int .i64 c3)).drew := ⟨_, rfl⟩
    have P4 : ColIs encV 34 3 198 W1 (fun b => b = pa ∨ (Value.slice (some ⟨g, 0, none⟩) L.length cap).ownBlock = some b) pa (.slice (some ⟨g, 0, none⟩) L.length cap) (L.set n (c1, c2, c3)) m := by rw [hW1]; exact P3'.out
    have t4 : Tch (fun b => b = pa ∨ (Value.slice (some ⟨g, 0, none⟩) L.length cap).ownBlock = some b) w2 W1 := by rw [hW1]; exact T3'.out.drew
    rw [← hW1]
    clear hW1 hst P3' T3' d1 d2 d3 f1 f2 f3 k0 kf z1 z2 z3
    have nR : ¬ (w.heap.size = pa ∨ (Value.slice (some ⟨g, 0, none⟩) L.length cap).ownBlock = some w.heap.size) := by
      simp only [Value.ownBlock, Option.some.injEq]; omega
    have nX : ¬ (xb = pa ∨ (Value.slice (some ⟨g, 0, none⟩) L.length cap).ownBlock = some xb) := by
      simp only [Value.ownBlock, Option.some.injEq]; omega
    have hW2 : ∃ W2, (∀ ty, (Builtin.clear_ #[32] ty #[.slice (some ⟨g, q * 3, none⟩) (L.length - q) (cap - q)]).run Tryz.prog W1 = .ok (.tuple #[]) W2) ∧ ColIs encV 34 3 198 W2 (fun b => b = pa ∨ (Value.slice (some ⟨g, 0, none⟩) L.length cap).ownBlock = some b) pa (.slice (some ⟨g, 0, none⟩) L.length cap) ((L.set n (c1, c2, c3)).set q (0, 0, 0)) m ∧ Tch (fun b => b = pa ∨ (Value.slice (some ⟨g, 0, none⟩) L.length cap).ownBlock = some b) W1 W2 := by
      obtain ⟨P5, t5⟩ := colV_put (by decide) P4 q (by simpa using hqL) 0 0 0
      refine ⟨_, fun ty => ?_, P5, t5⟩
      have hr := own_of_row lenV P4.2.2.1 rfl
      obtain ⟨p', cap', e, _, _, hh⟩ := hr
      obtain ⟨g', e2, _, _, hH⟩ := hh (by simp; omega)
      subst e2
      simp only [Value.slice.injEq, Option.some.injEq, Addr.mk.injEq] at e
      obtain ⟨⟨rfl, _⟩, _⟩ := e
      have := clear_run lenV (by decide) oneV Tryz.prog (t := 32) (e := 34) (zv := .agg #[.int .i64 0, .int .i64 0, .int .i64 0]) (0, 0, 0) Tryz.underlying32 (fun w => by kernel_rfl) rfl hH q (by simpa using hqL) (cap - q) ty
      have e1 : (L.set n (c1, c2, c3)).toArray.size = L.length := by simp
      rw [e1, H1Q.out, Nat.zero_add] at this
      rw [H1Q.out]
      exact this
    obtain ⟨W2, hcl, P5, t5⟩ := hW2
    have HP5 := Lib.hid P5
    have T5 := Lib.hid (t4.more t5)
    have X5 := T5.out.blk X2.out nX
    have R5 := T5.out.blk R2.out nR
    obtain ⟨⟨a1, a2, a3⟩, _⟩ := three_cells X5
    obtain ⟨⟨r1, r2, r3⟩, v1, v2, v3⟩ := three_cells R5
    obtain ⟨u0, _, uf, _⟩ := P4.cells
    obtain ⟨k0, _, kf, _⟩ := P5.cells
    have hl4 := P4.lt
    have hl5 := P5.lt
    have m1 : ¬ pa = xb := by omega
    have m2 : ¬ xb = pa := by omega
    have m3 : ¬ pa = w.heap.size := by omega
    have m4 : ¬ w.heap.size = pa := by omega
    have m5 : ¬ g = w.heap.size := by omega
    have lr5 : w.heap.size < W2.heap.size := (Array.getElem?_eq_some_iff.1 R5).1
    have lx5 : xb < W2.heap.size := (Array.getElem?_eq_some_iff.1 X5).1
    clear P4 P5 t4 t5 nR nX X5 R5
    go_wp2
    obtain ⟨P7, t7⟩ := HP5.out.front (by decide) lenV q (by simp; omega)
    rw [← HC.out, takeC_eq L n q (0, 0, 0) HQ.out] at P7
    have P8 := P7.far3 w.heap.size (fun e => e.elim m4 (fun e => by simp only [Value.ownBlock, Option.some.injEq] at e; exact m5 e)) (.int .i64 x1) (.int .i64 x2) (.int .i64 x3)
    have T8 := ((Tch.of B2.out).more (T5.out.more t7)).fresh3 (Nat.le_refl _) (.int .i64 x1) (.int .i64 x2) (.int .i64 x3)
    exact bodyPost_ret (v := .tuple #[.agg #[.int .i64 x1, .int .i64 x2, .int .i64 x3], .nilIface]) (by simp [results, Tryz.results131, go_sem, *]) rfl ⟨rfl, P8.at.mono (fun b h => .inl (HM.out b h)), T8.mono HM.out⟩

theorem allV_call (hp : ColV w M pa L m) (hlen : L.length ≤ 100000) : Calls Tryz.prog 128 #[.pointer (some ⟨pa, 0, none⟩)] w fun e w' => ∃ v, e = .returned v ∧ w'.ownsRow w.heap.size 34 3 v L.length (flat encV L) ∧ RowKit.Below w.heap.size w w' := by
  obtain ⟨p, cap, hi, h1, h2, _⟩ := hp.open
  have hl := hi.lt
  obtain ⟨c0, c1, f0, f1⟩ := hi.cells
  have hC := Lib.hid (cloneV_call L _ w (hi.2.2.sl lenV) hlen)
  clear hi hp
  go_enter Tryz.func128, Tryz.ntmps128
  go_wp2_with fail
  refine hC.out.mono ?_
  rintro e w1 ⟨v1, rfl, _, ho1, hb1⟩
  obtain ⟨p1, c1', rfl, _, _, _⟩ := row_val ho1
  go_wp2
  go_ret
  exact ⟨_, rfl, ho1, hb1⟩

set_option maxHeartbeats 1000000 in
set_option maxRecDepth 100000 in
theorem ccloneV_call (hp : ColV w M pa L m) (hlen : L.length ≤ 100000) : Calls Tryz.prog 81 #[.pointer (some ⟨pa, 0, none⟩)] w (ColNew encV 34 3 198 w L m) := by
  have HA := Lib.hid (fun W (h : RowKit.Below w.heap.size w W) => (allV_call (hp.below h) hlen).mono (fun e w' (q : ∃ v', e = .returned v' ∧ _ ∧ RowKit.Below W.heap.size W w') => (show ∃ v', e = .returned v' ∧ w'.ownsRow w.heap.size 34 3 v' L.length (flat encV L) ∧ RowKit.Below W.heap.size W w' from q.imp fun v' ⟨he, ho, hb⟩ => ⟨he, row_mono ho h.size, hb⟩)))
  obtain ⟨p, cap, hi, h1, h2, _⟩ := hp.open
  have hl := hi.lt
  obtain ⟨c0, c1, f0, f1⟩ := hi.cells
  clear hi hp
  go_enter Tryz.func81, Tryz.ntmps81
  go_wp2_with fail
  go_region_held3 (fun w' => RowKit.Below w.heap.size w w' ∧ ∀ b_1 o, b_1 < w.heap.size → w'.cell? ⟨b_1, o, none⟩ = w.cell? ⟨b_1, o, none⟩) (first | exact keep0 _ | exact keepB (by assumption) hb1 | exact keepA (by assumption) _ | assumption) ((go_at_call 128; refine (HA.out _ (Bd (Below.refl _ w))).mono ?_; rintro e w1 ⟨v1, rfl, ho1, hb1⟩; obtain ⟨p1, c1', rfl, _, _, _⟩ := row_val ho1; have X1 := Lib.hid (col_made (Bt (Bd (Below.refl _ w)) hb1) ho1 198 m); clear ho1))
  all_goals
    go_wp2
    go_ret
    exact ⟨_, rfl, X1.out.at, Ba (Bt (Bd (Below.refl _ w)) hb1) _⟩
end
end Go.Proofs.YtaehendpdfpibaaGreatDoor

/-
  The calls of Column[paddock/api.Handle], at a column in memory.
-/
namespace Go.Proofs.YtaehendpdfpibaaGreatDoor
set_option linter.unusedSimpArgs false
set_option linter.unusedVariables false
open Go.RowKit Go.Sort Go.Lib Go.Shelf

section
variable {pa : Nat} {L : List Hd} {m : Int} {M : Nat → Prop} {w : World}
/-- A column of this type. -/
abbrev ColH (w : World) (M : Nat → Prop) (pa : Nat) (L : List Hd) (m : Int) : Prop := ColAt encH 31 2 200 w M pa L m

theorem newH_call (m : Int) (w : World) : Calls Tryz.prog 153 #[.int .i64 m] w (ColNew encH 31 2 200 w [] (max m 0)) := by
  have X := Lib.hid (col_made (enc := encH) (et := 31) (k := 2) (w := w) (L := []) (v := .slice none 0 0) (Below.refl _ w) (World.ownsRow_nil _ _ _ _) 200 (max m 0))
  go_enter Tryz.func153, Tryz.ntmps153
  go_wp2
  go_ret
  exact ⟨_, rfl, X.out.at, (by repeat (first | with_reducible exact Below.refl _ _ | with_reducible assumption | with_reducible apply Ba | with_reducible apply Bd | with_reducible apply Bn | with_reducible apply Bg | (with_reducible refine Bs ?_ (by first | (simp; done) | (simp; omega)) _) | (with_reducible refine Bt ?_ (by assumption)) | (with_reducible refine Bt ?_ (Gr.below (by assumption)))))⟩

theorem isPlaceH_call (hp : ColH w M pa L m) (i : Int) : Calls Tryz.prog 162 #[.pointer (some ⟨pa, 0, none⟩), .int .i64 i] w fun e w' => e = .returned (.bool (decide (0 ≤ i ∧ i < L.length))) ∧ w = w' := by
  obtain ⟨p, cap, hi, h1, h2, _⟩ := hp.open
  have hl := hi.lt
  obtain ⟨c0, c1, f0, f1⟩ := hi.cells
  clear hi hp
  by_cases a : 0 ≤ i
  · by_cases b : i < L.length
    · have e : decide (0 ≤ i ∧ i < L.length) = true := decide_eq_true ⟨a, b⟩
      rw [e]
      clear e
      go_enter Tryz.func162, Tryz.ntmps162
      go_wp2
      go_ret
      exact ⟨rfl, rfl⟩
    · have e : decide (0 ≤ i ∧ i < L.length) = false := decide_eq_false (fun h => b h.2)
      rw [e]
      clear e
      go_enter Tryz.func162, Tryz.ntmps162
      go_wp2
      go_ret
      exact ⟨rfl, rfl⟩
  · have e : decide (0 ≤ i ∧ i < L.length) = false := decide_eq_false (fun h => a h.1)
    rw [e]
    clear e
    go_enter Tryz.func162, Tryz.ntmps162
    go_wp2
    go_ret
    exact ⟨rfl, rfl⟩

theorem lenH_call (hp : ColH w M pa L m) : Calls Tryz.prog 133 #[.pointer (some ⟨pa, 0, none⟩)] w fun e w' => e = .returned (.int .i64 L.length) ∧ w = w' := by
  obtain ⟨p, cap, hi, h1, h2, _⟩ := hp.open
  have hl := hi.lt
  obtain ⟨c0, c1, f0, f1⟩ := hi.cells
  clear hi hp
  go_enter Tryz.func133, Tryz.ntmps133
  go_wp2
  go_ret
  exact ⟨rfl, rfl⟩

set_option maxHeartbeats 1000000 in
set_option maxRecDepth 100000 in
theorem getH_yes (hp : ColH w M pa L m) (n : Nat) (hn : n < L.length) : Calls Tryz.prog 132 #[.pointer (some ⟨pa, 0, none⟩), .int .i64 n] w fun e w' => e = .returned (.tuple #[aggH L[n]!, .nilIface]) ∧ RowKit.Below w.heap.size w w' := by
  have hP : Hid (∀ W, RowKit.Below w.heap.size w W → Calls Tryz.prog 162 #[.pointer (some ⟨pa, 0, none⟩), .int .i64 n] W fun e w' => e = .returned (.bool true) ∧ W = w') := fun W h => by
    have := isPlaceH_call (hp.below h) n
    rwa [decide_eq_true (show 0 ≤ (n : Int) ∧ (n : Int) < L.length from ⟨by omega, by omega⟩)] at this
  obtain ⟨p, cap, hi, h1, h2, h3⟩ := hp.open
  obtain ⟨g, rfl, hg⟩ := h3 (by omega)
  have hl := hi.lt
  obtain ⟨c0, c1, f0, f1⟩ := hi.cells
  obtain ⟨⟨d1, d2⟩, _⟩ := rowH hi.2.2.1 hn
  clear hi hp h3
  unfold aggH
  generalize L[n]! = x at *
  obtain ⟨x1, x2⟩ := x
  dsimp only at *
  go_enter Tryz.func132, Tryz.ntmps132
  go_wp2_with fail
  refine (hP.out _ (Ba (Below.refl _ w) _)).mono ?_
  rintro e w1 ⟨rfl, rfl⟩
  go_wp2
  exact bodyPost_ret (v := .tuple #[.agg #[.int .i64 x1, .int .i64 x2], .nilIface]) (by simp [results, Tryz.results132, go_sem, *]) rfl ⟨rfl, (by repeat (first | with_reducible exact Below.refl _ _ | with_reducible assumption | with_reducible apply Ba | with_reducible apply Bd | with_reducible apply Bn | with_reducible apply Bg | (with_reducible refine Bs ?_ (by first | (simp; done) | (simp; omega)) _) | (with_reducible refine Bt ?_ (by assumption)) | (with_reducible refine Bt ?_ (Gr.below (by assumption)))))⟩
set_option maxHeartbeats 1000000 in
set_option maxRecDepth 100000 in
theorem getH_no (hp : ColH w M pa L m) (i : Int) (hn : ¬ (0 ≤ i ∧ i < L.length)) (t : TypeId) (v : Value) (hE : w.cell? ⟨0, 0, none⟩ = some (.iface t v)) : Calls Tryz.prog 132 #[.pointer (some ⟨pa, 0, none⟩), .int .i64 i] w fun e w' => e = .returned (.tuple #[.agg #[.int .i64 0, .int .i64 0], .iface t v]) ∧ RowKit.Below w.heap.size w w' := by
  have hP : Hid (∀ W, RowKit.Below w.heap.size w W → Calls Tryz.prog 162 #[.pointer (some ⟨pa, 0, none⟩), .int .i64 i] W fun e w' => e = .returned (.bool false) ∧ W = w') := fun W h => by
    have := isPlaceH_call (hp.below h) i
    rwa [decide_eq_false hn] at this
  have hel := cell_lt hE
  clear hp hn
  go_enter Tryz.func132, Tryz.ntmps132
  go_wp2_with fail
  refine (hP.out _ (Ba (Below.refl _ w) _)).mono ?_
  rintro e w1 ⟨rfl, rfl⟩
  have hE2 : ((w.alloc (.cells #[.int .i64 0, .int .i64 0] 31)).alloc (.cells #[.int .i64 0, .int .i64 0] 31)).cell? ⟨0, 0, none⟩ = some (.iface t v) := Bc (W := w) (by repeat (first | with_reducible exact Below.refl _ _ | with_reducible assumption | with_reducible apply Ba | with_reducible apply Bd | with_reducible apply Bn | with_reducible apply Bg | (with_reducible refine Bs ?_ (by first | (simp; done) | (simp; omega)) _) | (with_reducible refine Bt ?_ (by assumption)) | (with_reducible refine Bt ?_ (Gr.below (by assumption))))) hel hE
  go_wp2_with fail
  go_region
  all_goals
    go_wp2
    exact bodyPost_ret (v := .tuple #[.agg #[.int .i64 0, .int .i64 0], .iface t v]) (by simp [results, Tryz.results132, go_sem, *]) rfl ⟨rfl, (by repeat (first | with_reducible exact Below.refl _ _ | with_reducible assumption | with_reducible apply Ba | with_reducible apply Bd | with_reducible apply Bn | with_reducible apply Bg | (with_reducible refine Bs ?_ (by first | (simp; done) | (simp; omega)) _) | (with_reducible refine Bt ?_ (by assumption)) | (with_reducible refine Bt ?_ (Gr.below (by assumption)))))⟩

set_option maxHeartbeats 1000000 in
set_option maxRecDepth 100000 in
theorem pushH_no (hp : ColH w M pa L m) (l : List Hd) (vl : Value) (hv : Sl encH w vl l) (hm : 0 ≤ m) (hm2 : m ≤ 9223372036854775807) (hn : m - L.length < l.length) (t : TypeId) (v : Value) (hE : w.cell? ⟨1, 0, none⟩ = some (.iface t v)) :
    Calls Tryz.prog 154 #[.pointer (some ⟨pa, 0, none⟩), vl] w fun e w' => e = .returned (.iface t v) ∧ RowKit.Below w.heap.size w w' := by
  obtain ⟨p, cap, hi, h1, h2, h3⟩ := hp.open
  have hl := hi.lt
  obtain ⟨c0, c1, f0, f1⟩ := hi.cells
  obtain ⟨p2, cap2, rfl, q1, q2, _⟩ := hv
  unfold maxLen at q2
  clear hi hp h3
  go_enter Tryz.func154, Tryz.ntmps154
  go_wp2_with fail
  go_quiet (fail)
  go_wp2
  go_ret
  exact ⟨rfl, (by repeat (first | with_reducible exact Below.refl _ _ | with_reducible assumption | with_reducible apply Ba | with_reducible apply Bd | with_reducible apply Bn | with_reducible apply Bg | (with_reducible refine Bs ?_ (by first | (simp; done) | (simp; omega)) _) | (with_reducible refine Bt ?_ (by assumption)) | (with_reducible refine Bt ?_ (Gr.below (by assumption)))))⟩
set_option maxHeartbeats 2000000 in
set_option maxRecDepth 100000 in
theorem pushH_yes (hp : ColH w M pa L m) (l : List Hd) (vl : Value) (hv : Sl encH w vl l) (hm : 0 ≤ m) (hm2 : m ≤ 9223372036854775807) (hn : ¬ m - L.length < l.length) (hlen : L.length + l.length ≤ 1000000) :
    Calls Tryz.prog 154 #[.pointer (some ⟨pa, 0, none⟩), vl] w fun e w' => e = .returned .nilIface ∧ ColH w' (New M w w') pa (L ++ l) m ∧ Tch M w w' := by
  obtain ⟨p, cap, hi, h1, h2, h3⟩ := hp.open
  have hl := hi.lt
  obtain ⟨c0, c1, f0, f1⟩ := hi.cells
  have HV := Lib.hid hv
  obtain ⟨p2, cap2, rfl, q1, q2, _⟩ := hv
  unfold maxLen at q2
  have HI := Lib.hid hi
  clear hi hp h3
  go_enter Tryz.func154, Tryz.ntmps154
  go_wp2_with fail
  go_quiet (fail)
  have P1 := Lib.hid (HI.out.below (Bn (Below.refl _ w)) : ColIs encH 31 2 200 (w.drewN nq) M pa _ L m)
  have V1 := Lib.hid (HV.out.below (Bn (Below.refl _ w)) : Sl encH (w.drewN nq) _ l)
  go_wp2_with (at_builtin; refine wpl_app2 apH rfl _ _ rfl 0 (by rfl) (by rfl) P1.out.2.2.1 rfl V1.out hlen (Nat.zero_le _) ?_; intro v4 w4 hown4 hgrow4 hat4 _; obtain ⟨p4, c4, rfl, _, _, _⟩ := row_val hown4; have hrow4 := Lib.hid (row_grown P1.out.2.2.2 hown4 hgrow4 hat4); have G4 := Lib.hid (P1.out.grown (by decide) hgrow4); obtain ⟨z0, _, z1, _⟩ := two_cells G4.out; clear hown4 hgrow4 hat4)
  obtain ⟨P5, t5⟩ := col_put (T := 200) (M := New M w w4) (by decide) G4.out (.inl P1.out.2.1) hrow4.out.1
  have hlenS : (L ++ l).length = L.length + l.length := by simp
  rw [hlenS] at P5 t5
  go_ret
  exact ⟨rfl, P5.at.mono (New.mono (by simp)), ((Tch.of (Bn (Below.refl _ w))).more hrow4.out.2).trans t5⟩

set_option maxHeartbeats 4000000 in
set_option maxRecDepth 100000 in
theorem takeH_yes (hp : ColH w M pa L m) (n : Nat) (hn : n < L.length) : Calls Tryz.prog 130 #[.pointer (some ⟨pa, 0, none⟩), .int .i64 n] w fun e w' => e = .returned (.tuple #[aggH L[n]!, .nilIface]) ∧ ColH w' (New M w w') pa (takeC L n) m ∧ Tch M w w' := by
  have hG := Lib.hid (fun W (h : RowKit.Below w.heap.size w W) => getH_yes (hp.below h) n hn)
  have hL := Lib.hid (fun W (h : RowKit.Below w.heap.size w W) => lenH_call (hp.below h))
  obtain ⟨p, cap, hi0, h1, h2, h3⟩ := hp.open
  obtain ⟨g, rfl, hg⟩ := h3 (by omega)
  obtain ⟨hi, hMM⟩ := hi0.tight
  have HM := Lib.hid hMM
  have hl := hi.lt
  have HI := Lib.hid hi
  obtain ⟨q, hq⟩ : ∃ q, L.length = q + 1 := ⟨L.length - 1, by omega⟩
  have hll : (L.length : Int) - 1 = (q : Int) := by omega
  have hqL : q < L.length := by omega
  have HQ := Lib.hid hq
  have H1Q := Lib.hid (show L.length - q = 1 by omega)
  have hqc : q < cap := by omega
  have hqc2 : ¬ cap = q := by omega
  have hqi : (q : Int) < (L.length : Int) := by omega
  clear hi hi0 hp h3 hq hMM
  unfold aggH at *
  obtain ⟨x, hx⟩ : ∃ x, x = L[n]! := ⟨_, rfl⟩
  rw [← hx] at hG ⊢
  clear hx
  obtain ⟨x1, x2⟩ := x
  dsimp only at *
  go_enter Tryz.func130, Tryz.ntmps130
  go_wp2_with fail
  refine (hG.out _ (Ba (Below.refl _ w) _)).mono ?_
  rintro e w1 ⟨rfl, hb1⟩
  have B1 := Lib.hid (Bt (Ba (Below.refl _ w) (.cells #[.int .i64 0, .int .i64 0] 31)) hb1)
  have R1 := Lib.hid (show w1.heap[w.heap.size]? = some (.cells #[.int .i64 0, .int .i64 0] 31 (0, 0)) from blk_below (heap_alloc_new w _) hb1)
  clear hb1
  go_wp2_with fail
  refine (hL.out _ (Ba B1.out _)).mono ?_
  rintro e w2 ⟨rfl, hw2⟩
  have B2 := Lib.hid (show RowKit.Below w.heap.size w w2 by rw [← hw2]; exact Ba B1.out _)
  have R2 := Lib.hid (show w2.heap[w.heap.size]? = some (.cells #[.int .i64 0, .int .i64 0] 31 (0, 0)) by rw [← hw2]; exact blk_below R1.out (Ba (Below.refl _ _) _))
  have X2 := Lib.hid (show w2.heap[w1.heap.size]? = some (.cells #[.int .i64 x1, .int .i64 x2] 31 (0, 0)) by rw [← hw2]; exact heap_alloc_new w1 _)
  have hrx : w.heap.size < w1.heap.size := (Array.getElem?_eq_some_iff.1 R1.out).1
  clear hw2 B1 R1
  generalize w1.heap.size = xb at *
  go_wp2_with fail
  clear hll
  have P2 := Lib.hid (HI.out.below B2.out)
  obtain ⟨k0, _, kf, _⟩ := P2.out.cells
  obtain ⟨⟨d1, d2⟩, z1, z2⟩ := rowH P2.out.2.2.1 hn
  obtain ⟨⟨f1, f2⟩, _⟩ := rowH P2.out.2.2.1 hqL
  generalize L[n]! = y at d1 d2
  obtain ⟨c, hc⟩ : ∃ c, L[q]! = c := ⟨_, rfl⟩
  rw [hc] at f1 f2
  have HC := Lib.hid hc
  clear hc
  obtain ⟨c1, c2⟩ := c
  dsimp only at f1 f2
  have hl2 := Bl B2.out hl
  have hlg2 := Bl B2.out hg
  obtain ⟨P3, t3⟩ := colH_put (by decide) P2.out n hn c1 c2
  have P3' := Lib.hid P3
  have T3' := Lib.hid t3
  have hst : ((w2.setCell ⟨g, n * 2, none⟩ (.int .i64 c1)).setCell ⟨g, n * 2 + 1, none⟩ (.int .i64 c2)).drew.cell? ⟨pa, 0, none⟩ = some (.slice (some ⟨g, 0, none⟩) L.length cap) ∧ ((w2.setCell ⟨g, n * 2, none⟩ (.int .i64 c1)).setCell ⟨g, n * 2 + 1, none⟩ (.int .i64 c2)).drew.cell? ⟨g, q * 2, none⟩ = some (.int .i64 c1) ∧ ((w2.setCell ⟨g, n * 2, none⟩ (.int .i64 c1)).setCell ⟨g, n * 2 + 1, none⟩ (.int .i64 c2)).drew.cell? ⟨g, q * 2 + 1, none⟩ = some (.int .i64 c2) := by
    obtain ⟨⟨u1, u2⟩, _⟩ := rowH (show World.ownsRow _ 0 31 2 (.slice (some ⟨g, 0, none⟩) (L.set n (c1, c2)).length cap) (L.set n (c1, c2)).length (flat encH (L.set n (c1, c2))) from (by have := P3.2.2.1; rwa [show (Value.slice (some ⟨g, 0, none⟩) L.length cap) = .slice (some ⟨g, 0, none⟩) (L.set n (c1, c2)).length cap by rw [List.length_set]] at this)) (show q < (L.set n (c1, c2)).length by simpa using hqL)
    have e : (L.set n (c1, c2))[q]! = (c1, c2) := by
      rw [getElem!_pos _ _ (by simpa using hqL), List.getElem_set]
      split
      · rfl
      · rw [← HC.out, getElem!_pos L _ hqL]
    rw [e] at u1 u2
    exact ⟨P3.cells.1, u1, u2⟩
  clear P3 t3
  go_region_held3 (fun w' => w'.cell? ⟨pa, 0, none⟩ = some (.slice (some ⟨g, 0, none⟩) L.length cap) ∧ w'.cell? ⟨g, q * 2, none⟩ = some (.int .i64 c1) ∧ w'.cell? ⟨g, q * 2 + 1, none⟩ = some (.int .i64 c2)) (first | exact ⟨k0, f1, f2⟩ | exact hst) (fail)
  all_goals
    obtain ⟨W1, hW1⟩ : ∃ W1, W1 = ((w2.setCell ⟨g, n * 2, none⟩ (.int .i64 c1)).setCell ⟨g, n * 2 + 1, none⟩ (.int .i64 c2)).drew := ⟨_, rfl⟩
    have P4 : ColIs encH 31 2 200 W1 (fun b => b = pa ∨ (Value.slice (some ⟨g, 0, none⟩) L.length cap).ownBlock = some b) pa (.slice (some ⟨g, 0, none⟩) L.length cap) (L.set n (c1, c2)) m := by rw [hW1]; exact P3'.out
    have t4 : Tch (fun b => b = pa ∨ (Value.slice (some ⟨g, 0, none⟩) L.length cap).ownBlock = some b) w2 W1 := by rw [hW1]; exact T3'.out.drew
    rw [← hW1]
    clear hW1 hst P3' T3' d1 d2 f1 f2 k0 kf z1 z2
    have nR : ¬ (w.heap.size = pa ∨ (Value.slice (some ⟨g, 0, none⟩) L.length cap).ownBlock = some w.heap.size) := by
      simp only [Value.ownBlock, Option.some.injEq]; omega
    have nX : ¬ (xb = pa ∨ (Value.slice (some ⟨g, 0, none⟩) L.length cap).ownBlock = some xb) := by
      simp only [Value.ownBlock, Option.some.injEq]; omega
    have hW2 : ∃ W2, (∀ ty, (Builtin.clear_ #[64] ty #[.slice (some ⟨g, q * 2, none⟩) (L.length - q) (cap - q)]).run Tryz.prog W1 = .ok (.tuple #[]) W2) ∧ ColIs encH 31 2 200 W2 (fun b => b = pa ∨ (Value.slice (some ⟨g, 0, none⟩) L.length cap).ownBlock = some b) pa (.slice (some ⟨g, 0, none⟩) L.length cap) ((L.set n (c1, c2)).set q (0, 0)) m ∧ Tch (fun b => b = pa ∨ (Value.slice (some ⟨g, 0, none⟩) L.length cap).ownBlock = some b) W1 W2 := by
      obtain ⟨P5, t5⟩ := colH_put (by decide) P4 q (by simpa using hqL) 0 0
      refine ⟨_, fun ty => ?_, P5, t5⟩
      have hr := own_of_row lenH P4.2.2.1 rfl
      obtain ⟨p', cap', e, _, _, hh⟩ := hr
      obtain ⟨g', e2, _, _, hH⟩ := hh (by simp; omega)
      subst e2
      simp only [Value.slice.injEq, Option.some.injEq, Addr.mk.injEq] at e
      obtain ⟨⟨rfl, _⟩, _⟩ := e
      have := clear_run lenH (by decide) oneH Tryz.prog (t := 64) (e := 31) (zv := .agg #[.int .i64 0, .int .i64 0]) (0, 0) Tryz.underlying64 (fun w => by kernel_rfl) rfl hH q (by simpa using hqL) (cap - q) ty
      have e1 : (L.set n (c1, c2)).toArray.size = L.length := by simp
      rw [e1, H1Q.out, Nat.zero_add] at this
      rw [H1Q.out]
      exact this
    obtain ⟨W2, hcl, P5, t5⟩ := hW2
    have HP5 := Lib.hid P5
    have T5 := Lib.hid (t4.more t5)
    have X5 := T5.out.blk X2.out nX
    have R5 := T5.out.blk R2.out nR
    obtain ⟨a1, a2, _⟩ := two_cells X5
    obtain ⟨r1, r2, v1, v2⟩ := two_cells R5
    obtain ⟨u0, _, uf, _⟩ := P4.cells
    obtain ⟨k0, _, kf, _⟩ := P5.cells
    have hl4 := P4.lt
    have hl5 := P5.lt
    have m1 : ¬ pa = xb := by omega
    have m2 : ¬ xb = pa := by omega
    have m3 : ¬ pa = w.heap.size := by omega
    have m4 : ¬ w.heap.size = pa := by omega
    have m5 : ¬ g = w.heap.size := by omega
    have lr5 : w.heap.size < W2.heap.size := (Array.getElem?_eq_some_iff.1 R5).1
    have lx5 : xb < W2.heap.size := (Array.getElem?_eq_some_iff.1 X5).1
    clear P4 P5 t4 t5 nR nX X5 R5
    go_wp2
    obtain ⟨P7, t7⟩ := HP5.out.front (by decide) lenH q (by simp; omega)
    rw [← HC.out, takeC_eq L n q (0, 0) HQ.out] at P7
    have P8 := P7.far2 w.heap.size (fun e => e.elim m4 (fun e => by simp only [Value.ownBlock, Option.some.injEq] at e; exact m5 e)) (.int .i64 x1) (.int .i64 x2)
    have T8 := ((Tch.of B2.out).more (T5.out.more t7)).fresh2 (Nat.le_refl _) (.int .i64 x1) (.int .i64 x2)
    exact bodyPost_ret (v := .tuple #[.agg #[.int .i64 x1, .int .i64 x2], .nilIface]) (by simp [results, Tryz.results130, go_sem, *]) rfl ⟨rfl, P8.at.mono (fun b h => .inl (HM.out b h)), T8.mono HM.out⟩

set_option maxHeartbeats 1000000 in
set_option maxRecDepth 100000 in
/-- slices.Clone. -/
theorem cloneH_call (l : List Hd) (v : Value) (w : World) (hl : Sl encH w v l) (hlen : l.length ≤ 100000) :
    Calls Tryz.prog 144 #[v] w fun e w' => ∃ v', e = .returned v' ∧ Own w.heap.size encH 2 w' v' l ∧ (w'.ownsRow w.heap.size 31 2 v' l.length (flat encH l)) ∧ RowKit.Below w.heap.size w w' := by
  obtain ⟨p, cap, rfl, h1, h2, h⟩ := hl
  cases p with
  | none =>
    have h0 : l.length = 0 := by
      rcases Nat.eq_zero_or_pos l.length with h0 | h0
      · exact h0
      · obtain ⟨g, o, e, _⟩ := h h0; cases e
    have hl0 : l = [] := List.length_eq_zero_iff.1 h0
    subst hl0
    have q22 : ∀ (w : World) (a : Option Addr) (n c n' c' : Nat), (binOp .eql 64 (.slice a n c) (.slice none n' c')).run Tryz.prog w = .ok (.bool a.isNone) w := fun w a n c n' c' => Lib.run_eql_slice_nil w _ _ a n c n' c' Tryz.underlying64
    go_enter Tryz.func144, Tryz.ntmps144
    go_wp2
    go_ret
    exact ⟨_, rfl, ⟨none, 0, rfl, Nat.le_refl _, Nat.zero_le _, fun h => absurd h (by simp)⟩, World.ownsRow_nil _ _ _ _, (by repeat (first | with_reducible exact Below.refl _ _ | with_reducible assumption | with_reducible apply Ba | with_reducible apply Bd | with_reducible apply Bn | with_reducible apply Bg | (with_reducible refine Bs ?_ (by first | (simp; done) | (simp; omega)) _) | (with_reducible refine Bt ?_ (by assumption)) | (with_reducible refine Bt ?_ (Gr.below (by assumption)))))⟩
  | some ad =>
    have HS := Lib.hid (show Sl encH w (.slice (some ad) l.length cap) l from ⟨_, cap, rfl, h1, h2, h⟩)
    have O1 := Lib.hid (show (w.alloc (.cells #[] 31)).ownsRow w.heap.size 31 2 (.slice (some ⟨w.heap.size, 0, none⟩) 0 0) 0 (flat encH []) from World.ownsRow_made _ #[] 0 (Nat.le_refl _) (Nat.zero_le _) (by simp))
    have A1 := Lib.hid (Ba (Below.refl _ w) (.cells #[] 31))
    have S1 := Lib.hid (HS.out.below A1.out)
    clear h
    have q22 : ∀ (w : World) (a : Option Addr) (n c n' c' : Nat), (binOp .eql 64 (.slice a n c) (.slice none n' c')).run Tryz.prog w = .ok (.bool a.isNone) w := fun w a n c n' c' => Lib.run_eql_slice_nil w _ _ a n c n' c' Tryz.underlying64
    go_enter Tryz.func144, Tryz.ntmps144
    go_wp2_with (at_builtin; refine wpl_app apH rfl _ _ rfl w.heap.size (by rfl) (by rfl) O1.out rfl S1.out (by simp; omega) A1.out.size ?_; intro v1 w1 hown1 hgrow1 hnil1)
    have b1 := grownB A1.out O1.out hgrow1
    go_ret
    have e : [] ++ l = l := List.nil_append l
    rw [e] at hown1
    simp only [List.length_nil, Nat.zero_add] at hown1
    exact ⟨v1, rfl, own_of_row lenH hown1 rfl, hown1, b1⟩


theorem allH_call (hp : ColH w M pa L m) (hlen : L.length ≤ 100000) : Calls Tryz.prog 129 #[.pointer (some ⟨pa, 0, none⟩)] w fun e w' => ∃ v, e = .returned v ∧ w'.ownsRow w.heap.size 31 2 v L.length (flat encH L) ∧ RowKit.Below w.heap.size w w' := by
  obtain ⟨p, cap, hi, h1, h2, _⟩ := hp.open
  have hl := hi.lt
  obtain ⟨c0, c1, f0, f1⟩ := hi.cells
  have hC := Lib.hid (cloneH_call L _ w (hi.2.2.sl lenH) hlen)
  clear hi hp
  go_enter Tryz.func129, Tryz.ntmps129
  go_wp2_with fail
  refine hC.out.mono ?_
  rintro e w1 ⟨v1, rfl, _, ho1, hb1⟩
  obtain ⟨p1, c1', rfl, _, _, _⟩ := row_val ho1
  go_wp2
  go_ret
  exact ⟨_, rfl, ho1, hb1⟩

set_option maxHeartbeats 1000000 in
set_option maxRecDepth 100000 in
theorem ccloneH_call (hp : ColH w M pa L m) (hlen : L.length ≤ 100000) : Calls Tryz.prog 82 #[.pointer (some ⟨pa, 0, none⟩)] w (ColNew encH 31 2 200 w L m) := by
  have HA := Lib.hid (fun W (h : RowKit.Below w.heap.size w W) => (allH_call (hp.below h) hlen).mono (fun e w' (q : ∃ v', e = .returned v' ∧ _ ∧ RowKit.Below W.heap.size W w') => (show ∃ v', e = .returned v' ∧ w'.ownsRow w.heap.size 31 2 v' L.length (flat encH L) ∧ RowKit.Below W.heap.size W w' from q.imp fun v' ⟨he, ho, hb⟩ => ⟨he, row_mono ho h.size, hb⟩)))
  obtain ⟨p, cap, hi, h1, h2, _⟩ := hp.open
  have hl := hi.lt
  obtain ⟨c0, c1, f0, f1⟩ := hi.cells
  clear hi hp
  go_enter Tryz.func82, Tryz.ntmps82
  go_wp2_with fail
  go_region_held3 (fun w' => RowKit.Below w.heap.size w w' ∧ ∀ b_1 o, b_1 < w.heap.size → w'.cell? ⟨b_1, o, none⟩ = w.cell? ⟨b_1, o, none⟩) (first | exact keep0 _ | exact keepB (by assumption) hb1 | exact keepA (by assumption) _ | assumption) ((go_at_call 129; refine (HA.out _ (Bd (Below.refl _ w))).mono ?_; rintro e w1 ⟨v1, rfl, ho1, hb1⟩; obtain ⟨p1, c1', rfl, _, _, _⟩ := row_val ho1; have X1 := Lib.hid (col_made (Bt (Bd (Below.refl _ w)) hb1) ho1 200 m); clear ho1))
  all_goals
    go_wp2
    go_ret
    exact ⟨_, rfl, X1.out.at, Ba (Bt (Bd (Below.refl _ w)) hb1) _⟩
end
end Go.Proofs.YtaehendpdfpibaaGreatDoor

/-
  Maps keyed by kinds, of pointers to columns: what is looked up, put, ranged over.
-/
namespace Go.Proofs.YtaehendpdfpibaaGreatDoor
set_option linter.unusedSimpArgs false
set_option linter.unusedVariables false
open Go.RowKit Go.Sort Go.Lib Go.Shelf Go.ChangeShapes Go.WideShapes

abbrev MapTy : Nat := 144
abbrev PtrTy : Nat := 148
theorem kindKeyed : Maps.Keyed Tryz.prog 3 := Maps.int_keyed Tryz.underlying3
theorem mapPU : Tryz.prog.underlying MapTy = some (.map 3 PtrTy) := Tryz.underlying144
theorem zeroP (w : World) : (zeroValue PtrTy).run Tryz.prog w = .ok (.pointer none) w := by kernel_rfl
/-- A kind as a key. -/
def kk (x : Int) : Lit := .int .i64 x
theorem keyK {x : Int} (h : (Lit.int .i64 x).wf = true) : keyOf Tryz.prog 3 (.int .i64 x) = some (kk x) := Maps.keyOf_int_mk Tryz.underlying3 h
theorem keyK_inv {v : Value} {kl : Lit} (h : keyOf Tryz.prog 3 v = some kl) : ∃ x, v = .int .i64 x ∧ kl = kk x ∧ (Lit.int .i64 x).wf = true := Maps.keyOf_int_inv Tryz.underlying3 h
theorem kk_inj {a b : Int} (h : kk a = kk b) : a = b := by
  unfold kk at h
  simpa using h
/-- A pointer as an element. -/
def ptrElem : Value → Option (DataW Unit × List MemPlace)
  | .pointer none => some (.nil, [])
  | .pointer (some ⟨g, 0, none⟩) => some (.lit (.int .i64 g), [])
  | _ => none
def ptrD : Option Nat → DataW Unit
  | none => .nil
  | some g => .lit (.int .i64 g)
def ptrV : Option Nat → Value
  | none => .pointer none
  | some g => .pointer (some ⟨g, 0, none⟩)
theorem ptrElem_mk (o : Option Nat) : ptrElem (ptrV o) = some (ptrD o, []) := by cases o <;> rfl
theorem ptrElem_inv {v : Value} {d : DataW Unit} {ps : List MemPlace} (h : ptrElem v = some (d, ps)) : ∃ o, v = ptrV o ∧ d = ptrD o := by
  unfold ptrElem at h
  split at h
  · simp only [Option.some.injEq, Prod.mk.injEq] at h
    exact ⟨none, rfl, h.1.symm⟩
  · rename_i g
    simp only [Option.some.injEq, Prod.mk.injEq] at h
    exact ⟨some g, rfl, h.1.symm⟩
  · cases h
theorem ptrD_inj {a b : Option Nat} (h : ptrD a = ptrD b) : a = b := by
  cases a <;> cases b <;> simp [ptrD] at h ⊢
  omega

/-- Block b is a map of at most n entries, in which each kind leads where f says. -/
def MapP (w : World) (b n : Nat) (f : Int → Option Nat) : Prop :=
  ∃ D : DataW Unit, w.ownsMap Tryz.prog 3 ptrElem b n D ∧ (∀ x, D.atKey (kk x) .nil = ptrD (f x)) ∧ ∀ x, Maps.has D (kk x) = (f x).isSome
section
variable {w w' : World} {b n : Nat} {f : Int → Option Nat}
theorem MapP.made (w : World) : MapP (w.alloc (.map #[] 0)) w.heap.size 0 (fun _ => none) := ⟨_, World.ownsMap_made w _ _ _, fun s => rfl, fun s => rfl⟩
theorem MapP.congr {g : Int → Option Nat} (h : MapP w b n f) (e : ∀ s, f s = g s) : MapP w b n g := by
  obtain ⟨D, h1, h2, h3⟩ := h
  exact ⟨D, h1, fun s => by rw [h2, e], fun s => by rw [h3, e]⟩
theorem MapP.mono {m : Nat} (h : MapP w b n f) (hm : n ≤ m) : MapP w b m f := by
  obtain ⟨D, h1, h2⟩ := h
  exact ⟨D, h1.mono hm, h2⟩
theorem MapP.lt (h : MapP w b n f) : b < w.heap.size := h.choose_spec.1.lt
theorem MapP.is (h : MapP w b n f) : ∃ es c, w.heap[b]? = some (.map es c) := by
  obtain ⟨D, ⟨es, c, hb, _⟩, _⟩ := h
  exact ⟨es, c, hb⟩
theorem MapP.blk (h : MapP w b n f) (k : w'.heap[b]? = w.heap[b]?) : MapP w' b n f := by
  obtain ⟨D, ⟨es, clock, hb, r⟩, h2⟩ := h
  exact ⟨D, ⟨es, clock, k.trans hb, r⟩, h2⟩
theorem MapP.below (h : MapP w b n f) (k : RowKit.Below w.heap.size w w') : MapP w' b n f := h.blk (k.block b h.lt)
/-- m[x]. -/
theorem MapP.look (h : MapP w b n f) (x : Int) (hx : (Lit.int .i64 x).wf = true) : (Instr.lookup MapTy (.map (some b)) (.int .i64 x) false).run Tryz.prog w = .ok (ptrV (f x)) w := by
  obtain ⟨D, h1, h2, _⟩ := h
  obtain ⟨v, ps, hr, hv⟩ := h1.lookup kindKeyed mapPU (zeroP w) (ptrElem_mk none) (keyK hx)
  obtain ⟨o, rfl, ho⟩ := ptrElem_inv hv
  have e := h2 x
  rw [show ptrD none = (DataW.nil : DataW Unit) from rfl] at ho
  rw [e] at ho
  rw [ptrD_inj ho]
  exact hr
/-- m[x] = p. -/
theorem MapP.put (h : MapP w b n f) (hn : n < 1000) (x : Int) (hx : (Lit.int .i64 x).wf = true) (g : Nat) : ∃ w', (Instr.mapUpdate MapTy (.map (some b)) (.int .i64 x) (.pointer (some ⟨g, 0, none⟩))).run Tryz.prog w = .ok () w' ∧ MapP w' b (n + 1) (fun y => if y = x then some g else f y) ∧ w.grownBy w' (some b) := by
  obtain ⟨D, h1, h2, h3⟩ := h
  obtain ⟨w', hr, ho, hg⟩ := h1.update kindKeyed mapPU (by unfold maxLen; omega) (keyK hx) (ptrElem_mk (some g))
  refine ⟨w', hr, ⟨_, ho, fun y => ?_, fun y => ?_⟩, hg⟩
  · show _ = ptrD (if y = x then some g else f y)
    by_cases e : y = x
    · subst e
      rw [if_pos rfl]
      exact Maps.atKey_put_same h1.isMap (kindKeyed.key (keyK hx)) _ _
    · rw [if_neg e, Maps.atKey_put_other (fun q => e (kk_inj q)), h2]
  · show _ = (if y = x then some g else f y).isSome
    by_cases e : y = x
    · subst e
      rw [if_pos rfl]
      exact Maps.has_put_same h1.isMap (kindKeyed.key (keyK hx)) _
    · rw [if_neg e, Maps.has_put_other (fun q => e (kk_inj q)), h3]
/-- A block of cells behind a change of the map. -/
theorem grown_blk {b2 : Nat} {o : Obj} (hb : w.heap[b2]? = some o) (hg : w.grownBy w' (some b)) (hne : b2 ≠ b) : w'.heap[b2]? = some o :=
  (hg.block b2 (Array.getElem?_eq_some_iff.1 hb).1 (fun e => hne (Option.some.inj e))).trans hb
theorem tch_grown {M : Nat → Prop} (hg : w.grownBy w' (some b)) (hb : M b) : Tch M w w' := ⟨hg.os, hg.tape, hg.output, hg.size, fun k hk hn => hg.block k hk (fun e => hn (by rw [Option.some.inj e]; exact hb))⟩
theorem bel_map {a : World} (h : RowKit.Below a.heap.size a w) (hg : w.grownBy w' (some b)) (hb : a.heap.size ≤ b) : RowKit.Below a.heap.size a w' :=
  ⟨hg.os.trans h.os, hg.tape.trans h.tape, hg.output.trans h.output, Nat.le_trans h.size hg.size, fun k hk => (hg.block k (Nat.lt_of_lt_of_le hk h.size) (by simp; omega)).trans (h.block k hk)⟩
theorem grown_below (h : w.grownBy w' none) : RowKit.Below w.heap.size w w' := ⟨h.os, h.tape, h.output, h.size, fun k hk => h.block k hk (by simp)⟩

/-! ### The range. -/
/-- The loop over the map at b under way, its iterator at r: which kinds are still to come. -/
def RngP (w : World) (b r n : Nat) (f : Int → Option Nat) (left : Int → Bool) (cnt : Nat) : Prop :=
  ∃ (D : DataW Unit) (lf : Lit → Bool), w.ranges Tryz.prog 3 ptrElem b r n D lf cnt ∧ (∀ x, D.atKey (kk x) .nil = ptrD (f x)) ∧ (∀ x, Maps.has D (kk x) = (f x).isSome) ∧ (∀ x, lf (kk x) = left x) ∧ ∀ x, left x = true → (f x).isSome = true
theorem RngP.map {r cnt : Nat} {left : Int → Bool} (h : RngP w b r n f left cnt) : MapP w b n f := by
  obtain ⟨D, lf, h1, h2, h3, _⟩ := h
  exact ⟨D, h1.owns, h2, h3⟩
theorem RngP.lt {r cnt : Nat} {left : Int → Bool} (h : RngP w b r n f left cnt) : r < w.heap.size := h.choose_spec.choose_spec.1.lt
theorem RngP.left_eq {r cnt : Nat} {left : Int → Bool} (h : RngP w b r n f left cnt) : w.rangeLeft b r = cnt := h.choose_spec.choose_spec.1.left_eq
theorem RngP.ne {r cnt : Nat} {left : Int → Bool} (h : RngP w b r n f left cnt) : r ≠ b := h.choose_spec.choose_spec.1.ne
theorem RngP.kept {r cnt : Nat} {left : Int → Bool} (h : RngP w b r n f left cnt) {M : Nat → Prop} (t : Tch M w w') (hb : ¬ M b) (hr : ¬ M r) : RngP w' b r n f left cnt := by
  obtain ⟨D, lf, h1, h2, h3⟩ := h
  have hbl := h1.owns.lt
  have hrl := h1.lt
  obtain ⟨es, clock, since, seen, c0, e1, F, hs, hD, e2, rest⟩ := h1
  exact ⟨D, lf, ⟨es, clock, since, seen, c0, (t.block b hbl hb).trans e1, F, hs, hD, (t.block r hrl hr).trans e2, rest⟩, h2, h3⟩
/-- 'range m'. -/
theorem MapP.range (h : MapP w b n f) : ∃ w' cnt, (Instr.range MapTy (.map (some b))).run Tryz.prog w = .ok (.pointer (some ⟨w.heap.size, 0, none⟩)) w' ∧ RngP w' b w.heap.size n f (fun x => (f x).isSome) cnt ∧ w.grownBy w' none ∧ w'.heap.size = w.heap.size + 1 ∧ cnt ≤ n := by
  obtain ⟨D, h1, h2, h3⟩ := h
  obtain ⟨w', hrun, r1, r2, r3⟩ := h1.range kindKeyed mapPU
  exact ⟨w', _, hrun, ⟨D, _, r1, h2, h3, h3, fun x h => h⟩, r2, r3, h1.size_le⟩
/-- The step. -/
theorem RngP.next {r cnt : Nat} {left : Int → Bool} (h : RngP w b r n f left cnt) (ty : TypeId) :
    ((∀ x, left x = false) ∧ (Instr.next (.pointer (some ⟨r, 0, none⟩)) false ty).run Tryz.prog w = .ok (.tuple #[.bool false]) w) ∨
    ∃ x g w' cnt', (Lit.int .i64 x).wf = true ∧ left x = true ∧ f x = some g ∧ (Instr.next (.pointer (some ⟨r, 0, none⟩)) false ty).run Tryz.prog w = .ok (.tuple #[.bool true, .int .i64 x, .pointer (some ⟨g, 0, none⟩)]) w' ∧
      RngP w' b r n f (fun y => left y && !decide (y = x)) cnt' ∧ cnt' < cnt ∧ w.grownBy w' (some r) ∧ w'.heap.size = w.heap.size ∧ (Instr.entry (.pointer (some ⟨r, 0, none⟩))).run Tryz.prog w' = .ok (.tuple #[.int .i64 x, .pointer (some ⟨g, 0, none⟩)]) w' := by
  obtain ⟨D, lf, h1, h2, h5, h3, h6⟩ := h
  rcases h1.next kindKeyed ty with ⟨_, hl, hrun⟩ | ⟨key, v, kl, y, w', cnt', hkey, hlk, hv, hat, hrun, hrg, hlt, hgr, hsz, hen⟩
  · exact .inl ⟨fun x => by rw [← h3, hl], hrun⟩
  · obtain ⟨x, rfl, rfl, hx⟩ := keyK_inv hkey
    obtain ⟨yd, yp⟩ := y
    obtain ⟨o, rfl, rfl⟩ := ptrElem_inv hv
    have e := hat .nil
    rw [h2] at e
    have e2 := ptrD_inj e
    cases o with
    | none =>
      have := h6 x (by rw [← h3]; exact hlk)
      rw [e2] at this
      cases this
    | some g =>
      refine .inr ⟨x, g, w', cnt', hx, by rw [← h3]; exact hlk, e2, hrun, ⟨D, _, hrg, h2, h5, fun y => ?_, fun y hy => h6 y (by simp only [Bool.and_eq_true] at hy; exact hy.1)⟩, hlt, hgr, hsz, hen⟩
      show (lf (kk y) && !(kk y).sameKey (kk x)) = _
      rw [h3]
      by_cases e4 : y = x
      · subst e4
        rw [WideAt.sameKey_self (kindKeyed.key (keyK hx))]
        simp
      · rw [Maps.sameKey_ne (fun q => e4 (kk_inj q))]
        simp [e4]
end
section
variable {w : World} {b n : Nat} {f : Int → Option Nat} {ops : Array Oper} {rest : List Oper} {o : Oper} {a : Act} {Q : Exit → Act → World → Prop}
theorem wpl_rangeP (hg : o.guard = none) (m : Operand) (hop : o.op = Op.range MapTy m) (hm : a.eval m = .map (some b)) (h : MapP w b n f)
    (hK : ∀ w' cnt, RngP w' b w.heap.size n f (fun x => (f x).isSome) cnt → w.grownBy w' none → w'.heap.size = w.heap.size + 1 → cnt ≤ n → wpList Tryz.prog ops Q rest (a.put o.dst (.pointer (some ⟨w.heap.size, 0, none⟩))) w') : wpList Tryz.prog ops Q (o :: rest) a w := by
  refine wpList_plain hg fun K' hK' => ?_
  obtain ⟨w', cnt, hrun, r1, r2, r3, r4⟩ := h.range
  unfold Oper.wp
  simp [execOp, hop, hm, hrun, Result.andThen]
  exact hK' _ _ (hK w' cnt r1 r2 r3 r4)
theorem wpl_nextP (hg : o.guard = none) (it : Operand) (hop : o.op = Op.next it false) {r cnt : Nat} {left : Int → Bool} (hit : a.eval it = .pointer (some ⟨r, 0, none⟩)) (h : RngP w b r n f left cnt)
    (hDone : (∀ x, left x = false) → wpList Tryz.prog ops Q rest (a.put o.dst (.tuple #[.bool false])) w)
    (hMore : ∀ x g w' cnt', (Lit.int .i64 x).wf = true → left x = true → f x = some g → RngP w' b r n f (fun y => left y && !decide (y = x)) cnt' → cnt' < cnt → w.grownBy w' (some r) → w'.heap.size = w.heap.size →
      (Instr.entry (.pointer (some ⟨r, 0, none⟩))).run Tryz.prog w' = .ok (.tuple #[.int .i64 x, .pointer (some ⟨g, 0, none⟩)]) w' → wpList Tryz.prog ops Q rest (a.put o.dst (.tuple #[.bool true, .int .i64 x, .pointer (some ⟨g, 0, none⟩)])) w') : wpList Tryz.prog ops Q (o :: rest) a w := by
  refine wpList_plain hg fun K' hK' => ?_
  unfold Oper.wp
  rcases h.next o.type with ⟨hl, hrun⟩ | ⟨x, g, w', cnt', h1, h2, h3, hrun, h4, h5, h6, h7, h8⟩
  · simp [execOp, hop, hit, hrun, Result.andThen]
    exact hK' _ _ (hDone hl)
  · simp [execOp, hop, hit, hrun, Result.andThen]
    exact hK' _ _ (hMore x g w' cnt' h1 h2 h3 h4 h5 h6 h7 h8)
/-- 'm[k] = p' at the operation. -/
theorem wpl_putP (hg : o.guard = none) (m x v : Operand) (hop : o.op = Op.mapUpdate MapTy m x v) (hm : a.eval m = .map (some b)) (h : MapP w b n f) (hn : n < 1000) (k : Int) (hx : a.eval x = .int .i64 k) (hk : (Lit.int .i64 k).wf = true) (g : Nat) (hv : a.eval v = .pointer (some ⟨g, 0, none⟩))
    (hK : ∀ w', MapP w' b (n + 1) (fun y => if y = k then some g else f y) → w.grownBy w' (some b) → wpList Tryz.prog ops Q rest (a.put o.dst undef) w') : wpList Tryz.prog ops Q (o :: rest) a w := by
  refine wpList_plain hg fun K' hK' => ?_
  obtain ⟨w', hrun, r1, r2⟩ := h.put hn k hk g
  unfold Oper.wp
  simp [execOp, hop, hm, hx, hv, hrun, Result.andThen]
  exact hK' _ _ (hK w' r1 r2)
end
end Go.Proofs.YtaehendpdfpibaaGreatDoor

/-
  A table in memory: its block, its map of columns, its columns; rows of a mask's kinds.
-/
namespace Go.Proofs.YtaehendpdfpibaaGreatDoor
set_option linter.unusedSimpArgs false
set_option linter.unusedVariables false
open Go.RowKit Go.Sort Go.Lib Go.Shelf

abbrev ColHT (w : World) (M : Nat → Prop) (pa : Nat) (L : List Hd) (m : Int) : Prop := ColAt encH 31 2 200 w M pa L m
abbrev ColVT (w : World) (M : Nat → Prop) (pa : Nat) (L : List Vl) (m : Int) : Prop := ColAt encV 34 3 198 w M pa L m

theorem far3_tch (w : World) (b : Nat) (u1 u2 u3 : Value) : Tch (fun x => x = b) w (((w.setCell ⟨b, 0, none⟩ u1).setCell ⟨b, 1, none⟩ u2).setCell ⟨b, 2, none⟩ u3) :=
  ((Tch.set (M := fun x => x = b) (p := ⟨b, 0, none⟩) w rfl u1).more (Tch.set (M := fun x => x = b) (p := ⟨b, 1, none⟩) _ rfl u2)).more (Tch.set (M := fun x => x = b) (p := ⟨b, 2, none⟩) _ rfl u3)
/-- A slice that holds the list l, in a block of N (to be read). -/
def SlN {α : Type} (N : Nat → Prop) (enc : α → List Value) (w : World) (v : Value) (l : List α) : Prop :=
  ∃ p cap, v = .slice p l.length cap ∧ l.length ≤ cap ∧ cap ≤ maxLen ∧ (0 < l.length → ∃ g o, p = some ⟨g, o, none⟩ ∧ g < w.heap.size ∧ N g ∧ ∀ j u, (flat enc l)[j]? = some u → w.cell? ⟨g, o + j, none⟩ = some u)
section
variable {α : Type} {enc : α → List Value} {N N' X : Nat → Prop} {w w' : World} {v : Value} {l : List α}
theorem SlN.sl (h : SlN N enc w v l) : Sl enc w v l := by
  obtain ⟨p, cap, rfl, h1, h2, h⟩ := h
  exact ⟨p, cap, rfl, h1, h2, fun hl => by obtain ⟨g, o, e, h3, _, h4⟩ := h hl; exact ⟨g, o, e, h3, h4⟩⟩
theorem SlN.kept (h : SlN N enc w v l) (t : Tch X w w') (hd : ∀ b, N b → ¬ X b) : SlN N enc w' v l := by
  obtain ⟨p, cap, rfl, h1, h2, h⟩ := h
  exact ⟨p, cap, rfl, h1, h2, fun hl => by
    obtain ⟨g, o, e, h3, h5, h4⟩ := h hl
    exact ⟨g, o, e, Nat.lt_of_lt_of_le h3 t.size, h5, fun j u hu => t.cell h3 (hd g h5) (h4 j u hu)⟩⟩
theorem SlN.below (h : SlN N enc w v l) (t : RowKit.Below w.heap.size w w') : SlN N enc w' v l := h.kept (X := fun _ => False) (Tch.of t) (fun _ _ e => e)
theorem SlN.mono (h : SlN N enc w v l) (hN : ∀ b, N b → N' b) : SlN N' enc w v l := by
  obtain ⟨p, cap, rfl, h1, h2, h⟩ := h
  exact ⟨p, cap, rfl, h1, h2, fun hl => by obtain ⟨g, o, e, h3, h5, h4⟩ := h hl; exact ⟨g, o, e, h3, hN g h5, h4⟩⟩
theorem SlN.nil (p : Option Addr) (cap : Nat) (h : cap ≤ maxLen) : SlN N enc w (.slice p 0 cap) ([] : List α) := ⟨p, cap, rfl, Nat.zero_le _, h, fun h => absurd h (Nat.lt_irrefl _)⟩
theorem SlN.of [Inhabited α] {base k et : Nat} (hk : ∀ x, (enc x).length = k) {n : Nat} (h : w.ownsRow base et k v n (flat enc l)) (hn : n = l.length) : SlN (fun b => base ≤ b) enc w v l := by
  obtain ⟨p, cap, rfl, h1, h2, hh⟩ := own_of_row hk h hn
  exact ⟨p, cap, rfl, h1, h2, fun hl => by
    obtain ⟨g, rfl, h3, h4, h5⟩ := hh hl
    exact ⟨g, 0, rfl, h4, h3, fun j u hu => (flat_of_holds hk h5 j u hu).1⟩⟩
/-- What is read out of blocks that are older than a world is not in its new blocks, and so on. -/
theorem Sl.slN (h : Sl enc w v l) : SlN (fun b => b < w.heap.size) enc w v l := by
  obtain ⟨p, cap, rfl, h1, h2, h⟩ := h
  exact ⟨p, cap, rfl, h1, h2, fun hl => by obtain ⟨g, o, e, h3, h4⟩ := h hl; exact ⟨g, o, e, h3, h3, h4⟩⟩
end
/-- At pt is a table of mask q: its handles' column at ph, its map at pm, the column of kind k where f leads; in the blocks M. -/
def TabM (w : World) (M : Nat → Prop) (pt ph pm q : Nat) (f : Int → Option Nat) (H : List Hd) (C : Int → List Vl) : Prop :=
  ∃ (MH : Nat → Prop) (MC : Int → Nat → Prop),
    w.heap[pt]? = some (.cells #[.pointer (some ⟨ph, 0, none⟩), .map (some pm), .int .u64 q] 147 (0, 0)) ∧ MapP w pm 64 f ∧
    ColHT w MH ph H 128 ∧ (∀ k g, f k = some g → ColVT w (MC k) g (C k) 128) ∧
    (∀ b, MH b → M b ∧ b ≠ pt ∧ b ≠ pm ∧ ∀ k, ¬ MC k b) ∧ (∀ k b, MC k b → M b ∧ b ≠ pt ∧ b ≠ pm ∧ ¬ MH b ∧ ∀ k', MC k' b → k' = k) ∧
    M pt ∧ M pm ∧ ∀ b, M b → b < w.heap.size

section
variable {w w' : World} {M X : Nat → Prop} {pt ph pm q : Nat} {f : Int → Option Nat} {H H' : List Hd} {C C' : Int → List Vl}
theorem TabM.head (h : TabM w M pt ph pm q f H C) : w.heap[pt]? = some (.cells #[.pointer (some ⟨ph, 0, none⟩), .map (some pm), .int .u64 q] 147 (0, 0)) := by
  obtain ⟨MH, MC, h1, _⟩ := h
  exact h1
theorem TabM.map (h : TabM w M pt ph pm q f H C) : MapP w pm 64 f := by
  obtain ⟨MH, MC, _, h1, _⟩ := h
  exact h1
theorem TabM.handles (h : TabM w M pt ph pm q f H C) : ∃ MH, ColHT w MH ph H 128 := by
  obtain ⟨MH, MC, _, _, h1, _⟩ := h
  exact ⟨MH, h1⟩
theorem TabM.col (h : TabM w M pt ph pm q f H C) {k : Int} {g : Nat} (hk : f k = some g) : ∃ MC, ColVT w MC g (C k) 128 := by
  obtain ⟨MH, MC, _, _, _, h1, _⟩ := h
  exact ⟨MC k, h1 k g hk⟩
theorem TabM.lt (h : TabM w M pt ph pm q f H C) : ∀ b, M b → b < w.heap.size := by
  obtain ⟨MH, MC, _, _, _, _, _, _, _, _, h1⟩ := h
  exact h1
theorem TabM.mt (h : TabM w M pt ph pm q f H C) : M pt := by
  obtain ⟨MH, MC, _, _, _, _, _, _, h1, _⟩ := h
  exact h1
theorem TabM.mm (h : TabM w M pt ph pm q f H C) : M pm := by
  obtain ⟨MH, MC, _, _, _, _, _, _, _, h1, _⟩ := h
  exact h1
/-- A change elsewhere. -/
theorem TabM.kept (h : TabM w M pt ph pm q f H C) (t : Tch X w w') (hd : ∀ b, M b → ¬ X b) : TabM w' M pt ph pm q f H C := by
  obtain ⟨MH, MC, h1, h2, h3, h4, h5, h6, h7, h8, h9⟩ := h
  exact ⟨MH, MC, t.blk h1 (hd _ h7), h2.blk (t.block pm h2.lt (hd _ h8)), h3.kept t (fun b e => hd b (h5 b e).1), fun k g e => (h4 k g e).kept t (fun b e => hd b (h6 k b e).1), h5, h6, h7, h8, fun b e => Nat.lt_of_lt_of_le (h9 b e) t.size⟩
theorem TabM.below (h : TabM w M pt ph pm q f H C) (t : RowKit.Below w.heap.size w w') : TabM w' M pt ph pm q f H C := h.kept (X := fun _ => False) (Tch.of t) (fun _ _ e => e)
theorem TabM.congr (h : TabM w M pt ph pm q f H C) (eH : H = H') (eC : ∀ k, (f k).isSome = true → C k = C' k) : TabM w M pt ph pm q f H' C' := by
  obtain ⟨MH, MC, h1, h2, h3, h4, h5, h6, h7⟩ := h
  exact ⟨MH, MC, h1, h2, eH ▸ h3, fun k g e => by rw [← eC k (by rw [e]; rfl)]; exact h4 k g e, h5, h6, h7⟩
theorem New.lt (h : ∀ b, M b → b < w.heap.size) (hs : w.heap.size ≤ w'.heap.size) : ∀ b, New M w w' b → b < w'.heap.size := fun b e => e.elim (fun e => Nat.lt_of_lt_of_le (h b e) hs) (fun e => e.2)
/-- The table's blocks that its calls write. -/
def Mc (M : Nat → Prop) (pt pm : Nat) : Nat → Prop := fun b => M b ∧ b ≠ pt ∧ b ≠ pm
theorem Mc.of {M : Nat → Prop} {pt pm : Nat} : ∀ b, Mc M pt pm b → M b := fun b e => e.1
theorem TabM.mono {M' : Nat → Prop} (h : TabM w M pt ph pm q f H C) (hM : ∀ b, M b → M' b) (hl : ∀ b, M' b → b < w.heap.size) : TabM w M' pt ph pm q f H C := by
  obtain ⟨MH, MC, h1, h2, h3, h4, h5, h6, h7, h8, h9⟩ := h
  exact ⟨MH, MC, h1, h2, h3, h4, fun b e => ⟨hM b (h5 b e).1, (h5 b e).2⟩, fun k b e => ⟨hM b (h6 k b e).1, (h6 k b e).2⟩, hM _ h7, hM _ h8, hl⟩
/-- The handles' column is asked. -/
theorem TabM.askH (h : TabM w M pt ph pm q f H C) {P : Ending → Prop} {fn : FuncId} {args : Array Value}
    (hc : ∀ MH, ColHT w MH ph H 128 → Calls Tryz.prog fn args w fun e w' => P e ∧ ColHT w' (New MH w w') ph H' 128 ∧ Tch MH w w') :
    Calls Tryz.prog fn args w fun e w' => P e ∧ TabM w' (New M w w') pt ph pm q f H' C ∧ Tch (Mc M pt pm) w w' := by
  obtain ⟨MH, MC, h1, h2, h3, h4, h5, h6, h7, h8, h9⟩ := h
  refine (hc _ h3).mono fun e w' ⟨he, hp, ht⟩ => ⟨he, ⟨New MH w w', MC, ht.blk h1 (fun e => (h5 _ e).2.1 rfl), h2.blk (ht.block pm h2.lt (fun e => (h5 _ e).2.2.1 rfl)), hp, fun k g e => (h4 k g e).kept ht (fun b e1 e2 => (h6 k b e1).2.2.2.1 e2), fun b e => ?_, fun k b e => ?_, .inl h7, .inl h8, New.lt h9 ht.size⟩, ht.mono fun b e => ⟨(h5 b e).1, (h5 b e).2.1, (h5 b e).2.2.1⟩⟩
  · rcases e with e | e
    · exact ⟨.inl (h5 b e).1, (h5 b e).2⟩
    · exact ⟨.inr e, fun q => by have := h9 _ h7; omega, fun q => by have := h9 _ h8; omega, fun k q => by have := h9 _ (h6 k b q).1; omega⟩
  · refine ⟨.inl (h6 k b e).1, (h6 k b e).2.1, (h6 k b e).2.2.1, fun q => ?_, (h6 k b e).2.2.2.2⟩
    rcases q with q | q
    · exact (h6 k b e).2.2.2.1 q
    · have := h9 _ (h6 k b e).1; omega
/-- The column of a kind is asked. -/
theorem TabM.askC (h : TabM w M pt ph pm q f H C) {k : Int} {g : Nat} (hk : f k = some g) {L' : List Vl} {P : Ending → Prop} {fn : FuncId} {args : Array Value}
    (hc : ∀ MC, ColVT w MC g (C k) 128 → Calls Tryz.prog fn args w fun e w' => P e ∧ ColVT w' (New MC w w') g L' 128 ∧ Tch MC w w') :
    Calls Tryz.prog fn args w fun e w' => P e ∧ TabM w' (New M w w') pt ph pm q f H (fun x => if x = k then L' else C x) ∧ Tch (Mc M pt pm) w w' := by
  obtain ⟨MH, MC, h1, h2, h3, h4, h5, h6, h7, h8, h9⟩ := h
  refine (hc _ (h4 k g hk)).mono fun e w' ⟨he, hp, ht⟩ => ⟨he, ⟨MH, fun x => if x = k then New (MC k) w w' else MC x, ht.blk h1 (fun e => (h6 _ _ e).2.1 rfl), h2.blk (ht.block pm h2.lt (fun e => (h6 _ _ e).2.2.1 rfl)), h3.kept ht (fun b e1 e2 => (h5 b e1).2.2.2 k e2), fun x g' e => ?_, fun b e => ?_, fun x b e => ?_, .inl h7, .inl h8, New.lt h9 ht.size⟩, ht.mono fun b e => ⟨(h6 k b e).1, (h6 k b e).2.1, (h6 k b e).2.2.1⟩⟩
  · show ColVT w' (if x = k then New (MC k) w w' else MC x) g' (if x = k then L' else C x) 128
    by_cases c : x = k
    · subst c
      rw [hk] at e
      obtain rfl := Option.some.inj e
      rw [if_pos rfl, if_pos rfl]
      exact hp
    · rw [if_neg c, if_neg c]
      exact (h4 x g' e).kept ht (fun b e1 e2 => c ((h6 k b e2).2.2.2.2 x e1))
  · refine ⟨.inl (h5 b e).1, (h5 b e).2.1, (h5 b e).2.2.1, fun x q => ?_⟩
    replace q : (if x = k then New (MC k) w w' else MC x) b := q
    by_cases c : x = k
    · rw [if_pos c] at q
      rcases q with q | q
      · exact (h5 b e).2.2.2 k q
      · have := h9 _ (h5 b e).1; omega
    · rw [if_neg c] at q
      exact (h5 b e).2.2.2 x q
  · have key : ∀ y, (if y = k then New (MC k) w w' else MC y) b → (w.heap.size ≤ b ∧ y = k) ∨ MC y b := fun y q => by
      by_cases c : y = k
      · rw [if_pos c] at q
        rcases q with q | q
        · exact .inr (c ▸ q)
        · exact .inl ⟨q.1, c⟩
      · rw [if_neg c] at q
        exact .inr q
    replace e : (if x = k then New (MC k) w w' else MC x) b := e
    by_cases c : MC x b
    · refine ⟨.inl (h6 x b c).1, (h6 x b c).2.1, (h6 x b c).2.2.1, (h6 x b c).2.2.2.1, fun y q => ?_⟩
      rcases key y q with q | q
      · have := h9 _ (h6 x b c).1; omega
      · exact (h6 x b c).2.2.2.2 y q
    · have d : w.heap.size ≤ b ∧ x = k := (key x e).resolve_right c
      have e' := e
      rw [if_pos d.2] at e'
      refine ⟨e'.imp (fun q => (h6 k b q).1) id, fun q => ?_, fun q => ?_, fun q => ?_, fun y q => ?_⟩
      · have := h9 _ h7; omega
      · have := h9 _ h8; omega
      · have := h9 _ (h5 b q).1; omega
      · rcases key y q with q | q
        · exact q.2.trans d.2.symm
        · have := h9 _ (h6 y b q).1; omega
end

/-! ### Rows of a mask's kinds. -/
abbrev En := Hd × List Vl
def EntOk (q : Nat) (r : En) : Prop := r.2.map (fun x => x.1) = Ks q ∧ ∀ x ∈ r.2, chk x = 0
def colK (R : List En) (k : Int) : List Vl := R.map fun r => fndV r.2 k
theorem ent_right {q : Nat} {r : En} (h : EntOk q r) : RightV r.2 := ⟨by have := Ks_rise q; rw [← h.1, List.pairwise_map] at this; exact this, h.2⟩
theorem ent_of {q : Nat} {l : List Vl} {h : Hd} (hr : rightB l = true) (hm : maskV l = q) : EntOk q (h, l) := by
  have hR := (rightB_iff l).1 hr
  have hq : q < 1024 := hm ▸ mask_lt hR
  exact ⟨(row_of_mask hR hq).1 hm, hR.2⟩
theorem find_of_mem {l : List Vl} (hr : RightV l) {x : Vl} (hx : x ∈ l) : fndV l x.1 = x := by unfold fndV; rw [find_rise hr.1 hx]; rfl
theorem has_of_mem {l : List Vl} (hr : RightV l) {x : Vl} (hx : x ∈ l) : hasK l x.1 = true := by unfold hasK; rw [find_rise hr.1 hx]; rfl
theorem has_iff {q : Nat} {r : En} (h : EntOk q r) (k : Int) : hasK r.2 k = decide (k ∈ Ks q) := by
  by_cases c : k ∈ Ks q
  · rw [decide_eq_true c]
    rw [← h.1, List.mem_map] at c
    obtain ⟨x, hx, rfl⟩ := c
    exact has_of_mem (ent_right h) hx
  · rw [decide_eq_false c]
    unfold hasK
    cases e : findV r.2 k with
    | none => rfl
    | some x =>
      obtain ⟨h1, h2⟩ := find_some e
      exact absurd (by rw [← h.1, ← h2]; exact List.mem_map_of_mem h1) c
/-- A row is its components by its kinds. -/
theorem ent_vals {q : Nat} {r : En} (h : EntOk q r) : (Ks q).map (fun k => fndV r.2 k) = r.2 := by
  rw [← h.1, List.map_map]
  refine (List.map_congr_left fun x hx => ?_).trans (List.map_id' _)
  exact find_of_mem (ent_right h) hx
theorem ent_len {q : Nat} {r : En} (h : EntOk q r) : r.2.length = (Ks q).length := by rw [← h.1, List.length_map]
theorem ent_put {q : Nat} {r : En} (h : EntOk q r) {v : Vl} (hv : chk v = 0) (hk : v.1 ∈ Ks q) : EntOk q (r.1, putV r.2 v) := by
  have hR := putV_right (ent_right h) hv
  refine ⟨rise_int (List.pairwise_map.2 hR.1) (Ks_rise q) fun k => ?_, hR.2⟩
  rw [List.mem_map]
  constructor
  · rintro ⟨x, hx, rfl⟩
    rcases (mem_putV _ _ _).1 hx with e | e
    · rw [e]; exact hk
    · rw [← h.1]; exact List.mem_map_of_mem e.1
  · intro hk'
    by_cases c : k = v.1
    · exact ⟨v, (mem_putV _ _ _).2 (.inl rfl), c.symm⟩
    · rw [← h.1, List.mem_map] at hk'
      obtain ⟨x, hx, rfl⟩ := hk'
      exact ⟨x, (mem_putV _ _ _).2 (.inr ⟨hx, c⟩), rfl⟩
theorem put_fnd {q : Nat} {r : En} (h : EntOk q r) {v : Vl} (hv : chk v = 0) (hk : v.1 ∈ Ks q) {k : Int} (hk2 : k ∈ Ks q) : fndV (putV r.2 v) k = if k = v.1 then v else fndV r.2 k := by
  have hR := putV_right (ent_right h) hv
  by_cases c : k = v.1
  · rw [if_pos c, c]
    exact find_of_mem hR ((mem_putV _ _ _).2 (.inl rfl))
  · rw [if_neg c]
    rw [← h.1, List.mem_map] at hk2
    obtain ⟨x, hx, rfl⟩ := hk2
    rw [find_of_mem (ent_right h) hx]
    exact find_of_mem hR ((mem_putV _ _ _).2 (.inr ⟨hx, c⟩))

/-- A table of the rows R. -/
def Tab (w : World) (M : Nat → Prop) (pt q : Nat) (R : List En) : Prop :=
  ∃ ph pm f, TabM w M pt ph pm q f (R.map fun r => r.1) (colK R) ∧ q < 1024 ∧ (∀ k, (f k).isSome = decide (k ∈ Ks q)) ∧ (∀ r ∈ R, EntOk q r) ∧ R.length ≤ 128
section
variable {w w' : World} {M X : Nat → Prop} {pt q : Nat} {R : List En}
theorem Tab.kept (h : Tab w M pt q R) (t : Tch X w w') (hd : ∀ b, M b → ¬ X b) : Tab w' M pt q R := by
  obtain ⟨ph, pm, f, h1, h2⟩ := h
  exact ⟨ph, pm, f, h1.kept t hd, h2⟩
theorem Tab.below (h : Tab w M pt q R) (t : RowKit.Below w.heap.size w w') : Tab w' M pt q R := h.kept (X := fun _ => False) (Tch.of t) (fun _ _ e => e)
theorem Tab.mono {M' : Nat → Prop} (h : Tab w M pt q R) (hM : ∀ b, M b → M' b) (hl : ∀ b, M' b → b < w.heap.size) : Tab w M' pt q R := by
  obtain ⟨ph, pm, f, h1, h2⟩ := h
  exact ⟨ph, pm, f, h1.mono hM hl, h2⟩
/-- What a later world's call has made is new since an earlier one. -/
theorem Tab.into {w2 w3 : World} (h : Tab w3 (New M w2 w3) pt q R) (hl : ∀ b, M b → b < w.heap.size) (h1 : w.heap.size ≤ w2.heap.size) (h2 : w2.heap.size ≤ w3.heap.size) : Tab w3 (New M w w3) pt q R :=
  h.mono (fun b e => e.imp id fun e => ⟨by omega, e.2⟩) (New.lt hl (by omega))
theorem Tab.lt (h : Tab w M pt q R) : ∀ b, M b → b < w.heap.size := by
  obtain ⟨ph, pm, f, h1, _⟩ := h
  exact h1.lt
theorem Tab.size (h : Tab w M pt q R) : R.length ≤ 128 := by
  obtain ⟨ph, pm, f, _, _, _, _, h1⟩ := h
  exact h1
theorem Tab.ok (h : Tab w M pt q R) : ∀ r ∈ R, EntOk q r := by
  obtain ⟨ph, pm, f, _, _, _, h1, _⟩ := h
  exact h1
theorem Tab.hq (h : Tab w M pt q R) : q < 1024 := by
  obtain ⟨ph, pm, f, _, h1, _⟩ := h
  exact h1
theorem Tab.mt (h : Tab w M pt q R) : M pt := by
  obtain ⟨ph, pm, f, h1, _⟩ := h
  exact h1.mt
end

/-- The errors' variables that the code reads. -/
structure Er7 (w : World) (A : Nat → Addr) : Prop where
  er : Er w A
  full : w.cell? ⟨1, 0, none⟩ = some (.iface 258 (.pointer (some (A 1))))
  form : w.cell? ⟨6, 0, none⟩ = some (.iface 258 (.pointer (some (A 6))))
theorem Er7.below {w w' : World} {A : Nat → Addr} (h : Er7 w A) (hb : RowKit.Below w.heap.size w w') : Er7 w' A :=
  ⟨h.er.below hb, Bc hb (cell_lt h.full) h.full, Bc hb (cell_lt h.form) h.form⟩
/-- An error of a number. -/
abbrev errC (A : Nat → Addr) (n : Nat) : Value := .iface 258 (.pointer (some (A n)))
end Go.Proofs.YtaehendpdfpibaaGreatDoor

/-
  The table's calls that only ask: Len, Mask, Handle, Handles, the column of a kind, Get.
-/
namespace Go.Proofs.YtaehendpdfpibaaGreatDoor
set_option linter.unusedSimpArgs false
set_option linter.unusedVariables false
open Go.RowKit Go.Sort Go.Lib Go.Shelf

section
variable {w : World} {M : Nat → Prop} {pt q : Nat} {R : List En} {A : Nat → Addr}
abbrev ptP (pt : Nat) : Value := .pointer (some ⟨pt, 0, none⟩)
theorem tlen_call (h : Tab w M pt q R) : Calls Tryz.prog 85 #[ptP pt] w fun e w' => e = .returned (.int .i64 R.length) ∧ w = w' := by
  obtain ⟨ph, pm, f, hT, _⟩ := h
  obtain ⟨MH, hH⟩ := hT.handles
  have HL := Lib.hid (lenH_call hH)
  rw [List.length_map] at HL
  obtain ⟨⟨c0, c1, c2⟩, f0, f1, f2⟩ := three_cells hT.head
  have hl := cell_lt c0
  clear hT hH
  go_enter Tryz.func85, Tryz.ntmps85
  go_wp2_with fail
  refine HL.out.mono ?_
  rintro e w1 ⟨rfl, rfl⟩
  go_wp2
  go_ret
  exact ⟨rfl, rfl⟩
theorem tmask_call (h : Tab w M pt q R) : Calls Tryz.prog 41 #[ptP pt] w fun e w' => e = .returned (.int .u64 q) ∧ w = w' := by
  obtain ⟨ph, pm, f, hT, _⟩ := h
  obtain ⟨⟨c0, c1, c2⟩, f0, f1, f2⟩ := three_cells hT.head
  have hl := cell_lt c0
  clear hT
  go_enter Tryz.func41, Tryz.ntmps41
  go_wp2
  go_ret
  exact ⟨rfl, rfl⟩
set_option maxHeartbeats 1000000 in
theorem thandle_yes (h : Tab w M pt q R) (n : Nat) (hn : n < R.length) : Calls Tryz.prog 84 #[ptP pt, .int .i64 n] w fun e w' => e = .returned (.tuple #[aggH R[n]!.1, .nilIface]) ∧ RowKit.Below w.heap.size w w' := by
  obtain ⟨ph, pm, f, hT, _⟩ := h
  obtain ⟨MH, hH⟩ := hT.handles
  have HG : Hid (∀ W, RowKit.Below w.heap.size w W → Calls Tryz.prog 132 #[ptP ph, .int .i64 n] W fun e w' => e = .returned (.tuple #[aggH R[n]!.1, .nilIface]) ∧ RowKit.Below W.heap.size W w') := fun W hb => by
    have := getH_yes (hH.below hb) n (by simpa using hn)
    rwa [getElem!_pos (R.map fun r => r.1) n (by simpa using hn), List.getElem_map, ← getElem!_pos R n hn] at this
  obtain ⟨⟨c0, c1, c2⟩, f0, f1, f2⟩ := three_cells hT.head
  have hl := cell_lt c0
  clear hT hH
  unfold aggH at *
  generalize R[n]!.1 = x at *
  obtain ⟨x1, x2⟩ := x
  dsimp only at *
  go_enter Tryz.func84, Tryz.ntmps84
  go_wp2_with fail
  refine (HG.out _ (Ba (Below.refl _ w) _)).mono ?_
  rintro e w1 ⟨rfl, hb1⟩
  have b1 := blk_below (heap_alloc_new w (.cells #[.int .i64 0, .int .i64 0] 31)) hb1
  obtain ⟨r0, r1, r2, r3⟩ := two_cells b1
  have hr := cell_lt r0
  have B1 := Lib.hid (Bt (Ba (Below.refl _ w) (.cells #[.int .i64 0, .int .i64 0] 31)) hb1)
  clear hb1 b1
  go_wp2
  exact bodyPost_ret (v := .tuple #[.agg #[.int .i64 x1, .int .i64 x2], .nilIface]) (by simp [results, Tryz.results84, go_sem, *]) rfl ⟨rfl, Bs (Bs B1.out (Nat.le_refl _) _) (Nat.le_refl _) _⟩
set_option maxHeartbeats 1000000 in
theorem thandle_no (h : Tab w M pt q R) (i : Int) (hn : ¬ (0 ≤ i ∧ i < R.length)) (hE : Er7 w A) : Calls Tryz.prog 84 #[ptP pt, .int .i64 i] w fun e w' => e = .returned (.tuple #[.agg #[.int .i64 0, .int .i64 0], errC A 0]) ∧ RowKit.Below w.heap.size w w' := by
  obtain ⟨ph, pm, f, hT, _⟩ := h
  obtain ⟨MH, hH⟩ := hT.handles
  have HG : Hid (∀ W, RowKit.Below w.heap.size w W → Calls Tryz.prog 132 #[ptP ph, .int .i64 i] W fun e w' => e = .returned (.tuple #[.agg #[.int .i64 0, .int .i64 0], errC A 0]) ∧ RowKit.Below W.heap.size W w') := fun W hb =>
    getH_no (hH.below hb) i (by simpa using hn) _ _ (hE.below hb).er.range
  obtain ⟨⟨c0, c1, c2⟩, f0, f1, f2⟩ := three_cells hT.head
  have hl := cell_lt c0
  clear hT hH hE hn
  unfold errC at *
  generalize A 0 = ea at *
  go_enter Tryz.func84, Tryz.ntmps84
  go_wp2_with fail
  refine (HG.out _ (Ba (Below.refl _ w) _)).mono ?_
  rintro e w1 ⟨rfl, hb1⟩
  have b1 := blk_below (heap_alloc_new w (.cells #[.int .i64 0, .int .i64 0] 31)) hb1
  obtain ⟨r0, r1, r2, r3⟩ := two_cells b1
  have hr := cell_lt r0
  have B1 := Lib.hid (Bt (Ba (Below.refl _ w) (.cells #[.int .i64 0, .int .i64 0] 31)) hb1)
  clear hb1 b1
  go_wp2
  exact bodyPost_ret (v := .tuple #[.agg #[.int .i64 0, .int .i64 0], .iface 258 (.pointer (some ea))]) (by simp [results, Tryz.results84, go_sem, *]) rfl ⟨rfl, Bs (Bs B1.out (Nat.le_refl _) _) (Nat.le_refl _) _⟩
theorem thandles_call (h : Tab w M pt q R) : Calls Tryz.prog 97 #[ptP pt] w fun e w' => ∃ v, e = .returned v ∧ Sl encH w' v (R.map fun r => r.1) ∧ RowKit.Below w.heap.size w w' := by
  have hs := h.size
  obtain ⟨ph, pm, f, hT, _⟩ := h
  obtain ⟨MH, hH⟩ := hT.handles
  have HL := Lib.hid (allH_call hH (by simp; omega))
  obtain ⟨⟨c0, c1, c2⟩, f0, f1, f2⟩ := three_cells hT.head
  have hl := cell_lt c0
  clear hT hH
  go_enter Tryz.func97, Tryz.ntmps97
  go_wp2_with fail
  refine HL.out.mono ?_
  rintro e w1 ⟨v, rfl, ho, hb1⟩
  have S := Lib.hid (row_sl lenH ho rfl)
  clear ho
  go_wp2
  go_ret
  exact ⟨v, rfl, S.out, hb1⟩

/-! ### The column of a kind. -/
set_option maxHeartbeats 2000000 in
theorem tcol_no (h : Tab w M pt q R) (i k : Int) (hn : ¬ (0 ≤ i ∧ i < R.length)) (hE : Er7 w A) : Calls Tryz.prog 98 #[ptP pt, .int .i64 i, .int .i64 k] w fun e w' => e = .returned (.tuple #[.pointer none, errC A 0]) ∧ RowKit.Below w.heap.size w w' := by
  have HH := Lib.hid (thandle_no h i hn hE)
  clear h hn hE
  unfold errC at *
  generalize A 0 = ea at *
  go_enter Tryz.func98, Tryz.ntmps98
  go_wp2_with fail
  refine HH.out.mono ?_
  rintro e w1 ⟨rfl, hb1⟩
  go_wp2
  go_ret2
  exact ⟨rfl, (by repeat (first | with_reducible exact Below.refl _ _ | with_reducible assumption | with_reducible apply Ba | with_reducible apply Bd | with_reducible apply Bn | with_reducible apply Bg | (with_reducible refine Bs ?_ (by first | (simp; done) | (simp; omega)) _) | (with_reducible refine Bt ?_ (by assumption)) | (with_reducible refine Bt ?_ (Gr.below (by assumption)))))⟩
set_option maxHeartbeats 2000000 in
theorem tcol_kind (h : Tab w M pt q R) (n : Nat) (hn : n < R.length) (k : Int) (hk : k ∉ Ks q) (hkw : (Lit.int .i64 k).wf = true) (hE : Er7 w A) : Calls Tryz.prog 98 #[ptP pt, .int .i64 n, .int .i64 k] w fun e w' => e = .returned (.tuple #[.pointer none, errC A 4]) ∧ RowKit.Below w.heap.size w w' := by
  have HH := Lib.hid (thandle_yes h n hn)
  obtain ⟨ph, pm, f, hT, _, hf, _⟩ := h
  have hfk : f k = none := by
    have := hf k
    rw [decide_eq_false hk] at this
    exact Option.isSome_eq_false_iff.1 this |> Option.isNone_iff_eq_none.1
  have HT := Lib.hid hT
  have HE := Lib.hid hE
  clear hT hf hk hE
  unfold aggH errC at *
  generalize R[n]!.1 = x at *
  obtain ⟨x1, x2⟩ := x
  dsimp only at *
  go_enter Tryz.func98, Tryz.ntmps98
  go_wp2_with fail
  refine HH.out.mono ?_
  rintro e w1 ⟨rfl, hb1⟩
  obtain ⟨W, hW⟩ : ∃ W, W = w1.alloc (.cells #[.int .i64 x1, .int .i64 x2] 31) := ⟨_, rfl⟩
  have BW := Lib.hid (show RowKit.Below w.heap.size w W by rw [hW]; exact Ba hb1 _)
  have hm := (HT.out.below BW.out).map.look k hkw
  rw [hfk] at hm
  dsimp only [ptrV] at hm
  obtain ⟨⟨c0, c1, c2⟩, f0, f1, f2⟩ := three_cells (HT.out.below BW.out).head
  have hl := cell_lt c0
  have hE2 := (HE.out.below BW.out).er.kind
  rw [hW] at hm c0 c1 c2 f0 f1 f2 hl hE2
  rw [hW] at BW
  clear hW hfk
  go_wp2_with fail
  go_region
  go_wp2
  go_ret2
  exact ⟨rfl, BW.out.drew⟩
set_option maxHeartbeats 2000000 in
theorem tcol_yes (h : Tab w M pt q R) (n : Nat) (hn : n < R.length) (k : Int) (hkw : (Lit.int .i64 k).wf = true) {ph pm : Nat} {f : Int → Option Nat} (hT : TabM w M pt ph pm q f (R.map fun r => r.1) (colK R)) {g : Nat} (hfk : f k = some g) : Calls Tryz.prog 98 #[ptP pt, .int .i64 n, .int .i64 k] w fun e w' => e = .returned (.tuple #[ptP g, .nilIface]) ∧ RowKit.Below w.heap.size w w' := by
  have HH := Lib.hid (thandle_yes h n hn)
  have HT := Lib.hid hT
  clear hT h
  unfold aggH at *
  generalize R[n]!.1 = x at *
  obtain ⟨x1, x2⟩ := x
  dsimp only at *
  go_enter Tryz.func98, Tryz.ntmps98
  go_wp2_with fail
  refine HH.out.mono ?_
  rintro e w1 ⟨rfl, hb1⟩
  obtain ⟨W, hW⟩ : ∃ W, W = w1.alloc (.cells #[.int .i64 x1, .int .i64 x2] 31) := ⟨_, rfl⟩
  have BW := Lib.hid (show RowKit.Below w.heap.size w W by rw [hW]; exact Ba hb1 _)
  have hm := (HT.out.below BW.out).map.look k hkw
  rw [hfk] at hm
  dsimp only [ptrV] at hm
  obtain ⟨⟨c0, c1, c2⟩, f0, f1, f2⟩ := three_cells (HT.out.below BW.out).head
  have hl := cell_lt c0
  rw [hW] at hm c0 c1 c2 f0 f1 f2 hl
  rw [hW] at BW
  clear hW hfk
  go_wp2
  go_ret2
  exact ⟨rfl, BW.out⟩
end
end Go.Proofs.YtaehendpdfpibaaGreatDoor
