/-
  The calls of Column[paddock/api.Handle], at a column in memory.
-/
import Derived.Test.YtknfmjjlfhfocaaDoorCo
import Derived.Test.YtknfmjjlfhfocaaDoorVl
import Derived.Lib.SliceRun
import Derived.Shelf.SlSortCmp.QuietGrown
import Derived.Deep.LoopGhost
namespace Go.Proofs.YtknfmjjlfhfocaaDoor
set_option linter.unusedSimpArgs false
set_option linter.unusedVariables false
open Go.RowKit Go.Sort Go.Lib Go.Shelf

section
variable {pa : Nat} {L : List Hd} {m : Int} {M : Nat → Prop} {w : World}
/-- A column of this type. -/
abbrev ColH (w : World) (M : Nat → Prop) (pa : Nat) (L : List Hd) (m : Int) : Prop := ColAt encH 38 2 111 w M pa L m

theorem newH_call (m : Int) (w : World) : Calls Tryd.prog 35 #[.int .i64 m] w (ColNew encH 38 2 111 w [] (max m 0)) := by
  have X := Lib.hid (col_made (enc := encH) (et := 38) (k := 2) (w := w) (L := []) (v := .slice none 0 0) (Below.refl _ w) (World.ownsRow_nil _ _ _ _) 111 (max m 0))
  go_enter Tryd.func35, Tryd.ntmps35
  go_wp2
  go_ret
  exact ⟨_, rfl, X.out.at, (by repeat (first | with_reducible exact Below.refl _ _ | with_reducible assumption | with_reducible apply Ba | with_reducible apply Bd | with_reducible apply Bn | with_reducible apply Bg | (with_reducible refine Bs ?_ (by first | (simp; done) | (simp; omega)) _) | (with_reducible refine Bt ?_ (by assumption)) | (with_reducible refine Bt ?_ (Gr.below (by assumption)))))⟩

theorem isPlaceH_call (hp : ColH w M pa L m) (i : Int) : Calls Tryd.prog 70 #[.pointer (some ⟨pa, 0, none⟩), .int .i64 i] w fun e w' => e = .returned (.bool (decide (0 ≤ i ∧ i < L.length))) ∧ w = w' := by
  obtain ⟨p, cap, hi, h1, h2, _⟩ := hp.open
  have hl := hi.lt
  obtain ⟨c0, c1, f0, f1⟩ := hi.cells
  clear hi hp
  by_cases a : 0 ≤ i
  · by_cases b : i < L.length
    · have e : decide (0 ≤ i ∧ i < L.length) = true := decide_eq_true ⟨a, b⟩
      rw [e]
      clear e
      go_enter Tryd.func70, Tryd.ntmps70
      go_wp2
      go_ret
      exact ⟨rfl, rfl⟩
    · have e : decide (0 ≤ i ∧ i < L.length) = false := decide_eq_false (fun h => b h.2)
      rw [e]
      clear e
      go_enter Tryd.func70, Tryd.ntmps70
      go_wp2
      go_ret
      exact ⟨rfl, rfl⟩
  · have e : decide (0 ≤ i ∧ i < L.length) = false := decide_eq_false (fun h => a h.1)
    rw [e]
    clear e
    go_enter Tryd.func70, Tryd.ntmps70
    go_wp2
    go_ret
    exact ⟨rfl, rfl⟩

theorem lenH_call (hp : ColH w M pa L m) : Calls Tryd.prog 50 #[.pointer (some ⟨pa, 0, none⟩)] w fun e w' => e = .returned (.int .i64 L.length) ∧ w = w' := by
  obtain ⟨p, cap, hi, h1, h2, _⟩ := hp.open
  have hl := hi.lt
  obtain ⟨c0, c1, f0, f1⟩ := hi.cells
  clear hi hp
  go_enter Tryd.func50, Tryd.ntmps50
  go_wp2
  go_ret
  exact ⟨rfl, rfl⟩

set_option maxHeartbeats 1000000 in
set_option maxRecDepth 100000 in
theorem getH_yes (hp : ColH w M pa L m) (n : Nat) (hn : n < L.length) : Calls Tryd.prog 52 #[.pointer (some ⟨pa, 0, none⟩), .int .i64 n] w fun e w' => e = .returned (.tuple #[aggH L[n]!, .nilIface]) ∧ RowKit.Below w.heap.size w w' := by
  have hP : Hid (∀ W, RowKit.Below w.heap.size w W → Calls Tryd.prog 70 #[.pointer (some ⟨pa, 0, none⟩), .int .i64 n] W fun e w' => e = .returned (.bool true) ∧ W = w') := fun W h => by
    have := isPlaceH_call (hp.below h) n
    rwa [decide_eq_true (show 0 ≤ (n : Int) ∧ (n : Int) < L.length from ⟨by omega, by omega⟩)] at this
  obtain ⟨p, cap, hi, h1, h2, h3⟩ := hp.open
  obtain ⟨g, rfl, hg⟩ := h3 (by omega)
  have hl := hi.lt
  obtain ⟨c0, c1, f0, f1⟩ := hi.cells
  obtain ⟨⟨d1, d2⟩, _⟩ := rowH hi.2.2.1 hn
  clear hi hp h3
  unfold aggH
  generalize L[n]! = x at *
  obtain ⟨x1, x2⟩ := x
  dsimp only at *
  go_enter Tryd.func52, Tryd.ntmps52
  go_wp2_with fail
  refine (hP.out _ (Ba (Below.refl _ w) _)).mono ?_
  rintro e w1 ⟨rfl, rfl⟩
  go_wp2
  exact bodyPost_ret (v := .tuple #[.agg #[.int .i64 x1, .int .i64 x2], .nilIface]) (by simp [results, Tryd.results52, go_sem, *]) rfl ⟨rfl, (by repeat (first | with_reducible exact Below.refl _ _ | with_reducible assumption | with_reducible apply Ba | with_reducible apply Bd | with_reducible apply Bn | with_reducible apply Bg | (with_reducible refine Bs ?_ (by first | (simp; done) | (simp; omega)) _) | (with_reducible refine Bt ?_ (by assumption)) | (with_reducible refine Bt ?_ (Gr.below (by assumption)))))⟩
set_option maxHeartbeats 1000000 in
set_option maxRecDepth 100000 in
theorem getH_no (hp : ColH w M pa L m) (i : Int) (hn : ¬ (0 ≤ i ∧ i < L.length)) (t : TypeId) (v : Value) (hE : w.cell? ⟨1, 0, none⟩ = some (.iface t v)) : Calls Tryd.prog 52 #[.pointer (some ⟨pa, 0, none⟩), .int .i64 i] w fun e w' => e = .returned (.tuple #[.agg #[.int .i64 0, .int .i64 0], .iface t v]) ∧ RowKit.Below w.heap.size w w' := by
  have hP : Hid (∀ W, RowKit.Below w.heap.size w W → Calls Tryd.prog 70 #[.pointer (some ⟨pa, 0, none⟩), .int .i64 i] W fun e w' => e = .returned (.bool false) ∧ W = w') := fun W h => by
    have := isPlaceH_call (hp.below h) i
    rwa [decide_eq_false hn] at this
  have hel := cell_lt hE
  clear hp hn
  go_enter Tryd.func52, Tryd.ntmps52
  go_wp2_with fail
  refine (hP.out _ (Ba (Below.refl _ w) _)).mono ?_
  rintro e w1 ⟨rfl, rfl⟩
  have hE2 : ((w.alloc (.cells #[.int .i64 0, .int .i64 0] 38)).alloc (.cells #[.int .i64 0, .int .i64 0] 38)).cell? ⟨1, 0, none⟩ = some (.iface t v) := Bc (W := w) (by repeat (first | with_reducible exact Below.refl _ _ | with_reducible assumption | with_reducible apply Ba | with_reducible apply Bd | with_reducible apply Bn | with_reducible apply Bg | (with_reducible refine Bs ?_ (by first | (simp; done) | (simp; omega)) _) | (with_reducible refine Bt ?_ (by assumption)) | (with_reducible refine Bt ?_ (Gr.below (by assumption))))) hel hE
  go_wp2_with fail
  go_region
  all_goals
    go_wp2
    exact bodyPost_ret (v := .tuple #[.agg #[.int .i64 0, .int .i64 0], .iface t v]) (by simp [results, Tryd.results52, go_sem, *]) rfl ⟨rfl, (by repeat (first | with_reducible exact Below.refl _ _ | with_reducible assumption | with_reducible apply Ba | with_reducible apply Bd | with_reducible apply Bn | with_reducible apply Bg | (with_reducible refine Bs ?_ (by first | (simp; done) | (simp; omega)) _) | (with_reducible refine Bt ?_ (by assumption)) | (with_reducible refine Bt ?_ (Gr.below (by assumption)))))⟩

set_option maxHeartbeats 1000000 in
set_option maxRecDepth 100000 in
theorem pushH_no (hp : ColH w M pa L m) (l : List Hd) (vl : Value) (hv : Sl encH w vl l) (hm : 0 ≤ m) (hm2 : m ≤ 9223372036854775807) (hn : m - L.length < l.length) (t : TypeId) (v : Value) (hE : w.cell? ⟨2, 0, none⟩ = some (.iface t v)) :
    Calls Tryd.prog 39 #[.pointer (some ⟨pa, 0, none⟩), vl] w fun e w' => e = .returned (.iface t v) ∧ RowKit.Below w.heap.size w w' := by
  obtain ⟨p, cap, hi, h1, h2, h3⟩ := hp.open
  have hl := hi.lt
  obtain ⟨c0, c1, f0, f1⟩ := hi.cells
  obtain ⟨p2, cap2, rfl, q1, q2, _⟩ := hv
  unfold maxLen at q2
  clear hi hp h3
  go_enter Tryd.func39, Tryd.ntmps39
  go_wp2_with fail
  go_quiet (fail)
  go_wp2
  go_ret
  exact ⟨rfl, (by repeat (first | with_reducible exact Below.refl _ _ | with_reducible assumption | with_reducible apply Ba | with_reducible apply Bd | with_reducible apply Bn | with_reducible apply Bg | (with_reducible refine Bs ?_ (by first | (simp; done) | (simp; omega)) _) | (with_reducible refine Bt ?_ (by assumption)) | (with_reducible refine Bt ?_ (Gr.below (by assumption)))))⟩
set_option maxHeartbeats 2000000 in
set_option maxRecDepth 100000 in
theorem pushH_yes (hp : ColH w M pa L m) (l : List Hd) (vl : Value) (hv : Sl encH w vl l) (hm : 0 ≤ m) (hm2 : m ≤ 9223372036854775807) (hn : ¬ m - L.length < l.length) (hlen : L.length + l.length ≤ 1000000) :
    Calls Tryd.prog 39 #[.pointer (some ⟨pa, 0, none⟩), vl] w fun e w' => e = .returned .nilIface ∧ ColH w' (New M w w') pa (L ++ l) m ∧ Tch M w w' := by
  obtain ⟨p, cap, hi, h1, h2, h3⟩ := hp.open
  have hl := hi.lt
  obtain ⟨c0, c1, f0, f1⟩ := hi.cells
  have HV := Lib.hid hv
  obtain ⟨p2, cap2, rfl, q1, q2, _⟩ := hv
  unfold maxLen at q2
  have HI := Lib.hid hi
  clear hi hp h3
  go_enter Tryd.func39, Tryd.ntmps39
  go_wp2_with fail
  go_quiet (fail)
  have P1 := Lib.hid (HI.out.below (Bn (Below.refl _ w)) : ColIs encH 38 2 111 (w.drewN nq) M pa _ L m)
  have V1 := Lib.hid (HV.out.below (Bn (Below.refl _ w)) : Sl encH (w.drewN nq) _ l)
  go_wp2_with (at_builtin; refine wpl_app2 apH rfl _ _ rfl 0 (by rfl) (by rfl) P1.out.2.2.1 rfl V1.out hlen (Nat.zero_le _) ?_; intro v4 w4 hown4 hgrow4 hat4 _; obtain ⟨p4, c4, rfl, _, _, _⟩ := row_val hown4; have hrow4 := Lib.hid (row_grown P1.out.2.2.2 hown4 hgrow4 hat4); have G4 := Lib.hid (P1.out.grown (by decide) hgrow4); obtain ⟨z0, _, z1, _⟩ := two_cells G4.out; clear hown4 hgrow4 hat4)
  obtain ⟨P5, t5⟩ := col_put (T := 111) (M := New M w w4) (by decide) G4.out (.inl P1.out.2.1) hrow4.out.1
  have hlenS : (L ++ l).length = L.length + l.length := by simp
  rw [hlenS] at P5 t5
  go_ret
  exact ⟨rfl, P5.at.mono (New.mono (by simp)), ((Tch.of (Bn (Below.refl _ w))).more hrow4.out.2).trans t5⟩

set_option maxHeartbeats 4000000 in
set_option maxRecDepth 100000 in
theorem takeH_yes (hp : ColH w M pa L m) (n : Nat) (hn : n < L.length) : Calls Tryd.prog 42 #[.pointer (some ⟨pa, 0, none⟩), .int .i64 n] w fun e w' => e = .returned (.tuple #[aggH L[n]!, .nilIface]) ∧ ColH w' (New M w w') pa (takeC L n) m ∧ Tch M w w' := by
  have hG := Lib.hid (fun W (h : RowKit.Below w.heap.size w W) => getH_yes (hp.below h) n hn)
  have hL := Lib.hid (fun W (h : RowKit.Below w.heap.size w W) => lenH_call (hp.below h))
  obtain ⟨p, cap, hi0, h1, h2, h3⟩ := hp.open
  obtain ⟨g, rfl, hg⟩ := h3 (by omega)
  obtain ⟨hi, hMM⟩ := hi0.tight
  have HM := Lib.hid hMM
  have hl := hi.lt
  have HI := Lib.hid hi
  obtain ⟨q, hq⟩ : ∃ q, L.length = q + 1 := ⟨L.length - 1, by omega⟩
  have hll : (L.length : Int) - 1 = (q : Int) := by omega
  have hqL : q < L.length := by omega
  have HQ := Lib.hid hq
  have H1Q := Lib.hid (show L.length - q = 1 by omega)
  have hqc : q < cap := by omega
  have hqc2 : ¬ cap = q := by omega
  have hqi : (q : Int) < (L.length : Int) := by omega
  clear hi hi0 hp h3 hq hMM
  unfold aggH at *
  obtain ⟨x, hx⟩ : ∃ x, x = L[n]! := ⟨_, rfl⟩
  rw [← hx] at hG ⊢
  clear hx
  obtain ⟨x1, x2⟩ := x
  dsimp only at *
  go_enter Tryd.func42, Tryd.ntmps42
  go_wp2_with fail
  refine (hG.out _ (Ba (Below.refl _ w) _)).mono ?_
  rintro e w1 ⟨rfl, hb1⟩
  have B1 := Lib.hid (Bt (Ba (Below.refl _ w) (.cells #[.int .i64 0, .int .i64 0] 38)) hb1)
  have R1 := Lib.hid (show w1.heap[w.heap.size]? = some (.cells #[.int .i64 0, .int .i64 0] 38 (0, 0)) from blk_below (heap_alloc_new w _) hb1)
  clear hb1
  go_wp2_with fail
  refine (hL.out _ (Ba B1.out _)).mono ?_
  rintro e w2 ⟨rfl, hw2⟩
  have B2 := Lib.hid (show RowKit.Below w.heap.size w w2 by rw [← hw2]; exact Ba B1.out _)
  have R2 := Lib.hid (show w2.heap[w.heap.size]? = some (.cells #[.int .i64 0, .int .i64 0] 38 (0, 0)) by rw [← hw2]; exact blk_below R1.out (Ba (Below.refl _ _) _))
  have X2 := Lib.hid (show w2.heap[w1.heap.size]? = some (.cells #[.int .i64 x1, .int .i64 x2] 38 (0, 0)) by rw [← hw2]; exact heap_alloc_new w1 _)
  have hrx : w.heap.size < w1.heap.size := (Array.getElem?_eq_some_iff.1 R1.out).1
  clear hw2 B1 R1
  generalize w1.heap.size = xb at *
  go_wp2_with fail
  clear hll
  have P2 := Lib.hid (HI.out.below B2.out)
  obtain ⟨k0, _, kf, _⟩ := P2.out.cells
  obtain ⟨⟨d1, d2⟩, z1, z2⟩ := rowH P2.out.2.2.1 hn
  obtain ⟨⟨f1, f2⟩, _⟩ := rowH P2.out.2.2.1 hqL
  generalize L[n]! = y at d1 d2
  obtain ⟨c, hc⟩ : ∃ c, L[q]! = c := ⟨_, rfl⟩
  rw [hc] at f1 f2
  have HC := Lib.hid hc
  clear hc
  obtain ⟨c1, c2⟩ := c
  dsimp only at f1 f2
  have hl2 := Bl B2.out hl
  have hlg2 := Bl B2.out hg
  obtain ⟨P3, t3⟩ := colH_put (by decide) P2.out n hn c1 c2
  have P3' := Lib.hid P3
  have T3' := Lib.hid t3
  have hst : ((w2.setCell ⟨g, n * 2, none⟩ (.int .i64 c1)).setCell ⟨g, n * 2 + 1, none⟩ (.int .i64 c2)).drew.cell? ⟨pa, 0, none⟩ = some (.slice (some ⟨g, 0, none⟩) L.length cap) ∧ ((w2.setCell ⟨g, n * 2, none⟩ (.int .i64 c1)).setCell ⟨g, n * 2 + 1, none⟩ (.int .i64 c2)).drew.cell? ⟨g, q * 2, none⟩ = some (.int .i64 c1) ∧ ((w2.setCell ⟨g, n * 2, none⟩ (.int .i64 c1)).setCell ⟨g, n * 2 + 1, none⟩ (.int .i64 c2)).drew.cell? ⟨g, q * 2 + 1, none⟩ = some (.int .i64 c2) := by
    obtain ⟨⟨u1, u2⟩, _⟩ := rowH (show World.ownsRow _ 0 38 2 (.slice (some ⟨g, 0, none⟩) (L.set n (c1, c2)).length cap) (L.set n (c1, c2)).length (flat encH (L.set n (c1, c2))) from (by have := P3.2.2.1; rwa [show (Value.slice (some ⟨g, 0, none⟩) L.length cap) = .slice (some ⟨g, 0, none⟩) (L.set n (c1, c2)).length cap by rw [List.length_set]] at this)) (show q < (L.set n (c1, c2)).length by simpa using hqL)
    have e : (L.set n (c1, c2))[q]! = (c1, c2) := by
      rw [getElem!_pos _ _ (by simpa using hqL), List.getElem_set]
      split
      · rfl
      · rw [← HC.out, getElem!_pos L _ hqL]
    rw [e] at u1 u2
    exact ⟨P3.cells.1, u1, u2⟩
  clear P3 t3
  go_region_held3 (fun w' => w'.cell? ⟨pa, 0, none⟩ = some (.slice (some ⟨g, 0, none⟩) L.length cap) ∧ w'.cell? ⟨g, q * 2, none⟩ = some (.int .i64 c1) ∧ w'.cell? ⟨g, q * 2 + 1, none⟩ = some (.int .i64 c2)) (first | exact ⟨k0, f1, f2⟩ | exact hst) (fail)
  all_goals
    obtain ⟨W1, hW1⟩ : ∃ W1, W1 = ((w2.setCell ⟨g, n * 2, none⟩ (.int .i64 c1)).setCell ⟨g, n * 2 + 1, none⟩ (.int .i64 c2)).drew := ⟨_, rfl⟩
    have P4 : ColIs encH 38 2 111 W1 (fun b => b = pa ∨ (Value.slice (some ⟨g, 0, none⟩) L.length cap).ownBlock = some b) pa (.slice (some ⟨g, 0, none⟩) L.length cap) (L.set n (c1, c2)) m := by rw [hW1]; exact P3'.out
    have t4 : Tch (fun b => b = pa ∨ (Value.slice (some ⟨g, 0, none⟩) L.length cap).ownBlock = some b) w2 W1 := by rw [hW1]; exact T3'.out.drew
    rw [← hW1]
    clear hW1 hst P3' T3' d1 d2 f1 f2 k0 kf z1 z2
    have nR : ¬ (w.heap.size = pa ∨ (Value.slice (some ⟨g, 0, none⟩) L.length cap).ownBlock = some w.heap.size) := by
      simp only [Value.ownBlock, Option.some.injEq]; omega
    have nX : ¬ (xb = pa ∨ (Value.slice (some ⟨g, 0, none⟩) L.length cap).ownBlock = some xb) := by
      simp only [Value.ownBlock, Option.some.injEq]; omega
    have hW2 : ∃ W2, (∀ ty, (Builtin.clear_ #[65] ty #[.slice (some ⟨g, q * 2, none⟩) (L.length - q) (cap - q)]).run Tryd.prog W1 = .ok (.tuple #[]) W2) ∧ ColIs encH 38 2 111 W2 (fun b => b = pa ∨ (Value.slice (some ⟨g, 0, none⟩) L.length cap).ownBlock = some b) pa (.slice (some ⟨g, 0, none⟩) L.length cap) ((L.set n (c1, c2)).set q (0, 0)) m ∧ Tch (fun b => b = pa ∨ (Value.slice (some ⟨g, 0, none⟩) L.length cap).ownBlock = some b) W1 W2 := by
      obtain ⟨P5, t5⟩ := colH_put (by decide) P4 q (by simpa using hqL) 0 0
      refine ⟨_, fun ty => ?_, P5, t5⟩
      have hr := own_of_row lenH P4.2.2.1 rfl
      obtain ⟨p', cap', e, _, _, hh⟩ := hr
      obtain ⟨g', e2, _, _, hH⟩ := hh (by simp; omega)
      subst e2
      simp only [Value.slice.injEq, Option.some.injEq, Addr.mk.injEq] at e
      obtain ⟨⟨rfl, _⟩, _⟩ := e
      have := clear_run lenH (by decide) oneH Tryd.prog (t := 65) (e := 38) (zv := .agg #[.int .i64 0, .int .i64 0]) (0, 0) Tryd.underlying65 (fun w => by kernel_rfl) rfl hH q (by simpa using hqL) (cap - q) ty
      have e1 : (L.set n (c1, c2)).toArray.size = L.length := by simp
      rw [e1, H1Q.out, Nat.zero_add] at this
      rw [H1Q.out]
      exact this
    obtain ⟨W2, hcl, P5, t5⟩ := hW2
    have HP5 := Lib.hid P5
    have T5 := Lib.hid (t4.more t5)
    have X5 := T5.out.blk X2.out nX
    have R5 := T5.out.blk R2.out nR
    obtain ⟨a1, a2, _⟩ := two_cells X5
    obtain ⟨r1, r2, v1, v2⟩ := two_cells R5
    obtain ⟨u0, _, uf, _⟩ := P4.cells
    obtain ⟨k0, _, kf, _⟩ := P5.cells
    have hl4 := P4.lt
    have hl5 := P5.lt
    have m1 : ¬ pa = xb := by omega
    have m2 : ¬ xb = pa := by omega
    have m3 : ¬ pa = w.heap.size := by omega
    have m4 : ¬ w.heap.size = pa := by omega
    have m5 : ¬ g = w.heap.size := by omega
    have lr5 : w.heap.size < W2.heap.size := (Array.getElem?_eq_some_iff.1 R5).1
    have lx5 : xb < W2.heap.size := (Array.getElem?_eq_some_iff.1 X5).1
    clear P4 P5 t4 t5 nR nX X5 R5
    go_wp2
    obtain ⟨P7, t7⟩ := HP5.out.front (by decide) lenH q (by simp; omega)
    rw [← HC.out, takeC_eq L n q (0, 0) HQ.out] at P7
    have P8 := P7.far2 w.heap.size (fun e => e.elim m4 (fun e => by simp only [Value.ownBlock, Option.some.injEq] at e; exact m5 e)) (.int .i64 x1) (.int .i64 x2)
    have T8 := ((Tch.of B2.out).more (T5.out.more t7)).fresh2 (Nat.le_refl _) (.int .i64 x1) (.int .i64 x2)
    exact bodyPost_ret (v := .tuple #[.agg #[.int .i64 x1, .int .i64 x2], .nilIface]) (by simp [results, Tryd.results42, go_sem, *]) rfl ⟨rfl, P8.at.mono (fun b h => .inl (HM.out b h)), T8.mono HM.out⟩

set_option maxHeartbeats 1000000 in
set_option maxRecDepth 100000 in
/-- slices.Clone. -/
theorem cloneH_call (l : List Hd) (v : Value) (w : World) (hl : Sl encH w v l) (hlen : l.length ≤ 100000) :
    Calls Tryd.prog 69 #[v] w fun e w' => ∃ v', e = .returned v' ∧ Own w.heap.size encH 2 w' v' l ∧ (w'.ownsRow w.heap.size 38 2 v' l.length (flat encH l)) ∧ RowKit.Below w.heap.size w w' := by
  obtain ⟨p, cap, rfl, h1, h2, h⟩ := hl
  cases p with
  | none =>
    have h0 : l.length = 0 := by
      rcases Nat.eq_zero_or_pos l.length with h0 | h0
      · exact h0
      · obtain ⟨g, o, e, _⟩ := h h0; cases e
    have hl0 : l = [] := List.length_eq_zero_iff.1 h0
    subst hl0
    have q22 : ∀ (w : World) (a : Option Addr) (n c n' c' : Nat), (binOp .eql 65 (.slice a n c) (.slice none n' c')).run Tryd.prog w = .ok (.bool a.isNone) w := fun w a n c n' c' => Lib.run_eql_slice_nil w _ _ a n c n' c' Tryd.underlying65
    go_enter Tryd.func69, Tryd.ntmps69
    go_wp2
    go_ret
    exact ⟨_, rfl, ⟨none, 0, rfl, Nat.le_refl _, Nat.zero_le _, fun h => absurd h (by simp)⟩, World.ownsRow_nil _ _ _ _, (by repeat (first | with_reducible exact Below.refl _ _ | with_reducible assumption | with_reducible apply Ba | with_reducible apply Bd | with_reducible apply Bn | with_reducible apply Bg | (with_reducible refine Bs ?_ (by first | (simp; done) | (simp; omega)) _) | (with_reducible refine Bt ?_ (by assumption)) | (with_reducible refine Bt ?_ (Gr.below (by assumption)))))⟩
  | some ad =>
    have HS := Lib.hid (show Sl encH w (.slice (some ad) l.length cap) l from ⟨_, cap, rfl, h1, h2, h⟩)
    have O1 := Lib.hid (show (w.alloc (.cells #[] 38)).ownsRow w.heap.size 38 2 (.slice (some ⟨w.heap.size, 0, none⟩) 0 0) 0 (flat encH []) from World.ownsRow_made _ #[] 0 (Nat.le_refl _) (Nat.zero_le _) (by simp))
    have A1 := Lib.hid (Ba (Below.refl _ w) (.cells #[] 38))
    have S1 := Lib.hid (HS.out.below A1.out)
    clear h
    have q22 : ∀ (w : World) (a : Option Addr) (n c n' c' : Nat), (binOp .eql 65 (.slice a n c) (.slice none n' c')).run Tryd.prog w = .ok (.bool a.isNone) w := fun w a n c n' c' => Lib.run_eql_slice_nil w _ _ a n c n' c' Tryd.underlying65
    go_enter Tryd.func69, Tryd.ntmps69
    go_wp2_with (at_builtin; refine wpl_app apH rfl _ _ rfl w.heap.size (by rfl) (by rfl) O1.out rfl S1.out (by simp; omega) A1.out.size ?_; intro v1 w1 hown1 hgrow1 hnil1)
    have b1 := grownB A1.out O1.out hgrow1
    go_ret
    have e : [] ++ l = l := List.nil_append l
    rw [e] at hown1
    simp only [List.length_nil, Nat.zero_add] at hown1
    exact ⟨v1, rfl, own_of_row lenH hown1 rfl, hown1, b1⟩


theorem allH_call (hp : ColH w M pa L m) (hlen : L.length ≤ 100000) : Calls Tryd.prog 51 #[.pointer (some ⟨pa, 0, none⟩)] w fun e w' => ∃ v, e = .returned v ∧ w'.ownsRow w.heap.size 38 2 v L.length (flat encH L) ∧ RowKit.Below w.heap.size w w' := by
  obtain ⟨p, cap, hi, h1, h2, _⟩ := hp.open
  have hl := hi.lt
  obtain ⟨c0, c1, f0, f1⟩ := hi.cells
  have hC := Lib.hid (cloneH_call L _ w (hi.2.2.sl lenH) hlen)
  clear hi hp
  go_enter Tryd.func51, Tryd.ntmps51
  go_wp2_with fail
  refine hC.out.mono ?_
  rintro e w1 ⟨v1, rfl, _, ho1, hb1⟩
  obtain ⟨p1, c1', rfl, _, _, _⟩ := row_val ho1
  go_wp2
  go_ret
  exact ⟨_, rfl, ho1, hb1⟩

set_option maxHeartbeats 1000000 in
set_option maxRecDepth 100000 in
theorem ccloneH_call (hp : ColH w M pa L m) (hlen : L.length ≤ 100000) : Calls Tryd.prog 49 #[.pointer (some ⟨pa, 0, none⟩)] w (ColNew encH 38 2 111 w L m) := by
  have HA := Lib.hid (fun W (h : RowKit.Below w.heap.size w W) => (allH_call (hp.below h) hlen).mono (fun e w' (q : ∃ v', e = .returned v' ∧ _ ∧ RowKit.Below W.heap.size W w') => (show ∃ v', e = .returned v' ∧ w'.ownsRow w.heap.size 38 2 v' L.length (flat encH L) ∧ RowKit.Below W.heap.size W w' from q.imp fun v' ⟨he, ho, hb⟩ => ⟨he, row_mono ho h.size, hb⟩)))
  obtain ⟨p, cap, hi, h1, h2, _⟩ := hp.open
  have hl := hi.lt
  obtain ⟨c0, c1, f0, f1⟩ := hi.cells
  clear hi hp
  go_enter Tryd.func49, Tryd.ntmps49
  go_wp2_with fail
  go_region_held3 (fun w' => RowKit.Below w.heap.size w w' ∧ ∀ b_1 o, b_1 < w.heap.size → w'.cell? ⟨b_1, o, none⟩ = w.cell? ⟨b_1, o, none⟩) (first | exact keep0 _ | exact keepB (by assumption) hb1 | exact keepA (by assumption) _ | assumption) ((go_at_call 51; refine (HA.out _ (Bd (Below.refl _ w))).mono ?_; rintro e w1 ⟨v1, rfl, ho1, hb1⟩; obtain ⟨p1, c1', rfl, _, _, _⟩ := row_val ho1; have X1 := Lib.hid (col_made (Bt (Bd (Below.refl _ w)) hb1) ho1 111 m); clear ho1))
  all_goals
    go_wp2
    go_ret
    exact ⟨_, rfl, X1.out.at, Ba (Bt (Bd (Below.refl _ w)) hb1) _⟩
end
end Go.Proofs.YtknfmjjlfhfocaaDoor
