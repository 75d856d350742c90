/-
  An axis in memory; an end's place.
-/
import Derived.Test.YtbodefigeiaodaaDoorFx11
import Derived.Test.YtbodefigeiaodaaDoorMg11
import Derived.BigRegion
import Derived.Deep.CutBlock
import Derived.Deep.CutRange
import Derived.Deep.DeepCutAuto
namespace Go.Proofs.YtbodefigeiaodaaDoor
set_option linter.unusedSimpArgs false
set_option linter.unusedVariables false
open Go.RowKit Go.Sort Go.Lib Go.Shelf

section
variable {M R : Nat → Prop} {w w' : World}
theorem Tch.fresh (h : Tch M w w') {p : Addr} (hp : w.heap.size ≤ p.block) (u : Value) : Tch M w (w'.setCell p u) :=
  ⟨h.os, h.tape, h.output, by simpa using h.size, fun k hk hn => (heap_setCell_other w' p k u (by omega)).trans (h.block k hk hn)⟩
theorem Tch.alloc (h : Tch M w w') (o : Obj) : Tch M w (w'.alloc o) := h.more (Tch.of (Ba (Below.refl _ _) o))
theorem Tch.drew (h : Tch M w w') : Tch M w w'.drew := ⟨h.os, h.tape, h.output, h.size, h.block⟩
theorem Tch.bel (h : Tch M w w') {w2 : World} (hb : RowKit.Below w'.heap.size w' w2) : Tch M w w2 := h.more (Tch.of hb)
theorem Tch.blk (h : Tch M w w') {b : Nat} {o : Obj} (hb : w.heap[b]? = some o) (hn : ¬ M b) : w'.heap[b]? = some o := (h.block b (Array.getElem?_eq_some_iff.1 hb).1 hn).trans hb
theorem Tch.lt (h : Tch M w w') {b : Nat} (hb : b < w.heap.size) : b < w'.heap.size := Nat.lt_of_lt_of_le hb h.size
theorem one_cell {pa : Nat} {a : Value} {t : Nat} (h : w.heap[pa]? = some (.cells #[a] t (0, 0))) : w.cell? ⟨pa, 0, none⟩ = some a ∧ w.frozen? ⟨pa, 0, none⟩ = false := by
  simp [World.cell?, World.frozen?, h]
theorem three_cells {pa : Nat} {a b c : Value} {t : Nat} (h : w.heap[pa]? = some (.cells #[a, b, c] t (0, 0))) : (w.cell? ⟨pa, 0, none⟩ = some a ∧ w.cell? ⟨pa, 1, none⟩ = some b ∧ w.cell? ⟨pa, 2, none⟩ = some c) ∧ w.frozen? ⟨pa, 2, none⟩ = false := by
  simp [World.cell?, World.frozen?, h]
end
section
variable {α : Type} [Inhabited α] {enc : α → List Value} {et k : Nat} {w : World}
theorem row_cellsK (hk : ∀ x, (enc x).length = k) {base g n cap : Nat} {l : List α} (h : w.ownsRow base et k (.slice (some ⟨g, 0, none⟩) n cap) n (flat enc l)) {i : Nat} (hi : i < l.length) : ∀ c u, (enc l[i]!)[c]? = some u → w.cell? ⟨g, i * k + c, none⟩ = some u := fun c u hu => by
  have hc : c < k := by have := (List.getElem?_eq_some_iff.1 hu).1; rwa [hk] at this
  have := cellsI h (i * k + c) u ((flat_get hk l i c hi hc).trans hu)
  rwa [Nat.zero_add] at this
end
/-- An end in an own row: its cells. -/
theorem rowE {et : Nat} {w : World} {base g n cap : Nat} {l : List En} (h : w.ownsRow base et 4 (.slice (some ⟨g, 0, none⟩) n cap) n (flat encE l)) {i : Nat} (hi : i < l.length) :
    w.cell? ⟨g, i * 4, none⟩ = some (.int .i64 l[i]!.1) ∧ w.cell? ⟨g, i * 4 + 1, none⟩ = some (.bool l[i]!.2.1) ∧ w.cell? ⟨g, i * 4 + 2, none⟩ = some (.int .i64 l[i]!.2.2.1) ∧ w.cell? ⟨g, i * 4 + 3, none⟩ = some (.int .i64 l[i]!.2.2.2) :=
  ⟨row_cellsK lenE h hi 0 _ rfl, row_cellsK lenE h hi 1 _ rfl, row_cellsK lenE h hi 2 _ rfl, row_cellsK lenE h hi 3 _ rfl⟩

/-- At block pa is an axis: its set of pairs at mp holds K, its spans at sp are L, its slice of ends v holds E; its blocks are among M. -/
def AxIs (w : World) (M : Nat → Prop) (pa mp sp : Nat) (v : Value) (L : List Spn) (K : List Pr) (E : List En) : Prop :=
  (w.heap[pa]? = some (.cells #[.map (some mp), .map (some sp), v] 79 (0, 0)) ∧ M pa ∧ M mp ∧ M sp ∧ mp ≠ sp) ∧ MapQ w mp K.length (prF K) ∧ MapS w sp L.length (spF L) ∧ RowAt encE 55 4 w M v E
theorem tAE : (79 : Nat) ≠ 55 := by decide
section
variable {pa mp sp : Nat} {L : List Spn} {K : List Pr} {E : List En} {M R : Nat → Prop} {w w' w2 : World} {v v' : Value}
theorem AxIs.head (h : AxIs w M pa mp sp v L K E) : w.heap[pa]? = some (.cells #[.map (some mp), .map (some sp), v] 79 (0, 0)) := h.1.1
theorem AxIs.lt (h : AxIs w M pa mp sp v L K E) : pa < w.heap.size := (Array.getElem?_eq_some_iff.1 h.1.1).1
theorem AxIs.mlt (h : AxIs w M pa mp sp v L K E) : mp < w.heap.size := h.2.1.lt
theorem AxIs.slt (h : AxIs w M pa mp sp v L K E) : sp < w.heap.size := h.2.2.1.lt
theorem AxIs.mono {M' : Nat → Prop} (h : AxIs w M pa mp sp v L K E) (hM : ∀ b, M b → M' b) : AxIs w M' pa mp sp v L K E :=
  ⟨⟨h.1.1, hM _ h.1.2.1, hM _ h.1.2.2.1, hM _ h.1.2.2.2.1, h.1.2.2.2.2⟩, h.2.1, h.2.2.1, h.2.2.2.mono hM⟩
theorem AxIs.kept (h : AxIs w R pa mp sp v L K E) (t : Tch M w w') (hd : ∀ b, R b → ¬ M b) : AxIs w' R pa mp sp v L K E :=
  ⟨⟨(t.block pa h.lt (hd pa h.1.2.1)).trans h.1.1, h.1.2⟩, h.2.1.kept t (hd _ h.1.2.2.1), h.2.2.1.kept t (hd _ h.1.2.2.2.1), h.2.2.2.kept t hd⟩
theorem AxIs.below (h : AxIs w R pa mp sp v L K E) (t : RowKit.Below w.heap.size w w') : AxIs w' R pa mp sp v L K E :=
  ⟨⟨(t.block pa h.lt).trans h.1.1, h.1.2⟩, h.2.1.below t, h.2.2.1.below t, h.2.2.2.below t⟩
theorem AxIs.cells (h : AxIs w M pa mp sp v L K E) : (w.cell? ⟨pa, 0, none⟩ = some (.map (some mp)) ∧ w.cell? ⟨pa, 1, none⟩ = some (.map (some sp)) ∧ w.cell? ⟨pa, 2, none⟩ = some v) ∧ w.frozen? ⟨pa, 2, none⟩ = false := three_cells h.1.1
theorem AxIs.pm (h : AxIs w M pa mp sp v L K E) : pa ≠ mp := fun e => by
  obtain ⟨es, c, hm⟩ := h.2.1.is
  rw [← e, h.1.1] at hm
  cases hm
theorem AxIs.ps (h : AxIs w M pa mp sp v L K E) : pa ≠ sp := fun e => by
  obtain ⟨es, c, hm⟩ := h.2.2.1.is
  rw [← e, h.1.1] at hm
  cases hm
theorem row_not_map {α : Type} {enc : α → List Value} {et k : Nat} {l : List α} (h : RowAt enc et k w M v l) {b : Nat} {es : Array MapEntry} {c : Nat} (hm : w.heap[b]? = some (.map es c)) : v.ownBlock ≠ some b := fun e => by
  obtain ⟨cs, hc⟩ := row_type h.1 e
  rw [hm] at hc
  cases hc
theorem AxIs.open (h : AxIs w M pa mp sp v L K E) : ∃ p cap, v = .slice p E.length cap ∧ E.length ≤ cap ∧ cap ≤ 9223372036854775807 ∧ (0 < E.length → ∃ g, p = some ⟨g, 0, none⟩ ∧ g < w.heap.size ∧ g ≠ pa) := by
  obtain ⟨p, cap, rfl, h1, h2, h3⟩ := row_val h.2.2.2.1
  unfold maxLen at h2
  refine ⟨p, cap, rfl, h1, by omega, fun q => ?_⟩
  obtain ⟨g, rfl, hg, ho⟩ := h3 q
  obtain ⟨c, hc⟩ := row_type h.2.2.2.1 ho
  exact ⟨g, rfl, hg, type_apart hc h.1.1 tAE.symm⟩
/-- Another world in which all its blocks are as they were. -/
theorem AxIs.same (h : AxIs w R pa mp sp v L K E) (hb : ∀ b, R b → b < w.heap.size → w'.heap[b]? = w.heap[b]?) : AxIs w' R pa mp sp v L K E :=
  ⟨⟨(hb pa h.1.2.1 h.lt).trans h.1.1, h.1.2⟩, h.2.1.blk (hb _ h.1.2.2.1 h.mlt), h.2.2.1.blk (hb _ h.1.2.2.2.1 h.slt), ⟨row_keep h.2.2.2.1 (fun g hg => hb g (h.2.2.2.2 g hg) (row_lt h.2.2.2.1 hg)), h.2.2.2.2⟩⟩
/-- The pairs' block alone has changed. -/
theorem AxIs.pairs {K' : List Pr} (h : AxIs w R pa mp sp v L K E) (hm : MapQ w' mp K'.length (prF K')) (hb : ∀ b, R b → b < w.heap.size → b ≠ mp → w'.heap[b]? = w.heap[b]?) : AxIs w' R pa mp sp v L K' E := by
  obtain ⟨es, c, hme⟩ := h.2.1.is
  have hrow := row_not_map h.2.2.2 hme
  exact ⟨⟨(hb pa h.1.2.1 h.lt h.pm).trans h.1.1, h.1.2⟩, hm, h.2.2.1.blk (hb _ h.1.2.2.2.1 h.slt h.1.2.2.2.2.symm), ⟨row_keep h.2.2.2.1 (fun g hg => hb g (h.2.2.2.2 g hg) (row_lt h.2.2.2.1 hg) (fun e => hrow (e ▸ hg))), h.2.2.2.2⟩⟩
/-- The spans' block alone has changed. -/
theorem AxIs.spans {L' : List Spn} (h : AxIs w R pa mp sp v L K E) (hm : MapS w' sp L'.length (spF L')) (hb : ∀ b, R b → b < w.heap.size → b ≠ sp → w'.heap[b]? = w.heap[b]?) : AxIs w' R pa mp sp v L' K E := by
  obtain ⟨es, c, hme⟩ := h.2.2.1.is
  have hrow := row_not_map h.2.2.2 hme
  exact ⟨⟨(hb pa h.1.2.1 h.lt h.ps).trans h.1.1, h.1.2⟩, h.2.1.blk (hb _ h.1.2.2.1 h.mlt h.1.2.2.2.2), hm, ⟨row_keep h.2.2.2.1 (fun g hg => hb g (h.2.2.2.2 g hg) (row_lt h.2.2.2.1 hg) (fun e => hrow (e ▸ hg))), h.2.2.2.2⟩⟩
end

/-! ### The place. -/
set_option maxHeartbeats 1000000 in
set_option maxRecDepth 100000 in
theorem place1_call {pa ba be g n cap : Nat} {w : World} (E : List En) (x : En) (i : Nat) (hi : i < E.length) (hn : n = E.length) (hnc : n ≤ cap) (hcap : cap ≤ 9223372036854775807)
    (c0 : w.cell? ⟨ba, 0, none⟩ = some (.pointer (some ⟨pa, 0, none⟩))) (c1 : w.cell? ⟨pa, 2, none⟩ = some (.slice (some ⟨g, 0, none⟩) n cap))
    (hd : w.cell? ⟨g, i * 4, none⟩ = some (.int .i64 E[i]!.1) ∧ w.cell? ⟨g, i * 4 + 1, none⟩ = some (.bool E[i]!.2.1) ∧ w.cell? ⟨g, i * 4 + 2, none⟩ = some (.int .i64 E[i]!.2.2.1) ∧ w.cell? ⟨g, i * 4 + 3, none⟩ = some (.int .i64 E[i]!.2.2.2))
    (hx : w.cell? ⟨be, 0, none⟩ = some (.int .i64 x.1) ∧ w.cell? ⟨be, 1, none⟩ = some (.bool x.2.1) ∧ w.cell? ⟨be, 2, none⟩ = some (.int .i64 x.2.2.1) ∧ w.cell? ⟨be, 3, none⟩ = some (.int .i64 x.2.2.2)) :
    Calls Tryd.prog 58 #[.int .i64 i, .pointer (some ⟨ba, 0, none⟩), .pointer (some ⟨be, 0, none⟩)] w fun e w' => e = .returned (.bool (!ltE E[i]! x)) ∧ Gr w w' := by
  obtain ⟨d1, d2, d3, d4⟩ := hd
  obtain ⟨x1, x2, x3, x4⟩ := hx
  have hba := cell_lt c0
  have hpa := cell_lt c1
  have hg := cell_lt d1
  have hbe := cell_lt x1
  have hin : i < n := by omega
  have HA := Lib.hid (ahead_any E[i]! x)
  generalize ltE E[i]! x = b at *
  generalize E[i]! = y at *
  obtain ⟨y1, y2, y3, y4⟩ := y
  obtain ⟨z1, z2, z3, z4⟩ := x
  unfold aggE at HA
  dsimp only at *
  clear hi hn
  go_enter Tryd.func58, Tryd.ntmps58
  go_wp2_with fail
  go_region_held3 (fun w' => Gr (w) w' ∧ ∀ b_1 o, b_1 < (w).heap.size → w'.cell? ⟨b_1, o, none⟩ = (w).cell? ⟨b_1, o, none⟩) (first | exact gkeep0 _ | exact gkeepG (by assumption) hg1 | exact gkeepA (by assumption) _ | assumption) (first | (go_at_call 59; refine (HA.out _).mono ?_; rintro e w1 ⟨rfl, hg1⟩))
  go_wp2
  go_ret
  exact ⟨rfl, (by repeat (first | with_reducible exact Gr.refl _ | with_reducible assumption | with_reducible apply Gr.alloc | with_reducible apply Gr.drewN | with_reducible apply Gr.drew | with_reducible apply Gr.grow | (with_reducible refine Gr.trans ?_ (by assumption))))⟩
section
variable {pa mp sp : Nat} {L : List Spn} {K : List Pr} {E : List En} {M : Nat → Prop} {w : World} {v : Value}
set_option maxHeartbeats 1000000 in
set_option maxRecDepth 100000 in
theorem place_call (h : AxIs w M pa mp sp v L K E) (hr : Rise ltE E) (hn : E.length ≤ 100000) (x : En) : Calls Tryd.prog 38 #[.pointer (some ⟨pa, 0, none⟩), aggE x] w fun e w' => e = .returned (.int .i64 (headLess ltE x E : Nat)) ∧ Gr w w' := by
  obtain ⟨p, cap, rfl, h1, h2, h3⟩ := h.open
  have hl := h.lt
  obtain ⟨⟨_, _, c2⟩, _⟩ := h.cells
  have HS : ∀ (w1 : World), w1 = (w.alloc (.cells #[.pointer (some ⟨pa, 0, none⟩)] 24)).alloc (.cells #[.int .i64 x.1, .bool x.2.1, .int .i64 x.2.2.1, .int .i64 x.2.2.2] 55) →
      Says (headLess ltE x E) E.length (.pointer (some ⟨w.heap.size, 0, none⟩)) (.pointer (some ⟨w.heap.size + 1, 0, none⟩)) w1 := fun w1 hw1 i W hi hG => by
    obtain ⟨g, rfl, hg, hne⟩ := h3 (by omega)
    have hb1 : RowKit.Below w.heap.size w w1 := by rw [hw1]; exact Ba (Ba (Below.refl _ w) _) _
    have hb := hG.below
    have hs1 : w1.heap.size = w.heap.size + 2 := by rw [hw1]; simp
    have e0 : w1.cell? ⟨w.heap.size, 0, none⟩ = some (.pointer (some ⟨pa, 0, none⟩)) := by rw [hw1]; simp
    have x1 : w1.cell? ⟨w.heap.size + 1, 0, none⟩ = some (.int .i64 x.1) := by rw [hw1]; simp
    have x2 : w1.cell? ⟨w.heap.size + 1, 1, none⟩ = some (.bool x.2.1) := by rw [hw1]; simp
    have x3 : w1.cell? ⟨w.heap.size + 1, 2, none⟩ = some (.int .i64 x.2.2.1) := by rw [hw1]; simp
    have x4 : w1.cell? ⟨w.heap.size + 1, 3, none⟩ = some (.int .i64 x.2.2.2) := by rw [hw1]; simp
    obtain ⟨d1, d2, d3, d4⟩ := rowE h.2.2.2.1 hi
    have hbb := Bt hb1 hb
    have := place1_call (ba := w.heap.size) (be := w.heap.size + 1) E x i hi rfl h1 h2 (Bc hb (by omega) e0) (Bc hbb hl c2) ⟨Bc hbb hg d1, Bc hbb hg d2, Bc hbb hg d3, Bc hbb hg d4⟩ ⟨Bc hb (by omega) x1, Bc hb (by omega) x2, Bc hb (by omega) x3, Bc hb (by omega) x4⟩
    have e : (!ltE E[i]! x) = decide (headLess ltE x E ≤ i) := by
      rw [getElem!_pos E i hi]
      by_cases c : headLess ltE x E ≤ i
      · rw [headLess_ge sto_en x hr i c (List.getElem?_eq_getElem hi), decide_eq_true c]
        rfl
      · obtain ⟨y, hy, hlt⟩ := headLess_lt (lt := ltE) x E i (by omega)
        rw [List.getElem?_eq_getElem hi] at hy
        simp only [Option.some.injEq] at hy
        rw [hy, hlt, decide_eq_false c]
        rfl
    rwa [e] at this
  have HSE := Lib.hid (search_call E.length (headLess ltE x E) (headLess_le x E) hn _ _ _ (HS _ rfl))
  clear HS h3 h
  obtain ⟨z1, z2, z3, z4⟩ := x
  unfold aggE
  dsimp only at *
  go_enter Tryd.func38, Tryd.ntmps38
  go_wp2_with fail
  refine HSE.out.mono ?_
  rintro e w1 ⟨rfl, hg1⟩
  go_wp2
  go_ret
  exact ⟨rfl, Gr.trans (Gr.alloc (Gr.alloc (Gr.refl _) _) _) hg1⟩
end
end Go.Proofs.YtbodefigeiaodaaDoor
