/-
  The reference's table in memory: its rows of entities, each with a slice of its own; Has, Get, Same.
-/
import Derived.Test.YtknfmjjlfhfocaaDoorTk
import Derived.Test.YtknfmjjlfhfocaaDoorVv
import Derived.Test.YtknfmjjlfhfocaaDoorVd
namespace Go.Proofs.YtknfmjjlfhfocaaDoor
set_option linter.unusedSimpArgs false
set_option linter.unusedVariables false
open Go.RowKit Go.Sort Go.Lib Go.Shelf

/-- A slice's parts. -/
abbrev Sp := Option Addr × Nat × Nat
def slV (s : Sp) : Value := .slice s.1 s.2.1 s.2.2
abbrev Rw := Hd × Sp
def encE (x : Rw) : List Value := [.int .i64 x.1.1, .int .i64 x.1.2, slV x.2]
theorem lenE (x : Rw) : (encE x).length = 3 := rfl
theorem oneE (x : Rw) : ∀ v ∈ encE x, v.oneCell' = true := fun v hv => by simp [encE, slV] at hv; rcases hv with rfl | rfl | rfl <;> rfl
theorem apE : Ap encE 34 51 3 (.agg #[.int .i64 0, .int .i64 0, .slice none 0 0]) 40 :=
  ⟨Tryd.underlying34, info_parts (by kernel_rfl), by decide, by decide, by decide, lenE, oneE⟩
abbrev RfTy : Nat := 36
/-- At pr is the reference's table of mask q with the rows R, in the blocks N. -/
def RefT (w : World) (N : Nat → Prop) (pr q : Nat) (R : List En) : Prop :=
  ∃ (rows : List Rw) (vr : Value) (N1 N2 : Nat → Prop),
    w.heap[pr]? = some (.cells #[.int .u64 q, vr] RfTy (0, 0)) ∧ RowAt encE 51 3 w N1 vr rows ∧ rows.length = R.length ∧
    (∀ i, i < R.length → rows[i]!.1 = R[i]!.1 ∧ SlN N2 encV w (slV rows[i]!.2) R[i]!.2) ∧ N1 pr ∧ (∀ b, N1 b → N b ∧ ¬ N2 b) ∧ (∀ b, N2 b → N b) ∧ ∀ b, N b → b < w.heap.size
section
variable {w w' : World} {N X : Nat → Prop} {pr q : Nat} {R : List En}
theorem RefT.kept (h : RefT w N pr q R) (t : Tch X w w') (hd : ∀ b, N b → ¬ X b) : RefT w' N pr q R := by
  obtain ⟨rows, vr, N1, N2, h1, h2, h3, h4, h5, h6, h7, h8⟩ := h
  exact ⟨rows, vr, N1, N2, t.blk h1 (hd _ (h6 _ h5).1), h2.kept t (fun b e => hd b (h6 b e).1), h3, fun i hi => ⟨(h4 i hi).1, (h4 i hi).2.kept t (fun b e => hd b (h7 b e))⟩, h5, h6, h7, fun b e => Nat.lt_of_lt_of_le (h8 b e) t.size⟩
theorem RefT.below (h : RefT w N pr q R) (t : RowKit.Below w.heap.size w w') : RefT w' N pr q R := h.kept (X := fun _ => False) (Tch.of t) (fun _ _ e => e)
theorem RefT.lt (h : RefT w N pr q R) : ∀ b, N b → b < w.heap.size := by
  obtain ⟨rows, vr, N1, N2, h1, h2, h3, h4, h5, h6, h7, h8⟩ := h
  exact h8
theorem RefT.mono {N' : Nat → Prop} (h : RefT w N pr q R) (hN : ∀ b, N b → N' b) (hl : ∀ b, N' b → b < w.heap.size) : RefT w N' pr q R := by
  obtain ⟨rows, vr, N1, N2, h1, h2, h3, h4, h5, h6, h7, h8⟩ := h
  exact ⟨rows, vr, N1, N2, h1, h2, h3, h4, h5, fun b e => ⟨hN b (h6 b e).1, (h6 b e).2⟩, fun b e => hN b (h7 b e), hl⟩
theorem rowEn {w : World} {base g n cap : Nat} {l : List Rw} (h : w.ownsRow base 51 3 (.slice (some ⟨g, 0, none⟩) n cap) n (flat encE l)) {i : Nat} (hi : i < l.length) :
    (w.cell? ⟨g, i * 3, none⟩ = some (.int .i64 l[i]!.1.1) ∧ w.cell? ⟨g, i * 3 + 1, none⟩ = some (.int .i64 l[i]!.1.2) ∧ w.cell? ⟨g, i * 3 + 2, none⟩ = some (slV l[i]!.2)) ∧ w.frozen? ⟨g, i * 3, none⟩ = false ∧ w.frozen? ⟨g, i * 3 + 1, none⟩ = false ∧ w.frozen? ⟨g, i * 3 + 2, none⟩ = false :=
  ⟨⟨row_cellsK lenE h hi 0 _ rfl, row_cellsK lenE h hi 1 _ rfl, row_cellsK lenE h hi 2 _ rfl⟩, h.frozenAt _, h.frozenAt _, h.frozenAt _⟩
/-- What a walk needs: the block's cells, the slice's form, a row's cells. -/
theorem RefT.open (h : RefT w N pr q R) : ∃ p cap, w.heap[pr]? = some (.cells #[.int .u64 q, .slice p R.length cap] RfTy (0, 0)) ∧ R.length ≤ cap ∧ cap ≤ 9223372036854775807 ∧ (0 < R.length → ∃ g, p = some ⟨g, 0, none⟩ ∧ g < w.heap.size) := by
  obtain ⟨rows, vr, N1, N2, h1, h2, h3, h4, h5, h6, h7, h8⟩ := h
  obtain ⟨p, cap, rfl, h9, h10, h11⟩ := row_val h2.1
  rw [h3] at h1 h9 h11
  unfold maxLen at h10
  exact ⟨p, cap, h1, h9, by omega, fun q => (h11 q).imp fun g e => ⟨e.1, e.2.1⟩⟩
/-- The i-th row's cells. -/
theorem RefT.at (h : RefT w N pr q R) {p : Option Addr} {cap : Nat} (hp : w.heap[pr]? = some (.cells #[.int .u64 q, .slice p R.length cap] RfTy (0, 0))) {i : Nat} (hi : i < R.length) : ∃ g sp c, p = some ⟨g, 0, none⟩ ∧ g < w.heap.size ∧ w.cell? ⟨g, i * 3, none⟩ = some (.int .i64 R[i]!.1.1) ∧ w.cell? ⟨g, i * 3 + 1, none⟩ = some (.int .i64 R[i]!.1.2) ∧ w.cell? ⟨g, i * 3 + 2, none⟩ = some (.slice sp R[i]!.2.length c) ∧ Sl encV w (.slice sp R[i]!.2.length c) R[i]!.2 ∧ R[i]!.2.length ≤ c ∧ c ≤ 9223372036854775807 := by
  obtain ⟨rows, vr, N1, N2, h1, h2, h3, h4, h5, h6, h7, h8⟩ := h
  rw [h1] at hp
  simp only [Option.some.injEq, Obj.cells.injEq, and_true] at hp
  have e : vr = .slice p R.length cap := by have := congrArg (fun a => a[1]!) hp; simpa using this
  subst e
  obtain ⟨p', cap', e', _, _, h11⟩ := row_val h2.1
  simp only [Value.slice.injEq] at e'
  obtain ⟨rfl, _, rfl⟩ := e'
  obtain ⟨g, rfl, hg, _⟩ := h11 (by omega)
  have hr := h2.1
  rw [← h3] at hr
  obtain ⟨⟨d1, d2, d3⟩, _⟩ := rowEn hr (show i < rows.length by omega)
  obtain ⟨e1, e2⟩ := h4 i hi
  obtain ⟨sp, c, e3, e4, e5, _⟩ := id e2
  rw [e3] at d3 e2
  rw [e1] at d1 d2
  unfold maxLen at e5
  exact ⟨g, sp, c, rfl, hg, d1, d2, d3, e2.sl, e4, by omega⟩
theorem rhas_call (h : RefT w N pr q R) (i : Int) : Calls Tryd.prog 26 #[ptP pr, .int .i64 i] w fun e w' => e = .returned (.bool (decide (0 ≤ i ∧ i < R.length))) ∧ w = w' := by
  obtain ⟨p, cap, hb, h1, h2, _⟩ := h.open
  obtain ⟨c0, c1, _, _⟩ := two_cells hb
  have hl := cell_lt c0
  clear h hb
  by_cases a : 0 ≤ i
  · by_cases b : i < R.length
    · have e : decide (0 ≤ i ∧ i < R.length) = true := decide_eq_true ⟨a, b⟩
      rw [e]
      clear e
      go_enter Tryd.func26, Tryd.ntmps26
      go_wp2
      go_ret
      exact ⟨rfl, rfl⟩
    · have e : decide (0 ≤ i ∧ i < R.length) = false := decide_eq_false (fun h => b h.2)
      rw [e]
      clear e
      go_enter Tryd.func26, Tryd.ntmps26
      go_wp2
      go_ret
      exact ⟨rfl, rfl⟩
  · have e : decide (0 ≤ i ∧ i < R.length) = false := decide_eq_false (fun h => a h.1)
    rw [e]
    clear e
    go_enter Tryd.func26, Tryd.ntmps26
    go_wp2
    go_ret
    exact ⟨rfl, rfl⟩
set_option maxHeartbeats 2000000 in
theorem rget_no (h : RefT w N pr q R) (i k : Int) (hn : ¬ (0 ≤ i ∧ i < R.length)) : Calls Tryd.prog 18 #[ptP pr, .int .i64 i, .int .i64 k] w fun e w' => e = .returned (.tuple #[.agg #[.int .i64 0, .int .i64 0, .int .i64 0], .int .i64 1]) ∧ RowKit.Below w.heap.size w w' := by
  have HH : Hid (∀ W, RowKit.Below w.heap.size w W → Calls Tryd.prog 26 #[ptP pr, .int .i64 i] W fun e w' => e = .returned (.bool false) ∧ W = w') := fun W hb => by
    have := rhas_call (h.below hb) i
    rwa [decide_eq_false hn] at this
  clear h hn
  go_enter Tryd.func18, Tryd.ntmps18
  go_wp2_with fail
  refine (HH.out _ (Ba (Below.refl _ w) _)).mono ?_
  rintro e w1 ⟨rfl, rfl⟩
  go_wp2
  exact bodyPost_ret (v := .tuple #[.agg #[.int .i64 0, .int .i64 0, .int .i64 0], .int .i64 1]) (by simp [results, Tryd.results18, go_sem, *]) rfl ⟨rfl, (by repeat (first | with_reducible exact Below.refl _ _ | with_reducible assumption | with_reducible apply Ba | with_reducible apply Bd | with_reducible apply Bn | with_reducible apply Bg | (with_reducible refine Bs ?_ (by first | (simp; done) | (simp; omega)) _) | (with_reducible refine Bt ?_ (by assumption)) | (with_reducible refine Bt ?_ (Gr.below (by assumption)))))⟩
set_option maxHeartbeats 2000000 in
theorem rget_yes (h : RefT w N pr q R) (n : Nat) (hn : n < R.length) (k : Int) : Calls Tryd.prog 18 #[ptP pr, .int .i64 n, .int .i64 k] w fun e w' => e = .returned (.tuple #[if hasK R[n]!.2 k then aggV (fndV R[n]!.2 k) else .agg #[.int .i64 0, .int .i64 0, .int .i64 0], .int .i64 (if hasK R[n]!.2 k then 0 else 5)]) ∧ RowKit.Below w.heap.size w w' := by
  have HH : Hid (∀ W, RowKit.Below w.heap.size w W → Calls Tryd.prog 26 #[ptP pr, .int .i64 n] W fun e w' => e = .returned (.bool true) ∧ W = w') := fun W hb => by
    have := rhas_call (h.below hb) n
    rwa [decide_eq_true (show 0 ≤ (n : Int) ∧ (n : Int) < R.length from ⟨by omega, by omega⟩)] at this
  have bb := Ba (Below.refl _ w) (.cells #[.int .i64 0, .int .i64 0, .int .i64 0] 41)
  have B0 := Lib.hid bb
  obtain ⟨p, cap, hb, h1, h2, _⟩ := (h.below bb).open
  obtain ⟨g, sp, c, rfl, hg, d1, d2, d3, hs, hc1, hc2⟩ := (h.below bb).at hb hn
  obtain ⟨c0, c1, _, _⟩ := two_cells hb
  have hl := cell_lt c0
  have b0 := Lib.hid (heap_alloc_new w (.cells #[.int .i64 0, .int .i64 0, .int .i64 0] 41))
  have FF : Hid (Calls Tryd.prog 30 #[.slice sp R[n]!.2.length c, .int .i64 k] (w.alloc (.cells #[.int .i64 0, .int .i64 0, .int .i64 0] 41)) fun e w' => e = .returned (.tuple #[aggV (fndV R[n]!.2 k), .bool (hasK R[n]!.2 k)]) ∧ Gr (w.alloc (.cells #[.int .i64 0, .int .i64 0, .int .i64 0] 41)) w') := rfind_call _ _ k _ hs
  unfold aggV at *
  generalize fndV R[n]!.2 k = x at *
  generalize hasK R[n]!.2 k = hk at *
  generalize R[n]!.2.length = ll at *
  obtain ⟨x1, x2, x3⟩ := x
  dsimp only at *
  clear hb hs bb h
  cases hk
  · simp only [Bool.false_eq_true, if_false]
    go_enter Tryd.func18, Tryd.ntmps18
    go_wp2_with fail
    refine (HH.out _ B0.out).mono ?_
    rintro e w1 ⟨rfl, rfl⟩
    go_wp2_with fail
    refine FF.out.mono ?_
    rintro e w2 ⟨rfl, hg2⟩
    have B2 := Lib.hid (Bt B0.out hg2.below)
    have b2 := blk_below b0.out hg2.below
    obtain ⟨⟨r0, r1, r2⟩, r3, r4, r5⟩ := three_cells b2
    have hr := cell_lt r0
    clear hg2 b2
    go_wp2
    exact bodyPost_ret (v := .tuple #[.agg #[.int .i64 0, .int .i64 0, .int .i64 0], .int .i64 5]) (by simp [results, Tryd.results18, go_sem, *]) rfl ⟨rfl, by have := B2.out; exact Ba (Bs (Bs (Bs this (Nat.le_refl _) _) (Nat.le_refl _) _) (Nat.le_refl _) _) _⟩
  · simp only [if_true]
    go_enter Tryd.func18, Tryd.ntmps18
    go_wp2_with fail
    refine (HH.out _ B0.out).mono ?_
    rintro e w1 ⟨rfl, rfl⟩
    go_wp2_with fail
    refine FF.out.mono ?_
    rintro e w2 ⟨rfl, hg2⟩
    have B2 := Lib.hid (Bt B0.out hg2.below)
    have b2 := blk_below b0.out hg2.below
    obtain ⟨⟨r0, r1, r2⟩, r3, r4, r5⟩ := three_cells b2
    have hr := cell_lt r0
    clear hg2 b2
    go_wp2
    exact bodyPost_ret (v := .tuple #[.agg #[.int .i64 x1, .int .i64 x2, .int .i64 x3], .int .i64 0]) (by simp [results, Tryd.results18, go_sem, *]) rfl ⟨rfl, by have := B2.out; exact Ba (Bs (Bs (Bs this (Nat.le_refl _) _) (Nat.le_refl _) _) (Nat.le_refl _) _) _⟩
end
set_option maxHeartbeats 2000000 in
theorem rsame_call (h1 h2 k1 k2 : Int) (la lb : List Vl) (va vb : Value) (w : World) (ha : Sl encV w va la) (hb : Sl encV w vb lb) :
    Calls Tryd.prog 16 #[.agg #[.int .i64 h1, .int .i64 h2, va], .agg #[.int .i64 k1, .int .i64 k2, vb]] w fun e w' => e = .returned (.bool (decide ((h1, h2) = (k1, k2)) && decide (la = lb))) ∧ Gr w w' := by
  have FS : Hid (∀ W, RowKit.Below w.heap.size w W → Calls Tryd.prog 13 #[va, vb] W fun e w' => e = .returned (.bool (decide (la = lb))) ∧ Gr W w') := fun W h => same_call la lb va vb W (ha.below h) (hb.below h)
  obtain ⟨pa, ca, rfl, _, _, _⟩ := ha
  obtain ⟨pb, cb, rfl, _, _, _⟩ := hb
  generalize la.length = na at *
  generalize lb.length = nb at *
  generalize decide (la = lb) = sb at *
  have eq1 := eqH_run
  have gd1 := gdH_run
  by_cases hh : (h1, h2) = (k1, k2)
  · have hd : decide ((h1, h2) = (k1, k2)) = true := decide_eq_true hh
    have hd2 := Lib.hid hd
    simp only [hd, Bool.true_and]
    simp only [Prod.mk.injEq] at hh
    obtain ⟨rfl, rfl⟩ := hh
    clear hd hd2
    go_enter Tryd.func16, Tryd.ntmps16
    go_wp2_with fail
    refine (FS.out _ (Ba (Ba (Below.refl _ w) _) _)).mono ?_
    rintro e w1 ⟨rfl, hg1⟩
    go_wp2
    go_ret
    exact ⟨rfl, (by repeat (first | with_reducible exact Gr.refl _ | with_reducible assumption | with_reducible apply Gr.alloc | with_reducible apply Gr.drewN | with_reducible apply Gr.drew | with_reducible apply Gr.grow | (with_reducible refine Gr.trans ?_ (by assumption))))⟩
  · have hd : decide ((h1, h2) = (k1, k2)) = false := decide_eq_false hh
    have hd2 : (decide (h1 = k1 ∧ h2 = k2)) = false := decide_eq_false (fun e => hh (by rw [e.1, e.2]))
    simp only [hd, Bool.false_and]
    clear hh FS
    go_enter Tryd.func16, Tryd.ntmps16
    go_wp2
    go_ret
    exact ⟨rfl, (by repeat (first | with_reducible exact Gr.refl _ | with_reducible assumption | with_reducible apply Gr.alloc | with_reducible apply Gr.drewN | with_reducible apply Gr.drew | with_reducible apply Gr.grow | (with_reducible refine Gr.trans ?_ (by assumption))))⟩
end Go.Proofs.YtknfmjjlfhfocaaDoor
