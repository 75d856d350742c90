/-
  The reference's table: Set, Take, Add.
-/
import Derived.Test.YtknfmjjlfhfocaaDoorRt
import Derived.Test.YtknfmjjlfhfocaaDoorVw
namespace Go.Proofs.YtknfmjjlfhfocaaDoor
set_option linter.unusedSimpArgs false
set_option linter.unusedVariables false
open Go.RowKit Go.Sort Go.Lib Go.Shelf

section
variable {w w' : World} {N X : Nat → Prop} {pr q : Nat} {R : List En}
/-- A whole entity is stored into a row. -/
theorem rowE_put {b0 g n cap : Nat} {l : List Rw} (h : w.ownsRow b0 51 3 (.slice (some ⟨g, 0, none⟩) n cap) n (flat encE l)) (i : Nat) (hi : i < l.length) (x1 x2 : Int) (s : Sp) :
    (((w.setCell ⟨g, i * 3, none⟩ (.int .i64 x1)).setCell ⟨g, i * 3 + 1, none⟩ (.int .i64 x2)).setCell ⟨g, i * 3 + 2, none⟩ (slV s)).ownsRow b0 51 3 (.slice (some ⟨g, 0, none⟩) n cap) n (flat encE (l.set i ((x1, x2), s))) := by
  have k1 := (h.stored (i * 3) (.int .i64 x1)).1
  have f1 := flat_setc lenE 0 (by decide) ((x1, l[i].1.2), l[i].2) (.int .i64 x1) l i hi rfl
  rw [Nat.add_zero] at f1
  rw [f1] at k1
  have k2 := (k1.stored (i * 3 + 1) (.int .i64 x2)).1
  rw [flat_setc lenE 1 (by decide) ((x1, x2), l[i].2) (.int .i64 x2) _ i (by simpa using hi) (by simp [encE])] at k2
  have k3 := (k2.stored (i * 3 + 2) (slV s)).1
  rw [flat_setc lenE 2 (by decide) ((x1, x2), s) (slV s) _ i (by simpa using hi) (by simp [encE]), List.set_set, List.set_set] at k3
  exact k3
theorem rowE_put1 {b0 g n cap : Nat} {l : List Rw} (h : w.ownsRow b0 51 3 (.slice (some ⟨g, 0, none⟩) n cap) n (flat encE l)) (i : Nat) (hi : i < l.length) (s : Sp) :
    (w.setCell ⟨g, i * 3 + 2, none⟩ (slV s)).ownsRow b0 51 3 (.slice (some ⟨g, 0, none⟩) n cap) n (flat encE (l.set i (l[i].1, s))) := by
  have k3 := (h.stored (i * 3 + 2) (slV s)).1
  rw [flat_setc lenE 2 (by decide) (l[i].1, s) (slV s) _ i hi (by simp [encE])] at k3
  exact k3
/-- The inside of the reference's table, by letters. -/
structure RefI (w : World) (N : Nat → Prop) (pr q g cap : Nat) (R : List En) (rows : List Rw) (N1 N2 : Nat → Prop) : Prop where
  head : w.heap[pr]? = some (.cells #[.int .u64 q, .slice (some ⟨g, 0, none⟩) R.length cap] RfTy (0, 0))
  row : w.ownsRow 0 51 3 (.slice (some ⟨g, 0, none⟩) R.length cap) R.length (flat encE rows)
  len : rows.length = R.length
  at' : ∀ i, i < R.length → rows[i]!.1 = R[i]!.1 ∧ SlN N2 encV w (slV rows[i]!.2) R[i]!.2
  mg : N1 g
  mp : N1 pr
  n1 : ∀ b, N1 b → N b ∧ ¬ N2 b
  n2 : ∀ b, N2 b → N b
  lt : ∀ b, N b → b < w.heap.size
theorem RefT.inside (h : RefT w N pr q R) (h0 : 0 < R.length) : ∃ g cap rows N1 N2, RefI w N pr q g cap R rows N1 N2 ∧ R.length ≤ cap ∧ cap ≤ 9223372036854775807 := by
  obtain ⟨rows, vr, N1, N2, h1, h2, h3, h4, h5, h6, h7, h8⟩ := h
  obtain ⟨p, cap, rfl, h9, h10, h11⟩ := row_val h2.1
  obtain ⟨g, rfl, hg, hgo⟩ := h11 (by omega)
  have hr := h2.1
  rw [h3] at h1 hr h9
  unfold maxLen at h10
  exact ⟨g, cap, rows, N1, N2, ⟨h1, hr, h3, h4, h2.2 g hgo, h5, h6, h7, h8⟩, h9, by omega⟩
theorem RefI.out {g cap : Nat} {rows : List Rw} {N1 N2 : Nat → Prop} (h : RefI w N pr q g cap R rows N1 N2) : RefT w N pr q R :=
  ⟨rows, _, N1, N2, h.head, ⟨by rw [h.len]; exact h.row, fun g' e => by simp only [Value.ownBlock, Option.some.injEq] at e; exact e ▸ h.mg⟩, h.len, h.at', h.mp, h.n1, h.n2, h.lt⟩
theorem RefI.below {g cap : Nat} {rows : List Rw} {N1 N2 : Nat → Prop} (h : RefI w N pr q g cap R rows N1 N2) (t : RowKit.Below w.heap.size w w') : RefI w' N pr q g cap R rows N1 N2 :=
  ⟨blk_below h.head t, row_below h.row t, h.len, fun i hi => ⟨(h.at' i hi).1, (h.at' i hi).2.below t⟩, h.mg, h.mp, h.n1, h.n2, fun b e => Nat.lt_of_lt_of_le (h.lt b e) t.size⟩
theorem RefI.ne {g cap : Nat} {rows : List Rw} {N1 N2 : Nat → Prop} (h : RefI w N pr q g cap R rows N1 N2) : g ≠ pr := by
  obtain ⟨c, hc⟩ := row_type h.row (g := g) rfl
  exact type_apart hc h.head (by decide)
theorem RefI.cells {g cap : Nat} {rows : List Rw} {N1 N2 : Nat → Prop} (h : RefI w N pr q g cap R rows N1 N2) {i : Nat} (hi : i < R.length) : ∃ sp c, rows[i]!.2 = (sp, R[i]!.2.length, c) ∧ w.cell? ⟨g, i * 3, none⟩ = some (.int .i64 R[i]!.1.1) ∧ w.cell? ⟨g, i * 3 + 1, none⟩ = some (.int .i64 R[i]!.1.2) ∧ w.cell? ⟨g, i * 3 + 2, none⟩ = some (.slice sp R[i]!.2.length c) ∧
    (w.frozen? ⟨g, i * 3, none⟩ = false ∧ w.frozen? ⟨g, i * 3 + 1, none⟩ = false ∧ w.frozen? ⟨g, i * 3 + 2, none⟩ = false) ∧ Sl encV w (.slice sp R[i]!.2.length c) R[i]!.2 := by
  have hr := h.row
  obtain ⟨⟨d1, d2, d3⟩, f1, f2, f3⟩ := rowEn (l := rows) (show World.ownsRow w 0 51 3 (.slice (some ⟨g, 0, none⟩) rows.length cap) rows.length (flat encE rows) by rw [h.len]; exact h.row) (show i < rows.length by rw [h.len]; exact hi)
  obtain ⟨e1, e2⟩ := h.at' i hi
  obtain ⟨sp, c, e3, e4, e5, _⟩ := id e2
  rw [e3] at d3 e2
  rw [e1] at d1 d2
  have e6 : rows[i]!.2 = (sp, R[i]!.2.length, c) := by
    generalize rows[i]!.2 = s at e3
    obtain ⟨a, b, c'⟩ := s
    simp only [slV, Value.slice.injEq] at e3
    obtain ⟨rfl, rfl, rfl⟩ := e3
    rfl
  exact ⟨sp, c, e6, d1, d2, d3, ⟨f1, f2, f3⟩, e2.sl⟩
/-- The last row takes the place of row n, and the table is shorter by one. -/
theorem RefI.take {g cap : Nat} {rows : List Rw} {N1 N2 : Nat → Prop} (h : RefI w N pr q g cap R rows N1 N2) (n qn : Nat) (hn : n < R.length) (hq : R.length = qn + 1) (x1 x2 : Int) (s : Sp) (hx : rows[qn]! = ((x1, x2), s)) :
    RefT ((((w.setCell ⟨g, n * 3, none⟩ (.int .i64 x1)).setCell ⟨g, n * 3 + 1, none⟩ (.int .i64 x2)).setCell ⟨g, n * 3 + 2, none⟩ (slV s)).setCell ⟨pr, 1, none⟩ (.slice (some ⟨g, 0, none⟩) qn cap)) N pr q (takeC R n) ∧
    Tch N1 w ((((w.setCell ⟨g, n * 3, none⟩ (.int .i64 x1)).setCell ⟨g, n * 3 + 1, none⟩ (.int .i64 x2)).setCell ⟨g, n * 3 + 2, none⟩ (slV s)).setCell ⟨pr, 1, none⟩ (.slice (some ⟨g, 0, none⟩) qn cap)) := by
  have hng := (h.n1 g h.mg).1
  have hnp := (h.n1 pr h.mp).1
  have hne := h.ne
  have t1 : Tch N1 w (((w.setCell ⟨g, n * 3, none⟩ (.int .i64 x1)).setCell ⟨g, n * 3 + 1, none⟩ (.int .i64 x2)).setCell ⟨g, n * 3 + 2, none⟩ (slV s)) := ((Tch.set (M := N1) (p := ⟨g, n * 3, none⟩) w h.mg _).more (Tch.set (M := N1) (p := ⟨g, n * 3 + 1, none⟩) _ h.mg _)).more (Tch.set (M := N1) (p := ⟨g, n * 3 + 2, none⟩) _ h.mg _)
  have r1 := rowE_put h.row n (by rw [h.len]; exact hn) x1 x2 s
  have hd := blk_far (blk_far (blk_far h.head (p := ⟨g, n * 3, none⟩) (Ne.symm hne) (.int .i64 x1)) (p := ⟨g, n * 3 + 1, none⟩) (Ne.symm hne) (.int .i64 x2)) (p := ⟨g, n * 3 + 2, none⟩) (Ne.symm hne) (slV s)
  generalize (((w.setCell ⟨g, n * 3, none⟩ (.int .i64 x1)).setCell ⟨g, n * 3 + 1, none⟩ (.int .i64 x2)).setCell ⟨g, n * 3 + 2, none⟩ (slV s)) = W at *
  have t2 : Tch N1 W (W.setCell ⟨pr, 1, none⟩ (.slice (some ⟨g, 0, none⟩) qn cap)) := Tch.set (M := N1) (p := ⟨pr, 1, none⟩) W h.mp _
  have t := t1.more t2
  have hl : (takeC R n).length = qn := by rw [takeC_len, hq]; rfl
  have hlr : (takeC rows n).length = qn := by rw [takeC_len, h.len, hq]; rfl
  have e := heap_setCell_same W pr 1 #[.int .u64 q, .slice (some ⟨g, 0, none⟩) R.length cap] RfTy (.slice (some ⟨g, 0, none⟩) qn cap) hd
  have r2 := row_front lenE (set_row hd r1 (by decide) 1 (.slice (some ⟨g, 0, none⟩) qn cap)) (by rw [List.length_set, h.len]) qn (by omega)
  have hset : rows.set n ((x1, x2), s) = rows.set n rows[qn]! := by rw [hx]
  have htk : (rows.set n ((x1, x2), s)).take qn = takeC rows n := by
    unfold takeC
    rw [hset, h.len, hq]
    rfl
  rw [htk] at r2
  refine ⟨⟨takeC rows n, .slice (some ⟨g, 0, none⟩) qn cap, N1, N2, by simpa using e, ⟨r2, fun g' e => by simp only [Value.ownBlock, Option.some.injEq] at e; exact e ▸ h.mg⟩, by rw [hl, hlr], fun i hi => ?_, h.mp, h.n1, h.n2, fun b e => Nat.lt_of_lt_of_le (h.lt b e) t.size⟩, t⟩
  rw [hl] at hi
  rw [takeC_get rows n i (by rw [h.len, hq]; exact hi), takeC_get R n i (by rw [hq]; exact hi), h.len]
  have key : ∀ j, j < R.length → rows[j]!.1 = R[j]!.1 ∧ SlN N2 encV (W.setCell ⟨pr, 1, none⟩ (.slice (some ⟨g, 0, none⟩) qn cap)) (slV rows[j]!.2) R[j]!.2 := fun j hj => ⟨(h.at' j hj).1, (h.at' j hj).2.kept t (fun b e1 e2 => (h.n1 b e2).2 e1)⟩
  split
  · exact key _ (by omega)
  · exact key _ (by omega)

set_option maxHeartbeats 2000000 in
theorem rtake_no (h : RefT w N pr q R) (i : Int) (hn : ¬ (0 ≤ i ∧ i < R.length)) : Calls Tryd.prog 15 #[ptP pr, .int .i64 i] w fun e w' => e = .returned (.tuple #[.agg #[.int .i64 0, .int .i64 0, .slice none 0 0], .int .i64 1]) ∧ RowKit.Below w.heap.size w w' := by
  have HH : Hid (∀ W, RowKit.Below w.heap.size w W → Calls Tryd.prog 26 #[ptP pr, .int .i64 i] W fun e w' => e = .returned (.bool false) ∧ W = w') := fun W hb => by
    have := rhas_call (h.below hb) i
    rwa [decide_eq_false hn] at this
  clear h hn
  go_enter Tryd.func15, Tryd.ntmps15
  go_wp2_with fail
  refine (HH.out _ (Ba (Below.refl _ w) _)).mono ?_
  rintro e w1 ⟨rfl, rfl⟩
  go_wp2
  exact bodyPost_ret (v := .tuple #[.agg #[.int .i64 0, .int .i64 0, .slice none 0 0], .int .i64 1]) (by simp [results, Tryd.results15, go_sem, *]) rfl ⟨rfl, (by repeat (first | with_reducible exact Below.refl _ _ | with_reducible assumption | with_reducible apply Ba | with_reducible apply Bd | with_reducible apply Bn | with_reducible apply Bg | (with_reducible refine Bs ?_ (by first | (simp; done) | (simp; omega)) _) | (with_reducible refine Bt ?_ (by assumption)) | (with_reducible refine Bt ?_ (Gr.below (by assumption)))))⟩
set_option maxHeartbeats 4000000 in
set_option maxRecDepth 100000 in
theorem rtake_yes (h : RefT w N pr q R) (n : Nat) (hn : n < R.length) : Calls Tryd.prog 15 #[ptP pr, .int .i64 n] w fun e w' => (∃ v, e = .returned (.tuple #[.agg #[.int .i64 R[n]!.1.1, .int .i64 R[n]!.1.2, v], .int .i64 0]) ∧ Sl encV w' v R[n]!.2) ∧ RefT w' N pr q (takeC R n) ∧ Tch N w w' := by
  have HH : Hid (∀ W, RowKit.Below w.heap.size w W → Calls Tryd.prog 26 #[ptP pr, .int .i64 n] W fun e w' => e = .returned (.bool true) ∧ W = w') := fun W hb => by
    have := rhas_call (h.below hb) n
    rwa [decide_eq_true (show 0 ≤ (n : Int) ∧ (n : Int) < R.length from ⟨by omega, by omega⟩)] at this
  obtain ⟨g, cap, rows, N1, N2, hI0, hc1, hc2⟩ := h.inside (by omega)
  have bb1 := Ba (Below.refl _ w) (.cells #[.int .i64 0, .int .i64 0, .slice none 0 0] 51)
  have hI1 := hI0.below bb1
  obtain ⟨sp, c, hrn, d1, d2, d3, _, hs⟩ := hI1.cells hn
  have hsn := (hI1.at' n hn).2
  rw [hrn] at hsn
  have HSN := Lib.hid (show SlN N2 encV _ (.slice sp R[n]!.2.length c) R[n]!.2 from hsn)
  clear hrn hsn
  have hne := hI0.ne
  obtain ⟨qn, hq⟩ : ∃ qn, R.length = qn + 1 := ⟨R.length - 1, by omega⟩
  have hll : (R.length : Int) - 1 = (qn : Int) := by omega
  have hqL : qn < R.length := by omega
  have hqi : (qn : Int) < (R.length : Int) := by omega
  have hqc : qn ≤ cap := by omega
  have HQ := Lib.hid hq
  obtain ⟨c0, c1, z0, z1⟩ := two_cells hI1.head
  have hl := cell_lt c0
  have hlg := cell_lt d1
  have HLT := Lib.hid hI0.lt
  have HI := Lib.hid hI0
  have R1 := Lib.hid (heap_alloc_new w (.cells #[.int .i64 0, .int .i64 0, .slice none 0 0] 51))
  have HS := Lib.hid hs
  clear h hI0 hI1 hs hq
  obtain ⟨ll, hlle⟩ : ∃ ll, ll = R[n]!.2.length := ⟨_, rfl⟩
  have HLE := Lib.hid hlle
  rw [← hlle] at d3 HS HSN
  clear hlle
  obtain ⟨hd, hhd⟩ : ∃ hd, hd = R[n]!.1 := ⟨_, rfl⟩
  rw [← hhd] at d1 d2 ⊢
  clear hhd
  obtain ⟨x1, x2⟩ := hd
  dsimp only at d1 d2 ⊢
  have B1 := Lib.hid bb1
  clear bb1
  go_enter Tryd.func15, Tryd.ntmps15
  go_wp2_with fail
  refine (HH.out _ B1.out).mono ?_
  rintro e w1 ⟨rfl, rfl⟩
  have hsz : (w.alloc (.cells #[.int .i64 0, .int .i64 0, .slice none 0 0] 51)).heap.size = w.heap.size + 1 := by simp
  obtain ⟨W2, hW2⟩ : ∃ W2, W2 = (w.alloc (.cells #[.int .i64 0, .int .i64 0, .slice none 0 0] 51)).alloc (.cells #[.int .i64 x1, .int .i64 x2, .slice sp ll c] 51) := ⟨_, rfl⟩
  have bb := Lib.hid (show RowKit.Below w.heap.size w W2 by rw [hW2]; exact Ba B1.out _)
  have R2 := Lib.hid (show W2.heap[w.heap.size]? = some (.cells #[.int .i64 0, .int .i64 0, .slice none 0 0] 51 (0, 0)) by rw [hW2]; exact blk_below R1.out (Ba (Below.refl _ _) _))
  have X2 := Lib.hid (show W2.heap[w.heap.size + 1]? = some (.cells #[.int .i64 x1, .int .i64 x2, .slice sp ll c] 51 (0, 0)) by rw [hW2, ← hsz]; exact heap_alloc_new _ _)
  have HS2 := Lib.hid (show Sl encV W2 (.slice sp ll c) R[n]!.2 by rw [hW2]; exact HS.out.below (Ba (Below.refl _ _) _))
  have I2 := Lib.hid (HI.out.below bb.out)
  have HSN2 := Lib.hid (show SlN N2 encV W2 (.slice sp ll c) R[n]!.2 by rw [hW2]; exact HSN.out.below (Ba (Below.refl _ _) _))
  obtain ⟨k0, k1, kz0, kz1⟩ := two_cells I2.out.head
  obtain ⟨_, _, _, e1, e2, e3, ⟨y1, y2, y3⟩, _⟩ := I2.out.cells hn
  obtain ⟨sq, cq, hrq, f1, f2, f3, _, _⟩ := I2.out.cells hqL
  have HRQ := Lib.hid (show rows[qn]! = (R[qn]!.1, (sq, R[qn]!.2.length, cq)) from Prod.ext (I2.out.at' qn hqL).1 hrq)
  generalize R[qn]!.2.length = lq at *
  generalize hrq1 : R[qn]!.1 = cc at *
  obtain ⟨u1, u2⟩ := cc
  dsimp only at f1 f2 HRQ
  generalize R[n]!.2.length = ln at e3
  generalize R[n]!.1 = ee at e1 e2
  clear hrq1 hrq hsz
  have hlp := cell_lt k0
  have hlg2 := cell_lt f1
  have k1x := k1
  have hlpx := hlp
  rw [hW2] at k1x hlpx
  go_wp2_with fail
  rw [← hW2]
  clear hW2 k1x hlpx c0 c1 z0 z1 d1 d2 d3 hl hlg R1 HS
  obtain ⟨PP, TT⟩ := (I2.out.below (Bd (Below.refl _ _))).take n qn hn HQ.out u1 u2 (sq, lq, cq) HRQ.out
  have hgw : g < w.heap.size := HLT.out g (I2.out.n1 g I2.out.mg).1
  have hpw : pr < w.heap.size := HLT.out pr (I2.out.n1 pr I2.out.mp).1
  go_region
  obtain ⟨W3, hW3⟩ : ∃ W3, W3 = (((W2.setCell ⟨g, n * 3, none⟩ (.int .i64 u1)).setCell ⟨g, n * 3 + 1, none⟩ (.int .i64 u2)).setCell ⟨g, n * 3 + 2, none⟩ (.slice sq lq cq)).drew := ⟨_, rfl⟩
  have PP3 := Lib.hid (show RefT (W3.setCell ⟨pr, 1, none⟩ (.slice (some ⟨g, 0, none⟩) qn cap)) N pr q (takeC R n) by rw [hW3]; exact PP)
  have TT3 := Lib.hid (show Tch N1 W2 (W3.setCell ⟨pr, 1, none⟩ (.slice (some ⟨g, 0, none⟩) qn cap)) by rw [hW3]; exact (Tch.of (Bd (Below.refl _ W2))).more TT)
  have h3 := blk_far (blk_far (blk_far I2.out.head (p := ⟨g, n * 3, none⟩) (Ne.symm hne) (.int .i64 u1)) (p := ⟨g, n * 3 + 1, none⟩) (Ne.symm hne) (.int .i64 u2)) (p := ⟨g, n * 3 + 2, none⟩) (Ne.symm hne) (.slice sq lq cq)
  have r3 := blk_far (blk_far (blk_far R2.out (p := ⟨g, n * 3, none⟩) (show w.heap.size ≠ g by omega) (.int .i64 u1)) (p := ⟨g, n * 3 + 1, none⟩) (show w.heap.size ≠ g by omega) (.int .i64 u2)) (p := ⟨g, n * 3 + 2, none⟩) (show w.heap.size ≠ g by omega) (.slice sq lq cq)
  have x3 := blk_far (blk_far (blk_far X2.out (p := ⟨g, n * 3, none⟩) (show w.heap.size + 1 ≠ g by omega) (.int .i64 u1)) (p := ⟨g, n * 3 + 1, none⟩) (show w.heap.size + 1 ≠ g by omega) (.int .i64 u2)) (p := ⟨g, n * 3 + 2, none⟩) (show w.heap.size + 1 ≠ g by omega) (.slice sq lq cq)
  replace h3 : W3.heap[pr]? = some (.cells #[.int .u64 q, .slice (some ⟨g, 0, none⟩) R.length cap] RfTy (0, 0)) := by rw [hW3]; exact h3
  replace r3 : W3.heap[w.heap.size]? = some (.cells #[.int .i64 0, .int .i64 0, .slice none 0 0] 51 (0, 0)) := by rw [hW3]; exact r3
  replace x3 : W3.heap[w.heap.size + 1]? = some (.cells #[.int .i64 x1, .int .i64 x2, .slice sp ll c] 51 (0, 0)) := by rw [hW3]; exact x3
  have HS3 := Lib.hid (HSN2.out.kept TT3.out (fun b e1 e2 => (I2.out.n1 b e2).2 e1))
  have TW3 := Lib.hid (show Tch N w (W3.setCell ⟨pr, 1, none⟩ (.slice (some ⟨g, 0, none⟩) qn cap)) from (Tch.of bb.out).more (TT3.out.mono (fun b e => (I2.out.n1 b e).1)))
  rw [← hW3]
  clear hW3 PP TT k0 k1 kz0 kz1 e1 e2 e3 y1 y2 y3 f1 f2 f3 hlp hlg2
  obtain ⟨k0, k1, kz0, kz1⟩ := two_cells h3
  obtain ⟨⟨a1, a2, a3⟩, _⟩ := three_cells x3
  obtain ⟨⟨r1, r2, rr3⟩, v1, v2, v3⟩ := three_cells r3
  have hlp := cell_lt k0
  have hlx := cell_lt a1
  have hlr := cell_lt r1
  have m1 : ¬ pr = w.heap.size := by omega
  have m2 : ¬ w.heap.size = pr := by omega
  have m3 : ¬ pr = w.heap.size + 1 := by omega
  have m4 : ¬ w.heap.size + 1 = pr := by omega
  clear h3 x3 r3
  go_wp2
  have P9 := PP3.out.kept (far3_tch _ w.heap.size (.int .i64 x1) (.int .i64 x2) (.slice sp ll c)) (fun b e1 e2 => by have := HLT.out b e1; omega)
  have S9 := (HS3.out.kept (far3_tch _ w.heap.size (.int .i64 x1) (.int .i64 x2) (.slice sp ll c)) (fun b e1 e2 => by have := HLT.out b (I2.out.n2 b e1); omega)).sl
  exact bodyPost_ret (v := .tuple #[.agg #[.int .i64 x1, .int .i64 x2, .slice sp ll c], .int .i64 0]) (by simp [results, Tryd.results15, go_sem, *]) rfl ⟨⟨_, rfl, S9⟩, P9, TW3.out.fresh3 (Nat.le_refl _) _ _ _⟩
end
end Go.Proofs.YtknfmjjlfhfocaaDoor
