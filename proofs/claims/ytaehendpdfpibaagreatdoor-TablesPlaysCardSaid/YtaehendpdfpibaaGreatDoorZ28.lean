import Derived.Test.YtaehendpdfpibaaGreatDoorZ24
import Derived.Test.YtaehendpdfpibaaGreatDoorZ4
import Derived.Deep.RegionLaw

/-
  The reference's store: become (an entity's components are these, if there is room for the tables).
-/
namespace Go.Proofs.YtaehendpdfpibaaGreatDoor
set_option linter.unusedSimpArgs false
set_option linter.unusedVariables false
open Go.RowKit Go.Sort Go.Lib Go.Shelf

/-! ### Pure. -/
def moveEL (L : List En) (h : Hd) (l : List Vl) : List En := if moveEN L h l = 0 then setE L h l else L
theorem rise_at8 {L : List En} (hL : RiseE L) {i j : Nat} (hi : i < L.length) (hj : j < L.length) (e : L[i].1 = L[j].1) : i = j := by
  have hn := rise_hds hL
  unfold hds at hn
  have hp := List.pairwise_iff_getElem.1 hn
  rcases Nat.lt_trichotomy i j with c | c | c
  · exact (hp i j (by simpa using hi) (by simpa using hj) c (by simpa using e)).elim
  · exact c
  · exact (hp j i (by simpa using hj) (by simpa using hi) c (by simpa using e.symm)).elim
theorem set_idx8 {L : List En} (hL : RiseE L) {i : Nat} (hi : i < L.length) {h : Hd} {l0 : List Vl} (e : L[i]! = (h, l0)) (l : List Vl) : L.set i (h, l) = setE L h l := by
  rw [getElem!_pos L i hi] at e
  unfold setE
  refine List.ext_getElem (by simp) fun j h1 h2 => ?_
  rw [List.length_set] at h1
  rw [List.getElem_set, List.getElem_map]
  by_cases c : i = j
  · subst c
    rw [if_pos rfl, if_pos (by rw [e])]
  · rw [if_neg c, if_neg (fun q => c (rise_at8 hL hi h1 (by rw [e, q])))]
theorem del_idx8 {L : List En} (hL : RiseE L) {i : Nat} (hi : i < L.length) {h : Hd} {l0 : List Vl} (e : L[i]! = (h, l0)) : L.take i ++ L.drop (i + 1) = delE L h := by
  rw [getElem!_pos L i hi] at e
  have e2 : L = L.take i ++ L[i] :: L.drop (i + 1) := by
    rw [← List.drop_eq_getElem_cons hi, List.take_append_drop]
  have hn := rise_hds hL
  unfold hds at hn
  unfold delE
  have h1 : (L.take i).filter (fun r => !decide (r.1 = h)) = L.take i := List.filter_eq_self.2 fun r hr => by
    obtain ⟨j, hj, rfl⟩ := List.mem_iff_getElem.1 hr
    rw [List.getElem_take]
    have hjl : j < i := by rw [List.length_take] at hj; omega
    have : ¬ L[j].1 = h := fun q => by
      have := rise_at8 hL (show j < L.length by omega) hi (by rw [e, q])
      omega
    simp [this]
  have h2 : (L.drop (i + 1)).filter (fun r => !decide (r.1 = h)) = L.drop (i + 1) := List.filter_eq_self.2 fun r hr => by
    obtain ⟨j, hj, rfl⟩ := List.mem_iff_getElem.1 hr
    rw [List.getElem_drop]
    rw [List.length_drop] at hj
    have : ¬ (L[i + 1 + j]'(by omega)).1 = h := fun q => by
      have := rise_at8 hL (show i + 1 + j < L.length by omega) hi (by rw [e, q])
      omega
    simp [this]
  conv => rhs; rw [e2]
  rw [List.filter_append, List.filter_cons, h1, h2, e]
  simp
section
variable {w w1 w7 : World} {N N9 M : Nat → Prop} {pr : Nat} {L : List En}
/-- A whole entity is stored into a row of the call's own. -/
theorem rowZ_put {b0 g n cap : Nat} {Z : List Zn} (h : w.ownsRow b0 38 3 (.slice (some ⟨g, 0, none⟩) n cap) n (flat encZ Z)) (i : Nat) (hi : i < Z.length) (x1 x2 : Int) (l : List Vl) (s : Sp) :
    (((w.setCell ⟨g, i * 3, none⟩ (.int .i64 x1)).setCell ⟨g, i * 3 + 1, none⟩ (.int .i64 x2)).setCell ⟨g, i * 3 + 2, none⟩ (slV s)).ownsRow b0 38 3 (.slice (some ⟨g, 0, none⟩) n cap) n (flat encZ (Z.set i (((x1, x2), l), s))) := by
  have k1 := (h.stored (i * 3) (.int .i64 x1)).1
  have f1 := flat_setc lenZ 0 (by decide) (((x1, Z[i].1.1.2), l), Z[i].2) (.int .i64 x1) Z i hi rfl
  rw [Nat.add_zero] at f1
  rw [f1] at k1
  have k2 := (k1.stored (i * 3 + 1) (.int .i64 x2)).1
  rw [flat_setc lenZ 1 (by decide) (((x1, x2), l), Z[i].2) (.int .i64 x2) _ i (by simpa using hi) (by simp [encZ])] at k2
  have k3 := (k2.stored (i * 3 + 2) (slV s)).1
  rw [flat_setc lenZ 2 (by decide) (((x1, x2), l), s) (slV s) _ i (by simpa using hi) (by simp [encZ]), List.set_set, List.set_set] at k3
  exact k3
theorem Tch.setNew8 (t : Tch M w w1) {g : Nat} (hg : w.heap.size ≤ g) (o : Nat) (u : Value) : Tch M w (w1.setCell ⟨g, o, none⟩ u) :=
  ⟨t.os, t.tape, t.output, by simpa using t.size, fun k hk hn => (heap_setCell_other w1 ⟨g, o, none⟩ k u (fun e => by have e' : k = g := e; omega)).trans (t.block k hk hn)⟩
/-- The store's row is one of the call's own. -/
theorem refS_own {Z : List Zn} {g n cap : Nat} (HLT : ∀ b, N b → b < w.heap.size) (hNp : N pr) (hs : w.heap.size ≤ w7.heap.size) (hp : w7.heap[pr]? = some (.cells #[.slice (some ⟨g, 0, none⟩) n cap] RsTy (0, 0)))
    (ho : w7.ownsRow w.heap.size 38 3 (.slice (some ⟨g, 0, none⟩) n cap) n (flat encZ Z)) (hn : n = Z.length) (hz : ∀ z ∈ Z, SlN N9 encV w7 (slV z.2) z.1.2) (hN9 : ∀ b, N9 b → (N b ∨ w.heap.size ≤ b) ∧ b ≠ pr) :
    RefS w7 (New N w w7) pr (Z.map Prod.fst) := by
  have hprl := HLT pr hNp
  refine ⟨_, fun b => (N9 b ∧ b < w7.heap.size) ∨ (w.heap.size ≤ b ∧ b < w7.heap.size), hp, ⟨Z, (SlN.of lenZ ho hn).inside8.mono (fun b e => .inr e), rfl, fun z hz' => (hz z hz').inside8.mono (fun b e => .inl e)⟩, .inl hNp, fun b e => ?_, fun b e => ?_⟩
  · rcases e with e | e
    · refine ⟨?_, (hN9 b e.1).2⟩
      rcases (hN9 b e.1).1 with c | c
      · exact .inl c
      · exact .inr ⟨c, e.2⟩
    · exact ⟨.inr e, by omega⟩
  · rcases e with e | e
    · have := HLT b e; omega
    · exact e.2
end
section
variable {w w' : World} {N Ne : Nat → Prop} {pr : Nat} {L : List En}
set_option maxHeartbeats 8000000 in
set_option maxRecDepth 100000 in
theorem rbecomeS (h : RefS w N pr L) (hG : Good L) {i : Nat} (hi : i < L.length) {x1 x2 : Int} {l0 : List Vl} (hL : L[i]! = ((x1, x2), l0)) (l : List Vl) (s : Option Addr) (c : Nat) (hv : SlN Ne encV w (.slice s l.length c) l) (hN : ∀ b, Ne b → N b ∧ b ≠ pr) (hr : RightV l) :
    Calls Tryz.prog 89 #[rsP pr, .int .i64 i, .slice s l.length c] w fun e w' => e = .returned (.int .i64 (moveEN L (x1, x2) l : Nat)) ∧ RefS w' (New N w w') pr (moveEL L (x1, x2) l) ∧ Tch (fun b => b = pr) w w' := by
  have HLT := Lib.hid h.lt
  obtain ⟨p, cap, N1, hb, hls, h1, h2, hNp, hN1⟩ := h.open
  have hprl := HLT.out pr hNp
  obtain ⟨g, o, sp, n0, rfl, hg, _, d1, d2, d3, hsl, hc1, hc2⟩ := hls.at hi
  rw [hL] at d1 d2 d3 hsl hc1
  dsimp only at d1 d2 d3 hsl hc1
  have hiz : (i : Int) < (L.length : Int) := by omega
  have hin := hi
  have h128 := hG.len
  have HG := Lib.hid hG
  obtain ⟨Z, hZ1, hZ2, hZ3⟩ := hls
  have hZl : Z.length = L.length := by rw [← hZ2, List.length_map]
  have HZ1 := Lib.hid hZ1
  have HZ2 := Lib.hid hZ2
  have HZ3 := Lib.hid hZ3
  have HN1 := Lib.hid hN1
  have HNe := Lib.hid hN
  have HV := Lib.hid hv
  have HL := Lib.hid hL
  have hri : ∀ r ∈ setE L (x1, x2) l, RightV r.2 := fun r hr' => by
    unfold setE at hr'
    obtain ⟨q, hq, rfl⟩ := List.mem_map.1 hr'
    split
    · exact hr
    · exact hG.right q hq
  have HRI := Lib.hid hri
  have HSET := Lib.hid (set_idx8 hG.rise hi hL l)
  have HMV : Hid (moveEN L (x1, x2) l = if nM (setE L (x1, x2) l) ≤ 32 then 0 else 2) := Lib.hid rfl
  have hnm := nM_le (setE L (x1, x2) l)
  have hll : l.length ≤ c := by obtain ⟨_, _, e9, q1, _⟩ := hv; simp only [Value.slice.injEq] at e9; obtain ⟨_, _, rfl⟩ := e9; exact q1
  -- the entity that was
  have bE := Ba (Below.refl _ w) (.cells #[.int .i64 x1, .int .i64 x2, .slice sp l0.length n0] 38)
  have E1 := Lib.hid (heap_alloc_new w (.cells #[.int .i64 x1, .int .i64 x2, .slice sp l0.length n0] 38))
  obtain ⟨c0, f0⟩ := one_cell hb
  have hl := cell_lt c0
  have HB := Lib.hid hb
  obtain ⟨z0, hz0⟩ : ∃ z0, z0 = Z[i]! := ⟨_, rfl⟩
  have hzi : Z[i]! = (((x1, x2), l0), (sp, l0.length, n0)) := by
    obtain ⟨p', cap', e', q1, q2, q3⟩ := hZ1
    simp only [Value.slice.injEq] at e'
    obtain ⟨e1, _, e3⟩ := e'
    obtain ⟨g', o', e4, _, _, hcl⟩ := q3 (by omega)
    rw [← e1] at e4
    simp only [Option.some.injEq, Addr.mk.injEq, and_true] at e4
    obtain ⟨rfl, rfl⟩ := e4
    have f3 : w.cell? ⟨g, o + i * 3 + 2, none⟩ = some (slV Z[i]!.2) := sl_at lenZ hcl (show i < Z.length by omega) 2 _ rfl
    have f4 : Z[i]!.1 = ((x1, x2), l0) := by rw [← map_at Prod.fst Z (by omega), hZ2]; exact hL
    rw [d3] at f3
    have f5 := Option.some.inj f3
    generalize Z[i]! = zz at f4 f5
    obtain ⟨a, b1, b2, b3⟩ := zz
    simp only [slV, Value.slice.injEq] at f5
    obtain ⟨rfl, rfl, rfl⟩ := f5
    dsimp only at f4
    rw [f4]
  have HZI := Lib.hid hzi
  clear h hL hv hN hri hZ1 hZ2 hZ3 hb hN1 hzi hsl
  have hsz : (w.alloc (.cells #[.int .i64 x1, .int .i64 x2, .slice sp l0.length n0] 38)).heap.size = w.heap.size + 1 := by simp
  have O1 := Lib.hid (show ((w.alloc (.cells #[.int .i64 x1, .int .i64 x2, .slice sp l0.length n0] 38)).alloc (.cells #[] 38)).ownsRow w.heap.size 38 3 (.slice (some ⟨w.heap.size + 1, 0, none⟩) 0 0) ([] : List Zn).length (flat encZ []) from by
    have : ((w.alloc (.cells #[.int .i64 x1, .int .i64 x2, .slice sp l0.length n0] 38)).alloc (.cells #[] 38)).ownsRow w.heap.size 38 3 (.slice (some ⟨(w.alloc (.cells #[.int .i64 x1, .int .i64 x2, .slice sp l0.length n0] 38)).heap.size, 0, none⟩) 0 0) ([] : List Zn).length (flat encZ []) := World.ownsRow_made (w.alloc (.cells #[.int .i64 x1, .int .i64 x2, .slice sp l0.length n0] 38)) #[] 0 bE.size (Nat.zero_le _) (by simp)
    rw [hsz] at this
    exact this)
  have A1 := Lib.hid (Ba bE (.cells #[] 38))
  have S1 := Lib.hid (HZ1.out.below A1.out).sl
  go_enter Tryz.func89, Tryz.ntmps89
  go_wp2_with (at_builtin; refine wpl_app2 apZ rfl _ _ rfl w.heap.size (by rfl) (by rfl) O1.out rfl S1.out (by simp; omega) A1.out.size ?_; intro v4 w4 hown4 hgrow4 hat4 hnn4; rw [List.nil_append, hZl] at hown4; have O4 := Lib.hid hown4; have B4 := Lib.hid (grownB A1.out O1.out hgrow4); have H4 := Lib.hid hat4; have T4 := Lib.hid (Tch.grown (M := fun b => b = w.heap.size + 1) hgrow4 (fun g hg => by simp only [Value.ownBlock, Option.some.injEq] at hg; exact hg.symm)); obtain ⟨p4, cp4, rfl, hq4, hq5, hp4⟩ := row_val hown4; obtain ⟨g4, rfl, hg4, hgo4⟩ := hp4 (by omega); obtain ⟨c04, f04⟩ := one_cell (blk_below HB.out B4.out); have hl4 := cell_lt c04; have HGO := Lib.hid hgo4; clear hown4 hgrow4 hat4 hnn4 hgo4)
  have hg4n : g4 ≠ w.heap.size ∧ w.heap.size ≤ g4 := by
    have h4 := H4.out
    rw [HGO.out] at h4
    rcases h4 with q | q
    · simp only [Value.ownBlock, Option.some.injEq] at q; omega
    · simp at q; omega
  obtain ⟨hgw, hgw2⟩ := hg4n
  have hgp : g4 ≠ pr := by omega
  have hgp2 : pr ≠ g4 := by omega
  have hep : w.heap.size ≠ pr := by omega
  have hcp4 : cp4 ≤ 9223372036854775807 := by unfold maxLen at hq5; omega
  obtain ⟨w5, hw5⟩ : ∃ w5, w5 = w4.setCell ⟨pr, 0, none⟩ (.slice (some ⟨g4, 0, none⟩) L.length cp4) := ⟨_, rfl⟩
  have X5 := Lib.hid (show w5.heap[pr]? = some (.cells #[.slice (some ⟨g4, 0, none⟩) L.length cp4] RsTy (0, 0)) by
    rw [hw5]
    have := heap_setCell_same w4 pr 0 _ _ (.slice (some ⟨g4, 0, none⟩) L.length cp4) (blk_below HB.out B4.out)
    simpa using this)
  have E5 := Lib.hid (show w5.heap[w.heap.size]? = some (.cells #[.int .i64 x1, .int .i64 x2, .slice sp l0.length n0] 38 (0, 0)) by
    rw [hw5]
    exact blk_far (T4.out.blk (blk_below E1.out (Ba (Below.refl _ _) _)) (by omega)) hep _)
  have O5 := Lib.hid (show w5.ownsRow w.heap.size 38 3 (.slice (some ⟨g4, 0, none⟩) L.length cp4) L.length (flat encZ Z) by
    rw [hw5]
    exact set_row (blk_below HB.out B4.out) O4.out (by decide) 0 _)
  have T5 := Lib.hid (show Tch (fun b => b = pr) w w5 by
    rw [hw5]
    exact (Tch.of B4.out).more (Tch.set (M := fun b => b = pr) (p := ⟨pr, 0, none⟩) w4 rfl _))
  rw [← hw5]
  clear hw5 c04 f04 hl4 O1 A1 S1 O4 B4 H4 T4 HGO d1 d2 d3 c0 f0 hl
  obtain ⟨k0, kf⟩ := one_cell X5.out
  have hlk := cell_lt k0
  obtain ⟨⟨e0, e1, e2⟩, _, _, _⟩ := three_cells E5.out
  have hel := cell_lt e0
  have r0 : w5.cell? ⟨g4, i * 3, none⟩ = some (.int .i64 Z[i]!.1.1.1) := row_cellsK lenZ (show World.ownsRow w5 w.heap.size 38 3 (.slice (some ⟨g4, 0, none⟩) Z.length cp4) Z.length (flat encZ Z) by rw [hZl]; exact O5.out) (show i < Z.length by omega) 0 _ rfl
  have r1 : w5.cell? ⟨g4, i * 3 + 1, none⟩ = some (.int .i64 Z[i]!.1.1.2) := row_cellsK lenZ (show World.ownsRow w5 w.heap.size 38 3 (.slice (some ⟨g4, 0, none⟩) Z.length cp4) Z.length (flat encZ Z) by rw [hZl]; exact O5.out) (show i < Z.length by omega) 1 _ rfl
  have r2 : w5.cell? ⟨g4, i * 3 + 2, none⟩ = some (slV Z[i]!.2) := row_cellsK lenZ (show World.ownsRow w5 w.heap.size 38 3 (.slice (some ⟨g4, 0, none⟩) Z.length cp4) Z.length (flat encZ Z) by rw [hZl]; exact O5.out) (show i < Z.length by omega) 2 _ rfl
  have y0 := O5.out.frozenAt (i * 3)
  have y1 := O5.out.frozenAt (i * 3 + 1)
  have y2 := O5.out.frozenAt (i * 3 + 2)
  have hlr := cell_lt r0
  go_region
  have TS := fun (t : Tch (fun b => b = pr) w w5) (u1 u2 u3 : Value) => (((t.setNew8 hgw2 (i * 3) u1).setNew8 hgw2 (i * 3 + 1) u2).setNew8 hgw2 (i * 3 + 2) u3)
  obtain ⟨w7, hw7⟩ : ∃ w7, w7 = (((w5.setCell ⟨g4, i * 3, none⟩ (.int .i64 x1)).setCell ⟨g4, i * 3 + 1, none⟩ (.int .i64 x2)).setCell ⟨g4, i * 3 + 2, none⟩ (.slice s l.length c)).drew := ⟨_, rfl⟩
  have T7 := Lib.hid (show Tch (fun b => b = pr) w w7 by rw [hw7]; exact (TS T5.out _ _ _).more (Tch.of (Bd (Below.refl _ _))))
  have X7 := Lib.hid (show w7.heap[pr]? = some (.cells #[.slice (some ⟨g4, 0, none⟩) L.length cp4] RsTy (0, 0)) by
    rw [hw7]
    exact blk_below (blk_far (blk_far (blk_far X5.out (p := ⟨g4, i * 3, none⟩) hgp2 _) (p := ⟨g4, i * 3 + 1, none⟩) hgp2 _) (p := ⟨g4, i * 3 + 2, none⟩) hgp2 _) (Bd (Below.refl _ _)))
  have E7 := Lib.hid (show w7.heap[w.heap.size]? = some (.cells #[.int .i64 x1, .int .i64 x2, .slice sp l0.length n0] 38 (0, 0)) by
    rw [hw7]
    exact blk_below (blk_far (blk_far (blk_far E5.out (p := ⟨g4, i * 3, none⟩) hgw.symm _) (p := ⟨g4, i * 3 + 1, none⟩) hgw.symm _) (p := ⟨g4, i * 3 + 2, none⟩) hgw.symm _) (Bd (Below.refl _ _)))
  have O7 := Lib.hid (show w7.ownsRow w.heap.size 38 3 (.slice (some ⟨g4, 0, none⟩) L.length cp4) L.length (flat encZ (Z.set i (((x1, x2), l), (s, l.length, c)))) by
    rw [hw7]
    exact row_below (rowZ_put O5.out i (by omega) x1 x2 l (s, l.length, c)) (Bd (Below.refl _ _)))
  rw [← hw7]
  clear hw7 TS X5 E5 O5 T5 k0 kf hlk e0 e1 e2 hel r0 r1 r2 y0 y1 y2 hlr
  have hzk := fun (w8 : World) (t : Tch (fun b => b = pr) w w8) (z : Zn) (hz : z ∈ Z) => ((HZ3.out z hz).inside8.kept t (fun b e1 e2 => (HN1.out b e1.1).2 e2)).mono (N' := fun b => (N1 b ∨ Ne b) ∧ b < w.heap.size) (fun b e => ⟨.inl e.1, e.2⟩)
  have HZK := Lib.hid hzk
  have hvk := fun (w8 : World) (t : Tch (fun b => b = pr) w w8) => (HV.out.inside8.kept t (fun b e1 e2 => (HNe.out b e1.1).2 e2)).mono (N' := fun b => (N1 b ∨ Ne b) ∧ b < w.heap.size) (fun b e => ⟨.inr e.1, e.2⟩)
  have HVK := Lib.hid hvk
  have hn9 : ∀ b, ((N1 b ∨ Ne b) ∧ b < w.heap.size) → (N b ∨ w.heap.size ≤ b) ∧ b ≠ pr := fun b e => by
    rcases e.1 with c | c
    · exact ⟨.inl (HN1.out b c).1, (HN1.out b c).2⟩
    · exact ⟨.inl (HNe.out b c).1, (HNe.out b c).2⟩
  have HN9 := Lib.hid hn9
  have R7 := Lib.hid (show RefS w7 (New N w w7) pr (setE L (x1, x2) l) by
    have := refS_own HLT.out hNp T7.out.size X7.out O7.out (by rw [List.length_set, hZl]) (fun z hz => by
      rcases List.mem_or_eq_of_mem_set hz with e | e
      · exact HZK.out w7 T7.out z e
      · rw [e]; exact HVK.out w7 T7.out) HN9.out
    rwa [List.map_set, HZ2.out, HSET.out] at this)
  have CM := Lib.hid (rmasksS R7.out HRI.out)
  clear hzk hvk hn9
  go_wp2_with fail
  refine CM.out.mono ?_
  rintro e w8 ⟨v8, rfl, ho8, hb8⟩
  have hm9 : (mskE (setE L (x1, x2) l)).length = nM (setE L (x1, x2) l) := rfl
  rw [hm9] at ho8
  obtain ⟨p8, c8, rfl, _, _, _⟩ := row_val ho8
  have T8 := Lib.hid (T7.out.more (Tch.of hb8))
  have R8 := Lib.hid (R7.out.below hb8)
  have X8 := Lib.hid (blk_below X7.out hb8)
  have E8 := Lib.hid (blk_below E7.out hb8)
  have O8 := Lib.hid (row_below O7.out hb8)
  have B8 := Lib.hid hb8
  clear ho8 hb8 CM hm9 X7 E7 O7 R7 HRI HSET
  by_cases hm : nM (setE L (x1, x2) l) ≤ 32
  · have hmz : ¬ ((nM (setE L (x1, x2) l) : Nat) : Int) > 32 := by omega
    have E0 := Lib.hid (HMV.out.trans (if_pos hm))
    have E1 := Lib.hid (show moveEL L (x1, x2) l = setE L (x1, x2) l from if_pos E0.out)
    clear HMV
    generalize nM (setE L (x1, x2) l) = nm at *
    go_wp2
    go_ret
    rw [E0.out, E1.out]
    exact ⟨rfl, R8.out.mono (fun b e => New.mono B8.out.size b e) (fun b e => e.elim (fun e => Nat.lt_of_lt_of_le (HLT.out b e) T8.out.size) (fun e => e.2)), T8.out⟩
  · have hmz : ((nM (setE L (x1, x2) l) : Nat) : Int) > 32 := by omega
    have E0 := Lib.hid (HMV.out.trans (if_neg hm))
    have E1 := Lib.hid (show moveEL L (x1, x2) l = L from if_neg (by rw [E0.out]; decide))
    clear HMV
    generalize nM (setE L (x1, x2) l) = nm at *
    obtain ⟨k0, kf⟩ := one_cell X8.out
    have hlk := cell_lt k0
    obtain ⟨⟨e0, e1, e2⟩, _, _, _⟩ := three_cells E8.out
    have hel := cell_lt e0
    have hZs : (Z.set i (((x1, x2), l), (s, l.length, c))).length = L.length := by rw [List.length_set, hZl]
    obtain ⟨Y, hY⟩ : ∃ Y, Y = Z.set i (((x1, x2), l), (s, l.length, c)) := ⟨_, rfl⟩
    have HY := Lib.hid hY
    rw [← hY] at O8 hZs
    clear hY
    have r0 : w8.cell? ⟨g4, i * 3, none⟩ = some (.int .i64 Y[i]!.1.1.1) := row_cellsK lenZ (show World.ownsRow w8 w.heap.size 38 3 (.slice (some ⟨g4, 0, none⟩) Y.length cp4) Y.length (flat encZ Y) by rw [hZs]; exact O8.out) (show i < Y.length by omega) 0 _ rfl
    have r1 : w8.cell? ⟨g4, i * 3 + 1, none⟩ = some (.int .i64 Y[i]!.1.1.2) := row_cellsK lenZ (show World.ownsRow w8 w.heap.size 38 3 (.slice (some ⟨g4, 0, none⟩) Y.length cp4) Y.length (flat encZ Y) by rw [hZs]; exact O8.out) (show i < Y.length by omega) 1 _ rfl
    have r2 : w8.cell? ⟨g4, i * 3 + 2, none⟩ = some (slV Y[i]!.2) := row_cellsK lenZ (show World.ownsRow w8 w.heap.size 38 3 (.slice (some ⟨g4, 0, none⟩) Y.length cp4) Y.length (flat encZ Y) by rw [hZs]; exact O8.out) (show i < Y.length by omega) 2 _ rfl
    have y0 := O8.out.frozenAt (i * 3)
    have y1 := O8.out.frozenAt (i * 3 + 1)
    have y2 := O8.out.frozenAt (i * 3 + 2)
    have hlr := cell_lt r0
    go_wp2_with fail
    go_region
    obtain ⟨w9, hw9⟩ : ∃ w9, w9 = (((w8.setCell ⟨g4, i * 3, none⟩ (.int .i64 x1)).setCell ⟨g4, i * 3 + 1, none⟩ (.int .i64 x2)).setCell ⟨g4, i * 3 + 2, none⟩ (.slice sp l0.length n0)).drew := ⟨_, rfl⟩
    have T9 := Lib.hid (show Tch (fun b => b = pr) w w9 by rw [hw9]; exact (((T8.out.setNew8 hgw2 (i * 3) _).setNew8 hgw2 (i * 3 + 1) _).setNew8 hgw2 (i * 3 + 2) _).more (Tch.of (Bd (Below.refl _ _))))
    have X9 := Lib.hid (show w9.heap[pr]? = some (.cells #[.slice (some ⟨g4, 0, none⟩) L.length cp4] RsTy (0, 0)) by
      rw [hw9]
      exact blk_below (blk_far (blk_far (blk_far X8.out (p := ⟨g4, i * 3, none⟩) hgp2 _) (p := ⟨g4, i * 3 + 1, none⟩) hgp2 _) (p := ⟨g4, i * 3 + 2, none⟩) hgp2 _) (Bd (Below.refl _ _)))
    have O9 := Lib.hid (show w9.ownsRow w.heap.size 38 3 (.slice (some ⟨g4, 0, none⟩) L.length cp4) L.length (flat encZ Z) by
      rw [hw9]
      have := row_below (rowZ_put O8.out i (by omega) x1 x2 l0 (sp, l0.length, n0)) (Bd (Below.refl _ _))
      rwa [HY.out, List.set_set, ← HZI.out, getElem!_pos Z i (by omega), List.set_getElem_self] at this)
    rw [← hw9]
    clear hw9 k0 kf hlk e0 e1 e2 hel r0 r1 r2 y0 y1 y2 hlr
    have R9 := Lib.hid (show RefS w9 (New N w w9) pr L by
      have := refS_own HLT.out hNp T9.out.size X9.out O9.out hZl.symm (fun z hz => HZK.out w9 T9.out z hz) HN9.out
      rwa [HZ2.out] at this)
    go_wp2
    go_ret
    rw [E0.out, E1.out]
    exact ⟨rfl, R9.out, T9.out⟩
end
end Go.Proofs.YtaehendpdfpibaaGreatDoor

/-
  The reference's store: Take.
-/
namespace Go.Proofs.YtaehendpdfpibaaGreatDoor
set_option linter.unusedSimpArgs false
set_option linter.unusedVariables false
open Go.RowKit Go.Sort Go.Lib Go.Shelf

theorem delE_none {L : List En} {h : Hd} (e : fndE L h = none) : delE L h = L := by
  unfold delE
  exact List.filter_eq_self.2 fun r hr => by
    have := fndE_none.1 e r hr
    simp [this]
theorem entE_none {L : List En} {h : Hd} (e : fndE L h = none) : entE L h = ((0, 0), []) ∧ takeEN L h = 3 := by
  unfold entE takeEN
  rw [e]
  exact ⟨rfl, rfl⟩
theorem entE_some {L : List En} {h : Hd} {l : List Vl} (e : fndE L h = some l) : entE L h = (h, l) ∧ takeEN L h = 0 := by
  unfold entE takeEN
  rw [rowE_of e, e]
  exact ⟨rfl, rfl⟩
section
variable {w w' : World} {N : Nat → Prop} {pr : Nat} {L : List En}
theorem refS_fin9 {W W2 W9 Wf : World} {N1 : Nat → Prop} {L' : List En} {v : Value} {l : List Vl} (HLT : ∀ b, N b → b < w.heap.size) (B2 : RowKit.Below w.heap.size w W2) (hWs : w.heap.size + 1 < W.heap.size) (D2 : RowKit.Below W.heap.size W W2) (R9 : RefS W9 (New N W2 W9) pr L') (T9 : Tch (fun b => b = pr) W2 W9) (TX : Tch (fun b => b = w.heap.size + 1) W9 Wf)
    (hv : SlN N1 encV W v l) (hN1 : ∀ b, N1 b → N b ∧ b ≠ pr) : Sl encV Wf v l ∧ RefS Wf (New N w Wf) pr L' ∧ Tch (fun b => b = pr) w Wf := by
  have hs2 := D2.size
  have hs9 := T9.size
  have hsf := TX.size
  have t2 : Tch (fun b => b = pr ∨ b = w.heap.size + 1) W2 Wf := (T9.mono (fun b e => .inl e)).more (TX.mono (fun b e => .inr e))
  refine ⟨((hv.below D2).kept t2 (fun b e c => ?_)).sl, (R9.kept TX (fun b e c => ?_)).mono (fun b e => ?_) (fun b e => ?_), ?_⟩
  · have := HLT b (hN1 b e).1
    rcases c with c | c
    · exact (hN1 b e).2 c
    · omega
  · rcases e with e | e
    · have := HLT b e; omega
    · have := e.1; omega
  · rcases e with e | e
    · exact .inl e
    · exact .inr ⟨by have := B2.size; omega, by have := e.2; omega⟩
  · rcases e with e | e
    · have := HLT b e; have := B2.size; omega
    · exact e.2
  · have t := (Tch.of (M := fun b => b = pr) B2).more T9
    refine ⟨TX.os.trans t.os, TX.tape.trans t.tape, TX.output.trans t.output, Nat.le_trans t.size TX.size, fun k hk hn => (TX.block k (Nat.lt_of_lt_of_le hk t.size) (fun e => by omega)).trans (t.block k hk hn)⟩
set_option maxHeartbeats 8000000 in
set_option maxRecDepth 100000 in
theorem rtakeS (h : RefS w N pr L) (hG : Good L) (x1 x2 : Int) :
    Calls Tryz.prog 46 #[rsP pr, .agg #[.int .i64 x1, .int .i64 x2]] w fun e w' => (∃ v, e = .returned (.tuple #[.agg #[.int .i64 (entE L (x1, x2)).1.1, .int .i64 (entE L (x1, x2)).1.2, v], .int .i64 (takeEN L (x1, x2) : Nat)]) ∧ Sl encV w' v (entE L (x1, x2)).2) ∧ RefS w' (New N w w') pr (delE L (x1, x2)) ∧ Tch (fun b => b = pr) w w' := by
  have bb := Ba (Ba (Below.refl _ w) (.cells #[.int .i64 x1, .int .i64 x2] 31)) (.cells #[.int .i64 0, .int .i64 0, .slice none 0 0] 38)
  have hsz : (w.alloc (.cells #[.int .i64 x1, .int .i64 x2] 31)).heap.size = w.heap.size + 1 := by simp
  have B0 := Lib.hid bb
  have b0 := Lib.hid (blk_below (heap_alloc_new w (.cells #[.int .i64 x1, .int .i64 x2] 31)) (Ba (Below.refl _ _) (.cells #[.int .i64 0, .int .i64 0, .slice none 0 0] 38)))
  have v0 := Lib.hid (heap_alloc_new (w.alloc (.cells #[.int .i64 x1, .int .i64 x2] 31)) (.cells #[.int .i64 0, .int .i64 0, .slice none 0 0] 38))
  rw [hsz] at v0
  have HR := Lib.hid h
  have HLT := Lib.hid h.lt
  obtain ⟨W, hW⟩ : ∃ W, W = (w.alloc (.cells #[.int .i64 x1, .int .i64 x2] 31)).alloc (.cells #[.int .i64 0, .int .i64 0, .slice none 0 0] 38) := ⟨_, rfl⟩
  rw [← hW] at B0 b0 v0
  have hWs : w.heap.size + 1 < W.heap.size := (Array.getElem?_eq_some_iff.1 v0.out).1
  have CF := Lib.hid (rfindS (h.below B0.out) x1 x2)
  have h0 := Lib.hid (h.below B0.out)
  clear bb hsz
  cases hf : fndE L (x1, x2) with
  | none =>
    obtain ⟨e1, e2⟩ := entE_none hf
    rw [e1, e2, delE_none hf]
    rw [fixE_none hf] at CF
    clear hf e1 e2
    go_enter Tryz.func46, Tryz.ntmps46
    go_wp2_with fail
    rw [← hW]
    clear hW
    refine CF.out.mono ?_
    rintro e w1 ⟨rfl, hb1⟩
    obtain ⟨⟨d0, d1, d2⟩, f0, f1, f2⟩ := three_cells (blk_below v0.out hb1)
    have hdl := cell_lt d0
    have B1 := Lib.hid (Bt B0.out hb1)
    clear hb1 CF
    go_wp2
    have B9 : RowKit.Below w.heap.size w (((w1.setCell ⟨w.heap.size + 1, 0, none⟩ (.int .i64 0)).setCell ⟨w.heap.size + 1, 1, none⟩ (.int .i64 0)).setCell ⟨w.heap.size + 1, 2, none⟩ (.slice none 0 0)) := Bs (Bs (Bs B1.out (by first | (simp; done) | (simp; omega)) _) (by first | (simp; done) | (simp; omega)) _) (by first | (simp; done) | (simp; omega)) _
    exact bodyPost_ret (v := .tuple #[.agg #[.int .i64 0, .int .i64 0, .slice none 0 0], .int .i64 3]) (by simp [results, Tryz.results46, go_sem, *]) rfl ⟨⟨_, rfl, Sl.nil none 0 (Nat.zero_le _)⟩, refS_new HR.out B9⟩
  | some l =>
    obtain ⟨e1, e2⟩ := entE_some hf
    obtain ⟨i, hi1, hi2, hi3⟩ := fixE_some hf
    rw [e1, e2]
    rw [hi1] at CF
    have HDEL := Lib.hid (del_idx8 hG.rise hi2 hi3)
    have h128 := hG.len
    obtain ⟨p, cap, N1, hb, hls, h1, h2, hNp, hN1⟩ := h0.out.open
    have hprl := HLT.out pr hNp
    have HB := Lib.hid hb
    have HN1 := Lib.hid hN1
    have hiz : (i : Int) < (L.length : Int) := by omega
    have HLS := Lib.hid hls
    obtain ⟨Z, hZ1, hZ2, hZ3⟩ := hls
    have hZl : Z.length = L.length := by rw [← hZ2, List.length_map]
    have HZ1 := Lib.hid hZ1
    have HZ2 := Lib.hid hZ2
    have HZ3 := Lib.hid hZ3
    obtain ⟨g, o, sp, n0, rfl, hg, hNg, d1, d2, d3, hsl, hc1, hc2⟩ := HLS.out.at hi2
    rw [hi3] at d1 d2 d3 hsl hc1
    dsimp only at d1 d2 d3 hsl hc1
    have HSL := Lib.hid hsl
    have hic : i ≤ cap := by omega
    obtain ⟨k, hk⟩ : ∃ k, k = i + 1 := ⟨_, rfl⟩
    have hik : (i : Int) + 1 = (k : Int) := by omega
    have hkL : k ≤ L.length := by omega
    have hwk : IntKind.i64.wrap (k : Int) = (k : Int) := by rw [IntKind.wrap_i64]; omega
    have hkc : k ≤ cap := by omega
    have HK := Lib.hid hk
    clear hf e1 e2 hi1 hi3 hZ1 hZ2 hZ3 hb hN1 hsl hk hG h
    go_enter Tryz.func46, Tryz.ntmps46
    go_wp2_with fail
    rw [← hW]
    clear hW
    refine CF.out.mono ?_
    rintro e w1 ⟨rfl, hb1⟩
    have bE := Ba (Below.refl _ w1) (.cells #[.int .i64 x1, .int .i64 x2, .slice sp l.length n0] 38)
    obtain ⟨W2, hW2⟩ : ∃ W2, W2 = w1.alloc (.cells #[.int .i64 x1, .int .i64 x2, .slice sp l.length n0] 38) := ⟨_, rfl⟩
    obtain ⟨eb, heb⟩ : ∃ eb, eb = w1.heap.size := ⟨_, rfl⟩
    have D2 := Lib.hid (show RowKit.Below W.heap.size W W2 by rw [hW2]; exact Bt hb1 bE)
    have B2 := Lib.hid (Bt B0.out D2.out)
    have E2 := Lib.hid (show W2.heap[eb]? = some (.cells #[.int .i64 x1, .int .i64 x2, .slice sp l.length n0] 38 (0, 0)) by rw [hW2, heb]; exact heap_alloc_new _ _)
    have V2 := Lib.hid (blk_below v0.out D2.out)
    have X2 := Lib.hid (blk_below HB.out D2.out)
    have Z2 := Lib.hid (HZ1.out.below D2.out)
    have heW : W.heap.size ≤ eb := by rw [heb]; exact hb1.size
    have he2 : eb < W2.heap.size := by rw [hW2, heb]; simp
    obtain ⟨c0, f0⟩ := one_cell (blk_below HB.out hb1)
    have hl := cell_lt c0
    replace d1 := Bc hb1 hg d1
    replace d2 := Bc hb1 hg d2
    replace d3 := Bc hb1 hg d3
    have hgr := Bl hb1 hg
    clear hb1 bE CF b0 v0
    go_wp2_with fail
    rw [← hW2, ← heb]
    clear hW2 heb c0 f0 hl d1 d2 d3 hgr
    obtain ⟨c0, f0⟩ := one_cell X2.out
    have hl := cell_lt c0
    have A1 := Lib.hid (Ba (Bd (Below.refl _ W2)) (.cells #[] 38))
    have O1 := Lib.hid (show (W2.drew.alloc (.cells #[] 38)).ownsRow W2.heap.size 38 3 (.slice (some ⟨W2.heap.size, 0, none⟩) 0 0) ([] : List Zn).length (flat encZ []) from World.ownsRow_made W2.drew #[] 0 (Nat.le_refl _) (Nat.zero_le _) (by simp))
    have S1 := Lib.hid ((Z2.out.front lenZ i (by omega)).below A1.out).sl
    have hzt : (Z.take i).length = i := by simp; omega
    obtain ⟨q, hq⟩ : ∃ q, q = L.length - 1 := ⟨_, rfl⟩
    have hq9 : (Z.take i ++ Z.drop k).length = q := by simp; omega
    have RW2 := Lib.hid (h0.out.below D2.out)
    have hpw : pr < W.heap.size := by omega
    have FIN9 : Hid (∀ (wb : World) (pb : Option Addr) (cb : Nat), wb.ownsRow W2.heap.size 38 3 (.slice pb q cb) q (flat encZ (Z.take i ++ Z.drop k)) → RowKit.Below W2.heap.size W2 wb → RefS (wb.setCell ⟨pr, 0, none⟩ (.slice pb q cb)) (New N W2 (wb.setCell ⟨pr, 0, none⟩ (.slice pb q cb))) pr (delE L (x1, x2)) ∧ Tch (fun b => b = pr) W2 (wb.setCell ⟨pr, 0, none⟩ (.slice pb q cb))) := by
      intro wb pb cb ob bb9
      have hs9 := bb9.size
      refine refS_set (N8 := fun b => N1 b ∨ (W2.heap.size ≤ b ∧ b < wb.heap.size)) RW2.out bb9 ⟨Z.take i ++ Z.drop k, ((SlN.of lenZ ob hq9.symm).inside8).mono (fun b e => .inr e), ?_, fun z hz => ?_⟩ (fun b e => ?_)
      · rw [List.map_append, List.map_take, List.map_drop, HZ2.out, HK.out, HDEL.out]
      · have hz2 : z ∈ Z := by
          rcases List.mem_append.1 hz with e | e
          · exact List.mem_of_mem_take e
          · exact List.mem_of_mem_drop e
        exact ((HZ3.out z hz2).below (Bt D2.out bb9)).mono (fun b e => .inl e)
      · rcases e with e | e
        · have := HLT.out b (HN1.out b e).1
          exact ⟨.inl (HN1.out b e).1, (HN1.out b e).2, by have := D2.out.size; have := B0.out.size; omega⟩
        · exact ⟨.inr e.1, by omega, e.2⟩
    clear hq
    have hD2s := D2.out.size
    have hB0s := B0.out.size
    rcases Decidable.em (k = L.length) with hkl | hkl
    · have S7 : Hid (∀ w q c, c ≤ maxLen → Sl encZ w (.slice q (L.length - k) c) (Z.drop k)) := fun w q c hc => by
        have e : L.length - k = 0 := by omega
        rw [e, List.drop_eq_nil_of_le (by omega)]
        exact Sl.nil q c hc
      have hmx : cap - k ≤ maxLen := by unfold maxLen; omega
      clear hkl
      go_region_law (first
        | (refine step_app2 apZ rfl (.tmp 22) (.tmp 28) rfl W2.heap.size (by rfl) (by rfl) O1.out rfl S1.out (by simp; omega) A1.out.size ?_; intro va wa howna hgrowa hata _; rw [List.nil_append, hzt] at howna; have OA := Lib.hid howna; have BA := Lib.hid (grownB A1.out O1.out hgrowa); obtain ⟨pa, ca, rfl, _, _, _⟩ := row_val howna; have c0a := Bc BA.out hl c0; have hla := Bl BA.out hl; have SB : Hid (∀ q c, c ≤ maxLen → Sl encZ wa (.slice q (L.length - k) c) (Z.drop k)) := fun q c hc => S7.out wa q c hc; clear howna hgrowa hata)
        | (refine step_app2 apZ rfl (.tmp 29) (.tmp 36) rfl W2.heap.size (by rfl) (by rfl) OA.out hzt.symm (SB.out _ _ hmx) (by simp; omega) BA.out.size ?_; intro vb wb hownb hgrowb hatb _; rw [hq9] at hownb; have OB := Lib.hid hownb; have BB := Lib.hid (grownB BA.out OA.out hgrowb); obtain ⟨pb, cb, rfl, _, _, _⟩ := row_val hownb; have c0b := Bc BB.out hl c0; have f0b := Bf BB.out hl f0; have hlb := Bl BB.out hl; clear hownb hgrowb hatb))
      all_goals
        have hL9 := FIN9.out wb pb cb OB.out BB.out
        obtain ⟨hR9, hT9⟩ := hL9
        obtain ⟨W9, hW9⟩ : ∃ W9, W9 = wb.setCell ⟨pr, 0, none⟩ (.slice pb q cb) := ⟨_, rfl⟩
        have E9 := Lib.hid (show W9.heap[eb]? = some (.cells #[.int .i64 x1, .int .i64 x2, .slice sp l.length n0] 38 (0, 0)) by rw [hW9]; exact blk_far (blk_below E2.out BB.out) (p := ⟨pr, 0, none⟩) (show eb ≠ pr by omega) _)
        have V9 := Lib.hid (show W9.heap[w.heap.size + 1]? = some (.cells #[.int .i64 0, .int .i64 0, .slice none 0 0] 38 (0, 0)) by rw [hW9]; exact blk_far (blk_below V2.out BB.out) (p := ⟨pr, 0, none⟩) (show w.heap.size + 1 ≠ pr by omega) _)
        rw [← hW9] at hR9 hT9
        have R9 := Lib.hid hR9
        have T9 := Lib.hid hT9
        rw [← hW9]
        clear hW9 hR9 hT9 c0 f0 hl c0a hla c0b f0b hlb O1 S1 A1 OA BA OB BB SB
        obtain ⟨⟨a1, a2, a3⟩, _⟩ := three_cells E9.out
        obtain ⟨⟨r1, r2, rr3⟩, v1, v2, v3⟩ := three_cells V9.out
        have hlx := cell_lt a1
        have hlr := cell_lt r1
        go_wp2
        all_goals have TX := Lib.hid (far3_tch W9 (w.heap.size + 1) (.int .i64 x1) (.int .i64 x2) (.slice sp l.length n0))
        all_goals have hfin := refS_fin9 HLT.out B2.out hWs D2.out R9.out T9.out TX.out HSL.out HN1.out
        all_goals exact bodyPost_ret (v := .tuple #[.agg #[.int .i64 x1, .int .i64 x2, .slice sp l.length n0], .int .i64 0]) (by simp [results, Tryz.results46, go_sem, *]) rfl ⟨⟨_, rfl, hfin.1⟩, hfin.2.1, hfin.2.2⟩
    · have hck : ¬ cap = k := by omega
      have S7 : Hid (Sl encZ W2 (.slice (some ⟨g, o + k * 3, none⟩) (L.length - k) (cap - k)) (Z.drop k)) := by
        obtain ⟨p', cap', e', q1, q2, hcc⟩ := Z2.out
        simp only [Value.slice.injEq] at e'
        obtain ⟨e1, _, rfl⟩ := e'
        obtain ⟨g', o', e9, hg', _, hcells⟩ := hcc (by omega)
        rw [← e1] at e9
        simp only [Option.some.injEq, Addr.mk.injEq, and_true] at e9
        obtain ⟨rfl, rfl⟩ := e9
        have := sl_drop lenZ (w := W2) (g := g) (o := o) (cap := cap) (l := Z) k (by omega) (by omega) q2 hg' hcells
        rwa [hZl] at this
      go_region_law (first
        | (refine step_app2 apZ rfl (.tmp 22) (.tmp 28) rfl W2.heap.size (by rfl) (by rfl) O1.out rfl S1.out (by simp; omega) A1.out.size ?_; intro va wa howna hgrowa hata _; rw [List.nil_append, hzt] at howna; have OA := Lib.hid howna; have BA := Lib.hid (grownB A1.out O1.out hgrowa); obtain ⟨pa, ca, rfl, _, _, _⟩ := row_val howna; have c0a := Bc BA.out hl c0; have hla := Bl BA.out hl; have SB := Lib.hid (S7.out.below BA.out); clear howna hgrowa hata)
        | (refine step_app2 apZ rfl (.tmp 29) (.tmp 36) rfl W2.heap.size (by rfl) (by rfl) OA.out hzt.symm SB.out (by simp; omega) BA.out.size ?_; intro vb wb hownb hgrowb hatb _; rw [hq9] at hownb; have OB := Lib.hid hownb; have BB := Lib.hid (grownB BA.out OA.out hgrowb); obtain ⟨pb, cb, rfl, _, _, _⟩ := row_val hownb; have c0b := Bc BB.out hl c0; have f0b := Bf BB.out hl f0; have hlb := Bl BB.out hl; clear hownb hgrowb hatb))
      all_goals
        have hL9 := FIN9.out wb pb cb OB.out BB.out
        obtain ⟨hR9, hT9⟩ := hL9
        obtain ⟨W9, hW9⟩ : ∃ W9, W9 = wb.setCell ⟨pr, 0, none⟩ (.slice pb q cb) := ⟨_, rfl⟩
        have E9 := Lib.hid (show W9.heap[eb]? = some (.cells #[.int .i64 x1, .int .i64 x2, .slice sp l.length n0] 38 (0, 0)) by rw [hW9]; exact blk_far (blk_below E2.out BB.out) (p := ⟨pr, 0, none⟩) (show eb ≠ pr by omega) _)
        have V9 := Lib.hid (show W9.heap[w.heap.size + 1]? = some (.cells #[.int .i64 0, .int .i64 0, .slice none 0 0] 38 (0, 0)) by rw [hW9]; exact blk_far (blk_below V2.out BB.out) (p := ⟨pr, 0, none⟩) (show w.heap.size + 1 ≠ pr by omega) _)
        rw [← hW9] at hR9 hT9
        have R9 := Lib.hid hR9
        have T9 := Lib.hid hT9
        rw [← hW9]
        clear hW9 hR9 hT9 c0 f0 hl c0a hla c0b f0b hlb O1 S1 A1 OA BA OB BB SB
        obtain ⟨⟨a1, a2, a3⟩, _⟩ := three_cells E9.out
        obtain ⟨⟨r1, r2, rr3⟩, v1, v2, v3⟩ := three_cells V9.out
        have hlx := cell_lt a1
        have hlr := cell_lt r1
        go_wp2
        all_goals have TX := Lib.hid (far3_tch W9 (w.heap.size + 1) (.int .i64 x1) (.int .i64 x2) (.slice sp l.length n0))
        all_goals have hfin := refS_fin9 HLT.out B2.out hWs D2.out R9.out T9.out TX.out HSL.out HN1.out
        all_goals exact bodyPost_ret (v := .tuple #[.agg #[.int .i64 x1, .int .i64 x2, .slice sp l.length n0], .int .i64 0]) (by simp [results, Tryz.results46, go_sem, *]) rfl ⟨⟨_, rfl, hfin.1⟩, hfin.2.1, hfin.2.2⟩
end
end Go.Proofs.YtaehendpdfpibaaGreatDoor
