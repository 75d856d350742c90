/-
  Package heap's calls at a heap in memory: Pop.
-/
import Derived.Test.YtaceahjomhgccaaDoorHu10
namespace Go.Proofs.YtaceahjomhgccaaDoor
set_option linter.unusedSimpArgs false
set_option linter.unusedVariables false
open Go.RowKit Go.Sort Go.Lib Go.Shelf

section
variable {pa : Nat} {L : List Hd} {M : Nat → Prop} {w : World}
set_option maxHeartbeats 1000000 in
set_option maxRecDepth 100000 in
theorem pop_none (hp : HpAt w M pa []) (t : TypeId) (v : Value) (hE : w.cell? ⟨2, 0, none⟩ = some (.iface t v)) : Calls Tryd.prog 14 #[.pointer (some ⟨pa, 0, none⟩)] w fun e w' => e = .returned (.tuple #[.agg #[.int .i64 0, .int .i64 0], .iface t v]) ∧ RowKit.Below w.heap.size w w' := by
  have hel := cell_lt hE
  have N := Lib.hid (fun W (h : RowKit.Below w.heap.size w W) => peek_none (hp.below h) t v (Bc h hel hE))
  clear hp hE
  go_enter Tryd.func14, Tryd.ntmps14
  go_wp2_with fail
  refine (N.out _ (Ba (Below.refl _ w) _)).mono ?_
  rintro e w1 ⟨rfl, hb1⟩
  have B1 := Lib.hid (Bt (Ba (Below.refl _ w) (.cells #[.int .i64 0, .int .i64 0] 35)) hb1)
  have R1 := blk_below (heap_alloc_new w (.cells #[.int .i64 0, .int .i64 0] 35)) hb1
  have hr1 : w.heap.size < w1.heap.size := (Array.getElem?_eq_some_iff.1 R1).1
  obtain ⟨a1, a2, a3, a4⟩ := two_cells R1
  clear hb1 R1
  go_wp2
  exact bodyPost_ret (v := .tuple #[.agg #[.int .i64 0, .int .i64 0], .iface t v]) (by simp [results, Tryd.results14, go_sem, *]) rfl ⟨rfl, by have := B1.out; exact (by repeat (first | with_reducible exact Below.refl _ _ | with_reducible assumption | with_reducible apply Ba | with_reducible apply Bd | with_reducible apply Bn | with_reducible apply Bg | (with_reducible refine Bs ?_ (by first | (simp; done) | (simp; omega)) _) | (with_reducible refine Bt ?_ (by assumption)) | (with_reducible refine Bt ?_ (Gr.below (by assumption)))))⟩

set_option maxHeartbeats 2000000 in
set_option maxRecDepth 100000 in
theorem pop_some (hp : HpAt w M pa L) (h0 : 0 < L.length) (hm : L.length ≤ 1000000) : Calls Tryd.prog 14 #[.pointer (some ⟨pa, 0, none⟩)] w fun e w' => e = .returned (.tuple #[aggH L[0]!, .nilIface]) ∧ HpAt w' (New M w w') pa (popL ltH L) ∧ Tch M w w' := by
  have K := Lib.hid (fun W (h : RowKit.Below w.heap.size w W) => peek_some (hp.below h) h0)
  have N := Lib.hid (fun W (h : RowKit.Below w.heap.size w W) => len_call (hp.below h))
  have HP := Lib.hid hp
  obtain ⟨x, hx⟩ : ∃ x, x = L[0]! := ⟨_, rfl⟩
  rw [← hx] at K ⊢
  clear hx hp
  obtain ⟨x1, x2⟩ := x
  obtain ⟨q, hq⟩ : ∃ q, L.length = q + 1 := ⟨L.length - 1, by omega⟩
  have hll : (L.length : Int) - 1 = (q : Int) := by omega
  unfold aggH at *
  dsimp only at *
  go_enter Tryd.func14, Tryd.ntmps14
  go_wp2_with fail
  refine (K.out _ (Ba (Below.refl _ w) _)).mono ?_
  rintro e w1 ⟨rfl, hb1⟩
  have B1 := Lib.hid (Bt (Ba (Below.refl _ w) (.cells #[.int .i64 0, .int .i64 0] 35)) hb1)
  have R1 := Lib.hid (blk_below (heap_alloc_new w (.cells #[.int .i64 0, .int .i64 0] 35)) hb1)
  clear hb1 K
  go_wp2_with fail
  refine (N.out _ (Ba B1.out _)).mono ?_
  rintro e w2 ⟨rfl, hw2⟩
  have B2 := Lib.hid (show RowKit.Below w.heap.size w w2 by rw [← hw2]; exact Ba B1.out _)
  have R2 := Lib.hid (show w2.heap[w.heap.size]? = some (.cells #[.int .i64 0, .int .i64 0] 35 (0, 0)) by rw [← hw2]; exact blk_below R1.out (Ba (Below.refl _ _) _))
  have X2 := Lib.hid (show w2.heap[w1.heap.size]? = some (.cells #[.int .i64 x1, .int .i64 x2] 35 (0, 0)) by rw [← hw2]; exact heap_alloc_new w1 _)
  have hrx : w.heap.size < w1.heap.size := (Array.getElem?_eq_some_iff.1 R1.out).1
  clear hw2 B1 R1 N
  generalize w1.heap.size = xb at *
  obtain ⟨p, cap, hI0, h1, h2, h3⟩ := HP.out.open
  obtain ⟨g, rfl, hg, hne⟩ := h3 h0
  obtain ⟨hI, hMM⟩ := hI0.tight
  have HM := Lib.hid hMM
  have hl := hI.lt
  have P2 := Lib.hid (hI.below B2.out)
  obtain ⟨c0, f0⟩ := P2.out.cells
  obtain ⟨⟨d1, d2⟩, z1, z2⟩ := rowE P2.out.2.2.1 h0
  obtain ⟨⟨e1, e2⟩, _⟩ := rowE P2.out.2.2.1 (show q < L.length by omega)
  obtain ⟨c, hc⟩ : ∃ c, L[q]! = c := ⟨_, rfl⟩
  rw [hc] at e1 e2
  have HC := Lib.hid (show L[L.length - 1]! = c by rw [hq]; exact hc)
  clear hc HP hI hI0 h3 hMM
  obtain ⟨y1, y2⟩ := c
  dsimp only at e1 e2
  simp only [Nat.zero_mul] at d1 d2 z1 z2
  obtain ⟨P3, t3⟩ := P2.out.set 0 h0 (y1, y2)
  have hs3 : L.length = (L.set 0 (y1, y2)).length := by simp
  obtain ⟨P4, t4⟩ := P3.front q (by simp; omega)
  simp only [Nat.zero_mul] at P3 t3 P4 t4
  have X4 := Lib.hid P4
  have T4 := Lib.hid (t3.more t4)
  clear P3 t3 P4 t4
  have hlg := Bl B2.out hg
  have hl2 := Bl B2.out hl
  have hqi : (q : Int) < (L.length : Int) := by omega
  have hqc : q ≤ cap := by omega
  have hcut : (L.set 0 (y1, y2)).take q = cutL L := by unfold cutL; rw [HC.out, hq, Nat.add_sub_cancel]
  rw [hcut] at X4
  have X5 := Lib.hid (X4.out.below (Bd (Below.refl _ _)))
  have hcl : (cutL L).length ≤ 1000000 := by rw [cutL_len]; omega
  have nR : ¬ (w.heap.size = pa ∨ (Value.slice (some ⟨g, 0, none⟩) L.length cap).ownBlock = some w.heap.size) := by
    simp only [Value.ownBlock, Option.some.injEq]; omega
  have nX : ¬ (xb = pa ∨ (Value.slice (some ⟨g, 0, none⟩) L.length cap).ownBlock = some xb) := by
    simp only [Value.ownBlock, Option.some.injEq]; omega
  clear hcut
  go_wp2_with fail
  go_region
  all_goals
    have T5 := Lib.hid T4.out.drew
    go_wp2_with fail
    refine (sink_call X5.out.at 0 (Nat.zero_le _) hcl).mono ?_
    rintro e w5 ⟨rfl, hp5, ht5⟩
    have P5 := Lib.hid hp5
    have T6 := Lib.hid (T5.out.more ht5)
    clear hp5 ht5
    have XX := T6.out.blk X2.out nX
    have RR := T6.out.blk R2.out nR
    obtain ⟨a1, a2, _⟩ := two_cells XX
    obtain ⟨r1, r2, v1, v2⟩ := two_cells RR
    have lr5 : w.heap.size < w5.heap.size := (Array.getElem?_eq_some_iff.1 RR).1
    have lx5 : xb < w5.heap.size := (Array.getElem?_eq_some_iff.1 XX).1
    have m3 : ¬ pa = w.heap.size := by omega
    have m4 : ¬ w.heap.size = pa := by omega
    have m5 : ¬ w.heap.size = xb := by omega
    have m6 : ¬ xb = w.heap.size := by omega
    have NR := Lib.hid nR
    clear XX RR nR nX X4 X5 T4 T5 d1 d2 e1 e2 c0 f0 z1 z2
    go_wp2
    obtain ⟨v5, Q5⟩ := P5.out
    have Q7 := (Q5.far (p := ⟨w.heap.size, 0, none⟩) NR.out (.int .i64 x1)).far (p := ⟨w.heap.size, 1, none⟩) NR.out (.int .i64 x2)
    have T8 := (((Tch.of B2.out).more (T6.out.mono HM.out)).fresh (p := ⟨w.heap.size, 0, none⟩) (Nat.le_refl _) (.int .i64 x1)).fresh (p := ⟨w.heap.size, 1, none⟩) (Nat.le_refl _) (.int .i64 x2)
    exact bodyPost_ret (v := .tuple #[.agg #[.int .i64 x1, .int .i64 x2], .nilIface]) (by simp [results, Tryd.results14, go_sem, *]) rfl ⟨rfl, Q7.at.mono (fun b h => .inl (HM.out b h)), T8⟩
end
end Go.Proofs.YtaceahjomhgccaaDoor
