/-
  RegionPlays: the walk.
-/
import Derived.Test.YtklpemcchfmdjaaDoorSm15
import Derived.Test.YtklpemcchfmdjaaDoorNu15
import Derived.Test.YtklpemcchfmdjaaDoorOr15
import Derived.Test.YtklpemcchfmdjaaDoorRt14
import Derived.Test.YtklpemcchfmdjaaDoorRa15
import Derived.Test.YtklpemcchfmdjaaDoorRk15
import Derived.Deep.CutBlock
import Derived.Deep.CutRange
import Derived.Deep.DeepCutAuto
namespace Go.Proofs.YtklpemcchfmdjaaDoor
set_option linter.unusedSimpArgs false
set_option linter.unusedVariables false
open BigFrame
open Go.RowKit Go.Sort Go.Lib Go.Shelf

/-- The regions (b blocked) and the reference's row (c), side by side, behind W0; the row's block is gb. -/
structure RPl (W0 : World) (g : Gd) (gb cb pa : Nat) (b c : List Bool) (M : Nat → Prop) (wx : World) : Prop where
  r : RgAt wx M pa g b
  k : wx.ownsRow W0.heap.size 4 1 (.slice (some ⟨gb, 0, none⟩) (ntl g) cb) (ntl g) (flat encB c)
  n : c.length = ntl g
  m : ∀ q, M q → W0.heap.size ≤ q ∧ q < wx.heap.size ∧ q ≠ gb
  lo : RowKit.Below W0.heap.size W0 wx
section
variable {W0 wx w' : World} {g : Gd} {gb cb pa pb : Nat} {b b' c : List Bool} {M Mo : Nat → Prop}
theorem RPl.below (h : RPl W0 g gb cb pa b c M wx) (hb : RowKit.Below wx.heap.size wx w') : RPl W0 g gb cb pa b c M w' :=
  ⟨h.r.below hb, row_below h.k hb, h.n, fun q e => ⟨(h.m q e).1, Nat.lt_of_lt_of_le (h.m q e).2.1 hb.size, (h.m q e).2.2⟩, Bt h.lo hb⟩
theorem RPl.gbl (h : RPl W0 g gb cb pa b c M wx) : W0.heap.size ≤ gb ∧ gb < wx.heap.size := ⟨row_base0 h.k rfl, row_lt h.k rfl⟩
theorem RPl.turn (h : RPl W0 g gb cb pa b c M wx) (hr : RgAt w' (New M wx w') pa g b') (ht : Tch M wx w') : RPl W0 g gb cb pa b' c (New M wx w') w' := by
  obtain ⟨g1, g2⟩ := h.gbl
  refine ⟨hr, row_keep h.k (fun q e => ht.block q (row_lt h.k e) (fun f => ?_)), h.n, fun q e => ?_, h.lo.trans (Tch.below ht (fun q e => (h.m q e).1) h.lo.size)⟩
  · simp only [Value.ownBlock, Option.some.injEq] at e
    exact (h.m q f).2.2 e.symm
  · rcases e with e | e
    · exact ⟨(h.m q e).1, Nat.lt_of_lt_of_le (h.m q e).2.1 ht.size, (h.m q e).2.2⟩
    · exact ⟨Nat.le_trans h.lo.size e.1, e.2, by omega⟩
/-- The reference's row is stored into. -/
theorem RPl.set (h : RPl W0 g gb cb pa b c M wx) (j : Nat) (x : Bool) : RPl W0 g gb cb pa b (c.set j x) M (wx.setCell ⟨gb, j, none⟩ (.bool x)) := by
  obtain ⟨g1, g2⟩ := h.gbl
  have ht := Tch.set (M := fun q => q = gb) wx (p := ⟨gb, j, none⟩) rfl (.bool x)
  have ho := own_set (w := wx) (base := W0.heap.size) (g := gb) (cap := cb) (l := c) (by unfold OwnB; rw [h.n]; exact h.k) j x
  unfold OwnB at ho
  rw [List.length_set, h.n] at ho
  exact ⟨h.r.kept ht (fun q e f => (h.m q e).2.2 f), ho, by rw [List.length_set]; exact h.n, fun q e => ⟨(h.m q e).1, Nat.lt_of_lt_of_le (h.m q e).2.1 ht.size, (h.m q e).2.2⟩, h.lo.trans (Tch.below ht (fun q e => by rw [e]; exact g1) h.lo.size)⟩
/-- It goes on as its clone. -/
theorem RPl.clone (h : RPl W0 g gb cb pa b c M wx) (hr : RgAt w' (Fresh wx w') pb g b) (hb : RowKit.Below wx.heap.size wx w') : RPl W0 g gb cb pb b c (Fresh wx w') w' := by
  obtain ⟨g1, g2⟩ := h.gbl
  exact ⟨hr, row_below h.k hb, h.n, fun q e => e.elim (fun e => e.elim) (fun e => ⟨Nat.le_trans h.lo.size e.1, e.2, by omega⟩), Bt h.lo hb⟩
/-- Others are changed. -/
theorem RPl.off (h : RPl W0 g gb cb pa b c M wx) (t : Tch Mo wx w') (h1 : ∀ q, Mo q → W0.heap.size ≤ q ∧ ¬ M q ∧ q ≠ gb) : RPl W0 g gb cb pa b c M w' :=
  ⟨h.r.kept t (fun q e f => (h1 q f).2.1 e), row_keep h.k (fun q e => t.block q (row_lt h.k e) (fun f => by
    simp only [Value.ownBlock, Option.some.injEq] at e
    exact (h1 q f).2.2 e.symm)), h.n, fun q e => ⟨(h.m q e).1, Nat.lt_of_lt_of_le (h.m q e).2.1 t.size, (h.m q e).2.2⟩, h.lo.trans (Tch.below t (fun q e => (h1 q e).1) h.lo.size)⟩
theorem RPl.sl (h : RPl W0 g gb cb pa b c M wx) : Sl encB wx (.slice (some ⟨gb, 0, none⟩) (ntl g) cb) c := row_sl lenB h.k h.n.symm
end
/-- Between two calls of a script. -/
def RPs (W0 : World) (g : Gd) (gb cb : Nat) (pv : Value) (wx : World) : Prop := ∃ (pa : Nat) (b : List Bool) (M : Nat → Prop), pv = .pointer (some ⟨pa, 0, none⟩) ∧ RPl W0 g gb cb pa b b M wx
theorem encR_get {w : World} {l : List Opr} {g o : Nat} (h : ∀ j u, (flat encR l)[j]? = some u → w.cell? ⟨g, o + j, none⟩ = some u) {i : Nat} (hi : i < l.length) : w.cell? ⟨g, o + i * 2, none⟩ = some (.int .i64 l[i]!.1) ∧ w.cell? ⟨g, o + i * 2 + 1, none⟩ = some l[i]!.2.1 :=
  ⟨sl_at lenR h hi 0 _ rfl, sl_at lenR h hi 1 _ rfl⟩
/-- The number of an error, by what was asked. -/
theorem num_errT {A : Nat → Addr} {w : World} (h : Errs w A) (j : Nat) (hj : j < 10) (a : Int) (ha : a = 0 ∨ a = 1 ∨ a = (j : Int) + 1) : Calls Tryd.prog 10 #[errT3 (114, .pointer (some (A 0))) (114, .pointer (some (A j))) a] w fun e w' => e = .returned (.int .i64 a) ∧ RowKit.Below w.heap.size w w' := by
  by_cases h0 : a = 0
  · subst h0
    exact num_nil w
  · by_cases h1 : a = 1
    · subst h1
      exact num_range h
    · have h2 : a = (j : Int) + 1 := by omega
      unfold errT3
      rw [if_neg h0, if_neg h1, h2]
      exact num_any h j hj
theorem ask_three (b : List Bool) (l : List Int) (now : Bool) (wrong : Int) : askT b l now wrong = 0 ∨ askT b l now wrong = 1 ∨ askT b l now wrong = wrong := by
  unfold askT
  split
  · exact .inr (.inl rfl)
  · split
    · exact .inr (.inr rfl)
    · exact .inl rfl
theorem ask_in {b : List Bool} {l : List Int} {now : Bool} {wrong : Int} (hw : askT b l now wrong = 0) : ∀ t ∈ l, 0 ≤ t ∧ t < (b.length : Int) := fun t ht => by
  unfold askT at hw
  by_cases ho : outT b.length l = true
  · rw [if_pos ho] at hw
    omega
  · unfold outT at ho
    rw [List.any_eq_true] at ho
    rcases Decidable.em (0 ≤ t ∧ t < (b.length : Int)) with q | q
    · exact q
    · exact absurd ⟨t, ht, by simp; omega⟩ ho
theorem labG_row {g : Gd} (hg : grOk g = true) {W H : Nat} (hW : g.w = (W : Int)) (hH : g.h = (H : Int)) (h0 : 0 < W) (b : List Bool) : (rowG W H h0 b).labs = labG g b := by
  unfold labG grG
  rw [dif_pos hg]
  congr 1
  have e1 : g.w.toNat = W := by omega
  have e2 : g.h.toNat = H := by omega
  subst e1 e2
  rfl
/-- What lies behind a call of the script: the regions and the row, the call's box, the list that was handed in. -/
def RPc (W0 : World) (g : Gd) (gb cb xb g6 cap6 base : Nat) (kk : Int) (tv : Value) (tl : List Int) (pv : Value) (wx : World) : Prop :=
  RPs W0 g gb cb pv wx ∧ wx.heap[xb]? = some (.cells #[.int .i64 kk, tv] 37 (0, 0)) ∧ wx.ownsRow base 3 1 (.slice (some ⟨g6, 0, none⟩) (tl.length + 4) cap6) (tl.length + 4) (flat encI (tl ++ marks))
set_option maxHeartbeats 16000000 in
set_option maxRecDepth 100000 in
theorem regionPlays_walk (g : Gd) (l : List Opr) (v : Value) (t : Int) (w : World) (A : Nat → Addr) (hs : Sl encR w v l) (ho : ∀ x ∈ l, Sl encI w x.2.1 x.2.2) (hE : Errs w A) : Calls Tryd.prog 3 #[grV g, v, .int .i64 t] w fun e w' => e = .returned (.bool true) ∧ RowKit.Below w.heap.size w w' := by
  have HER := Lib.hid hE
  have HE := Lib.hid (show Er4 w (114, .pointer (some (A 0))) (114, .pointer (some (A 7))) (114, .pointer (some (A 5))) (114, .pointer (some (A 6))) from er4_of (hE.cell 0 (by omega)) (hE.cell 7 (by omega)) (hE.cell 5 (by omega)) (hE.cell 6 (by omega)))
  have AL := Lib.hid (fun W' (hb : RowKit.Below w.heap.size w W') => alive_call W' (HE.out.below hb))
  obtain ⟨qv, capv, rfl, v1, v2, v3⟩ := hs
  unfold maxLen at v2
  have HV := Lib.hid v3
  have HT := Lib.hid ho
  obtain ⟨W0, hW0⟩ : ∃ W0, W0 = w.alloc (.cells #[.int .i64 g.w, .int .i64 g.h, .int .i64 g.s, .int .i64 g.x, .int .i64 g.y] 23) := ⟨_, rfl⟩
  have B0 : Hid (RowKit.Below w.heap.size w W0) := Lib.hid (by rw [hW0]; exact (by repeat (first | with_reducible exact Below.refl _ _ | with_reducible assumption | with_reducible apply Ba | with_reducible apply Bd | with_reducible apply Bn | with_reducible apply Bg | (with_reducible refine Bs ?_ (by first | (simp; done) | (simp; omega)) _) | (with_reducible refine Bt ?_ (by assumption)) | (with_reducible refine Bt ?_ (Gr.below (by assumption))))))
  have G0 : Hid (GrAt W0 w.heap.size g) := Lib.hid (by rw [hW0]; exact heap_alloc_new w _)
  have HW0 := Lib.hid hW0
  have E0 := Lib.hid (HE.out.below B0.out)
  clear hE v3 hW0 ho
  by_cases h40 : l.length > 40
  · have hz : (l.length : Int) > 40 := by omega
    obtain ⟨W, H, S, X, Y⟩ := g
    go_enter Tryd.func3, Tryd.ntmps3
    go_wp2_with fail
    rw [← HW0.out]
    refine (AL.out _ B0.out).mono ?_
    rintro e w1 ⟨rfl, hb1⟩
    have B1 := Lib.hid (Bt B0.out hb1)
    clear hb1
    go_wp2
    go_ret
    exact ⟨rfl, B1.out⟩
  have hz : ¬ (l.length : Int) > 40 := by omega
  cases hg : grOk g
  · have NC := Lib.hid (fun W' (hb : RowKit.Below w.heap.size w W') => rgnew_form g W' _ (HE.out.below hb).eF hg)
    have NM := Lib.hid (fun W' (hb : RowKit.Below w.heap.size w W') => num_form (HER.out.below hb))
    obtain ⟨W, H, S, X, Y⟩ := g
    have RR := Lib.hid (fun W' => rgright_any W H S X Y W')
    rw [hg] at RR
    dsimp only at *
    clear hg
    go_enter Tryd.func3, Tryd.ntmps3
    go_wp2_with fail
    rw [← HW0.out]
    refine (AL.out _ B0.out).mono ?_
    rintro e w1 ⟨rfl, hb1⟩
    have A1 := Lib.hid hb1
    have B1 := Lib.hid (Bt B0.out hb1)
    clear hb1
    obtain ⟨x1, x2, x3, x4, x5⟩ := (G0.out.below A1.out).cells
    have hl1 := cell_lt x1
    go_wp2_with fail
    refine (NC.out _ B1.out).mono ?_
    rintro e w2 ⟨rfl, hb2⟩
    have A2 := Lib.hid (Bt A1.out hb2)
    have B2 := Lib.hid (Bt B1.out hb2)
    clear hb2 x1 x2 x3 x4 x5 hl1
    obtain ⟨x1, x2, x3, x4, x5⟩ := (G0.out.below A2.out).cells
    have hl2 := cell_lt x1
    go_wp2_with fail
    refine (RR.out _).mono ?_
    rintro e w3 ⟨rfl, hb3⟩
    have B3 := Lib.hid (Bt B2.out hb3)
    clear hb3 x1 x2 x3 x4 x5 hl2
    go_wp2_with fail
    refine (NM.out _ B3.out).mono ?_
    rintro e w4 ⟨rfl, hb4⟩
    have B4 := Lib.hid (Bt B3.out hb4)
    clear hb4
    go_wp2
    go_ret
    exact ⟨rfl, B4.out⟩
  · have hk := grOk_iff.1 hg
    have hn := ntl_cast hg
    have NC := Lib.hid (fun W' => rgnew_call g W' hg)
    have RA := Lib.hid (fun W' => rall_call g W' hg)
    obtain ⟨W, H, S, X, Y⟩ := g
    have RR := Lib.hid (fun W' => rgright_any W H S X Y W')
    rw [hg] at RR
    dsimp only at *
    obtain ⟨Wn, rfl⟩ : ∃ Wn : Nat, W = Wn := ⟨W.toNat, by omega⟩
    obtain ⟨Hn, rfl⟩ : ∃ Hn : Nat, H = Hn := ⟨H.toNat, by omega⟩
    have hWn : 0 < Wn := by omega
    have hWn2 : Wn ≤ 1000 := by omega
    have HGG := Lib.hid hg
    obtain ⟨hn1, hn2, hn3⟩ := hn
    obtain ⟨n, hnn⟩ : ∃ n, n = ntl ⟨(Wn : Int), (Hn : Int), S, X, Y⟩ := ⟨_, rfl⟩
    rw [← hnn] at hn1 hn2 hn3 NC RA
    have HWH : Hid (Hn * Wn = n) := Lib.hid (by
      have h9 : ((Hn * Wn : Nat) : Int) = (n : Int) := by rw [hn1, Int.natCast_mul, Int.mul_comm]
      omega)
    have HNN := Lib.hid hnn
    clear hg hk hn1 hnn
    go_enter Tryd.func3, Tryd.ntmps3
    go_wp2_with fail
    rw [← HW0.out]
    refine (AL.out _ B0.out).mono ?_
    rintro e w1 ⟨rfl, hb1⟩
    have A1 := Lib.hid hb1
    clear hb1
    obtain ⟨x1, x2, x3, x4, x5⟩ := (G0.out.below A1.out).cells
    have hl1 := cell_lt x1
    go_wp2_with fail
    refine (NC.out _).mono ?_
    rintro e w2 ⟨pa, rfl, hr2, hb2⟩
    unfold psR
    have A2 := Lib.hid (Bt A1.out hb2)
    have R2 := Lib.hid hr2
    have F2 := Lib.hid (show ∀ q, Fresh w1 w2 q → W0.heap.size ≤ q ∧ q < w2.heap.size from fun q e => e.elim (fun e => e.elim) (fun e => ⟨Nat.le_trans A1.out.size e.1, e.2⟩))
    generalize Fresh w1 w2 = M1 at *
    clear hr2 hb2 x1 x2 x3 x4 x5 hl1
    obtain ⟨x1, x2, x3, x4, x5⟩ := (G0.out.below A2.out).cells
    have hl2 := cell_lt x1
    go_wp2_with fail
    refine (RR.out _).mono ?_
    rintro e w3 ⟨rfl, hb3⟩
    have A3 := Lib.hid (Bt A2.out hb3)
    have R3 := Lib.hid (R2.out.below hb3)
    have hs23 := hb3.size
    clear hb3 x1 x2 x3 x4 x5 hl2 R2
    obtain ⟨x1, x2, x3, x4, x5⟩ := (G0.out.below A3.out).cells
    have hl3 := cell_lt x1
    go_wp2_with fail
    refine (RA.out _).mono ?_
    rintro e w4 ⟨vb, rfl, ho4, hb4⟩
    obtain ⟨pb4, cb, rfl, -, hcb, hq4⟩ := row_val ho4
    rw [nots_len] at hq4
    obtain ⟨gb, rfl, -, -⟩ := hq4 (by omega)
    have hgb4 := row_base0 ho4 (show (Value.slice (some ⟨gb, 0, none⟩) _ cb).ownBlock = some gb from rfl)
    have P4 := Lib.hid (show RPs W0 ⟨(Wn : Int), (Hn : Int), S, X, Y⟩ gb cb (.pointer (some ⟨pa, 0, none⟩)) w4 from ⟨pa, nots n, M1, rfl, ⟨R3.out.below hb4, by
      have := row_mono ho4 A3.out.size
      rw [nots_len] at this
      rw [← HNN.out]
      exact this, by rw [nots_len]; exact HNN.out, fun q e => ⟨(F2.out q e).1, by have := (F2.out q e).2; have := hb4.size; omega, by have := (F2.out q e).2; omega⟩, Bt A3.out hb4⟩⟩)
    rw [nots_len]
    unfold maxLen at hcb
    clear ho4 hb4 hgb4 x1 x2 x3 x4 x5 hl3 A1 A2 A3 R3 F2 RR NC RA
    go_wp2_with fail
    go_loopw [7, 52] (fun pv u wr => ∃ i : Nat, i ≤ l.length ∧ u = .int .i64 i ∧ Hid (RPs W0 ⟨(Wn : Int), (Hn : Int), S, X, Y⟩ gb cb pv wr)) (fun _ u _ => l.length - (intOf u).toNat)
    case atStart => exact ⟨0, Nat.zero_le _, rfl, P4⟩
    case round =>
      clear P4
      obtain ⟨i, hi, rfl, hP⟩ := hrel
      obtain ⟨pa, b, M, rfl, hD⟩ := hP.out
      have HD := Lib.hid hD
      clear hP hD
      have BW := Lib.hid (B0.out.trans (HD.out.lo.mono B0.out.size))
      by_cases hlt : i < l.length
      · have hiz : (i : Int) < (l.length : Int) := by omega
        obtain ⟨gs, os, rfl, hg1, hcs⟩ := HV.out (by omega)
        obtain ⟨c1, c2⟩ := encR_get hcs hlt
        replace c1 := Bc BW.out hg1 c1
        replace c2 := Bc BW.out hg1 c2
        have hgw := cell_lt c1
        have HTL := Lib.hid (HT.out l[i]! (by rw [getElem!_pos l i hlt]; exact List.getElem_mem hlt))
        generalize l[i]! = x at *
        obtain ⟨kk, tv, tl⟩ := x
        dsimp only at c1 c2 HTL
        obtain ⟨qt, ct, rfl, t1, t2, -⟩ := HTL.out
        unfold maxLen at t2
        clear hcs
        obtain ⟨wa, hwa⟩ : ∃ wa, wa = wr.alloc (.cells #[.int .i64 kk, .slice qt tl.length ct] 37) := ⟨_, rfl⟩
        have D1 : Hid (RPl W0 ⟨(Wn : Int), (Hn : Int), S, X, Y⟩ gb cb pa b b M wa) := Lib.hid (by rw [hwa]; exact HD.out.below (Ba (Below.refl _ wr) _))
        have XB : Hid (wa.heap[wr.heap.size]? = some (.cells #[.int .i64 kk, .slice qt tl.length ct] 37 (0, 0))) := Lib.hid (by rw [hwa]; exact heap_alloc_new wr _)
        have N1 := Lib.hid (show ¬ M wr.heap.size ∧ wr.heap.size ≠ gb ∧ W0.heap.size ≤ wr.heap.size from ⟨fun e => by have := (HD.out.m _ e).2.1; omega, by have := HD.out.gbl.2; omega, HD.out.lo.size⟩)
        have HWA := Lib.hid hwa
        have BWA := Lib.hid (show RowKit.Below w.heap.size w wa from B0.out.trans (D1.out.lo.mono B0.out.size))
        clear hwa
        go_upto_region 14 with fail
        rw [← HWA.out]
        clear HWA c1 c2 HD BW
        generalize wr.heap.size = xb at *
        obtain ⟨z0, z1⟩ := cells2 XB.out
        have hxa := cell_lt z0
        by_cases h200 : tl.length > 200
        · have hz2 : (tl.length : Int) > 200 := by omega
          go_wp2
          go_ret
          exact ⟨rfl, BWA.out⟩
        have hz2 : ¬ (tl.length : Int) > 200 := by omega
        have NI := Lib.hid (numInts_call tl _ wa (HTL.out.below BWA.out) (by omega))
        go_wp2_with fail
        refine NI.out.mono ?_
        rintro e w5 ⟨g6, cap6, rfl, ho5, hb5⟩
        have D5 := Lib.hid (D1.out.below hb5)
        have XB5 := Lib.hid (blk_below XB.out hb5)
        have O5 := Lib.hid ho5
        have N5 := Lib.hid (show ¬ M g6 ∧ g6 ≠ gb ∧ g6 ≠ xb ∧ W0.heap.size ≤ g6 from by
          have h1 := row_base0 ho5 (show (Value.slice (some ⟨g6, 0, none⟩) _ cap6).ownBlock = some g6 from rfl)
          exact ⟨fun e => by have := (D1.out.m _ e).2.1; omega, by have := D1.out.gbl.2; omega, by omega, by have := D1.out.lo.size; omega⟩)
        have I5 := Lib.hid (show Sl encI w5 (.slice (some ⟨g6, 0, none⟩) tl.length cap6) tl from by
          have := row_sl lenI (frontI ho5 (by simp [marks]) tl.length (by omega)) (by simp)
          rwa [List.take_left] at this)
        have B5 := Lib.hid (Bt BWA.out hb5)
        obtain ⟨base, hbase⟩ : ∃ base, base = wa.heap.size := ⟨_, rfl⟩
        rw [← hbase] at O5
        have hlc : tl.length ≤ cap6 := by obtain ⟨p9, c9, e9, l9, -, -⟩ := row_val ho5; simp only [Value.slice.injEq] at e9; omega
        have hcm : cap6 ≤ 9223372036854775807 := by obtain ⟨p9, c9, e9, -, l9, -⟩ := row_val ho5; unfold maxLen at l9; simp only [Value.slice.injEq] at e9; omega
        clear ho5 hb5 hbase z0 z1 hxa NI D1 XB BWA
        obtain ⟨z0, z1⟩ := cells2 XB5.out
        have hxa := cell_lt z0
        go_upto_block 2 with fail
        go_cut [7] (fun pv wx => Hid (RPc W0 ⟨(Wn : Int), (Hn : Int), S, X, Y⟩ gb cb xb g6 cap6 base kk (.slice qt tl.length ct) tl pv wx))
        case first =>
          -- BRANCHES
          by_cases hk1 : kk = 1
          · have hk := hk1
            clear hk1
            subst hk
            have AC := Lib.hid (rask_call b tl false 8 _ _ w5 D5.out.sl (HTL.out.below B5.out) (by omega) (by rw [D5.out.n, ← HNN.out]; omega))
            have BC := Lib.hid (block_call D5.out.r (fun q e => (D5.out.m q e).2.1) tl _ I5.out (by omega) (fun q e f => by simp only [Value.ownBlock, Option.some.injEq] at e; subst e; exact N5.out.1 f) _ _ (E0.out.below D5.out.lo).eR (E0.out.below D5.out.lo).eB)
            have HA3 := Lib.hid (ask_three b tl false 8)
            have HIN := Lib.hid (show askT b tl false 8 = 0 → ∀ t ∈ tl, 0 ≤ t ∧ t < (n : Int) from fun e t ht => by have := ask_in e t ht; rw [D5.out.n, ← HNN.out] at this; exact this)
            unfold changeT at BC
            generalize askT b tl false 8 = a at *
            rw [← HNN.out] at AC
            unfold psR at BC
            go_wp2_with fail
            refine AC.out.mono ?_
            rintro e w6 ⟨rfl, rfl⟩
            go_wp2_with fail
            refine BC.out.mono ?_
            rintro e w6 ⟨rfl, hr6, ht6⟩
            have D6 := Lib.hid (D5.out.turn hr6 ht6)
            have X6 := Lib.hid (ht6.blk XB5.out N1.out.1)
            have O6 := Lib.hid (row_keep O5.out (fun q e => ht6.block q (row_lt O5.out e) (fun f => by simp only [Value.ownBlock, Option.some.injEq] at e; subst e; exact N5.out.1 f)))
            have B6 := Lib.hid (show RowKit.Below w.heap.size w w6 from B0.out.trans (D6.out.lo.mono B0.out.size))
            have NM := Lib.hid (num_errT (HER.out.below B6.out) 7 (by omega) a HA3.out)
            clear hr6 ht6 z0 z1 hxa AC BC
            generalize New M w5 w6 = M6 at *
            go_wp2_with fail
            refine NM.out.mono ?_
            rintro e w7 ⟨rfl, hb7⟩
            have D7 := Lib.hid (D6.out.below hb7)
            have X7 := Lib.hid (blk_below X6.out hb7)
            have O7 := Lib.hid (row_below O6.out hb7)
            clear hb7 NM
            obtain ⟨z0, z1⟩ := cells2 X7.out
            have hxa := cell_lt z0
            by_cases ha : a = 0
            · have HI0 := Lib.hid (HIN.out ha)
              rw [if_pos ha] at D7
              subst ha
              go_wp2_with fail
              clear z0 z1 hxa
              have D7' : Hid (RPl W0 ⟨(Wn : Int), (Hn : Int), S, X, Y⟩ gb cb pa (setT (!false) b tl) (setT true b (tl.take 0)) M6 w7) := D7
              go_loopw [80] (fun u wx => ∃ j : Nat, j ≤ tl.length ∧ u = .int .i64 j ∧ Hid (RPl W0 ⟨(Wn : Int), (Hn : Int), S, X, Y⟩ gb cb pa (setT (!false) b tl) (setT true b (tl.take j)) M6 wx) ∧ Hid (wx.heap[xb]? = some (.cells #[.int .i64 1, .slice qt tl.length ct] 37 (0, 0))) ∧ Hid (wx.ownsRow base 3 1 (.slice (some ⟨g6, 0, none⟩) (tl.length + 4) cap6) (tl.length + 4) (flat encI (tl ++ marks)))) (fun u _ => tl.length - (intOf u).toNat)
              case atStart => exact ⟨0, Nat.zero_le _, rfl, D7', X7, O7⟩
              case round =>
                clear D7 D7' X7 O7
                obtain ⟨j, hj, rfl, DR, XR, OR⟩ := hrel
                by_cases hjl : j < tl.length
                · have hjz : (j : Int) < (tl.length : Int) := by omega
                  obtain ⟨q8, c8, e8, -, -, l3⟩ := HTL.out
                  obtain ⟨gl, ol, rfl, hgl, hcl⟩ := l3 (by omega)
                  simp only [Value.slice.injEq, true_and] at e8
                  obtain ⟨rfl, rfl⟩ := e8
                  have BR := Lib.hid (show RowKit.Below w.heap.size w wr from B0.out.trans (DR.out.lo.mono B0.out.size))
                  have cl := Bc BR.out hgl (sl_cell1 encI1' hcl hjl)
                  have hglw := cell_lt cl
                  have htk := setT_take hjl true b
                  obtain ⟨hx0, hx1⟩ := HI0.out tl[j]! (by rw [getElem!_pos tl j hjl]; exact List.getElem_mem hjl)
                  obtain ⟨m, hm⟩ : ∃ m : Nat, tl[j]! = (m : Int) := ⟨(tl[j]!).toNat, by omega⟩
                  rw [hm] at cl htk hx1
                  rw [Int.toNat_natCast] at htk
                  have hml : (setT true b (tl.take j)).length = n := by rw [DR.out.n, ← HNN.out]
                  have hmn : m < n := by omega
                  have hrow := DR.out.k
                  rw [← HNN.out] at hrow
                  have co := row_cell1 encB1 hrow m (by omega)
                  have fz := hrow.frozenAt m
                  have hgw := cell_lt co
                  have D8 := DR.out.set m true
                  rw [← htk] at D8
                  have D9 := Lib.hid D8
                  have X9 := Lib.hid (show (wr.setCell ⟨gb, m, none⟩ (.bool true)).heap[xb]? = _ from (heap_setCell_other wr ⟨gb, m, none⟩ xb _ N1.out.2.1).trans XR.out)
                  have O9 := Lib.hid (row_keep OR.out (w' := wr.setCell ⟨gb, m, none⟩ (.bool true)) (fun q e => by simp only [Value.ownBlock, Option.some.injEq] at e; subst e; exact heap_setCell_other wr ⟨gb, m, none⟩ g6 _ N5.out.2.1))
                  generalize (setT true b (tl.take j))[m]! = xo at *
                  clear htk hm hml hrow D8 hcl hx0 hx1 l3
                  go_wp2
                  go_roundw
                  case measure => simp only [intOf]; omega
                  case rel => exact ⟨j + 1, by omega, by go_num, D9, X9, O9⟩
                · obtain rfl : j = tl.length := by omega
                  have hjz : ¬ (tl.length : Int) < (tl.length : Int) := by omega
                  rw [List.take_length] at DR
                  have HRC := Lib.hid (show RPc W0 ⟨(Wn : Int), (Hn : Int), S, X, Y⟩ gb cb xb g6 cap6 base 1 (.slice qt tl.length ct) tl (.pointer (some ⟨pa, 0, none⟩)) wr from ⟨⟨pa, _, M6, rfl, DR.out⟩, XR.out, OR.out⟩)
                  go_wp2
                  go_meet
                  exact HRC
            · rw [if_neg ha] at D7
              have HRC := Lib.hid (show RPc W0 ⟨(Wn : Int), (Hn : Int), S, X, Y⟩ gb cb xb g6 cap6 base 1 (.slice qt tl.length ct) tl (.pointer (some ⟨pa, 0, none⟩)) w7 from ⟨⟨pa, b, M6, rfl, D7.out⟩, X7.out, O7.out⟩)
              have ea : (a == 0) = false := by simpa using ha
              have ea2 : decide (a = 0) = false := decide_eq_false ha
              go_wp2_with fail
              clear z0 z1 hxa
              obtain ⟨ww, hww⟩ : ∃ ww, ww = w7 := ⟨_, rfl⟩
              rw [← hww]
              have HWW := Lib.hid hww
              clear hww
              go_loopw [80] (fun u wx => ∃ j : Nat, j ≤ tl.length ∧ u = .int .i64 j ∧ Hid (wx = w7)) (fun u _ => tl.length - (intOf u).toNat)
              case atStart => exact ⟨0, Nat.zero_le _, rfl, HWW⟩
              case round =>
                obtain ⟨j, hj, rfl, HR⟩ := hrel
                by_cases hjl : j < tl.length
                · have hjz : (j : Int) < (tl.length : Int) := by omega
                  obtain ⟨q8, c8, e8, -, -, l3⟩ := HTL.out
                  obtain ⟨gl, ol, rfl, hgl, hcl⟩ := l3 (by omega)
                  simp only [Value.slice.injEq, true_and] at e8
                  obtain ⟨rfl, rfl⟩ := e8
                  have BR := Lib.hid (show RowKit.Below w.heap.size w wr from by rw [HR.out]; exact B0.out.trans (D7.out.lo.mono B0.out.size))
                  have cl := Bc BR.out hgl (sl_cell1 encI1' hcl hjl)
                  have hglw := cell_lt cl
                  generalize tl[j]! = x at *
                  clear hcl l3
                  go_wp2
                  go_roundw
                  case measure => simp only [intOf]; omega
                  case rel => exact ⟨j + 1, by omega, by go_num, HR⟩
                · obtain rfl : j = tl.length := by omega
                  have hjz : ¬ (tl.length : Int) < (tl.length : Int) := by omega
                  have HRD := Lib.hid (show RPc W0 ⟨(Wn : Int), (Hn : Int), S, X, Y⟩ gb cb xb g6 cap6 base 1 (.slice qt tl.length ct) tl (.pointer (some ⟨pa, 0, none⟩)) wr from by rw [HR.out]; exact HRC.out)
                  go_wp2
                  go_meet
                  exact HRD
          · by_cases hk2 : kk = 2
            · have hk := hk2
              clear hk1 hk2
              subst hk
              have AC := Lib.hid (rask_call b tl true 6 _ _ w5 D5.out.sl (HTL.out.below B5.out) (by omega) (by rw [D5.out.n, ← HNN.out]; omega))
              have BC := Lib.hid (rgfree_call D5.out.r (fun q e => (D5.out.m q e).2.1) tl _ I5.out (by omega) (fun q e f => by simp only [Value.ownBlock, Option.some.injEq] at e; subst e; exact N5.out.1 f) _ _ (E0.out.below D5.out.lo).eR (E0.out.below D5.out.lo).eS)
              have HA3 := Lib.hid (ask_three b tl true 6)
              have HIN := Lib.hid (show askT b tl true 6 = 0 → ∀ t ∈ tl, 0 ≤ t ∧ t < (n : Int) from fun e t ht => by have := ask_in e t ht; rw [D5.out.n, ← HNN.out] at this; exact this)
              unfold changeT at BC
              generalize askT b tl true 6 = a at *
              rw [← HNN.out] at AC
              unfold psR at BC
              have q1 : ((2 : Int) == 1) = false := by decide
              go_wp2_with fail
              refine AC.out.mono ?_
              rintro e w6 ⟨rfl, rfl⟩
              go_wp2_with fail
              refine BC.out.mono ?_
              rintro e w6 ⟨rfl, hr6, ht6⟩
              have D6 := Lib.hid (D5.out.turn hr6 ht6)
              have X6 := Lib.hid (ht6.blk XB5.out N1.out.1)
              have O6 := Lib.hid (row_keep O5.out (fun q e => ht6.block q (row_lt O5.out e) (fun f => by simp only [Value.ownBlock, Option.some.injEq] at e; subst e; exact N5.out.1 f)))
              have B6 := Lib.hid (show RowKit.Below w.heap.size w w6 from B0.out.trans (D6.out.lo.mono B0.out.size))
              have NM := Lib.hid (num_errT (HER.out.below B6.out) 5 (by omega) a HA3.out)
              clear hr6 ht6 z0 z1 hxa AC BC
              generalize New M w5 w6 = M6 at *
              go_wp2_with fail
              refine NM.out.mono ?_
              rintro e w7 ⟨rfl, hb7⟩
              have D7 := Lib.hid (D6.out.below hb7)
              have X7 := Lib.hid (blk_below X6.out hb7)
              have O7 := Lib.hid (row_below O6.out hb7)
              clear hb7 NM
              obtain ⟨z0, z1⟩ := cells2 X7.out
              have hxa := cell_lt z0
              by_cases ha : a = 0
              · have HI0 := Lib.hid (HIN.out ha)
                rw [if_pos ha] at D7
                subst ha
                go_wp2_with fail
                clear z0 z1 hxa
                have D7' : Hid (RPl W0 ⟨(Wn : Int), (Hn : Int), S, X, Y⟩ gb cb pa (setT (!true) b tl) (setT false b (tl.take 0)) M6 w7) := D7
                go_loopw [105] (fun u wx => ∃ j : Nat, j ≤ tl.length ∧ u = .int .i64 j ∧ Hid (RPl W0 ⟨(Wn : Int), (Hn : Int), S, X, Y⟩ gb cb pa (setT (!true) b tl) (setT false b (tl.take j)) M6 wx) ∧ Hid (wx.heap[xb]? = some (.cells #[.int .i64 2, .slice qt tl.length ct] 37 (0, 0))) ∧ Hid (wx.ownsRow base 3 1 (.slice (some ⟨g6, 0, none⟩) (tl.length + 4) cap6) (tl.length + 4) (flat encI (tl ++ marks)))) (fun u _ => tl.length - (intOf u).toNat)
                case atStart => exact ⟨0, Nat.zero_le _, rfl, D7', X7, O7⟩
                case round =>
                  clear D7 D7' X7 O7
                  obtain ⟨j, hj, rfl, DR, XR, OR⟩ := hrel
                  by_cases hjl : j < tl.length
                  · have hjz : (j : Int) < (tl.length : Int) := by omega
                    obtain ⟨q8, c8, e8, -, -, l3⟩ := HTL.out
                    obtain ⟨gl, ol, rfl, hgl, hcl⟩ := l3 (by omega)
                    simp only [Value.slice.injEq, true_and] at e8
                    obtain ⟨rfl, rfl⟩ := e8
                    have BR := Lib.hid (show RowKit.Below w.heap.size w wr from B0.out.trans (DR.out.lo.mono B0.out.size))
                    have cl := Bc BR.out hgl (sl_cell1 encI1' hcl hjl)
                    have hglw := cell_lt cl
                    have htk := setT_take hjl false b
                    obtain ⟨hx0, hx1⟩ := HI0.out tl[j]! (by rw [getElem!_pos tl j hjl]; exact List.getElem_mem hjl)
                    obtain ⟨m, hm⟩ : ∃ m : Nat, tl[j]! = (m : Int) := ⟨(tl[j]!).toNat, by omega⟩
                    rw [hm] at cl htk hx1
                    rw [Int.toNat_natCast] at htk
                    have hml : (setT false b (tl.take j)).length = n := by rw [DR.out.n, ← HNN.out]
                    have hmn : m < n := by omega
                    have hrow := DR.out.k
                    rw [← HNN.out] at hrow
                    have co := row_cell1 encB1 hrow m (by omega)
                    have fz := hrow.frozenAt m
                    have hgw := cell_lt co
                    have D8 := DR.out.set m false
                    rw [← htk] at D8
                    have D9 := Lib.hid D8
                    have X9 := Lib.hid (show (wr.setCell ⟨gb, m, none⟩ (.bool false)).heap[xb]? = _ from (heap_setCell_other wr ⟨gb, m, none⟩ xb _ N1.out.2.1).trans XR.out)
                    have O9 := Lib.hid (row_keep OR.out (w' := wr.setCell ⟨gb, m, none⟩ (.bool false)) (fun q e => by simp only [Value.ownBlock, Option.some.injEq] at e; subst e; exact heap_setCell_other wr ⟨gb, m, none⟩ g6 _ N5.out.2.1))
                    generalize (setT false b (tl.take j))[m]! = xo at *
                    clear htk hm hml hrow D8 hcl hx0 hx1 l3
                    go_wp2
                    go_roundw
                    case measure => simp only [intOf]; omega
                    case rel => exact ⟨j + 1, by omega, by go_num, D9, X9, O9⟩
                  · obtain rfl : j = tl.length := by omega
                    have hjz : ¬ (tl.length : Int) < (tl.length : Int) := by omega
                    rw [List.take_length] at DR
                    have HRC := Lib.hid (show RPc W0 ⟨(Wn : Int), (Hn : Int), S, X, Y⟩ gb cb xb g6 cap6 base 2 (.slice qt tl.length ct) tl (.pointer (some ⟨pa, 0, none⟩)) wr from ⟨⟨pa, _, M6, rfl, DR.out⟩, XR.out, OR.out⟩)
                    go_wp2
                    go_meet
                    exact HRC
              · rw [if_neg ha] at D7
                have HRC := Lib.hid (show RPc W0 ⟨(Wn : Int), (Hn : Int), S, X, Y⟩ gb cb xb g6 cap6 base 2 (.slice qt tl.length ct) tl (.pointer (some ⟨pa, 0, none⟩)) w7 from ⟨⟨pa, b, M6, rfl, D7.out⟩, X7.out, O7.out⟩)
                have ea : (a == 0) = false := by simpa using ha
                have ea2 : decide (a = 0) = false := decide_eq_false ha
                go_wp2_with fail
                clear z0 z1 hxa
                obtain ⟨ww, hww⟩ : ∃ ww, ww = w7 := ⟨_, rfl⟩
                rw [← hww]
                have HWW := Lib.hid hww
                clear hww
                go_loopw [105] (fun u wx => ∃ j : Nat, j ≤ tl.length ∧ u = .int .i64 j ∧ Hid (wx = w7)) (fun u _ => tl.length - (intOf u).toNat)
                case atStart => exact ⟨0, Nat.zero_le _, rfl, HWW⟩
                case round =>
                  obtain ⟨j, hj, rfl, HR⟩ := hrel
                  by_cases hjl : j < tl.length
                  · have hjz : (j : Int) < (tl.length : Int) := by omega
                    obtain ⟨q8, c8, e8, -, -, l3⟩ := HTL.out
                    obtain ⟨gl, ol, rfl, hgl, hcl⟩ := l3 (by omega)
                    simp only [Value.slice.injEq, true_and] at e8
                    obtain ⟨rfl, rfl⟩ := e8
                    have BR := Lib.hid (show RowKit.Below w.heap.size w wr from by rw [HR.out]; exact B0.out.trans (D7.out.lo.mono B0.out.size))
                    have cl := Bc BR.out hgl (sl_cell1 encI1' hcl hjl)
                    have hglw := cell_lt cl
                    generalize tl[j]! = x at *
                    clear hcl l3
                    go_wp2
                    go_roundw
                    case measure => simp only [intOf]; omega
                    case rel => exact ⟨j + 1, by omega, by go_num, HR⟩
                  · obtain rfl : j = tl.length := by omega
                    have hjz : ¬ (tl.length : Int) < (tl.length : Int) := by omega
                    have HRD := Lib.hid (show RPc W0 ⟨(Wn : Int), (Hn : Int), S, X, Y⟩ gb cb xb g6 cap6 base 2 (.slice qt tl.length ct) tl (.pointer (some ⟨pa, 0, none⟩)) wr from by rw [HR.out]; exact HRC.out)
                    go_wp2
                    go_meet
                    exact HRD
            · by_cases hk3 : kk = 3
              · have hk := hk3
                clear hk1 hk2 hk3
                subst hk
                have q1 : ((3 : Int) == 1) = false := by decide
                have q2 : ((3 : Int) == 2) = false := by decide
                have CC := Lib.hid (rgclone_call D5.out.r)
                unfold psR at CC
                go_wp2_with fail
                refine CC.out.mono ?_
                rintro e w6 ⟨pc, rfl, hr6, hb6⟩
                have D6 := Lib.hid (D5.out.clone hr6 hb6)
                have BC := Lib.hid (block_call (D5.out.r.below hb6) (fun q e => Nat.lt_of_lt_of_le (D5.out.m q e).2.1 hb6.size) tl _ (I5.out.below hb6) (by omega) (fun q e f => by simp only [Value.ownBlock, Option.some.injEq] at e; subst e; exact N5.out.1 f) _ _ (E0.out.below D6.out.lo).eR (E0.out.below D6.out.lo).eB)
                have X6 := Lib.hid (blk_below XB5.out hb6)
                have O6 := Lib.hid (row_below O5.out hb6)
                have HF := Lib.hid (show ∀ q, M q → W0.heap.size ≤ q ∧ ¬ Fresh w5 w6 q ∧ q ≠ gb from fun q e => ⟨(D5.out.m q e).1, fun f => f.elim (fun f => f) (fun f => by have := (D5.out.m q e).2.1; omega), (D5.out.m q e).2.2⟩)
                unfold psR at BC
                clear hr6 hb6 CC z0 z1 hxa
                go_wp2_with fail
                refine BC.out.mono ?_
                rintro e w7 ⟨rfl, -, ht7⟩
                have HRC := Lib.hid (show RPc W0 ⟨(Wn : Int), (Hn : Int), S, X, Y⟩ gb cb xb g6 cap6 base 3 (.slice qt tl.length ct) tl (.pointer (some ⟨pc, 0, none⟩)) w7 from ⟨⟨pc, b, _, rfl, D6.out.off ht7 HF.out⟩, ht7.blk X6.out N1.out.1, row_keep O6.out (fun q e => ht7.block q (row_lt O6.out e) (fun f => by simp only [Value.ownBlock, Option.some.injEq] at e; subst e; exact N5.out.1 f))⟩)
                clear ht7
                go_wp2
                go_meet
                exact HRC
              · skip
                have q1 : (kk == 1) = false := by simpa using hk1
                have q2 : (kk == 2) = false := by simpa using hk2
                have q3 : (kk == 3) = false := by simpa using hk3
                have d1 : decide (kk = 1) = false := decide_eq_false hk1
                have d2 : decide (kk = 2) = false := decide_eq_false hk2
                have d3 : decide (kk = 3) = false := decide_eq_false hk3
                have HRC := Lib.hid (show RPc W0 ⟨(Wn : Int), (Hn : Int), S, X, Y⟩ gb cb xb g6 cap6 base kk (.slice qt tl.length ct) tl (.pointer (some ⟨pa, 0, none⟩)) w5 from ⟨⟨pa, b, M, rfl, D5.out⟩, XB5.out, O5.out⟩)
                clear hk1 hk2 hk3
                go_wp2
                go_meet
                exact HRC
          -- END
        case rest =>
          obtain ⟨⟨pa2, b2, M2, rfl, hD2⟩, hX2, hO2⟩ := hcut.out
          have D2 := Lib.hid hD2
          have X2 := Lib.hid hX2
          have BC := Lib.hid (B0.out.trans (hD2.lo.mono B0.out.size))
          have KI := Lib.hid (keptInts_call tl base g6 cap6 _ wc hO2 (HTL.out.below BC.out) (by omega))
          have hb2 : b2.length = n := by rw [HNN.out]; exact hD2.n
          clear hcut hD2 hX2 hO2 D5 XB5 O5 N5 I5 B5 z0 z1 hxa N1
          obtain ⟨z0, z1⟩ := cells2 X2.out
          have hxa := cell_lt z0
          go_wp2_with fail
          refine KI.out.mono ?_
          rintro e w7 ⟨rfl, hg7⟩
          have D7 := Lib.hid (D2.out.below hg7.below)
          clear hg7 KI z0 z1 hxa
          obtain ⟨x1, x2, x3, x4, x5⟩ := (G0.out.below (show RowKit.Below W0.heap.size W0 w7 from D7.out.lo)).cells
          have hx7 := cell_lt x1
          have RL := Lib.hid (rlabels_call Wn Hn hWn hWn2 (by rw [HWH.out]; omega) (by rw [HWH.out]; omega) b2 (by rw [HWH.out]; exact hb2) _ w7 D7.out.sl)
          rw [labG_row (g := ⟨(Wn : Int), (Hn : Int), S, X, Y⟩) HGG.out rfl rfl hWn b2, ← HNN.out] at RL
          clear hb2
          go_wp2_with fail
          refine RL.out.mono ?_
          rintro e w8 ⟨v8, rfl, ho8, hb8⟩
          have D8 := Lib.hid (D7.out.below hb8)
          have SM := Lib.hid (regsame_call D8.out.r v8 (row_sl lenI ho8 rfl) _ (E0.out.below D8.out.lo).eR)
          obtain ⟨p8, c8, rfl, -, -, -⟩ := row_val ho8
          unfold psR at SM
          clear ho8 hb8 RL x1 x2 x3 x4 x5 hx7
          go_wp2_with fail
          refine SM.out.mono ?_
          rintro e w9 ⟨rfl, hb9⟩
          have D9 := Lib.hid (D8.out.below hb9)
          clear hb9 SM
          go_wp2
          go_roundw
          case measure => simp only [intOf]; omega
          case rel => exact ⟨i + 1, by omega, by go_num, Lib.hid ⟨pa2, b2, M2, rfl, D9.out⟩⟩
      · obtain rfl : i = l.length := by omega
        have hiz : ¬ (l.length : Int) < (l.length : Int) := by omega
        have LC := Lib.hid (label_call HD.out.r t _ (E0.out.below HD.out.lo).eR)
        have HW := Lib.hid (fun W' (hb : RowKit.Below wr.heap.size wr W') => HER.out.below (Bt BW.out hb))
        have SZ := Lib.hid (fun W' (hb : RowKit.Below wr.heap.size wr W') => size_call (HD.out.r.below hb) t)
        have TG := Lib.hid (fun W' (hb : RowKit.Below wr.heap.size wr W') => together_call (HD.out.r.below hb) t t)
        rw [← HNN.out] at LC
        have hlen := labG_len HGG.out b
        rw [← HNN.out] at hlen
        generalize wr = w5 at *
        cases hin : inT n t
        · rw [hin, if_neg (by simp)] at LC
          have hsz : sizeI (labG ⟨(Wn : Int), (Hn : Int), S, X, Y⟩ b) t = 0 := by
            unfold sizeI
            rw [hlen, hin]
            rfl
          have htg : togI (labG ⟨(Wn : Int), (Hn : Int), S, X, Y⟩ b) t t = false := by
            unfold togI
            rw [hlen, hin]
            rfl
          rw [hsz] at SZ
          rw [htg] at TG
          unfold psR at *
          have hno : ¬ (t ≥ 0 ∧ t < (n : Int)) := fun q => by rw [inT_iff.2 ⟨q.1, q.2⟩] at hin; cases hin
          clear hlen hsz htg hin
          by_cases h0 : t ≥ 0
          · have h1 : ¬ t < (n : Int) := fun q => hno ⟨h0, q⟩
            have d0 : decide (t ≥ 0) = true := decide_eq_true h0
            have d1 : decide (t < (n : Int)) = false := decide_eq_false h1
            clear hno
            go_wp2_with fail
            refine LC.out.mono ?_
            rintro e w6 ⟨rfl, hb6⟩
            have B6 := Lib.hid hb6
            clear hb6 LC
            go_wp2_with fail
            refine (num_range (HW.out _ B6.out)).mono ?_
            rintro e w7 ⟨rfl, hb7⟩
            have B7 := Lib.hid (Bt B6.out hb7)
            clear hb7
            go_wp2_with fail
            refine (SZ.out _ B7.out).mono ?_
            rintro e w8 ⟨rfl, hb8⟩
            have B8 := Lib.hid (Bt B7.out hb8)
            clear hb8
            go_wp2_with fail
            refine (TG.out _ B8.out).mono ?_
            rintro e w9 ⟨rfl, hb9⟩
            have B9 := Lib.hid (Bt BW.out (Bt B8.out hb9))
            clear hb9
            go_wp2
            go_ret
            exact ⟨rfl, B9.out⟩
          · have d0 : decide (t ≥ 0) = false := decide_eq_false h0
            clear hno
            go_wp2_with fail
            refine LC.out.mono ?_
            rintro e w6 ⟨rfl, hb6⟩
            have B6 := Lib.hid hb6
            clear hb6 LC
            go_wp2_with fail
            refine (num_range (HW.out _ B6.out)).mono ?_
            rintro e w7 ⟨rfl, hb7⟩
            have B7 := Lib.hid (Bt B6.out hb7)
            clear hb7
            go_wp2_with fail
            refine (SZ.out _ B7.out).mono ?_
            rintro e w8 ⟨rfl, hb8⟩
            have B8 := Lib.hid (Bt B7.out hb8)
            clear hb8
            go_wp2_with fail
            refine (TG.out _ B8.out).mono ?_
            rintro e w9 ⟨rfl, hb9⟩
            have B9 := Lib.hid (Bt BW.out (Bt B8.out hb9))
            clear hb9
            go_wp2
            go_ret
            exact ⟨rfl, B9.out⟩
        · rw [hin, if_pos rfl] at LC
          obtain ⟨h0, h1⟩ := inT_iff.1 hin
          have d0 : decide (t ≥ 0) = true := decide_eq_true h0
          have d1 : decide (t < (n : Int)) = true := decide_eq_true h1
          unfold psR at *
          generalize (labG ⟨(Wn : Int), (Hn : Int), S, X, Y⟩ b)[t.toNat]! = lt at *
          clear hlen hin SZ TG
          go_wp2_with fail
          refine LC.out.mono ?_
          rintro e w6 ⟨rfl, hb6⟩
          have B6 := Lib.hid (Bt BW.out hb6)
          clear hb6 LC
          go_wp2
          go_ret
          exact ⟨rfl, B6.out⟩
end Go.Proofs.YtklpemcchfmdjaaDoor
