/-
  RegionBack: the walk.
-/
import Derived.Test.YtklpemcchfmdjaaDoorAl15
import Derived.Test.YtklpemcchfmdjaaDoorPd15
import Derived.Test.YtklpemcchfmdjaaDoorMg15
import Derived.Deep.CutBlock
import Derived.Deep.CutRange
import Derived.Deep.DeepCutAuto
namespace Go.Proofs.YtklpemcchfmdjaaDoor
set_option linter.unusedSimpArgs false
set_option linter.unusedVariables false
open Go.RowKit Go.Sort Go.Lib Go.Shelf

/-- Two regions side by side, of the law's own, behind W0; neither touches the blocks Z. -/
structure RgO2 (W0 : World) (g : Gd) (Z : Nat → Prop) (pa : Nat) (ba : List Bool) (pb : Nat) (bb : List Bool) (wx : World) : Prop where
  ex : ∃ Ma Mb : Nat → Prop, RgAt wx Ma pa g ba ∧ RgAt wx Mb pb g bb ∧ (∀ k, Ma k → ¬ Mb k) ∧ (∀ k, Ma k → W0.heap.size ≤ k ∧ k < wx.heap.size ∧ ¬ Z k) ∧ (∀ k, Mb k → W0.heap.size ≤ k ∧ k < wx.heap.size ∧ ¬ Z k)
  zlt : ∀ k, Z k → k < wx.heap.size
  lo : RowKit.Below W0.heap.size W0 wx
section
variable {W0 wx w' : World} {g : Gd} {Z : Nat → Prop} {pa pb : Nat} {ba bb : List Bool}
theorem RgO2.below (h : RgO2 W0 g Z pa ba pb bb wx) (hb : RowKit.Below wx.heap.size wx w') : RgO2 W0 g Z pa ba pb bb w' := by
  obtain ⟨⟨Ma, Mb, h1, h2, h3, h4, h5⟩, h6, h7⟩ := h
  exact ⟨⟨Ma, Mb, h1.below hb, h2.below hb, h3, fun k e => ⟨(h4 k e).1, Nat.lt_of_lt_of_le (h4 k e).2.1 hb.size, (h4 k e).2.2⟩, fun k e => ⟨(h5 k e).1, Nat.lt_of_lt_of_le (h5 k e).2.1 hb.size, (h5 k e).2.2⟩⟩, fun k e => Nat.lt_of_lt_of_le (h6 k e) hb.size, Bt h7 hb⟩
theorem RgO2.fence (h : RgO2 W0 g (fun _ => False) pa ba pb bb wx) (hb : RowKit.Below wx.heap.size wx w') : RgO2 W0 g (fun k => wx.heap.size ≤ k ∧ k < w'.heap.size) pa ba pb bb w' := by
  obtain ⟨⟨Ma, Mb, h1, h2, h3, h4, h5⟩, h6, h7⟩ := h
  exact ⟨⟨Ma, Mb, h1.below hb, h2.below hb, h3, fun k e => ⟨(h4 k e).1, Nat.lt_of_lt_of_le (h4 k e).2.1 hb.size, fun q => by have := (h4 k e).2.1; omega⟩, fun k e => ⟨(h5 k e).1, Nat.lt_of_lt_of_le (h5 k e).2.1 hb.size, fun q => by have := (h5 k e).2.1; omega⟩⟩, fun k e => e.2, Bt h7 hb⟩
theorem RgO2.turnA {w2 : World} {b' : List Bool} {Ma Mb : Nat → Prop} (h2 : RgAt wx Mb pb g bb) (h3 : ∀ k, Ma k → ¬ Mb k) (h4 : ∀ k, Ma k → W0.heap.size ≤ k ∧ k < wx.heap.size ∧ ¬ Z k) (h5 : ∀ k, Mb k → W0.heap.size ≤ k ∧ k < wx.heap.size ∧ ¬ Z k) (h6 : ∀ k, Z k → k < wx.heap.size) (h7 : RowKit.Below W0.heap.size W0 wx) (hr : RgAt w2 (New Ma wx w2) pa g b') (ht : Tch Ma wx w2) :
    RgO2 W0 g Z pa b' pb bb w2 ∧ ∀ k, Z k → w2.heap[k]? = wx.heap[k]? := by
  refine ⟨⟨⟨_, Mb, hr, h2.kept ht (fun k e q => h3 k q e), fun k e q => ?_, fun k e => ?_, fun k e => ⟨(h5 k e).1, Nat.lt_of_lt_of_le (h5 k e).2.1 ht.size, (h5 k e).2.2⟩⟩, fun k e => Nat.lt_of_lt_of_le (h6 k e) ht.size, h7.trans (Tch.below ht (fun k e => (h4 k e).1) h7.size)⟩, fun k e => ht.block k (h6 k e) (fun q => (h4 k q).2.2 e)⟩
  · rcases e with e | e
    · exact h3 k e q
    · have := (h5 k q).2.1; omega
  · rcases e with e | e
    · exact ⟨(h4 k e).1, Nat.lt_of_lt_of_le (h4 k e).2.1 ht.size, (h4 k e).2.2⟩
    · exact ⟨Nat.le_trans h7.size e.1, e.2, fun q => by have := h6 k q; omega⟩
theorem RgO2.turnB {w2 : World} {b' : List Bool} {Ma Mb : Nat → Prop} (h1 : RgAt wx Ma pa g ba) (h3 : ∀ k, Ma k → ¬ Mb k) (h4 : ∀ k, Ma k → W0.heap.size ≤ k ∧ k < wx.heap.size ∧ ¬ Z k) (h5 : ∀ k, Mb k → W0.heap.size ≤ k ∧ k < wx.heap.size ∧ ¬ Z k) (h6 : ∀ k, Z k → k < wx.heap.size) (h7 : RowKit.Below W0.heap.size W0 wx) (hr : RgAt w2 (New Mb wx w2) pb g b') (ht : Tch Mb wx w2) :
    RgO2 W0 g Z pa ba pb b' w2 ∧ ∀ k, Z k → w2.heap[k]? = wx.heap[k]? := by
  refine ⟨⟨⟨Ma, _, h1.kept ht h3, hr, fun k e q => ?_, fun k e => ⟨(h4 k e).1, Nat.lt_of_lt_of_le (h4 k e).2.1 ht.size, (h4 k e).2.2⟩, fun k e => ?_⟩, fun k e => Nat.lt_of_lt_of_le (h6 k e) ht.size, h7.trans (Tch.below ht (fun k e => (h5 k e).1) h7.size)⟩, fun k e => ht.block k (h6 k e) (fun q => (h5 k q).2.2 e)⟩
  · rcases q with q | q
    · exact h3 k e q
    · have := (h4 k e).2.1; omega
  · rcases e with e | e
    · exact ⟨(h5 k e).1, Nat.lt_of_lt_of_le (h5 k e).2.1 ht.size, (h5 k e).2.2⟩
    · exact ⟨Nat.le_trans h7.size e.1, e.2, fun q => by have := h6 k q; omega⟩
/-- Tiles are blocked in the first. -/
theorem RgO2.blockA (h : RgO2 W0 g Z pa ba pb bb wx) (l : List Int) (v : Value) (hs : Sl encI wx v l) (hl : l.length ≤ 1024) (hv : ∀ k, v.ownBlock = some k → Z k) (eR eB : TypeId × Value) (hR : W0.cell? ⟨1, 0, none⟩ = some (.iface eR.1 eR.2)) (hB : W0.cell? ⟨7, 0, none⟩ = some (.iface eB.1 eB.2)) :
    Calls Tryd.prog 14 #[psR pa, v] wx fun e w' => e = .returned (errT3 eR eB (askT ba l false 8)) ∧ RgO2 W0 g Z pa (changeT ba l false 8) pb bb w' ∧ ∀ k, Z k → w'.heap[k]? = wx.heap[k]? := by
  obtain ⟨⟨Ma, Mb, h1, h2, h3, h4, h5⟩, h6, h7⟩ := h
  refine (block_call h1 (fun k e => (h4 k e).2.1) l v hs hl (fun k e q => (h4 k q).2.2 (hv k e)) eR eB (Bc h7 (cell_lt hR) hR) (Bc h7 (cell_lt hB) hB)).mono fun e w' ⟨he, hr, ht⟩ => ⟨he, RgO2.turnA h2 h3 h4 h5 h6 h7 hr ht⟩
/-- One tile is blocked in the second, by a literal of its own. -/
theorem RgO2.blockB (h : RgO2 W0 g Z pa ba pb bb wx) (t : Int) (eR eB : TypeId × Value) (hR : W0.cell? ⟨1, 0, none⟩ = some (.iface eR.1 eR.2)) (hB : W0.cell? ⟨7, 0, none⟩ = some (.iface eB.1 eB.2)) :
    Calls Tryd.prog 14 #[psR pb, .slice (some ⟨wx.heap.size, 0, none⟩) 1 1] (wx.alloc (.cells #[.int .i64 t] 3)) fun e w' => e = .returned (errT3 eR eB (askT bb [t] false 8)) ∧ RgO2 W0 g Z pa ba pb (changeT bb [t] false 8) w' ∧ ∀ k, Z k → w'.heap[k]? = wx.heap[k]? := by
  have bX := Ba (Below.refl _ wx) (.cells #[.int .i64 t] 3)
  obtain ⟨⟨Ma, Mb, h1, h2, h3, h4, h5⟩, h6, h7⟩ := h
  have h4' : ∀ k, Ma k → W0.heap.size ≤ k ∧ k < (wx.alloc (.cells #[.int .i64 t] 3)).heap.size ∧ ¬ Z k := fun k e => ⟨(h4 k e).1, Nat.lt_of_lt_of_le (h4 k e).2.1 bX.size, (h4 k e).2.2⟩
  have h5' : ∀ k, Mb k → W0.heap.size ≤ k ∧ k < (wx.alloc (.cells #[.int .i64 t] 3)).heap.size ∧ ¬ Z k := fun k e => ⟨(h5 k e).1, Nat.lt_of_lt_of_le (h5 k e).2.1 bX.size, (h5 k e).2.2⟩
  have h6' : ∀ k, Z k → k < (wx.alloc (.cells #[.int .i64 t] 3)).heap.size := fun k e => Nat.lt_of_lt_of_le (h6 k e) bX.size
  have h7' := Bt h7 bX
  refine (block_call (h2.below bX) (fun k e => (h5' k e).2.1) [t] _ (sl_lit (enc := encI) (w := wx) (cs := #[.int .i64 t]) (t := 3) (b := wx.heap.size) [t] rfl rfl (by unfold maxLen; simp)) (by simp) (fun k e f => ?_) eR eB (Bc h7' (cell_lt hR) hR) (Bc h7' (cell_lt hB) hB)).mono fun e w' ⟨he, hr, ht⟩ => ?_
  · simp only [Value.ownBlock, Option.some.injEq] at e
    have := (h5 k f).2.1
    omega
  · obtain ⟨q1, q2⟩ := RgO2.turnB (h1.below bX) h3 h4' h5' h6' h7' hr ht
    exact ⟨he, q1, fun k e => (q2 k e).trans (bX.block k (h6 k e))⟩
/-- One tile is freed in the second, by a literal of its own. -/
theorem RgO2.freeB (h : RgO2 W0 g Z pa ba pb bb wx) (t : Int) (eR eB : TypeId × Value) (hR : W0.cell? ⟨1, 0, none⟩ = some (.iface eR.1 eR.2)) (hB : W0.cell? ⟨6, 0, none⟩ = some (.iface eB.1 eB.2)) :
    Calls Tryd.prog 15 #[psR pb, .slice (some ⟨wx.heap.size, 0, none⟩) 1 1] (wx.alloc (.cells #[.int .i64 t] 3)) fun e w' => e = .returned (errT3 eR eB (askT bb [t] true 6)) ∧ RgO2 W0 g Z pa ba pb (changeT bb [t] true 6) w' ∧ ∀ k, Z k → w'.heap[k]? = wx.heap[k]? := by
  have bX := Ba (Below.refl _ wx) (.cells #[.int .i64 t] 3)
  obtain ⟨⟨Ma, Mb, h1, h2, h3, h4, h5⟩, h6, h7⟩ := h
  have h4' : ∀ k, Ma k → W0.heap.size ≤ k ∧ k < (wx.alloc (.cells #[.int .i64 t] 3)).heap.size ∧ ¬ Z k := fun k e => ⟨(h4 k e).1, Nat.lt_of_lt_of_le (h4 k e).2.1 bX.size, (h4 k e).2.2⟩
  have h5' : ∀ k, Mb k → W0.heap.size ≤ k ∧ k < (wx.alloc (.cells #[.int .i64 t] 3)).heap.size ∧ ¬ Z k := fun k e => ⟨(h5 k e).1, Nat.lt_of_lt_of_le (h5 k e).2.1 bX.size, (h5 k e).2.2⟩
  have h6' : ∀ k, Z k → k < (wx.alloc (.cells #[.int .i64 t] 3)).heap.size := fun k e => Nat.lt_of_lt_of_le (h6 k e) bX.size
  have h7' := Bt h7 bX
  refine (rgfree_call (h2.below bX) (fun k e => (h5' k e).2.1) [t] _ (sl_lit (enc := encI) (w := wx) (cs := #[.int .i64 t]) (t := 3) (b := wx.heap.size) [t] rfl rfl (by unfold maxLen; simp)) (by simp) (fun k e f => ?_) eR eB (Bc h7' (cell_lt hR) hR) (Bc h7' (cell_lt hB) hB)).mono fun e w' ⟨he, hr, ht⟩ => ?_
  · simp only [Value.ownBlock, Option.some.injEq] at e
    have := (h5 k f).2.1
    omega
  · obtain ⟨q1, q2⟩ := RgO2.turnB (h1.below bX) h3 h4' h5' h6' h7' hr ht
    exact ⟨he, q1, fun k e => (q2 k e).trans (bX.block k (h6 k e))⟩
/-- Which numbers stand on a list, as the law's map tells it. -/
def onL (L : List Int) (x : Int) : Option Bool := if x ∈ L then some true else none
theorem onL_get (L : List Int) (x : Int) : (onL L x).getD false = decide (x ∈ L) := by
  unfold onL
  by_cases h : x ∈ L <;> simp [h]
theorem onL_snoc {L : List Int} {x : Int} (h : x ∉ L) (z : Int) : (if z = x then some true else onL L z) = onL (L ++ [x]) z := by
  unfold onL
  by_cases e : z = x
  · simp [e]
  · simp [e]
/-- Tiles, each once. -/
def OnceL (n : Nat) (L : List Int) : Prop := L.Nodup ∧ ∀ t ∈ L, 0 ≤ t ∧ t < (n : Int)
theorem OnceL.snoc {n : Nat} {L : List Int} {m : Nat} (h : OnceL n L) (hm : m < n) (hn : (m : Int) ∉ L) : OnceL n (L ++ [(m : Int)]) := by
  refine ⟨List.nodup_append.2 ⟨h.1, by simp, fun a ha b hb e => ?_⟩, fun t ht => ?_⟩
  · rw [List.mem_singleton] at hb
    subst hb
    subst e
    exact hn ha
  · rcases List.mem_append.1 ht with q | q
    · exact h.2 t q
    · rw [List.mem_singleton] at q
      omega
end
theorem own_made0 (w : World) (B : Nat) (hB : B ≤ w.heap.size) : (w.alloc (.cells #[] 3)).ownsRow B 3 1 (.slice (some ⟨w.heap.size, 0, none⟩) 0 0) 0 (flat encI ([] : List Int)) := World.ownsRow_made (base := B) (e := 3) (size := 1) w #[] 0 hB (Nat.zero_le _) (by simp)
set_option maxHeartbeats 8000000 in
set_option maxRecDepth 100000 in
theorem regionBack_walk (g : Gd) (l : List Int) (v : Value) (tt : Int) (w : World) (A : Nat → Addr) (hs : Sl encI w v l) (hE : Er4 w (114, .pointer (some (A 0))) (114, .pointer (some (A 7))) (114, .pointer (some (A 5))) (114, .pointer (some (A 6)))) :
    Calls Tryd.prog 4 #[grV g, v, .int .i64 tt] w fun e w' => e = .returned (.bool true) ∧ RowKit.Below w.heap.size w w' := by
  have HE := Lib.hid hE
  have AL := Lib.hid (fun W' (hb : RowKit.Below w.heap.size w W') => alive_call W' (HE.out.below hb))
  obtain ⟨qv, capv, rfl, v1, v2, v3⟩ := hs
  unfold maxLen at v2
  have HV := Lib.hid v3
  obtain ⟨W0, hW0⟩ : ∃ W0, W0 = w.alloc (.cells #[.int .i64 g.w, .int .i64 g.h, .int .i64 g.s, .int .i64 g.x, .int .i64 g.y] 23) := ⟨_, rfl⟩
  have B0 : Hid (RowKit.Below w.heap.size w W0) := Lib.hid (by rw [hW0]; exact (by repeat (first | with_reducible exact Below.refl _ _ | with_reducible assumption | with_reducible apply Ba | with_reducible apply Bd | with_reducible apply Bn | with_reducible apply Bg | (with_reducible refine Bs ?_ (by first | (simp; done) | (simp; omega)) _) | (with_reducible refine Bt ?_ (by assumption)) | (with_reducible refine Bt ?_ (Gr.below (by assumption))))))
  have G0 : Hid (GrAt W0 w.heap.size g) := Lib.hid (by rw [hW0]; exact heap_alloc_new w _)
  have HW0 := Lib.hid hW0
  have E0 := Lib.hid (HE.out.below B0.out)
  clear hE v3 hW0
  cases hg : grOk g
  · have NC := Lib.hid (fun W' (hb : RowKit.Below w.heap.size w W') => rgnew_form g W' _ (HE.out.below hb).eF hg)
    obtain ⟨W, H, S, X, Y⟩ := g
    dsimp only at *
    clear hg
    go_enter Tryd.func4, Tryd.ntmps4
    go_wp2_with fail
    rw [← HW0.out]
    refine (AL.out _ B0.out).mono ?_
    rintro e w1 ⟨rfl, hb1⟩
    have A1 := Lib.hid hb1
    obtain ⟨x1, x2, x3, x4, x5⟩ := (G0.out.below hb1).cells
    have hl1 := cell_lt x1
    clear hb1
    go_wp2_with fail
    refine (NC.out _ (Bt B0.out A1.out)).mono ?_
    rintro e w2 ⟨rfl, hb2⟩
    have A2 := Lib.hid (Bt A1.out hb2)
    clear x1 x2 x3 x4 x5 hl1 hb2
    obtain ⟨x1, x2, x3, x4, x5⟩ := (G0.out.below A2.out).cells
    have hl1 := cell_lt x1
    go_wp2_with fail
    refine (NC.out _ (Bt B0.out A2.out)).mono ?_
    rintro e w3 ⟨rfl, hb3⟩
    have A3 := Lib.hid (Bt B0.out (Bt A2.out hb3))
    clear hb3
    by_cases h100 : l.length > 100
    · have hz : (l.length : Int) > 100 := by omega
      have hz2 : decide ((l.length : Int) > 100) = true := decide_eq_true hz
      go_wp2
      go_ret
      exact ⟨rfl, A3.out⟩
    · have hz : ¬ (l.length : Int) > 100 := by omega
      have hz2 : decide ((l.length : Int) > 100) = false := decide_eq_false hz
      go_wp2
      go_ret
      exact ⟨rfl, A3.out⟩
  · have hn := ntl_cast hg
    have NC := Lib.hid (fun W' => rgnew_call g W' hg)
    obtain ⟨W, H, S, X, Y⟩ := g
    dsimp only at *
    obtain ⟨hn1, hn2, hn3⟩ := hn
    have hN := hn1.symm
    obtain ⟨n, hnn⟩ : ∃ n, n = ntl ⟨W, H, S, X, Y⟩ := ⟨_, rfl⟩
    rw [← hnn] at hN hn2 hn3 NC
    have HNN := Lib.hid hnn
    have HGG := Lib.hid hg
    clear hn1 hg hnn
    go_enter Tryd.func4, Tryd.ntmps4
    go_wp2_with fail
    rw [← HW0.out]
    refine (AL.out _ B0.out).mono ?_
    rintro e w1 ⟨rfl, hb1⟩
    have A1 := Lib.hid hb1
    obtain ⟨x1, x2, x3, x4, x5⟩ := (G0.out.below hb1).cells
    have hl1 := cell_lt x1
    clear hb1
    go_wp2_with fail
    refine (NC.out _).mono ?_
    rintro e w2 ⟨pa, rfl, hr2, hb2⟩
    unfold psR
    have A2 := Lib.hid (Bt A1.out hb2)
    have RA := Lib.hid hr2
    clear hr2 hb2 x1 x2 x3 x4 x5 hl1
    obtain ⟨x1, x2, x3, x4, x5⟩ := (G0.out.below A2.out).cells
    have hl2 := cell_lt x1
    go_wp2_with fail
    refine (NC.out _).mono ?_
    rintro e w3 ⟨pb, rfl, hr3, hb3⟩
    unfold psR
    have A3 := Lib.hid (Bt A2.out hb3)
    have RO := Lib.hid (show RgO2 W0 ⟨W, H, S, X, Y⟩ (fun _ => False) pa (nots n) pb (nots n) w3 from ⟨⟨_, _, RA.out.below hb3, hr3, fun k e q => by
      rcases e with e | e
      · exact e
      · rcases q with q | q
        · exact q
        · omega, fun k e => e.elim (fun e => e.elim) (fun e => ⟨Nat.le_trans A1.out.size e.1, Nat.lt_of_lt_of_le e.2 hb3.size, fun q => q⟩), fun k e => e.elim (fun e => e.elim) (fun e => ⟨Nat.le_trans A2.out.size e.1, e.2, fun q => q⟩)⟩, fun _ e => e.elim, A3.out⟩)
    have B3 := Lib.hid (B0.out.trans (A3.out.mono B0.out.size))
    clear hr3 hb3 x1 x2 x3 x4 x5 hl2 RA
    obtain ⟨x1, x2, x3, x4, x5⟩ := (G0.out.below A3.out).cells
    have hl3 := cell_lt x1
    by_cases h100 : l.length > 100
    · have hz : (l.length : Int) > 100 := by omega
      have hz2 : decide ((l.length : Int) > 100) = true := decide_eq_true hz
      go_wp2
      go_ret
      exact ⟨rfl, B3.out⟩
    · have hz : ¬ (l.length : Int) > 100 := by omega
      have hz2 : decide ((l.length : Int) > 100) = false := decide_eq_false hz
      have hmm := @run_makeMap Tryd.prog
      have M3 := Lib.hid ((MapG.made (k := 3) (lit := kI) (ok := okI) (dt := bD) (zr := false) (R := bElem) w3).congr (g := onL []) (fun z => by unfold onL; simp))
      have M4 := Lib.hid (M3.out.below (Ba (Below.refl _ (w3.alloc (.map #[] 0))) (.cells #[] 3)))
      have O4 := Lib.hid (own_made0 (w3.alloc (.map #[] 0)) (w3.heap.size + 1) (by simp))
      have B4 := Lib.hid (Ba (Ba (Below.refl _ w3) (.map #[] 0)) (.cells #[] 3))
      rw [show (w3.alloc (.map #[] 0)).heap.size = w3.heap.size + 1 by simp] at O4
      go_wp2_with fail
      clear hmm M3 x1 x2 x3 x4 x5 hl3
      have WH := Lib.hid (show RowKit.Below w3.heap.size w3 w3 from Below.refl _ _)
      obtain ⟨bm, hbm⟩ : ∃ bm, bm = w3.heap.size := ⟨_, rfl⟩
      rw [← hbm] at M4 O4 B4 WH ⊢
      have HBM := Lib.hid hbm
      clear hbm
      generalize Value.slice (some ⟨bm + 1, 0, none⟩) 0 0 = v4 at *
      generalize (w3.alloc (.map #[] 0)).alloc (.cells #[] 3) = w4 at *
      go_loopw [13, 62] (fun vl i wr => ∃ (k : Nat) (L : List Int), k ≤ l.length ∧ i = .int .i64 k ∧ L.length ≤ k ∧ Hid (OnceL n L) ∧ Hid (RowKit.Below bm w3 wr) ∧ Hid (MapIB wr bm L.length (onL L)) ∧ Hid (wr.ownsRow (bm + 1) 3 1 vl L.length (flat encI L))) (fun _ i _ => l.length - (intOf i).toNat)
      case atStart => exact ⟨0, [], Nat.zero_le _, rfl, Nat.le_refl _, Lib.hid ⟨List.nodup_nil, by simp⟩, B4, M4, O4⟩
      case round =>
        clear M4 O4 B4
        obtain ⟨k, L, hk, rfl, hLk, HOL, HB, HM, HO⟩ := hrel
        by_cases hkn : k < l.length
        · have hkz : (k : Int) < (l.length : Int) := by omega
          obtain ⟨gb, ob, rfl, hg1, hg2⟩ := HV.out (by omega)
          have z1 := sl_cell1 encI1' hg2 hkn
          have HWB := Lib.hid (show RowKit.Below w.heap.size w wr from B3.out.trans (HB.out.mono (by rw [HBM.out]; exact B3.out.size)))
          replace z1 := Bc HWB.out hg1 z1
          have hgw := cell_lt z1
          generalize l[k]! = x at *
          obtain ⟨m, hm9, he⟩ := idx_any x n (by omega) (by omega)
          have hz2 : ¬ (n : Int) = 0 := by omega
          have hul : IntKind.u64.wrap (n : Int) = n := by rw [IntKind.wrap_u64]; omega
          have hlook := HM.out.look mptIB (m : Int) (okI_of (by omega) (by omega))
          rw [onL_get] at hlook
          unfold iV bV at hlook
          clear hg2
          by_cases hin : (m : Int) ∈ L
          · rw [decide_eq_true hin] at hlook
            clear hin
            go_wp2
            go_roundw
            case measure => simp only [intOf]; omega
            case rel => exact ⟨k + 1, L, by omega, by go_num, by omega, HOL, HB, HM, HO⟩
          · rw [decide_eq_false hin] at hlook
            have HN := Lib.hid hin
            clear hin
            go_upto_region 13 with fail
            rw [he]
            have hmsz := HM.out.lt
            have hll : L.length ≤ 100 := by omega
            go_wp2_with (first
              | (at_mapUpdate; refine wpl_putG mptIB rfl _ _ _ rfl (by rfl) HM.out (by omega) (m : Int) (by rfl) (okI_of (by omega) (by omega)) true (by rfl) ?_; intro w6 hm6 hg6; have M6 := ((hm6.cnt (c' := (L ++ [(m : Int)]).length) (by rw [List.length_append]; unfold onL; rw [if_neg HN.out]; rfl)).congr (g := onL (L ++ [(m : Int)])) (onL_snoc HN.out)); have B6 := HB.out.grown hg6 (Nat.le_of_lt hmsz) (fun j e => by cases e; exact Nat.le_refl _); have O6 := row_keep HO.out (fun g hg => hg6.block g (row_lt HO.out hg) (fun e => by cases e; have := row_base0 HO.out hg; omega)); have bX := Ba (Below.refl _ w6) (.cells #[.int .i64 (m : Int)] 3); have O7 := Lib.hid (row_below O6 bX); have L7 := Lib.hid (sl_lit (enc := encI) (w := w6) (cs := #[.int .i64 (m : Int)]) (t := 3) (b := w6.heap.size) [(m : Int)] rfl rfl (by unfold maxLen; simp)); have M7 := Lib.hid (M6.below bX); have B7 := Lib.hid (B6.trans (bX.mono (Nat.le_of_lt M6.lt))); have hz7 : bm + 1 ≤ (w6.alloc (.cells #[.int .i64 (m : Int)] 3)).heap.size := M7.out.lt; have HLM := Lib.hid M7.out.lt; clear hm6 hg6 M6 B6 O6 bX)
              | (at_builtin; refine wpl_app2 apI rfl _ _ rfl (bm + 1) (by rfl) (by rfl) O7.out rfl L7.out (by simp; omega) hz7 ?_; intro v8 w8 hown8 hgrow8 hat8 hnil8; have O8 := Lib.hid hown8; have M8 := Lib.hid (M7.out.blk (hgrow8.block bm HLM.out (fun e => by have := row_base0 O7.out e.symm; omega))); have B8 := Lib.hid (B7.out.grown hgrow8 (Nat.le_of_lt HLM.out) (fun j e => by have := row_base0 O7.out e; omega)); clear hown8 hgrow8 hat8 hnil8))
            have HL8 := Lib.hid (HOL.out.snoc hm9 HN.out)
            have hl8 : (L ++ [(m : Int)]).length ≤ k + 1 := by rw [List.length_append]; simp; omega
            go_roundw
            case measure => simp only [intOf]; omega
            case rel => exact ⟨k + 1, L ++ [(m : Int)], by omega, by go_num, hl8, HL8, B8, M8, O8⟩
        · obtain rfl : k = l.length := by omega
          have hkz : ¬ (l.length : Int) < (l.length : Int) := by omega
          generalize wr = w5 at *
          have R5 := Lib.hid (RO.out.fence (w' := w5) (by have := HB.out; rw [HBM.out] at this; exact this))
          rw [← HBM.out] at R5
          have HZ := Lib.hid (show ∀ q, bm ≤ q → q < w5.heap.size → (bm ≤ q ∧ q < w5.heap.size) from fun q a b => ⟨a, b⟩)
          have HM5 := Lib.hid HM.out.lt
          have BA := Lib.hid (R5.out.blockA L u13 (row_sl lenI HO.out rfl) (by omega) (fun q e => ⟨by have := row_base0 HO.out e; omega, row_lt HO.out e⟩) _ _ E0.out.eR E0.out.eB)
          rw [ask_list HOL.out.2 HOL.out.1, change_list HOL.out.2 HOL.out.1] at BA
          rw [show errT3 (114, Value.pointer (some (A 0))) (114, Value.pointer (some (A 7))) 0 = .nilIface from rfl] at BA
          unfold psR at BA
          obtain ⟨q5, cp5, rfl, -, -, -⟩ := row_val HO.out
          generalize L.length = ll at *
          clear HO
          go_wp2_with fail
          refine BA.out.mono ?_
          rintro e w6 ⟨rfl, hr6, hk6⟩
          have R6 := Lib.hid hr6
          have M6 := Lib.hid (HM.out.blk (hk6 bm (HZ.out bm (Nat.le_refl _) HM5.out)))
          have HR6 : Hid (RgO2 W0 ⟨W, H, S, X, Y⟩ (fun q => bm ≤ q ∧ q < w5.heap.size) pa (rowBy n fun x => decide ((x : Int) ∈ L)) pb (rowBy n fun x => decide (x < 0)) w6) := Lib.hid (by
            have := R6.out
            rw [rowBy_nots n] at this
            rw [rowBy_congr (p := fun _ => false) (q := fun x => decide (x < 0)) (fun x _ => by simp)] at this
            exact this)
          clear hr6 hk6 BA R6 HM
          go_wp2_with fail
          go_loopw [88] (fun i wr => ∃ k : Nat, k ≤ n ∧ i = .int .i64 k ∧ Hid (RgO2 W0 ⟨W, H, S, X, Y⟩ (fun q => bm ≤ q ∧ q < w5.heap.size) pa (rowBy n fun x => decide ((x : Int) ∈ L)) pb (rowBy n fun x => decide (x < k)) wr) ∧ Hid (MapIB wr bm ll (onL L))) (fun i _ => n - (intOf i).toNat)
          case atStart => exact ⟨0, Nat.zero_le _, rfl, HR6, M6⟩
          case round =>
            obtain ⟨k2, hk2, rfl, HR2, HM2⟩ := hrel
            by_cases hk2n : k2 < n
            · have hk2z : (k2 : Int) < (n : Int) := by omega
              have hbk : (rowBy n fun x => decide (x < k2))[k2]! = false := by rw [rowBy_get _ hk2n]; simp
              have BB := Lib.hid (HR2.out.blockB (k2 : Int) _ _ E0.out.eR E0.out.eB)
              rw [askB_one 8 (by rw [rowBy_len]; exact hk2n) hbk, changeB_one 8 (by rw [rowBy_len]; exact hk2n) hbk] at BB
              rw [rowBy_set (p := fun x => decide (x < k2)) (q := fun x => decide (x < k2 + 1)) (!false) hk2n (fun x _ => by by_cases e : x = k2 <;> simp [e]; omega)] at BB
              rw [show errT3 (114, Value.pointer (some (A 0))) (114, Value.pointer (some (A 7))) 0 = .nilIface from rfl] at BB
              unfold psR at BB
              clear hbk
              go_wp2_with fail
              refine BB.out.mono ?_
              rintro e w7 ⟨rfl, hr7, hk7⟩
              have R7 := Lib.hid hr7
              have M7 := Lib.hid (HM2.out.blk (hk7 bm (HZ.out bm (Nat.le_refl _) HM5.out)))
              clear hr7 hk7 BB
              go_wp2
              go_roundw
              case measure => simp only [intOf]; omega
              case rel => exact ⟨k2 + 1, by omega, by go_num, R7, M7⟩
            · obtain rfl : k2 = n := by omega
              have hk2z : ¬ (k2 : Int) < (k2 : Int) := by omega
              generalize wr = w7 at *
              have CN := Lib.hid (by obtain ⟨Ma, Mb, h1, h2, h3, h4, h5⟩ := HR2.out.ex; exact rgcount_call h2)
              rw [rowBy_congr (p := fun x => decide (x < k2)) (q := fun _ => true) (fun x hx => decide_eq_true hx)] at CN HR2
              rw [← HNN.out] at CN
              have hrn : rootN (labG ⟨W, H, S, X, Y⟩ (rowBy k2 fun _ => true)) k2 = 0 := by have := root_none HGG.out; rw [← HNN.out] at this; exact this
              rw [hrn] at CN
              unfold psR at CN
              clear hrn
              go_wp2_with fail
              refine CN.out.mono ?_
              rintro e w8 ⟨rfl, hb8⟩
              have R8 := Lib.hid (HR2.out.below hb8)
              have M8 := Lib.hid (HM2.out.below hb8)
              obtain ⟨f, hf9, hfe⟩ := idx_any tt k2 (by omega) (by omega)
              have HR8 : Hid (RgO2 W0 ⟨W, H, S, X, Y⟩ (fun q => bm ≤ q ∧ q < w5.heap.size) pa (rowBy k2 fun x => decide ((x : Int) ∈ L)) pb (rowBy k2 fun x => decide ((x : Int) ∈ L) || !vis k2 f 0 x) w8) := Lib.hid (by
                have := R8.out
                rw [rowBy_congr (p := fun _ => true) (q := fun x => decide ((x : Int) ∈ L) || !vis k2 f 0 x) (fun x _ => by simp [vis_zero])] at this
                exact this)
              clear hb8 CN R8 HR2 HM2
              go_wp2_with fail
              go_loopw [101] (fun i wr => ∃ k : Nat, k ≤ k2 ∧ i = .int .i64 k ∧ Hid (RgO2 W0 ⟨W, H, S, X, Y⟩ (fun q => bm ≤ q ∧ q < w5.heap.size) pa (rowBy k2 fun x => decide ((x : Int) ∈ L)) pb (rowBy k2 fun x => decide ((x : Int) ∈ L) || !vis k2 f k x) wr) ∧ Hid (MapIB wr bm ll (onL L))) (fun i _ => k2 - (intOf i).toNat)
              case atStart => exact ⟨0, Nat.zero_le _, rfl, HR8, M8⟩
              case round =>
                obtain ⟨k3, hk3, rfl, HR3, HM3⟩ := hrel
                by_cases hk3n : k3 < k2
                · have hk3z : (k3 : Int) < (k2 : Int) := by omega
                  have hz2 : ¬ (k2 : Int) = 0 := by omega
                  have hul : IntKind.u64.wrap (k2 : Int) = k2 := by rw [IntKind.wrap_u64]; omega
                  obtain ⟨t3, ht3⟩ : ∃ t3, t3 = (k3 + f) % k2 := ⟨_, rfl⟩
                  have hte : ((k3 : Int) + (f : Int)).tmod (k2 : Int) = (t3 : Int) := by rw [ht3, Int.tmod_eq_emod_of_nonneg (by omega), ← Int.natCast_add, ← Int.natCast_emod]
                  have ht3n : t3 < k2 := by rw [ht3]; exact Nat.mod_lt _ (by omega)
                  have HVN := Lib.hid (show vis k2 f k3 t3 = false by rw [ht3]; exact vis_new hk3n)
                  have HVS := Lib.hid (show ∀ x, vis k2 f (k3 + 1) x = (vis k2 f k3 x || decide (t3 = x)) from fun x => by rw [vis_succ, ht3])
                  have hlook := HM3.out.look mptIB (t3 : Int) (okI_of (by omega) (by omega))
                  rw [onL_get] at hlook
                  unfold iV bV at hlook
                  have hw3 : wrap64 ((k3 : Int) + (f : Int)) = (k3 : Int) + (f : Int) := by unfold wrap64; omega
                  clear ht3
                  have HTE := Lib.hid hte
                  have HW3 := Lib.hid hw3
                  have HFE := Lib.hid hfe
                  have HLK := Lib.hid hlook
                  clear hte hw3 hfe hlook
                  go_upto_region 31 with fail
                  rw [HFE.out, HW3.out, HTE.out]
                  have hlook := HLK.out
                  by_cases hin : (t3 : Int) ∈ L
                  · rw [decide_eq_true hin] at hlook
                    have HR4 : Hid (RgO2 W0 ⟨W, H, S, X, Y⟩ (fun q => bm ≤ q ∧ q < w5.heap.size) pa (rowBy k2 fun x => decide ((x : Int) ∈ L)) pb (rowBy k2 fun x => decide ((x : Int) ∈ L) || !vis k2 f (k3 + 1) x) wr) := Lib.hid (by
                      have := HR3.out
                      rw [rowBy_congr (p := fun x => decide ((x : Int) ∈ L) || !vis k2 f k3 x) (q := fun x => decide ((x : Int) ∈ L) || !vis k2 f (k3 + 1) x) (fun x _ => by
                        rw [HVS.out x]
                        by_cases e : t3 = x
                        · subst e; simp [hin]
                        · simp [e])] at this
                      exact this)
                    clear hin
                    go_wp2
                    go_roundw
                    case measure => simp only [intOf]; omega
                    case rel => exact ⟨k3 + 1, by omega, by go_num, HR4, HM3⟩
                  · rw [decide_eq_false hin] at hlook
                    have hbt : (rowBy k2 fun x => decide ((x : Int) ∈ L) || !vis k2 f k3 x)[t3]! = true := by rw [rowBy_get _ ht3n, HVN.out]; simp
                    have FB := Lib.hid (HR3.out.freeB (t3 : Int) _ _ E0.out.eR E0.out.eS)
                    rw [askB_one 6 (by rw [rowBy_len]; exact ht3n) hbt, changeB_one 6 (by rw [rowBy_len]; exact ht3n) hbt] at FB
                    rw [rowBy_set (p := fun x => decide ((x : Int) ∈ L) || !vis k2 f k3 x) (q := fun x => decide ((x : Int) ∈ L) || !vis k2 f (k3 + 1) x) (!true) ht3n (fun x _ => by
                      rw [HVS.out x]
                      by_cases e : x = t3
                      · subst e; simp [hin]
                      · rw [if_neg e, decide_eq_false (p := t3 = x) (fun q => e q.symm), Bool.or_false])] at FB
                    rw [show errT3 (114, Value.pointer (some (A 0))) (114, Value.pointer (some (A 5))) 0 = .nilIface from rfl] at FB
                    unfold psR at FB
                    clear hbt hin
                    go_wp2_with fail
                    refine FB.out.mono ?_
                    rintro e w9 ⟨rfl, hr9, hk9⟩
                    have R9 := Lib.hid hr9
                    have M9 := Lib.hid (HM3.out.blk (hk9 bm (HZ.out bm (Nat.le_refl _) HM5.out)))
                    clear hr9 hk9 FB
                    go_wp2
                    go_roundw
                    case measure => simp only [intOf]; omega
                    case rel => exact ⟨k3 + 1, by omega, by go_num, R9, M9⟩
                · obtain rfl : k3 = k2 := by omega
                  have hk3z : ¬ (k3 : Int) < (k3 : Int) := by omega
                  generalize wr = w9 at *
                  have HR4 : Hid (RgO2 W0 ⟨W, H, S, X, Y⟩ (fun q => bm ≤ q ∧ q < w5.heap.size) pa (rowBy k3 fun x => decide ((x : Int) ∈ L)) pb (rowBy k3 fun x => decide ((x : Int) ∈ L)) w9) := Lib.hid (by
                    have := HR3.out
                    rw [rowBy_congr (p := fun x => decide ((x : Int) ∈ L) || !vis k3 f k3 x) (q := fun x => decide ((x : Int) ∈ L)) (fun x hx => by
                      rw [vis_all (by omega) hf9 hx]
                      simp)] at this
                    exact this)
                  generalize (rowBy k3 fun x => decide ((x : Int) ∈ L)) = bb at *
                  have LB := Lib.hid (fun W' (h : RgO2 W0 ⟨W, H, S, X, Y⟩ (fun q => bm ≤ q ∧ q < w5.heap.size) pa bb pb bb W') => (show (∃ Ma Mb : Nat → Prop, RgAt W' Ma pa _ bb ∧ RgAt W' Mb pb _ bb) from by obtain ⟨Ma, Mb, h1, h2, -⟩ := h.ex; exact ⟨Ma, Mb, h1, h2⟩))
                  have L1 := Lib.hid (by obtain ⟨Ma, Mb, h1, h2⟩ := LB.out w9 HR4.out; exact labels_call h1)
                  unfold psR at L1
                  clear HR3 hfe
                  go_wp2_with fail
                  refine L1.out.mono ?_
                  rintro e w10 ⟨va, rfl, ho10, hb10⟩
                  have R10 := Lib.hid (HR4.out.below hb10)
                  have O10 := Lib.hid ho10
                  obtain ⟨pa10, ca10, rfl, -, -, -⟩ := row_val ho10
                  have L2 := Lib.hid (by obtain ⟨Ma, Mb, h1, h2⟩ := LB.out w10 R10.out; exact labels_call h2)
                  unfold psR at L2
                  clear ho10 hb10 L1
                  go_wp2_with fail
                  refine L2.out.mono ?_
                  rintro e w11 ⟨vb, rfl, ho11, hb11⟩
                  have R11 := Lib.hid (R10.out.below hb11)
                  have SA := Lib.hid (row_sl lenI (row_below O10.out hb11) rfl)
                  have SB := Lib.hid (row_sl lenI ho11 rfl)
                  have SC := Lib.hid (sameInts_call _ _ _ _ _ SA.out SB.out)
                  rw [show decide (labG ⟨W, H, S, X, Y⟩ bb = labG ⟨W, H, S, X, Y⟩ bb) = true from decide_eq_true rfl] at SC
                  obtain ⟨pb11, cb11, rfl, -, -, -⟩ := row_val ho11
                  clear ho11 hb11 L2
                  go_wp2_with fail
                  refine SC.out.mono ?_
                  rintro e w12 ⟨rfl, hg12⟩
                  have R12 := Lib.hid (R11.out.below hg12.below)
                  have C1 := Lib.hid (by obtain ⟨Ma, Mb, h1, h2⟩ := LB.out w12 R12.out; exact rgcount_call h1)
                  unfold psR at C1
                  clear hg12 SC SA SB
                  go_wp2_with fail
                  refine C1.out.mono ?_
                  rintro e w13 ⟨rfl, hb13⟩
                  have R13 := Lib.hid (R12.out.below hb13)
                  have C2 := Lib.hid (by obtain ⟨Ma, Mb, h1, h2⟩ := LB.out w13 R13.out; exact rgcount_call h2)
                  unfold psR at C2
                  generalize rootN (labG ⟨W, H, S, X, Y⟩ bb) (ntl ⟨W, H, S, X, Y⟩) = cc at *
                  clear hb13 C1
                  go_wp2_with fail
                  refine C2.out.mono ?_
                  rintro e w14 ⟨rfl, hb14⟩
                  have R14 := Lib.hid (R13.out.below hb14)
                  clear hb14
                  go_wp2
                  go_ret
                  exact ⟨rfl, B0.out.trans (R14.out.lo.mono B0.out.size)⟩
end Go.Proofs.YtklpemcchfmdjaaDoor
