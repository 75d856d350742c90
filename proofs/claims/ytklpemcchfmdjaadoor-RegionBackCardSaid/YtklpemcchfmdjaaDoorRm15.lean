/-
  Regions in memory: how wide, the labels; lacks, free, blocked.
-/
import Derived.Test.YtklpemcchfmdjaaDoorRl15
import Derived.Test.YtklpemcchfmdjaaDoorPc15
import Derived.Test.YtklpemcchfmdjaaDoorTh15
namespace Go.Proofs.YtklpemcchfmdjaaDoor
set_option linter.unusedSimpArgs false
set_option linter.unusedVariables false
open Go.RowKit Go.Sort Go.Lib Go.Shelf

theorem gw_pos {g : Gd} (h : grOk g = true) : 0 < g.w.toNat := by have := grOk_iff.1 h; omega
/-- A grid's ground by its row of blocked tiles, its labels. -/
def grG (g : Gd) (b : List Bool) : Ground := if h : grOk g = true then rowG g.w.toNat g.h.toNat (gw_pos h) b else rowG 1 0 (by decide) b
theorem grG_n {g : Gd} (h : grOk g = true) (b : List Bool) : (grG g b).n = ntl g := by
  have k := grOk_iff.1 h
  unfold grG
  rw [dif_pos h]
  show g.h.toNat * g.w.toNat = ntl g
  obtain ⟨W, hW⟩ : ∃ W : Nat, g.w = W := ⟨g.w.toNat, by omega⟩
  obtain ⟨H, hH⟩ : ∃ H : Nat, g.h = H := ⟨g.h.toNat, by omega⟩
  unfold ntl
  rw [hW, hH, ← Int.natCast_mul, Int.toNat_natCast, Int.toNat_natCast, Int.toNat_natCast, Nat.mul_comm]
theorem grG_bl {g : Gd} (h : grOk g = true) (b : List Bool) (t : Nat) : (grG g b).bl t = b[t]! := by unfold grG; rw [dif_pos h]; rfl
theorem grG_nx {g : Gd} (h : grOk g = true) (b : List Bool) (t : Nat) : (grG g b).nx t = nextT g.w.toNat (ntl g) t := by
  have := grG_n h b
  unfold grG at *
  rw [dif_pos h] at *
  rw [← this]
  rfl
noncomputable abbrev labG (g : Gd) (b : List Bool) : List Int := (grG g b).labs
theorem labG_len {g : Gd} (h : grOk g = true) (b : List Bool) : (labG g b).length = ntl g := by rw [labs_len, grG_n h]
/-- In range. -/
def inT (n : Nat) (t : Int) : Bool := decide (0 ≤ t) && decide (t < (n : Int))
def sizeI (L : List Int) (t : Int) : Int := if inT L.length t && decide (0 ≤ L[t.toNat]!) then (cntL L L[t.toNat]! : Int) else 0
def togI (L : List Int) (a b : Int) : Bool := (inT L.length a && inT L.length b) && (decide (0 ≤ L[a.toNat]!) && decide (L[a.toNat]! = L[b.toNat]!))
def errT3 (eR eX : TypeId × Value) (a : Int) : Value := if a = 0 then .nilIface else if a = 1 then .iface eR.1 eR.2 else .iface eX.1 eX.2

def psR (pa : Nat) : Value := .pointer (some ⟨pa, 0, none⟩)
theorem tReg : (57 : Nat) ≠ 3 := by decide
/-- At block pa are regions: W wide, the labels L in the slice v; the blocks are among M. -/
def RgV (w : World) (M : Nat → Prop) (pa : Nat) (v : Value) (W : Int) (L : List Int) : Prop :=
  w.heap[pa]? = some (.cells #[.int .i64 W, v] 57 (0, 0)) ∧ M pa ∧ RowAt encI 3 1 w M v L
section
variable {pa : Nat} {W : Int} {L : List Int} {M R : Nat → Prop} {w w' : World} {v : Value}
theorem RgV.mono {M' : Nat → Prop} (h : RgV w M pa v W L) (hM : ∀ b, M b → M' b) : RgV w M' pa v W L := ⟨h.1, hM _ h.2.1, h.2.2.mono hM⟩
theorem RgV.lt (h : RgV w M pa v W L) : pa < w.heap.size := (Array.getElem?_eq_some_iff.1 h.1).1
theorem RgV.kept (h : RgV w R pa v W L) (k : Tch M w w') (hd : ∀ b, R b → ¬ M b) : RgV w' R pa v W L :=
  ⟨(k.block pa h.lt (hd pa h.2.1)).trans h.1, h.2.1, h.2.2.kept k hd⟩
theorem RgV.below (h : RgV w R pa v W L) (k : RowKit.Below w.heap.size w w') : RgV w' R pa v W L := ⟨(k.block pa h.lt).trans h.1, h.2.1, h.2.2.below k⟩
/-- What a walk needs of it. -/
theorem RgV.open (h : RgV w M pa v W L) (h0 : 1 ≤ L.length) (hn : L.length ≤ 1024) : ∃ blk cap, v = .slice (some ⟨blk, 0, none⟩) L.length cap ∧ L.length ≤ cap ∧ cap ≤ 9223372036854775807 ∧ blk < w.heap.size ∧ blk ≠ pa ∧ M blk := by
  obtain ⟨p, cap, rfl, h1, h2, h3⟩ := row_val h.2.2.1
  unfold maxLen at h2
  obtain ⟨blk, rfl, hg, ho⟩ := h3 (by omega)
  obtain ⟨cc, hc⟩ := row_type h.2.2.1 ho
  exact ⟨blk, cap, rfl, h1, by omega, hg, type_apart hc h.1 tReg.symm, h.2.2.2 _ ho⟩
theorem cells2 {w : World} {b t : Nat} {x y : Value} (h : w.heap[b]? = some (.cells #[x, y] t (0, 0))) : w.cell? ⟨b, 0, none⟩ = some x ∧ w.cell? ⟨b, 1, none⟩ = some y := by
  constructor <;> simp [World.cell?, h]
theorem RgV.cells (h : RgV w M pa v W L) : w.cell? ⟨pa, 0, none⟩ = some (.int .i64 W) ∧ w.cell? ⟨pa, 1, none⟩ = some v := cells2 h.1
/-- A label is stored. -/
theorem RgV.cell {blk ln cs : Nat} (h : RgV w M pa (.slice (some ⟨blk, 0, none⟩) ln cs) W L) (j : Nat) (x : Int) :
    RgV (w.setCell ⟨blk, j, none⟩ (.int .i64 x)) M pa (.slice (some ⟨blk, 0, none⟩) ln cs) W (L.set j x) ∧ Tch M w (w.setCell ⟨blk, j, none⟩ (.int .i64 x)) := by
  obtain ⟨h1, h2, h3⟩ := h
  obtain ⟨c3, hc3⟩ := row_type h3.1 (g := blk) rfl
  have n1 : pa ≠ blk := type_apart h1 hc3 tReg
  have hln : ln = L.length := by
    obtain ⟨p, cap, e, _⟩ := row_val h3.1
    simp only [Value.slice.injEq] at e
    exact e.2.1
  subst hln
  have hst := (h3.1.stored j (.int .i64 x)).1
  refine ⟨⟨(heap_setCell_other w ⟨blk, j, none⟩ pa _ n1).trans h1, h2, ⟨?_, h3.2⟩⟩, Tch.set w (h3.2 blk rfl) _⟩
  rw [flat1_set (c := Value.int .i64) encI1'] at hst
  rw [List.length_set]
  exact hst
theorem RgV.get {blk ln cs : Nat} (h : RgV w M pa (.slice (some ⟨blk, 0, none⟩) ln cs) W L) {j : Nat} (hj : j < L.length) : w.cell? ⟨blk, j, none⟩ = some (.int .i64 L[j]!) ∧ w.frozen? ⟨blk, j, none⟩ = false := by
  have hln : ln = L.length := by
    obtain ⟨p, cap, e, _⟩ := row_val h.2.2.1
    simp only [Value.slice.injEq] at e
    exact e.2.1
  subst hln
  exact ⟨row_cell1 encI1' h.2.2.1 j hj, h.2.2.1.frozenAt _⟩
theorem inT_iff {n : Nat} {t : Int} : inT n t = true ↔ 0 ≤ t ∧ t < n := by simp [inT]
theorem lacks_eq (n : Nat) (t : Int) : (decide (t < 0) || decide (t ≥ (n : Int))) = !inT n t := by
  unfold inT
  rw [Bool.eq_iff_iff]
  simp <;> omega
set_option maxHeartbeats 1000000 in
theorem lacks_call (h : RgV w M pa v W L) (h0 : 1 ≤ L.length) (hn : L.length ≤ 1024) (t : Int) : Calls Tryd.prog 31 #[psR pa, .int .i64 t] w fun e w' => e = .returned (.bool (!inT L.length t)) ∧ w = w' := by
  obtain ⟨blk, cap, rfl, k1, k2, k3, k4, k5⟩ := h.open h0 hn
  have hl := h.lt
  obtain ⟨c0, c1⟩ := h.cells
  have LE := Lib.hid (lacks_eq L.length t)
  clear h
  generalize L.length = n at *
  unfold psR
  by_cases ht : t < 0
  · have LE1 : Hid (true = !inT n t) := Lib.hid (by rw [← LE.out, decide_eq_true ht]; rfl)
    go_enter Tryd.func31, Tryd.ntmps31
    go_wp2
    go_ret
    exact ⟨ret_bool LE1.out, rfl⟩
  · have LE1 : Hid (decide (t ≥ (n : Int)) = !inT n t) := Lib.hid (by rw [← LE.out, decide_eq_false ht]; rfl)
    have hd : decide (t < 0) = false := decide_eq_false ht
    go_enter Tryd.func31, Tryd.ntmps31
    go_wp2
    go_ret
    exact ⟨ret_bool LE1.out, rfl⟩
/-- A tile that is free; one that is blocked. -/
def freeL' (L : List Int) (t : Int) : Bool := inT L.length t && !decide (L[t.toNat]! = -1)
def blkL' (L : List Int) (t : Int) : Bool := inT L.length t && decide (L[t.toNat]! = -1)
set_option maxHeartbeats 1000000 in
theorem free_call (h : RgV w M pa v W L) (h0 : 1 ≤ L.length) (hn : L.length ≤ 1024) (t : Int) : Calls Tryd.prog 35 #[psR pa, .int .i64 t] w fun e w' => e = .returned (.bool (freeL' L t)) ∧ w = w' := by
  have HC := Lib.hid (lacks_call h h0 hn t)
  unfold freeL'
  cases hh : inT L.length t
  · rw [hh] at HC
    clear h
    unfold psR at *
    go_enter Tryd.func35, Tryd.ntmps35
    go_wp2_with fail
    refine HC.out.mono ?_
    rintro e w1 ⟨rfl, rfl⟩
    go_wp2
    go_ret
    exact ⟨ret_bool (by simp), rfl⟩
  · rw [hh] at HC
    obtain ⟨t0, t1⟩ := inT_iff.1 hh
    obtain ⟨k, rfl⟩ : ∃ k : Nat, t = k := ⟨t.toNat, by omega⟩
    rw [Int.toNat_natCast]
    have hk : k < L.length := by omega
    obtain ⟨blk, cap, rfl, k1, k2, k3, k4, k5⟩ := h.open h0 hn
    have hl := h.lt
    obtain ⟨c0, c1⟩ := h.cells
    obtain ⟨d1, -⟩ := h.get hk
    clear h hh
    generalize L[k]! = x at *
    generalize L.length = n at *
    unfold psR at *
    go_enter Tryd.func35, Tryd.ntmps35
    go_wp2_with fail
    refine HC.out.mono ?_
    rintro e w1 ⟨rfl, rfl⟩
    go_wp2
    go_ret
    exact ⟨ret_bool (by by_cases e : x = -1 <;> simp [e]), rfl⟩
set_option maxHeartbeats 1000000 in
theorem blocked_call (h : RgV w M pa v W L) (h0 : 1 ≤ L.length) (hn : L.length ≤ 1024) (t : Int) : Calls Tryd.prog 32 #[psR pa, .int .i64 t] w fun e w' => e = .returned (.bool (blkL' L t)) ∧ w = w' := by
  have HC := Lib.hid (lacks_call h h0 hn t)
  unfold blkL'
  cases hh : inT L.length t
  · rw [hh] at HC
    clear h
    unfold psR at *
    go_enter Tryd.func32, Tryd.ntmps32
    go_wp2_with fail
    refine HC.out.mono ?_
    rintro e w1 ⟨rfl, rfl⟩
    go_wp2
    go_ret
    exact ⟨ret_bool (by simp), rfl⟩
  · rw [hh] at HC
    obtain ⟨t0, t1⟩ := inT_iff.1 hh
    obtain ⟨k, rfl⟩ : ∃ k : Nat, t = k := ⟨t.toNat, by omega⟩
    rw [Int.toNat_natCast]
    have hk : k < L.length := by omega
    obtain ⟨blk, cap, rfl, k1, k2, k3, k4, k5⟩ := h.open h0 hn
    have hl := h.lt
    obtain ⟨c0, c1⟩ := h.cells
    obtain ⟨d1, -⟩ := h.get hk
    clear h hh
    generalize L[k]! = x at *
    generalize L.length = n at *
    unfold psR at *
    go_enter Tryd.func32, Tryd.ntmps32
    go_wp2_with fail
    refine HC.out.mono ?_
    rintro e w1 ⟨rfl, rfl⟩
    go_wp2
    go_ret
    exact ⟨ret_bool (by by_cases e : x = -1 <;> simp [e]), rfl⟩
end
end Go.Proofs.YtklpemcchfmdjaaDoor
