/-
  'do' of HandlesPlays: a handle is freed.
-/
import Derived.Test.YthodmicoejnfaaaDoorDo
namespace Go.Proofs.YthodmicoejnfaaaDoor
set_option linter.unusedSimpArgs false
set_option linter.unusedVariables false
open Go.RowKit Go.Sort Go.Lib Go.Shelf

section
variable {pa pb : Nat} {S : List Slt} {Fr : List Int} {w w0 wI : World}

/-- What the region of 'do' that frees keeps: the call's own block, and what was there ahead of all. -/
def FreeR (w0 wI : World) (bo : Nat) (kd n hi hgn : Int) (W : World) : Prop :=
  W.heap[bo]? = some (.cells #[.int .i64 kd, .int .i64 n, .int .i64 hi, .int .i64 hgn] 42 (0, 0)) ∧ Both w0 wI W
abbrev FreeS (w0 wI : World) (bo : Nat) (kd n hi hgn : Int) (W : World) : Prop :=
  W.cell? ⟨bo, 2, none⟩ = some (.int .i64 hi) ∧ W.cell? ⟨bo, 3, none⟩ = some (.int .i64 hgn) ∧ FreeR w0 wI bo kd n hi hgn W
theorem FreeS.mk {bo : Nat} {kd n hi hgn : Int} {W : World} (h : W.heap[bo]? = some (.cells #[.int .i64 kd, .int .i64 n, .int .i64 hi, .int .i64 hgn] 42 (0, 0))) (hb : Both w0 wI W) : FreeS w0 wI bo kd n hi hgn W :=
  ⟨by simp [World.cell?, h], by simp [World.cell?, h], h, hb⟩
theorem FreeS.kq {T bo : Nat} {kd n hi hgn : Int} {W W' : World} {X : Nat → Prop} (h : FreeS w0 wI bo kd n hi hgn W) (k : Kq T w0.heap.size X W W') (hT : ¬ PT T 42) : FreeS w0 wI bo kd n hi hgn W' :=
  FreeS.mk (k.cells h.2.2.1 hT) (h.2.2.2.kq k hT)
theorem FreeS.below {bo : Nat} {kd n hi hgn : Int} {W W' : World} (h : FreeS w0 wI bo kd n hi hgn W) (k : RowKit.Below W.heap.size W W') : FreeS w0 wI bo kd n hi hgn W' :=
  FreeS.mk (blk_below h.2.2.1 k) (h.2.2.2.below k)

theorem FreeS.lo {bo : Nat} {kd n hi hgn : Int} {W : World} (h : FreeS w0 wI bo kd n hi hgn W) : Both w0 wI W := h.2.2.2

set_option maxHeartbeats 4000000 in
set_option maxRecDepth 100000 in
theorem do_free_no (hq : Two 67 37 w0.heap.size w pa S Fr pb S Fr) (r : Right S Fr) (hb : RowKit.Below w0.heap.size w0 w) (A : Nat → Addr) (hE : Errs w0 A) (n hi hgn : Int) (hl : livesP S (hi, hgn) = false) :
    Calls Tryd.prog 17 #[.pointer (some ⟨pa, 0, none⟩), .pointer (some ⟨pb, 0, none⟩), .agg #[.int .i64 2, .int .i64 n, .int .i64 hi, .int .i64 hgn]] w (DoEnd w0 w pa pb) := by
  have D1 := Lib.hid (Ba (Below.refl _ w) (.cells #[.int .i64 2, .int .i64 n, .int .i64 hi, .int .i64 hgn] 42))
  have Q1 := Lib.hid (hq.below D1.out)
  have R0 := Lib.hid r
  have B1 := Lib.hid ((Both.start hb).below D1.out)
  have HE := Lib.hid (hE.below B1.out.1)
  have HN := Lib.hid (fun W (h : RowKit.Below (w.alloc (.cells #[.int .i64 2, .int .i64 n, .int .i64 hi, .int .i64 hgn] 42)).heap.size (w.alloc (.cells #[.int .i64 2, .int .i64 n, .int .i64 hi, .int .i64 hgn] 42)) W) => num_none (HE.out.below h))
  have HF := Lib.hid (fun W (h : RowKit.Below (w.alloc (.cells #[.int .i64 2, .int .i64 n, .int .i64 hi, .int .i64 hgn] 42)).heap.size (w.alloc (.cells #[.int .i64 2, .int .i64 n, .int .i64 hi, .int .i64 hgn] 42)) W) => free_no (Q1.out.below h).first.choose_spec hi hgn hl _ _ (errNone_at (HE.out.below h)))
  have HR := Lib.hid (fun W (h : RowKit.Below (w.alloc (.cells #[.int .i64 2, .int .i64 n, .int .i64 hi, .int .i64 hgn] 42)).heap.size (w.alloc (.cells #[.int .i64 2, .int .i64 n, .int .i64 hi, .int .i64 hgn] 42)) W) => rel_no (Q1.out.below h).second.choose_spec hi hgn hl)
  clear hE hq r hb hl
  go_enter Tryd.func17, Tryd.ntmps17
  go_wp2_with fail
  go_region_held3 (fun w' => Below (w.alloc (.cells #[.int .i64 2, .int .i64 n, .int .i64 hi, .int .i64 hgn] 42)).heap.size (w.alloc (.cells #[.int .i64 2, .int .i64 n, .int .i64 hi, .int .i64 hgn] 42)) w' ∧ ∀ b_1 o, b_1 < (w.alloc (.cells #[.int .i64 2, .int .i64 n, .int .i64 hi, .int .i64 hgn] 42)).heap.size → w'.cell? ⟨b_1, o, none⟩ = (w.alloc (.cells #[.int .i64 2, .int .i64 n, .int .i64 hi, .int .i64 hgn] 42)).cell? ⟨b_1, o, none⟩) (first | exact keep0 _ | exact keepB (by assumption) hb1 | assumption) ((first | (go_at_call 27; refine (HF.out _ ?_).mono ?_; (first | exact Bd (Below.refl _ _) | exact And.left (by assumption)); rintro e w1 ⟨rfl, hb1⟩) | (go_at_call 12; refine (HN.out _ ?_).mono ?_; (exact And.left (by assumption)); rintro e w1 ⟨rfl, hb1⟩) | (go_at_call 37; refine (HR.out _ ?_).mono ?_; (first | exact Bd (Below.refl _ _) | exact And.left (by assumption)); rintro e w1 ⟨rfl, hb1⟩)))
  all_goals
    go_wp2
    go_ret
    refine ⟨S, Fr, rfl, Q1.out.below ?_, R0.out, B1.out.below ?_⟩
    · exact And.left (by assumption)
    · exact And.left (by assumption)

set_option maxHeartbeats 4000000 in
set_option maxRecDepth 100000 in
theorem do_free_yes (hq : Two 67 37 w0.heap.size w pa S Fr pb S Fr) (r : Right S Fr) (hb : RowKit.Below w0.heap.size w0 w) (n hi hgn : Int) (hl : livesP S (hi, hgn) = true) :
    Calls Tryd.prog 17 #[.pointer (some ⟨pa, 0, none⟩), .pointer (some ⟨pb, 0, none⟩), .agg #[.int .i64 2, .int .i64 n, .int .i64 hi, .int .i64 hgn]] w (DoEnd w0 w pa pb) := by
  have D1 := Lib.hid (Ba (Below.refl _ w) (.cells #[.int .i64 2, .int .i64 n, .int .i64 hi, .int .i64 hgn] 42))
  have Q1 := Lib.hid (hq.below (Bd D1.out))
  have R1 := Lib.hid (right_free r hl)
  have K0 := Lib.hid (FreeS.mk (w0 := w0) (wI := w) (W := (w.alloc (.cells #[.int .i64 2, .int .i64 n, .int .i64 hi, .int .i64 hgn] 42)).drew) (heap_alloc_new w (.cells #[.int .i64 2, .int .i64 n, .int .i64 hi, .int .i64 hgn] 42)) ((Both.start hb).below (Bd D1.out)))
  have HF := Lib.hid (fun W S2 F2 (h : Two 67 37 w0.heap.size W pa S Fr pb S2 F2) => Two.ask1 (S1' := freeS S (hi, hgn)) (F1' := freeF Fr (hi, hgn)) (P := fun e => e = .returned .nilIface) h (fun M hM => free_call hM r hi hgn hl))
  have HR := Lib.hid (fun W S1 F1 (h : Two 67 37 w0.heap.size W pa S1 F1 pb S Fr) => Two.ask2 (S2' := freeS S (hi, hgn)) (F2' := freeF Fr (hi, hgn)) (P := fun e => e = .returned (.int .i64 0)) h (fun M hM => rel_call hM r hi hgn hl))
  have tQ := Q1.out
  clear hq r hb hl
  go_enter Tryd.func17, Tryd.ntmps17
  go_wp2_with fail
  go_region_held3 (fun W => W.cell? ⟨w.heap.size, 2, none⟩ = some (.int .i64 hi) ∧ W.cell? ⟨w.heap.size, 3, none⟩ = some (.int .i64 hgn) ∧ FreeR w0 w w.heap.size 2 n hi hgn W) (first | exact K0.out | exact FreeS.kq (by assumption) hkF (by decide) | exact FreeS.kq (by assumption) hkR (by decide) | exact FreeS.below (by assumption) hbN) ((first | (go_at_call 27; refine (HF.out _ _ _ (by assumption)).mono ?_; rintro e w1 ⟨rfl, tF, hkF⟩) | (go_at_call 12; refine (num_nil _).mono ?_; rintro e w1 ⟨rfl, hbN⟩; (first | (have tN := tR.below hbN) | (have tN := tF.below hbN))) | (go_at_call 37; refine (HR.out _ _ _ (by assumption)).mono ?_; rintro e w1 ⟨rfl, tR, hkR⟩)))
  all_goals
    go_wp2
    go_ret
    refine ⟨freeS S (hi, hgn), freeF Fr (hi, hgn), rfl, ?_, R1.out, ?_⟩
    · assumption
    · exact FreeS.lo (bo := w.heap.size) (kd := 2) (n := n) (hi := hi) (hgn := hgn) (by assumption)

theorem do_call (hq : Two 67 37 w0.heap.size w pa S Fr pb S Fr) (r : Right S Fr) (hb : RowKit.Below w0.heap.size w0 w) (A : Nat → Addr) (hE : Errs w0 A) (kd n hi hgn : Int) :
    Calls Tryd.prog 17 #[.pointer (some ⟨pa, 0, none⟩), .pointer (some ⟨pb, 0, none⟩), .agg #[.int .i64 kd, .int .i64 n, .int .i64 hi, .int .i64 hgn]] w (DoEnd w0 w pa pb) := by
  by_cases hk : kd = 2
  · subst hk
    cases hl : livesP S (hi, hgn) with
    | true => exact do_free_yes hq r hb n hi hgn hl
    | false => exact do_free_no hq r hb A hE n hi hgn hl
  · exact do_take hq r hb A hE kd n hi hgn hk
end
end Go.Proofs.YthodmicoejnfaaaDoor
