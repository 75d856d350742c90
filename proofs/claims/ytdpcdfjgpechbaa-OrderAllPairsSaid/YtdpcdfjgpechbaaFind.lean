/-
  slices.BinarySearchFunc at handles, order.Find.
-/
import Derived.Test.YtdpcdfjgpechbaaAlive
namespace Go.Proofs.Ytdpcdfjgpechbaa
set_option linter.unusedSimpArgs false
set_option linter.unusedVariables false
open Go.RowKit Go.Sort Go.Lib Go.Shelf

theorem head_eq {α : Type} [Inhabited α] {lt : α → α → Bool} {x : α} : ∀ {l : List α} {k : Nat}, k ≤ l.length → (∀ t, t < k → lt l[t]! x = true) → (k < l.length → lt l[k]! x = false) → headLess lt x l = k
  | [], k, h, _, _ => by simp at h; subst h; rfl
  | y :: r, 0, _, _, h2 => by
    have := h2 (by simp)
    simp at this
    simp [headLess, this]
  | y :: r, k + 1, h, h1, h2 => by
    have h0 := h1 0 (by omega)
    simp at h0
    have ih := head_eq (lt := lt) (x := x) (l := r) (k := k) (by simpa using h) (fun t ht => by have := h1 (t + 1) (by omega); simpa using this) (fun hk => by have := h2 (by simpa using hk); simpa using this)
    simp [headLess, h0, ih]

theorem rise_at {l : List Hd} (hr : Rise ltH l) {i j : Nat} (hij : i ≤ j) (hj : j < l.length) {x : Hd} (h : ltH l[i]! x = false) : ltH l[j]! x = false := by
  by_cases e : i = j
  · subst e; exact h
  · have hl := rise_lt hr (show i < j by omega) hj
    rw [← getElem!_pos l i (by omega), ← getElem!_pos l j hj] at hl
    cases h2 : ltH l[j]! x with
    | false => rfl
    | true => have := sto_hd.trans _ _ _ hl h2; rw [h] at this; cases this

theorem cmp_neg {x y : Hd} {v : Bool} (h : ltH x y = v) : (v = true → cmpH x y < 0) ∧ (v = false → ¬ cmpH x y < 0) := by
  have := cmpH_lt x y
  rw [h] at this
  constructor
  · rintro rfl; exact of_decide_eq_true this
  · rintro rfl; exact of_decide_eq_false this

set_option maxHeartbeats 2000000 in
set_option maxRecDepth 100000 in
theorem searchH_call (l : List Hd) (v : Value) (x1 x2 : Int) (w : World) (hl : Sl encH w v l) (hr : Rise ltH l) (hlen : l.length ≤ 100000) :
    Calls Try.prog 39 #[v, .agg #[.int .i64 x1, .int .i64 x2], .func (.func 34) #[] #[]] w fun e w' => e = .returned (.tuple #[.int .i64 (headLess ltH (x1, x2) l : Nat), .bool (decide (((x1, x2) : Hd) ∈ l))]) ∧ Gr w w' := by
  obtain ⟨p, cap, rfl, h1, h2, h⟩ := hl
  have hcm : cap ≤ 9223372036854775807 := by unfold maxLen at h2; omega
  have HL := Lib.hid h
  have HM := Lib.hid (mem_head sto_hd (x1, x2) hr)
  have HR := Lib.hid hr
  clear h h2 hr
  have mixed : Try.prog.follows .mixedOrders = true := by kernel_rfl
  obtain ⟨R1, hR1⟩ : ∃ R1, R1 = headLess ltH (x1, x2) l := ⟨_, rfl⟩
  obtain ⟨R2, hR2⟩ : ∃ R2, R2 = decide (((x1, x2) : Hd) ∈ l) := ⟨_, rfl⟩
  rw [← hR1, ← hR2]
  have HR1 := Lib.hid hR1
  have HR2 := Lib.hid hR2
  clear hR1 hR2
  go_enter Try.func39, Try.ntmps39
  go_wp2
  go_loopg [9, 10] l.length (fun kx s9 s10 wr => ∃ lo hi : Nat, s9 = .int .i64 lo ∧ s10 = .int .i64 hi ∧ lo ≤ hi ∧ hi ≤ l.length ∧ hi - lo ≤ kx ∧ Gr (w.alloc (.cells #[.int .i64 x1, .int .i64 x2] 28)) wr ∧
    Hid ((∀ t, t < lo → ltH l[t]! (x1, x2) = true) ∧ (∀ t, hi ≤ t → t < l.length → ltH l[t]! (x1, x2) = false)))
  case atStart => exact ⟨0, l.length, rfl, rfl, Nat.zero_le _, Nat.le_refl _, by omega, (by repeat (first | with_reducible exact Gr.refl _ | with_reducible assumption | with_reducible apply Gr.alloc | with_reducible apply Gr.drewN | with_reducible apply Gr.drew | with_reducible apply Gr.grow | (with_reducible refine Gr.trans ?_ (by assumption)))), ⟨fun t ht => absurd ht (Nat.not_lt_zero _), fun t h1 h2 => by omega⟩⟩
  case round =>
    obtain ⟨lo, hi, rfl, rfl, hlh, hin, hgk, hg, I⟩ := hrel
    have hb1 := hg.below
    have hlw : w.heap.size < wr.heap.size := by have := hb1.size; simp at this; omega
    have d1 : wr.cell? ⟨w.heap.size, 0, none⟩ = some (.int .i64 x1) := (hb1.cell (p := ⟨w.heap.size, 0, none⟩) (by simp)).trans (by simp)
    have d2 : wr.cell? ⟨w.heap.size, 1, none⟩ = some (.int .i64 x2) := (hb1.cell (p := ⟨w.heap.size, 1, none⟩) (by simp)).trans (by simp)
    have HG := Lib.hid hg
    have e3 := cell_grown (show (⟨w.heap.size, 0, none⟩ : Addr).block < wr.heap.size from hlw) d1
    have e4 := cell_grown (show (⟨w.heap.size, 1, none⟩ : Addr).block < wr.heap.size from hlw) d2
    have cat : ∀ i, i < l.length → ∃ g o, p = some ⟨g, o, none⟩ ∧ (wr.cell? ⟨g, o + i * 2, none⟩ = some (.int .i64 l[i]!.1) ∧ wr.cell? ⟨g, o + i * 2 + 1, none⟩ = some (.int .i64 l[i]!.2)) ∧ g < wr.heap.size := fun i hi => by
      obtain ⟨g, o, rfl, hgl, hc⟩ := HL.out (by omega)
      obtain ⟨c1, c2⟩ := atH hc hi
      refine ⟨g, o, rfl, ⟨(hb1.cell (p := ⟨g, o + i * 2, none⟩) (by simp; omega)).trans ?_, (hb1.cell (p := ⟨g, o + i * 2 + 1, none⟩) (by simp; omega)).trans ?_⟩, by omega⟩
      · rw [World.cell?_alloc_past (w := w) _ g _ hgl]; exact c1
      · rw [World.cell?_alloc_past (w := w) _ g _ hgl]; exact c2
    have CAT := Lib.hid cat
    clear cat hb1 hg
    by_cases hlt : lo < hi
    · obtain ⟨g, o, rfl, ⟨c1, c2⟩, hgw⟩ := CAT.out ((lo + hi) / 2) (by omega)
      generalize hy : l[(lo + hi) / 2]! = y at c1 c2
      obtain ⟨y1, y2⟩ := y
      dsimp only at c1 c2
      have Y := Lib.hid hy
      clear hy
      have i0 : (0 : Int) ≤ ((lo : Int) + (hi : Int)) / 2 := by omega
      have i1 : ((lo : Int) + (hi : Int)) / 2 < (l.length : Int) := by omega
      have i2 : (((lo : Int) + (hi : Int)) / 2).toNat = (lo + hi) / 2 := by omega
      have e1 := cell_grown (show (⟨g, o + (lo + hi) / 2 * 2, none⟩ : Addr).block < wr.heap.size from hgw) c1
      have e2 := cell_grown (show (⟨g, o + (lo + hi) / 2 * 2 + 1, none⟩ : Addr).block < wr.heap.size from hgw) c2
      cases hb : ltH (y1, y2) (x1, x2)
      · have hc := (cmp_neg hb).2 rfl
        have HBB := Lib.hid hb
        clear hb
        go_wp2_with fail
        go_quiet_grown (first | (go_at_call 34; refine Calls.grown_of (cmpH_call _ _ _ _ _)) | (go_at_fn 34; refine Calls.grown_of (cmpH_call _ _ _ _ _)))
        go_wp2
        go_roundg ((lo + hi) / 2 - lo)
        case measure => omega
        case rel => exact ⟨lo, (lo + hi) / 2, rfl, by rw [show ((lo : Int) + (hi : Int)) / 2 = (((lo + hi) / 2 : Nat) : Int) by omega], by omega, by omega, Nat.le_refl _, HG.out.drewN.grow, ⟨I.out.1, fun t ht htn => rise_at HR.out ht htn (by rw [Y.out]; exact HBB.out)⟩⟩
      · have hc := (cmp_neg hb).1 rfl
        have HBB := Lib.hid hb
        clear hb
        go_wp2_with fail
        go_quiet_grown (first | (go_at_call 34; refine Calls.grown_of (cmpH_call _ _ _ _ _)) | (go_at_fn 34; refine Calls.grown_of (cmpH_call _ _ _ _ _)))
        go_wp2
        go_roundg (hi - ((lo + hi) / 2 + 1))
        case measure => omega
        case rel =>
          refine ⟨(lo + hi) / 2 + 1, hi, by rw [show ((lo : Int) + (hi : Int)) / 2 + 1 = (((lo + hi) / 2 + 1 : Nat) : Int) by omega], rfl, by omega, hin, Nat.le_refl _, HG.out.drewN.grow, ⟨fun t ht => ?_, I.out.2⟩⟩
          cases e : ltH l[t]! (x1, x2) with
          | true => rfl
          | false =>
            have := rise_at HR.out (show t ≤ (lo + hi) / 2 by omega) (show (lo + hi) / 2 < l.length by omega) e
            rw [Y.out, HBB.out] at this
            cases this
    · obtain rfl : hi = lo := by omega
      have hh : headLess ltH (x1, x2) l = hi := head_eq hin I.out.1 (fun h => I.out.2 hi (Nat.le_refl _) h)
      have E1 := Lib.hid (show R1 = hi by rw [HR1.out, hh])
      have E2 := Lib.hid (show R2 = decide (l[hi]? = some (x1, x2)) by
        rw [HR2.out]
        have := HM.out
        rw [hh] at this
        exact decide_eq_decide.2 this)
      clear hh
      by_cases hn : hi < l.length
      · obtain ⟨g, o, rfl, ⟨c1, c2⟩, hgw⟩ := CAT.out hi hn
        have hget : l[hi]? = some l[hi]! := by rw [List.getElem?_eq_getElem hn, getElem!_pos l hi hn]
        rw [hget] at E2
        generalize l[hi]! = y at c1 c2 E2
        clear hget
        obtain ⟨y1, y2⟩ := y
        dsimp only at c1 c2
        have e1 := cell_grown (show (⟨g, o + hi * 2, none⟩ : Addr).block < wr.heap.size from hgw) c1
        have e2 := cell_grown (show (⟨g, o + hi * 2 + 1, none⟩ : Addr).block < wr.heap.size from hgw) c2
        by_cases hxy : ((y1, y2) : Hd) = (x1, x2)
        · have hc := (cmpH_eq (y1, y2) (x1, x2)).2 hxy
          have e3 := Lib.hid (show R2 = true by rw [E2.out, hxy]; simp)
          clear hxy
          go_wp2_with fail
          go_quiet_grown (first | (go_at_call 34; refine Calls.grown_of (cmpH_call _ _ _ _ _)) | (go_at_fn 34; refine Calls.grown_of (cmpH_call _ _ _ _ _)))
          go_wp2
          go_ret2
          exact ⟨by rw [E1.out, e3.out]; first | rfl | simp [hc], (Gr.refl w).alloc _ |>.trans HG.out.drewN.grow⟩
        · have hc : ¬ cmpH (y1, y2) (x1, x2) = 0 := fun h => hxy ((cmpH_eq _ _).1 h)
          have e3 := Lib.hid (show R2 = false by rw [E2.out]; exact decide_eq_false fun h => hxy (Option.some.inj h))
          clear hxy
          go_wp2_with fail
          go_quiet_grown (first | (go_at_call 34; refine Calls.grown_of (cmpH_call _ _ _ _ _)) | (go_at_fn 34; refine Calls.grown_of (cmpH_call _ _ _ _ _)))
          go_wp2
          go_ret2
          exact ⟨by rw [E1.out, e3.out]; first | rfl | simp [hc], (Gr.refl w).alloc _ |>.trans HG.out.drewN.grow⟩
      · have e3 := Lib.hid (show R2 = false by rw [E2.out, List.getElem?_eq_none (by omega)]; rfl)
        have hz : ¬ (hi : Int) < (l.length : Int) := by omega
        clear e4 HM HR I
        go_wp2_with fail
        go_region
        go_wp2
        go_ret2
        exact ⟨by rw [E1.out, e3.out]; first | rfl | simp, ((Gr.refl w).alloc _).trans HG.out.drew⟩

set_option maxHeartbeats 1000000 in
set_option maxRecDepth 100000 in
/-- order.Find, in a rising list. -/
theorem find_call (l : List Hd) (v : Value) (x1 x2 : Int) (w : World) (hl : Sl encH w v l) (hr : Rise ltH l) (hlen : l.length ≤ 100000) :
    Calls Try.prog 22 #[v, .agg #[.int .i64 x1, .int .i64 x2]] w fun e w' => e = .returned (.int .i64 (if ((x1, x2) : Hd) ∈ l then (headLess ltH (x1, x2) l : Nat) else -1)) ∧ Gr w w' := by
  have HS := Lib.hid (hl.below (Ba (Below.refl _ w) (.cells #[.int .i64 x1, .int .i64 x2] 28)))
  have HC := Lib.hid (searchH_call l v x1 x2 (w.alloc (.cells #[.int .i64 x1, .int .i64 x2] 28)) HS.out hr hlen)
  clear hl hr
  by_cases hx : ((x1, x2) : Hd) ∈ l
  · have hd : decide (((x1, x2) : Hd) ∈ l) = true := decide_eq_true hx
    rw [if_pos hx]
    go_enter Try.func22, Try.ntmps22
    go_wp2_with fail
    refine HC.out.mono ?_
    rintro e w1 ⟨rfl, hg1⟩
    go_wp2
    go_ret
    exact ⟨rfl, (by repeat (first | with_reducible exact Gr.refl _ | with_reducible assumption | with_reducible apply Gr.alloc | with_reducible apply Gr.drewN | with_reducible apply Gr.drew | with_reducible apply Gr.grow | (with_reducible refine Gr.trans ?_ (by assumption))))⟩
  · have hd : decide (((x1, x2) : Hd) ∈ l) = false := decide_eq_false hx
    rw [if_neg hx]
    go_enter Try.func22, Try.ntmps22
    go_wp2_with fail
    refine HC.out.mono ?_
    rintro e w1 ⟨rfl, hg1⟩
    go_wp2
    go_ret
    exact ⟨rfl, (by repeat (first | with_reducible exact Gr.refl _ | with_reducible assumption | with_reducible apply Gr.alloc | with_reducible apply Gr.drewN | with_reducible apply Gr.drew | with_reducible apply Gr.grow | (with_reducible refine Gr.trans ?_ (by assumption))))⟩
end Go.Proofs.Ytdpcdfjgpechbaa
