import Derived.Test.YtahichjiphjapaaGreatDoorZ6
import Derived.Lib.SlKept

/-
  slices.BinarySearchFunc at handles, order.Find.
-/
namespace Go.Proofs.YtahichjiphjapaaGreatDoor
set_option linter.unusedSimpArgs false
set_option linter.unusedVariables false
open Go.RowKit Go.Sort Go.Lib Go.Shelf

theorem mem_head {α : Type} [DecidableEq α] {lt : α → α → Bool} (h : STO lt) (x : α) : ∀ {l : List α}, Rise lt l → (x ∈ l ↔ l[headLess lt x l]? = some x)
  | [], _ => by simp
  | y :: r, hl => by
    obtain ⟨hy, hr⟩ := List.pairwise_cons.1 hl
    unfold headLess
    cases e : lt y x with
    | true =>
      rw [if_pos rfl, List.getElem?_cons_succ, ← mem_head h x hr, List.mem_cons]
      constructor
      · rintro (rfl | hx)
        · rw [h.irrefl] at e; cases e
        · exact hx
      · exact .inr
    | false =>
      rw [if_neg (by simp), List.getElem?_cons_zero, List.mem_cons]
      constructor
      · rintro (rfl | hx)
        · rfl
        · rw [hy x hx] at e; cases e
      · intro hx; exact .inl (Option.some.inj hx).symm
theorem head_eq {α : Type} [Inhabited α] {lt : α → α → Bool} {x : α} : ∀ {l : List α} {k : Nat}, k ≤ l.length → (∀ t, t < k → lt l[t]! x = true) → (k < l.length → lt l[k]! x = false) → headLess lt x l = k
  | [], k, h, _, _ => by simp at h; subst h; rfl
  | y :: r, 0, _, _, h2 => by
    have := h2 (by simp)
    simp at this
    simp [headLess, this]
  | y :: r, k + 1, h, h1, h2 => by
    have h0 := h1 0 (by omega)
    simp at h0
    have ih := head_eq (lt := lt) (x := x) (l := r) (k := k) (by simpa using h) (fun t ht => by have := h1 (t + 1) (by omega); simpa using this) (fun hk => by have := h2 (by simpa using hk); simpa using this)
    simp [headLess, h0, ih]

theorem rise_atF {l : List Hd} (hr : Rise ltH l) {i j : Nat} (hij : i ≤ j) (hj : j < l.length) {x : Hd} (h : ltH l[i]! x = false) : ltH l[j]! x = false := by
  by_cases e : i = j
  · subst e; exact h
  · have hl := rise_lt hr (show i < j by omega) hj
    rw [← getElem!_pos l i (by omega), ← getElem!_pos l j hj] at hl
    cases h2 : ltH l[j]! x with
    | false => rfl
    | true => have := sto_hd.trans _ _ _ hl h2; rw [h] at this; cases this

theorem cmp_neg {x y : Hd} {v : Bool} (h : ltH x y = v) : (v = true → cmpH x y < 0) ∧ (v = false → ¬ cmpH x y < 0) := by
  have := cmpH_lt x y
  rw [h] at this
  constructor
  · rintro rfl; exact of_decide_eq_true this
  · rintro rfl; exact of_decide_eq_false this

set_option maxHeartbeats 2000000 in
set_option maxRecDepth 100000 in
theorem searchH_call (l : List Hd) (v : Value) (x1 x2 : Int) (w : World) (hl : Sl encH w v l) (hr : Rise ltH l) (hlen : l.length ≤ 100000) :
    Calls Tryz.prog 68 #[v, .agg #[.int .i64 x1, .int .i64 x2], .func (.func 58) #[] #[]] w fun e w' => e = .returned (.tuple #[.int .i64 (headLess ltH (x1, x2) l : Nat), .bool (decide (((x1, x2) : Hd) ∈ l))]) ∧ Gr w w' := by
  obtain ⟨p, cap, rfl, h1, h2, h⟩ := hl
  have hcm : cap ≤ 9223372036854775807 := by unfold maxLen at h2; omega
  have HL := Lib.hid h
  have HM := Lib.hid (mem_head sto_hd (x1, x2) hr)
  have HR := Lib.hid hr
  clear h h2 hr
  have mixed : Tryz.prog.follows .mixedOrders = true := by kernel_rfl
  obtain ⟨R1, hR1⟩ : ∃ R1, R1 = headLess ltH (x1, x2) l := ⟨_, rfl⟩
  obtain ⟨R2, hR2⟩ : ∃ R2, R2 = decide (((x1, x2) : Hd) ∈ l) := ⟨_, rfl⟩
  rw [← hR1, ← hR2]
  have HR1 := Lib.hid hR1
  have HR2 := Lib.hid hR2
  clear hR1 hR2
  go_enter Tryz.func68, Tryz.ntmps68
  go_wp2
  go_loopg [9, 10] l.length (fun kx s9 s10 wr => ∃ lo hi : Nat, s9 = .int .i64 lo ∧ s10 = .int .i64 hi ∧ lo ≤ hi ∧ hi ≤ l.length ∧ hi - lo ≤ kx ∧ Gr (w.alloc (.cells #[.int .i64 x1, .int .i64 x2] 42)) wr ∧
    Hid ((∀ t, t < lo → ltH l[t]! (x1, x2) = true) ∧ (∀ t, hi ≤ t → t < l.length → ltH l[t]! (x1, x2) = false)))
  case atStart => exact ⟨0, l.length, rfl, rfl, Nat.zero_le _, Nat.le_refl _, by omega, (by repeat (first | with_reducible exact Gr.refl _ | with_reducible assumption | with_reducible apply Gr.alloc | with_reducible apply Gr.drewN | with_reducible apply Gr.drew | with_reducible apply Gr.grow | (with_reducible refine Gr.trans ?_ (by assumption)))), ⟨fun t ht => absurd ht (Nat.not_lt_zero _), fun t h1 h2 => by omega⟩⟩
  case round =>
    obtain ⟨lo, hi, rfl, rfl, hlh, hin, hgk, hg, I⟩ := hrel
    have hb1 := hg.below
    have hlw : w.heap.size < wr.heap.size := by have := hb1.size; simp at this; omega
    have d1 : wr.cell? ⟨w.heap.size, 0, none⟩ = some (.int .i64 x1) := (hb1.cell (p := ⟨w.heap.size, 0, none⟩) (by simp)).trans (by simp)
    have d2 : wr.cell? ⟨w.heap.size, 1, none⟩ = some (.int .i64 x2) := (hb1.cell (p := ⟨w.heap.size, 1, none⟩) (by simp)).trans (by simp)
    have HG := Lib.hid hg
    have e3 := cell_grown (show (⟨w.heap.size, 0, none⟩ : Addr).block < wr.heap.size from hlw) d1
    have e4 := cell_grown (show (⟨w.heap.size, 1, none⟩ : Addr).block < wr.heap.size from hlw) d2
    have cat : ∀ i, i < l.length → ∃ g o, p = some ⟨g, o, none⟩ ∧ (wr.cell? ⟨g, o + i * 2, none⟩ = some (.int .i64 l[i]!.1) ∧ wr.cell? ⟨g, o + i * 2 + 1, none⟩ = some (.int .i64 l[i]!.2)) ∧ g < wr.heap.size := fun i hi => by
      obtain ⟨g, o, rfl, hgl, hc⟩ := HL.out (by omega)
      obtain ⟨c1, c2⟩ := atH hc hi
      refine ⟨g, o, rfl, ⟨(hb1.cell (p := ⟨g, o + i * 2, none⟩) (by simp; omega)).trans ?_, (hb1.cell (p := ⟨g, o + i * 2 + 1, none⟩) (by simp; omega)).trans ?_⟩, by omega⟩
      · rw [World.cell?_alloc_past (w := w) _ g _ hgl]; exact c1
      · rw [World.cell?_alloc_past (w := w) _ g _ hgl]; exact c2
    have CAT := Lib.hid cat
    clear cat hb1 hg
    by_cases hlt : lo < hi
    · obtain ⟨g, o, rfl, ⟨c1, c2⟩, hgw⟩ := CAT.out ((lo + hi) / 2) (by omega)
      generalize hy : l[(lo + hi) / 2]! = y at c1 c2
      obtain ⟨y1, y2⟩ := y
      dsimp only at c1 c2
      have Y := Lib.hid hy
      clear hy
      have i0 : (0 : Int) ≤ ((lo : Int) + (hi : Int)) / 2 := by omega
      have i1 : ((lo : Int) + (hi : Int)) / 2 < (l.length : Int) := by omega
      have i2 : (((lo : Int) + (hi : Int)) / 2).toNat = (lo + hi) / 2 := by omega
      have e1 := cell_grown (show (⟨g, o + (lo + hi) / 2 * 2, none⟩ : Addr).block < wr.heap.size from hgw) c1
      have e2 := cell_grown (show (⟨g, o + (lo + hi) / 2 * 2 + 1, none⟩ : Addr).block < wr.heap.size from hgw) c2
      cases hb : ltH (y1, y2) (x1, x2)
      · have hc := (cmp_neg hb).2 rfl
        have HBB := Lib.hid hb
        clear hb
        go_wp2_with fail
        go_quiet_grown (first | (go_at_call 58; refine Calls.grown_of (cmpH_call _ _ _ _ _)) | (go_at_fn 58; refine Calls.grown_of (cmpH_call _ _ _ _ _)))
        go_wp2
        go_roundg ((lo + hi) / 2 - lo)
        case measure => omega
        case rel => exact ⟨lo, (lo + hi) / 2, rfl, by rw [show ((lo : Int) + (hi : Int)) / 2 = (((lo + hi) / 2 : Nat) : Int) by omega], by omega, by omega, Nat.le_refl _, HG.out.drewN.grow, ⟨I.out.1, fun t ht htn => rise_atF HR.out ht htn (by rw [Y.out]; exact HBB.out)⟩⟩
      · have hc := (cmp_neg hb).1 rfl
        have HBB := Lib.hid hb
        clear hb
        go_wp2_with fail
        go_quiet_grown (first | (go_at_call 58; refine Calls.grown_of (cmpH_call _ _ _ _ _)) | (go_at_fn 58; refine Calls.grown_of (cmpH_call _ _ _ _ _)))
        go_wp2
        go_roundg (hi - ((lo + hi) / 2 + 1))
        case measure => omega
        case rel =>
          refine ⟨(lo + hi) / 2 + 1, hi, by rw [show ((lo : Int) + (hi : Int)) / 2 + 1 = (((lo + hi) / 2 + 1 : Nat) : Int) by omega], rfl, by omega, hin, Nat.le_refl _, HG.out.drewN.grow, ⟨fun t ht => ?_, I.out.2⟩⟩
          cases e : ltH l[t]! (x1, x2) with
          | true => rfl
          | false =>
            have := rise_atF HR.out (show t ≤ (lo + hi) / 2 by omega) (show (lo + hi) / 2 < l.length by omega) e
            rw [Y.out, HBB.out] at this
            cases this
    · obtain rfl : hi = lo := by omega
      have hh : headLess ltH (x1, x2) l = hi := head_eq hin I.out.1 (fun h => I.out.2 hi (Nat.le_refl _) h)
      have E1 := Lib.hid (show R1 = hi by rw [HR1.out, hh])
      have E2 := Lib.hid (show R2 = decide (l[hi]? = some (x1, x2)) by
        rw [HR2.out]
        have := HM.out
        rw [hh] at this
        exact decide_eq_decide.2 this)
      clear hh
      by_cases hn : hi < l.length
      · obtain ⟨g, o, rfl, ⟨c1, c2⟩, hgw⟩ := CAT.out hi hn
        have hget : l[hi]? = some l[hi]! := by rw [List.getElem?_eq_getElem hn, getElem!_pos l hi hn]
        rw [hget] at E2
        generalize l[hi]! = y at c1 c2 E2
        clear hget
        obtain ⟨y1, y2⟩ := y
        dsimp only at c1 c2
        have e1 := cell_grown (show (⟨g, o + hi * 2, none⟩ : Addr).block < wr.heap.size from hgw) c1
        have e2 := cell_grown (show (⟨g, o + hi * 2 + 1, none⟩ : Addr).block < wr.heap.size from hgw) c2
        by_cases hxy : ((y1, y2) : Hd) = (x1, x2)
        · have hc := (cmpH_eq (y1, y2) (x1, x2)).2 hxy
          have e3 := Lib.hid (show R2 = true by rw [E2.out, hxy]; simp)
          clear hxy
          go_wp2_with fail
          go_quiet_grown (first | (go_at_call 58; refine Calls.grown_of (cmpH_call _ _ _ _ _)) | (go_at_fn 58; refine Calls.grown_of (cmpH_call _ _ _ _ _)))
          go_wp2
          go_ret2
          exact ⟨by rw [E1.out, e3.out]; first | rfl | simp [hc], (Gr.refl w).alloc _ |>.trans HG.out.drewN.grow⟩
        · have hc : ¬ cmpH (y1, y2) (x1, x2) = 0 := fun h => hxy ((cmpH_eq _ _).1 h)
          have e3 := Lib.hid (show R2 = false by rw [E2.out]; exact decide_eq_false fun h => hxy (Option.some.inj h))
          clear hxy
          go_wp2_with fail
          go_quiet_grown (first | (go_at_call 58; refine Calls.grown_of (cmpH_call _ _ _ _ _)) | (go_at_fn 58; refine Calls.grown_of (cmpH_call _ _ _ _ _)))
          go_wp2
          go_ret2
          exact ⟨by rw [E1.out, e3.out]; first | rfl | simp [hc], (Gr.refl w).alloc _ |>.trans HG.out.drewN.grow⟩
      · have e3 := Lib.hid (show R2 = false by rw [E2.out, List.getElem?_eq_none (by omega)]; rfl)
        have hz : ¬ (hi : Int) < (l.length : Int) := by omega
        clear e4 HM HR I
        go_wp2_with fail
        go_region
        go_wp2
        go_ret2
        exact ⟨by rw [E1.out, e3.out]; first | rfl | simp, ((Gr.refl w).alloc _).trans HG.out.drew⟩

set_option maxHeartbeats 1000000 in
set_option maxRecDepth 100000 in
/-- order.Find, in a rising list. -/
theorem find_call (l : List Hd) (v : Value) (x1 x2 : Int) (w : World) (hl : Sl encH w v l) (hr : Rise ltH l) (hlen : l.length ≤ 100000) :
    Calls Tryz.prog 43 #[v, .agg #[.int .i64 x1, .int .i64 x2]] w fun e w' => e = .returned (.int .i64 (if ((x1, x2) : Hd) ∈ l then (headLess ltH (x1, x2) l : Nat) else -1)) ∧ Gr w w' := by
  have HS := Lib.hid (hl.below (Ba (Below.refl _ w) (.cells #[.int .i64 x1, .int .i64 x2] 42)))
  have HC := Lib.hid (searchH_call l v x1 x2 (w.alloc (.cells #[.int .i64 x1, .int .i64 x2] 42)) HS.out hr hlen)
  clear hl hr
  by_cases hx : ((x1, x2) : Hd) ∈ l
  · have hd : decide (((x1, x2) : Hd) ∈ l) = true := decide_eq_true hx
    rw [if_pos hx]
    go_enter Tryz.func43, Tryz.ntmps43
    go_wp2_with fail
    refine HC.out.mono ?_
    rintro e w1 ⟨rfl, hg1⟩
    go_wp2
    go_ret
    exact ⟨rfl, (by repeat (first | with_reducible exact Gr.refl _ | with_reducible assumption | with_reducible apply Gr.alloc | with_reducible apply Gr.drewN | with_reducible apply Gr.drew | with_reducible apply Gr.grow | (with_reducible refine Gr.trans ?_ (by assumption))))⟩
  · have hd : decide (((x1, x2) : Hd) ∈ l) = false := decide_eq_false hx
    rw [if_neg hx]
    go_enter Tryz.func43, Tryz.ntmps43
    go_wp2_with fail
    refine HC.out.mono ?_
    rintro e w1 ⟨rfl, hg1⟩
    go_wp2
    go_ret
    exact ⟨rfl, (by repeat (first | with_reducible exact Gr.refl _ | with_reducible assumption | with_reducible apply Gr.alloc | with_reducible apply Gr.drewN | with_reducible apply Gr.drew | with_reducible apply Gr.grow | (with_reducible refine Gr.trans ?_ (by assumption))))⟩
end Go.Proofs.YtahichjiphjapaaGreatDoor

/-
  slices.IndexFunc and slices.DeleteFunc at handles, over the closure of order.Minus; order.Minus.
-/
namespace Go.Proofs.YtahichjiphjapaaGreatDoor
set_option linter.unusedSimpArgs false
set_option linter.unusedVariables false
open Go.RowKit Go.Sort Go.Lib Go.Shelf

/-- What the closure answers, wherever nothing below B0 has turned since w0. -/
def Pred (B0 : Nat) (w0 : World) (cv : Value) (p : Hd → Bool) : Prop := ∀ W, RowKit.Below B0 w0 W → ∀ x1 x2 : Int, Calls Tryz.prog 67 #[.agg #[.int .i64 x1, .int .i64 x2], cv] W fun e w' => e = .returned (.bool (p (x1, x2))) ∧ Gr W w'

set_option maxHeartbeats 2000000 in
set_option maxRecDepth 100000 in
theorem indexH_call (B0 : Nat) (w0 : World) (cv : Value) (p : Hd → Bool) (hp : Pred B0 w0 cv p) (blk cap : Nat) (d : Array Hd) (w : World) (hH : HoldsK encH 2 w blk 0 d) (hblk : blk < w.heap.size) (hs : B0 ≤ w.heap.size) (hb0 : RowKit.Below B0 w0 w) (hsz : d.size ≤ 1000000) :
    Calls Tryz.prog 97 #[.slice (some ⟨blk, 0, none⟩) d.size cap, .func (.func 67) #[] #[cv]] w fun e w' => (∃ r : Int, e = .returned (.int .i64 r) ∧ ((r = -1 ∧ ∀ j, j < d.size → p d[j]! = false) ∨ ∃ k0, k0 < d.size ∧ r = (k0 : Int) ∧ p d[k0]! = true ∧ ∀ j, j < k0 → p d[j]! = false)) ∧ Gr w w' := by
  have HP := Lib.hid hp
  have HH := Lib.hid hH
  have HB := Lib.hid hb0
  clear hp hH hb0
  go_enter Tryz.func97, Tryz.ntmps97
  go_wp2
  go_loopg [8] d.size (fun gk s8 wr => ∃ k : Nat, s8 = .int .i64 k ∧ k ≤ d.size ∧ d.size - k ≤ gk ∧ Gr w wr ∧ Hid (∀ j, j < k → p d[j]! = false))
  case atStart => exact ⟨0, rfl, Nat.zero_le _, by omega, Gr.refl _, fun j hj => absurd hj (Nat.not_lt_zero _)⟩
  case round =>
    obtain ⟨k, rfl, hk, hgk, hg, I⟩ := hrel
    by_cases hkn : k < d.size
    · have hHr := hkBelow HH.out hblk hg.below
      obtain ⟨⟨c1, c2⟩, _, _⟩ := at2 hHr hkn
      simp only [Nat.zero_add] at c1 c2
      have HPr := Lib.hid (fun a b => HP.out wr (HB.out.trans (hg.below.mono hs)) a b)
      have HG := Lib.hid hg
      generalize hx : d[k]! = x at c1 c2
      obtain ⟨x1, x2⟩ := x
      dsimp only at c1 c2
      have X := Lib.hid hx
      clear hHr hg hx
      cases hpx : p (x1, x2)
      · have HPX := Lib.hid hpx
        go_wp2_with (first | (go_at_call 67; refine (HPr.out _ _).mono ?_; rintro e w1 ⟨rfl, hg1⟩) | (go_at_fn 67; refine (HPr.out _ _).mono ?_; rintro e w1 ⟨rfl, hg1⟩))
        go_roundg (d.size - (k + 1))
        case measure => omega
        case rel =>
          refine ⟨k + 1, by go_num, by omega, Nat.le_refl _, HG.out.trans hg1, (show Hid _ from fun j hj => ?_)⟩
          by_cases e : j = k
          · subst e; rw [X.out]; exact HPX.out
          · exact I.out j (by omega)
      · have HPX := Lib.hid hpx
        go_wp2_with (first | (go_at_call 67; refine (HPr.out _ _).mono ?_; rintro e w1 ⟨rfl, hg1⟩) | (go_at_fn 67; refine (HPr.out _ _).mono ?_; rintro e w1 ⟨rfl, hg1⟩))
        go_ret
        exact ⟨⟨_, rfl, .inr ⟨k, hkn, rfl, by rw [X.out]; exact HPX.out, I.out⟩⟩, HG.out.trans hg1⟩
    · have HG := Lib.hid hg
      clear hg
      go_wp2
      go_ret
      exact ⟨⟨-1, rfl, .inl ⟨rfl, fun j hj => I.out j (by omega)⟩⟩, HG.out⟩

set_option maxHeartbeats 4000000 in
set_option maxRecDepth 100000 in
theorem deleteH_call (B0 : Nat) (w0 : World) (cv : Value) (p : Hd → Bool) (hp : Pred B0 w0 cv p) (blk cap : Nat) (d : Array Hd) (w : World) (hH : HoldsK encH 2 w blk 0 d) (hblk : blk < w.heap.size) (hBb : B0 ≤ blk) (hb0 : RowKit.Below B0 w0 w) (hsz : d.size ≤ 1000000) (hcap : d.size ≤ cap) (hcm : cap ≤ 9223372036854775807) :
    Calls Tryz.prog 65 #[.slice (some ⟨blk, 0, none⟩) d.size cap, .func (.func 67) #[] #[cv]] w fun e w' =>
      e = .returned (.slice (some ⟨blk, 0, none⟩) (d.toList.filter fun x => !p x).length cap) ∧ (∃ d' : Array Hd, d'.size = d.size ∧ (∀ j, j < (d.toList.filter fun x => !p x).length → (d.toList.filter fun x => !p x)[j]? = some d'[j]!) ∧ HoldsK encH 2 w' blk 0 d') ∧ w.heap.size ≤ w'.heap.size ∧ RowKit.Below B0 w0 w' := by
  have hI := indexH_call B0 w0 cv p hp blk cap d w hH hblk (by omega) hb0 hsz
  obtain ⟨kp, HK⟩ : ∃ kp : Nat → Bool, Hid (kp = fun j => !p d[j]!) := ⟨_, rfl⟩
  have hfil : (d.toList.filter fun x => !p x) = keptUpTo kp d d.size := by rw [HK.out]; exact (keptUpTo_filter (fun x => !p x) d).symm
  rw [hfil]
  have HP := Lib.hid hp
  have HH := Lib.hid hH
  have HB := Lib.hid hb0
  have HI := Lib.hid hI
  clear hp hH hb0 hI hfil
  go_enter Tryz.func65, Tryz.ntmps65
  go_wp2_with fail
  refine HI.out.mono ?_
  rintro e w1 ⟨⟨r, rfl, hr⟩, hg1⟩
  have HH1 := Lib.hid (hkBelow HH.out hblk hg1.below)
  have HB1 := Lib.hid (HB.out.trans (hg1.below.mono (by omega)))
  have hs1 := hg1.below.size
  clear hg1
  rcases hr with ⟨rfl, hall⟩ | ⟨k0, hk0, rfl, ht, hall⟩
  · have hkeep : ∀ j, j < d.size → kp j = true := fun j hj => by rw [HK.out]; show (!p d[j]!) = true; rw [hall j hj]; rfl
    have e3 := Lib.hid (show keptUpTo kp d d.size = d.toList by rw [keptUpTo_all kp d _ hkeep, range_map_get])
    clear hall hkeep
    go_wp2
    go_ret
    refine ⟨by rw [e3.out]; simp, ⟨d, rfl, fun j hj => ?_, HH1.out⟩, hs1, HB1.out⟩
    rw [e3.out] at hj ⊢
    have hj' : j < d.size := by simpa using hj
    rw [getElem!_pos d j hj']
    simp [hj']
  · have hkeep : ∀ j, j < k0 → kp j = true := fun j hj => by rw [HK.out]; show (!p d[j]!) = true; rw [hall j hj]; rfl
    have hdrop : kp k0 = false := by rw [HK.out]; show (!p d[k0]!) = false; rw [ht]; rfl
    have hne1 : ((k0 : Int) == -1) = false := beq_eq_false_iff_ne.2 (by omega)
    have HKE := Lib.hid hkeep
    have HDR := Lib.hid hdrop
    clear hkeep hdrop hall ht
    go_wp2_with fail
    go_loopg [5, 6] d.size (fun gg s5 s6 wr => ∃ (i j : Nat) (dk : Array Hd), s5 = .int .i64 i ∧ s6 = .int .i64 j ∧ j ≤ d.size ∧ d.size - j ≤ gg ∧ w.heap.size ≤ wr.heap.size ∧ RowKit.Below B0 w0 wr ∧ HoldsK encH 2 wr blk 0 dk ∧ Hid (KeptInv kp d j i dk))
    case atStart => exact ⟨k0, k0 + 1, d, rfl, by go_num, by omega, by omega, hs1, HB1.out, HH1.out, KeptInv.start HKE.out HDR.out⟩
    case round =>
      obtain ⟨i, j, dk, rfl, rfl, hjd, hgg, hsw, hb, hHk, I2⟩ := hrel
      have hij := I2.out.lt
      have hds := I2.out.size
      have HB2 := Lib.hid hb
      have hblw : blk < wr.heap.size := by omega
      by_cases hlt : j < d.size
      · obtain ⟨⟨c1, c2⟩, _, _⟩ := at2 hHk (show j < dk.size by omega)
        obtain ⟨⟨c5, c6⟩, f5, f6⟩ := at2 hHk (show i < dk.size by omega)
        rw [I2.out.high j (by omega)] at c1 c2
        simp only [Nat.zero_add] at c1 c2 c5 c6 f5 f6
        generalize hu : d[j]! = u at c1 c2
        obtain ⟨u1, u2⟩ := u
        dsimp only at c1 c2
        have U := Lib.hid hu
        have HKD := Lib.hid hds
        have A3 := Lib.hid ((HB2.out).alloc (show B0 ≤ wr.heap.size by omega) (.cells #[.int .i64 u1, .int .i64 u2] 42))
        have HK3 := Lib.hid (hkBelow hHk hblw (Ba (Below.refl _ wr) (.cells #[.int .i64 u1, .int .i64 u2] 42)))
        have HPr := Lib.hid (fun a b => HP.out _ A3.out a b)
        have hne : blk ≠ wr.heap.size := by omega
        clear hu hHk hb hds c5 c6 f5 f6
        cases hq : p (u1, u2)
        · have HQ := Lib.hid hq
          go_wp2_with (first | (go_at_call 67; refine (HPr.out _ _).mono ?_; rintro e w2 ⟨rfl, hg2⟩; have b2 := hg2.below; have HK4 := Lib.hid (hkBelow HK3.out (by simp; omega) b2); have k5 := at2 HK4.out (show i < dk.size by have := HKD.out; omega); simp only [Nat.zero_add] at k5; obtain ⟨⟨c5, c6⟩, f5, f6⟩ := k5; have d1 : w2.cell? ⟨wr.heap.size, 0, none⟩ = some (.int .i64 u1) := Bc b2 (by simp) (by simp); have d2 : w2.cell? ⟨wr.heap.size, 1, none⟩ = some (.int .i64 u2) := Bc b2 (by simp) (by simp); have hbl2 : blk < w2.heap.size := by have := b2.size; simp at this; omega) | (go_at_fn 67; refine (HPr.out _ _).mono ?_; rintro e w2 ⟨rfl, hg2⟩; have b2 := hg2.below; have HK4 := Lib.hid (hkBelow HK3.out (by simp; omega) b2); have k5 := at2 HK4.out (show i < dk.size by have := HKD.out; omega); simp only [Nat.zero_add] at k5; obtain ⟨⟨c5, c6⟩, f5, f6⟩ := k5; have d1 : w2.cell? ⟨wr.heap.size, 0, none⟩ = some (.int .i64 u1) := Bc b2 (by simp) (by simp); have d2 : w2.cell? ⟨wr.heap.size, 1, none⟩ = some (.int .i64 u2) := Bc b2 (by simp) (by simp); have hbl2 : blk < w2.heap.size := by have := b2.size; simp at this; omega))
          go_roundg (d.size - (j + 1))
          case measure => omega
          case rel =>
            have hb4 := A3.out.trans (b2.mono (show B0 ≤ (wr.alloc (.cells #[.int .i64 u1, .int .i64 u2] 42)).heap.size by simp; omega))
            refine ⟨i + 1, j + 1, dk.setIfInBounds i (u1, u2), by go_num, by go_num, by omega, Nat.le_refl _, ?_, (hb4.setCell (p := ⟨blk, i * 2, none⟩) hBb _).setCell (p := ⟨blk, i * 2 + 1, none⟩) hBb _, ?_, (show Hid _ from ?_)⟩
            · have := b2.size
              simp [World.setCell] at this ⊢
              omega
            · have := set2 HK4.out (show i < dk.size by have := HKD.out; omega) (u1, u2)
              simp only [Nat.zero_add] at this
              exact this
            · have := I2.out.keep hlt (by rw [HK.out]; show (!p d[j]!) = true; rw [U.out, HQ.out]; rfl)
              rwa [U.out] at this
        · have HQ := Lib.hid hq
          go_wp2_with (first | (go_at_call 67; refine (HPr.out _ _).mono ?_; rintro e w2 ⟨rfl, hg2⟩) | (go_at_fn 67; refine (HPr.out _ _).mono ?_; rintro e w2 ⟨rfl, hg2⟩))
          go_roundg (d.size - (j + 1))
          case measure => omega
          case rel =>
            have b2 := hg2.below
            refine ⟨i, j + 1, dk, rfl, by go_num, by omega, Nat.le_refl _, by have := b2.size; simp at this; omega, A3.out.trans (b2.mono (by simp; omega)), hkBelow HK3.out (by simp; omega) b2, (show Hid _ from I2.out.skip (by rw [HK.out]; show (!p d[j]!) = false; rw [U.out, HQ.out]; rfl))⟩
      · have hjd' : j = d.size := by omega
        have hi2 : i < dk.size := by omega
        have hcl : ∀ ty, (Builtin.clear_ #[30] ty #[.slice (some ⟨blk, i * 2, none⟩) (d.size - i) (cap - i)]).run Tryz.prog wr = .ok (.tuple #[]) (wr.setCells blk (i * 2) (flat encH (List.replicate (d.size - i) (0, 0)))) := fun ty => by
          have := clear_run lenH (by omega) oneH Tryz.prog (0, 0) Tryz.underlying30 Tryz.zeroValue42 rfl hHk i hi2 (cap - i) ty
          rwa [Nat.zero_add, hds] at this
        obtain ⟨d', hs', hlow, hH'⟩ := HoldsK.lay lenH hHk (0, 0) (d.size - i) i (by omega)
        rw [Nat.zero_add] at hH'
        have JD := Lib.hid hjd'
        have L := Lib.hid hlow
        have HH' := Lib.hid hH'
        have HKD := Lib.hid hds
        have HS' := Lib.hid hs'
        have hlt' : ¬ (j : Int) < (d.size : Int) := by omega
        clear hHk hb hjd' hlow hH' hds hs'
        go_wp2
        go_ret
        have hI2 := I2.out
        rw [JD.out] at hI2
        refine ⟨by rw [hI2.len]; rfl, ⟨d', by rw [HS'.out, HKD.out], fun t ht => ?_, HH'.out⟩, ?_, Below.setCells HB2.out hBb _ _⟩
        · rw [hI2.len] at ht
          rw [hI2.low t ht, L.out t ht]
        · exact Nat.le_trans hsw (Below.setCells (Below.refl 0 wr) (Nat.zero_le blk) _ _).size
end Go.Proofs.YtahichjiphjapaaGreatDoor

/-
  order.Minus; slices.Concat at handles, order.Merge.
-/
namespace Go.Proofs.YtahichjiphjapaaGreatDoor
set_option linter.unusedSimpArgs false
set_option linter.unusedVariables false
open Go.RowKit Go.Sort Go.Lib Go.Shelf

set_option maxHeartbeats 1000000 in
set_option maxRecDepth 100000 in
theorem minusFn_call (lb : List Hd) (pb : Option Addr) (cb : Nat) (bx x1 x2 : Nat → Int) (B : Nat) (i : Nat) (W : World) (hc : W.cell? ⟨B, 0, none⟩ = some (.slice pb lb.length cb)) (hs : Sl encH W (.slice pb lb.length cb) lb) (hr : Rise ltH lb) (hlen : lb.length ≤ 100000) :
    Calls Tryz.prog 67 #[.agg #[.int .i64 (x1 i), .int .i64 (x2 i)], .pointer (some ⟨B, 0, none⟩)] W fun e w' => e = .returned (.bool (decide (((x1 i, x2 i) : Hd) ∈ lb))) ∧ Gr W w' := by
  generalize x1 i = a
  generalize x2 i = b
  have hl := cell_lt hc
  have hne : ¬ B = W.heap.size := by omega
  have HS := Lib.hid (hs.below (Ba (Below.refl _ W) (.cells #[.int .i64 a, .int .i64 b] 42)))
  have HF := Lib.hid (find_call lb _ a b _ HS.out hr hlen)
  clear hs hr
  by_cases hx : ((a, b) : Hd) ∈ lb
  · rw [if_pos hx] at HF
    have e : decide (((a, b) : Hd) ∈ lb) = true := decide_eq_true hx
    have HE := Lib.hid e
    clear hx e
    go_enter Tryz.func67, Tryz.ntmps67
    go_wp2_with (go_at_call 43; refine HF.out.mono ?_; rintro e w1 ⟨rfl, hg1⟩)
    go_ret
    exact ⟨by rw [HE.out]; simp, (by repeat (first | with_reducible exact Gr.refl _ | with_reducible assumption | with_reducible apply Gr.alloc | with_reducible apply Gr.drewN | with_reducible apply Gr.drew | with_reducible apply Gr.grow | (with_reducible refine Gr.trans ?_ (by assumption))))⟩
  · rw [if_neg hx] at HF
    have e : decide (((a, b) : Hd) ∈ lb) = false := decide_eq_false hx
    have HE := Lib.hid e
    clear hx e
    go_enter Tryz.func67, Tryz.ntmps67
    go_wp2_with (go_at_call 43; refine HF.out.mono ?_; rintro e w1 ⟨rfl, hg1⟩)
    go_ret
    exact ⟨by rw [HE.out]; simp, (by repeat (first | with_reducible exact Gr.refl _ | with_reducible assumption | with_reducible apply Gr.alloc | with_reducible apply Gr.drewN | with_reducible apply Gr.drew | with_reducible apply Gr.grow | (with_reducible refine Gr.trans ?_ (by assumption))))⟩

set_option maxHeartbeats 1000000 in
set_option maxRecDepth 100000 in
theorem delete0_call (p : Option Addr) (cap : Nat) (fv : Value) (w : World) : Calls Tryz.prog 65 #[.slice p 0 cap, fv] w fun e w' => e = .returned (.slice p 0 cap) ∧ w' = w := by
  have hI : Calls Tryz.prog 97 #[.slice p 0 cap, fv] w fun e w' => e = .returned (.int .i64 (-1)) ∧ w' = w := by
    go_enter Tryz.func97, Tryz.ntmps97
    go_wp2_with fail
    refine wp_loop_rounds 1 ?_
    rw [rounds_succ]
    go_wp2
    go_ret
    exact ⟨rfl, rfl⟩
  go_enter Tryz.func65, Tryz.ntmps65
  go_wp2_with (go_at_call 97; refine hI.mono ?_; rintro e w1 ⟨rfl, rfl⟩)
  go_ret
  exact ⟨rfl, rfl⟩

set_option maxHeartbeats 1000000 in
set_option maxRecDepth 100000 in
/-- order.Minus: what stands in the first list alone. -/
theorem minus_call (la lb : List Hd) (va vb : Value) (w : World) (ha : Sl encH w va la) (hb : Sl encH w vb lb) (hr : Rise ltH lb) (hla : la.length ≤ 100000) (hlb : lb.length ≤ 100000) :
    Calls Tryz.prog 40 #[va, vb] w fun e w' => ∃ v', e = .returned v' ∧ Own w.heap.size encH 2 w' v' (la.filter fun x => !decide (x ∈ lb)) ∧ RowKit.Below w.heap.size w w' := by
  obtain ⟨pb, cb, rfl, hb1, hb2, hb3⟩ := hb
  have HSB := Lib.hid (show Sl encH w (.slice pb lb.length cb) lb from ⟨pb, cb, rfl, hb1, hb2, hb3⟩)
  clear hb3
  obtain ⟨W0, hW0⟩ : ∃ W0, W0 = w.alloc (.cells #[.slice pb lb.length cb] 30) := ⟨_, rfl⟩
  have hWs : W0.heap.size = w.heap.size + 1 := by rw [hW0]; simp
  have B0 := Lib.hid (show RowKit.Below w.heap.size w W0 by rw [hW0]; exact Ba (Below.refl _ _) _)
  have hc : W0.cell? ⟨w.heap.size, 0, none⟩ = some (.slice pb lb.length cb) := by rw [hW0]; simp
  have hpred : Pred W0.heap.size W0 (.pointer (some ⟨w.heap.size, 0, none⟩)) (fun x => decide (x ∈ lb)) := fun W hW x1 x2 =>
    minusFn_call lb pb cb (fun _ => 0) (fun _ => x1) (fun _ => x2) w.heap.size 0 W (Bc hW (by omega) hc) ((HSB.out.below B0.out).below hW) hr hlb
  have HP := Lib.hid hpred
  have HCL := Lib.hid (cloneH_call la va W0 (ha.below B0.out) hla)
  have HW0 := Lib.hid hW0
  clear hpred ha hc hr
  go_enter Tryz.func40, Tryz.ntmps40
  go_wp2_with fail
  rw [← HW0.out]
  refine HCL.out.mono ?_
  rintro e w1 ⟨v1, rfl, ho1, _, hb1'⟩
  have B1 := Lib.hid hb1'
  obtain ⟨p, cap, rfl, h1, h2, h⟩ := ho1
  have hcm : cap ≤ 9223372036854775807 := by unfold maxLen at h2; omega
  by_cases h0 : la.length = 0
  · have hl0 : la = [] := List.length_eq_zero_iff.1 h0
    subst hl0
    have H2 := Lib.hid h2
    clear h h1 h2 hb1' HW0
    go_wp2_with fail
    refine (delete0_call p cap _ w1).mono ?_
    rintro e w2 ⟨rfl, rfl⟩
    go_wp2
    go_ret
    exact ⟨_, rfl, ⟨p, cap, rfl, Nat.zero_le _, H2.out, fun h => absurd h (by simp)⟩, B0.out.trans (B1.out.mono (by omega))⟩
  · obtain ⟨g, rfl, hbg, hgl, hH⟩ := h (by omega)
    have hcon := deleteH_call W0.heap.size W0 _ _ HP.out g cap la.toArray w1 hH hgl hbg hb1' (by simp; omega) (by simpa using h1) hcm
    simp only [List.size_toArray, List.toList_toArray] at hcon
    have HC := Lib.hid hcon
    have H2 := Lib.hid h2
    clear h hcon hb1' h2 hH HW0
    go_wp2_with fail
    refine HC.out.mono ?_
    rintro e w2 ⟨rfl, ⟨d2, hs2, hlow, hH2⟩, hsz, hb2'⟩
    have hle : (la.filter fun x => !decide (x ∈ lb)).length ≤ la.length := List.length_filter_le _ _
    have HH := Lib.hid (holds_prefix lenH hH2 (by omega) hlow)
    have BE := Lib.hid (B0.out.trans (hb2'.mono (by omega)))
    have hgl2 : g < w2.heap.size := by omega
    clear hlow hH2 hb2'
    go_wp2
    go_ret
    exact ⟨_, rfl, ⟨_, cap, rfl, by omega, H2.out, fun _ => ⟨g, rfl, by omega, hgl2, HH.out⟩⟩, BE.out⟩
end Go.Proofs.YtahichjiphjapaaGreatDoor
