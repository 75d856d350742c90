/-
  The calls of Column[int], at a column in memory.
-/
import Derived.Test.YtfoagdnbegpjeaaDoorCm
import Derived.Test.YtfoagdnbegpjeaaDoorEnc
import Derived.Lib.SliceRun
import Derived.Shelf.SlSortCmp.QuietGrown
import Derived.Deep.LoopGhost
namespace Go.Proofs.YtfoagdnbegpjeaaDoor
set_option linter.unusedSimpArgs false
set_option linter.unusedVariables false
open Go.RowKit Go.Sort Go.Lib Go.Shelf

section
variable {pa : Nat} {L : List Int} {m : Int} {M : Nat → Prop} {w : World}
/-- A column of this type. -/
abbrev ColI (w : World) (M : Nat → Prop) (pa : Nat) (L : List Int) (m : Int) : Prop := ColAt encI 3 1 66 w M pa L m

set_option maxHeartbeats 1000000 in
set_option maxRecDepth 100000 in
/-- slices.Clone. -/
theorem scloneI_call (l : List Int) (v : Value) (w : World) (hl : Sl encI w v l) (hlen : l.length ≤ 100000) :
    Calls Tryd.prog 34 #[v] w fun e w' => ∃ v', e = .returned v' ∧ (w'.ownsRow w.heap.size 3 1 v' l.length (flat encI l)) ∧ RowKit.Below w.heap.size w w' := by
  obtain ⟨p, cap, rfl, h1, h2, h⟩ := hl
  cases p with
  | none =>
    have h0 : l.length = 0 := by
      rcases Nat.eq_zero_or_pos l.length with h0 | h0
      · exact h0
      · obtain ⟨g, o, e, _⟩ := h h0; cases e
    have hl0 : l = [] := List.length_eq_zero_iff.1 h0
    subst hl0
    have q22 : ∀ (w : World) (a : Option Addr) (n c n' c' : Nat), (binOp .eql 27 (.slice a n c) (.slice none n' c')).run Tryd.prog w = .ok (.bool a.isNone) w := fun w a n c n' c' => Lib.run_eql_slice_nil w _ _ a n c n' c' Tryd.underlying27
    go_enter Tryd.func34, Tryd.ntmps34
    go_wp2
    go_ret
    exact ⟨_, rfl, World.ownsRow_nil _ _ _ _, (by repeat (first | with_reducible exact Below.refl _ _ | with_reducible assumption | with_reducible apply Ba | with_reducible apply Bd | with_reducible apply Bn | with_reducible apply Bg | (with_reducible refine Bs ?_ (by first | (simp; done) | (simp; omega)) _) | (with_reducible refine Bt ?_ (by assumption)) | (with_reducible refine Bt ?_ (Gr.below (by assumption)))))⟩
  | some ad =>
    have HS := Lib.hid (show Sl encI w (.slice (some ad) l.length cap) l from ⟨_, cap, rfl, h1, h2, h⟩)
    have O1 := Lib.hid (show (w.alloc (.cells #[] 3)).ownsRow w.heap.size 3 1 (.slice (some ⟨w.heap.size, 0, none⟩) 0 0) 0 (flat encI []) from World.ownsRow_made _ #[] 0 (Nat.le_refl _) (Nat.zero_le _) (by simp))
    have A1 := Lib.hid (Ba (Below.refl _ w) (.cells #[] 3))
    have S1 := Lib.hid (HS.out.below A1.out)
    clear h
    have q22 : ∀ (w : World) (a : Option Addr) (n c n' c' : Nat), (binOp .eql 27 (.slice a n c) (.slice none n' c')).run Tryd.prog w = .ok (.bool a.isNone) w := fun w a n c n' c' => Lib.run_eql_slice_nil w _ _ a n c n' c' Tryd.underlying27
    go_enter Tryd.func34, Tryd.ntmps34
    go_wp2_with (at_builtin; refine wpl_app apI rfl _ _ rfl w.heap.size (by rfl) (by rfl) O1.out rfl S1.out (by simp; omega) A1.out.size ?_; intro v1 w1 hown1 hgrow1 hnil1)
    have b1 := grownB A1.out O1.out hgrow1
    go_ret
    have e : [] ++ l = l := List.nil_append l
    rw [e] at hown1
    simp only [List.length_nil, Nat.zero_add] at hown1
    exact ⟨v1, rfl, hown1, b1⟩

theorem newI_call (m : Int) (w : World) : Calls Tryd.prog 8 #[.int .i64 m] w (ColNew encI 3 1 66 w [] (max m 0)) := by
  have X := Lib.hid (col_made (enc := encI) (et := 3) (k := 1) (w := w) (L := []) (v := .slice none 0 0) (Below.refl _ w) (World.ownsRow_nil _ _ _ _) 66 (max m 0))
  go_enter Tryd.func8, Tryd.ntmps8
  go_wp2
  go_ret
  exact ⟨_, rfl, X.out.at, (by repeat (first | with_reducible exact Below.refl _ _ | with_reducible assumption | with_reducible apply Ba | with_reducible apply Bd | with_reducible apply Bn | with_reducible apply Bg | (with_reducible refine Bs ?_ (by first | (simp; done) | (simp; omega)) _) | (with_reducible refine Bt ?_ (by assumption)) | (with_reducible refine Bt ?_ (Gr.below (by assumption)))))⟩

theorem isPlaceI_call (hp : ColI w M pa L m) (i : Int) : Calls Tryd.prog 33 #[.pointer (some ⟨pa, 0, none⟩), .int .i64 i] w fun e w' => e = .returned (.bool (decide (0 ≤ i ∧ i < L.length))) ∧ w = w' := by
  obtain ⟨p, cap, hi, h1, h2, _⟩ := hp.open
  have hl := hi.lt
  obtain ⟨c0, c1, f0, f1⟩ := hi.cells
  clear hi hp
  by_cases a : 0 ≤ i
  · by_cases b : i < L.length
    · have e : decide (0 ≤ i ∧ i < L.length) = true := decide_eq_true ⟨a, b⟩
      rw [e]
      clear e
      go_enter Tryd.func33, Tryd.ntmps33
      go_wp2
      go_ret
      exact ⟨rfl, rfl⟩
    · have e : decide (0 ≤ i ∧ i < L.length) = false := decide_eq_false (fun h => b h.2)
      rw [e]
      clear e
      go_enter Tryd.func33, Tryd.ntmps33
      go_wp2
      go_ret
      exact ⟨rfl, rfl⟩
  · have e : decide (0 ≤ i ∧ i < L.length) = false := decide_eq_false (fun h => a h.1)
    rw [e]
    clear e
    go_enter Tryd.func33, Tryd.ntmps33
    go_wp2
    go_ret
    exact ⟨rfl, rfl⟩

theorem lenI_call (hp : ColI w M pa L m) : Calls Tryd.prog 21 #[.pointer (some ⟨pa, 0, none⟩)] w fun e w' => e = .returned (.int .i64 L.length) ∧ w = w' := by
  obtain ⟨p, cap, hi, h1, h2, _⟩ := hp.open
  have hl := hi.lt
  obtain ⟨c0, c1, f0, f1⟩ := hi.cells
  clear hi hp
  go_enter Tryd.func21, Tryd.ntmps21
  go_wp2
  go_ret
  exact ⟨rfl, rfl⟩

theorem mostI_call (hp : ColI w M pa L m) : Calls Tryd.prog 9 #[.pointer (some ⟨pa, 0, none⟩)] w fun e w' => e = .returned (.int .i64 m) ∧ w = w' := by
  obtain ⟨p, cap, hi, h1, h2, _⟩ := hp.open
  have hl := hi.lt
  obtain ⟨c0, c1, f0, f1⟩ := hi.cells
  clear hi hp
  go_enter Tryd.func9, Tryd.ntmps9
  go_wp2
  go_ret
  exact ⟨rfl, rfl⟩

set_option maxHeartbeats 1000000 in
set_option maxRecDepth 100000 in
theorem getI_yes (hp : ColI w M pa L m) (n : Nat) (hn : n < L.length) : Calls Tryd.prog 15 #[.pointer (some ⟨pa, 0, none⟩), .int .i64 n] w fun e w' => e = .returned (.tuple #[.int .i64 L[n]!, .nilIface]) ∧ RowKit.Below w.heap.size w w' := by
  have hP := Lib.hid (isPlaceI_call hp n)
  rw [decide_eq_true (show 0 ≤ (n : Int) ∧ (n : Int) < L.length from ⟨by omega, by omega⟩)] at hP
  obtain ⟨p, cap, hi, h1, h2, h3⟩ := hp.open
  obtain ⟨g, rfl, hg⟩ := h3 (by omega)
  have hl := hi.lt
  obtain ⟨c0, c1, f0, f1⟩ := hi.cells
  have d1 := row_cell1 cI hi.2.2.1 n hn
  clear hi hp h3
  generalize L[n]! = x at d1 ⊢
  go_enter Tryd.func15, Tryd.ntmps15
  go_wp2_with (go_at_call 33; refine hP.out.mono ?_; rintro e w1 ⟨rfl, rfl⟩)
  go_ret2
  exact ⟨rfl, (by repeat (first | with_reducible exact Below.refl _ _ | with_reducible assumption | with_reducible apply Ba | with_reducible apply Bd | with_reducible apply Bn | with_reducible apply Bg | (with_reducible refine Bs ?_ (by first | (simp; done) | (simp; omega)) _) | (with_reducible refine Bt ?_ (by assumption)) | (with_reducible refine Bt ?_ (Gr.below (by assumption)))))⟩
set_option maxHeartbeats 1000000 in
set_option maxRecDepth 100000 in
theorem getI_no (hp : ColI w M pa L m) (i : Int) (hn : ¬ (0 ≤ i ∧ i < L.length)) (t : TypeId) (v : Value) (hE : w.cell? ⟨0, 0, none⟩ = some (.iface t v)) : Calls Tryd.prog 15 #[.pointer (some ⟨pa, 0, none⟩), .int .i64 i] w fun e w' => e = .returned (.tuple #[.int .i64 0, .iface t v]) ∧ RowKit.Below w.heap.size w w' := by
  have hP := Lib.hid (isPlaceI_call hp i)
  rw [decide_eq_false hn] at hP
  clear hp hn
  go_enter Tryd.func15, Tryd.ntmps15
  go_wp2_with (go_at_call 33; refine hP.out.mono ?_; rintro e w1 ⟨rfl, rfl⟩)
  go_quiet (fail)
  go_wp2
  go_ret2
  exact ⟨rfl, (by repeat (first | with_reducible exact Below.refl _ _ | with_reducible assumption | with_reducible apply Ba | with_reducible apply Bd | with_reducible apply Bn | with_reducible apply Bg | (with_reducible refine Bs ?_ (by first | (simp; done) | (simp; omega)) _) | (with_reducible refine Bt ?_ (by assumption)) | (with_reducible refine Bt ?_ (Gr.below (by assumption)))))⟩

set_option maxHeartbeats 1000000 in
set_option maxRecDepth 100000 in
theorem setI_yes (hp : ColI w M pa L m) (n : Nat) (hn : n < L.length) (x : Int) : Calls Tryd.prog 17 #[.pointer (some ⟨pa, 0, none⟩), .int .i64 n, .int .i64 x] w fun e w' => e = .returned .nilIface ∧ ColI w' (New M w w') pa (L.set n x) m ∧ Tch M w w' := by
  have hP := Lib.hid (isPlaceI_call hp n)
  rw [decide_eq_true (show 0 ≤ (n : Int) ∧ (n : Int) < L.length from ⟨by omega, by omega⟩)] at hP
  obtain ⟨p, cap, hi, h1, h2, h3⟩ := hp.open
  obtain ⟨g, rfl, hg⟩ := h3 (by omega)
  have hl := hi.lt
  obtain ⟨c0, c1, f0, f1⟩ := hi.cells
  have d1 := row_cell1 cI hi.2.2.1 n hn
  have fz := hi.2.2.1.frozenAt n
  have HI := Lib.hid hi
  clear hi hp h3
  generalize L[n]! = y at d1
  go_enter Tryd.func17, Tryd.ntmps17
  go_wp2_with (go_at_call 33; refine hP.out.mono ?_; rintro e w1 ⟨rfl, rfl⟩)
  obtain ⟨k1, t1⟩ := HI.out.cell (by decide) n (.int .i64 x) (flat1_set cI L n x) (by simp)
  go_ret
  exact ⟨rfl, k1.at.mono (fun b h => .inl h), t1⟩
set_option maxHeartbeats 1000000 in
set_option maxRecDepth 100000 in
theorem setI_no (hp : ColI w M pa L m) (i : Int) (hn : ¬ (0 ≤ i ∧ i < L.length)) (x : Int) (t : TypeId) (v : Value) (hE : w.cell? ⟨0, 0, none⟩ = some (.iface t v)) : Calls Tryd.prog 17 #[.pointer (some ⟨pa, 0, none⟩), .int .i64 i, .int .i64 x] w fun e w' => e = .returned (.iface t v) ∧ RowKit.Below w.heap.size w w' := by
  have hP := Lib.hid (isPlaceI_call hp i)
  rw [decide_eq_false hn] at hP
  clear hp hn
  go_enter Tryd.func17, Tryd.ntmps17
  go_wp2_with (go_at_call 33; refine hP.out.mono ?_; rintro e w1 ⟨rfl, rfl⟩)
  go_ret
  exact ⟨rfl, (by repeat (first | with_reducible exact Below.refl _ _ | with_reducible assumption | with_reducible apply Ba | with_reducible apply Bd | with_reducible apply Bn | with_reducible apply Bg | (with_reducible refine Bs ?_ (by first | (simp; done) | (simp; omega)) _) | (with_reducible refine Bt ?_ (by assumption)) | (with_reducible refine Bt ?_ (Gr.below (by assumption)))))⟩

set_option maxHeartbeats 1000000 in
set_option maxRecDepth 100000 in
theorem pushI_no (hp : ColI w M pa L m) (l : List Int) (vl : Value) (hv : Sl encI w vl l) (hm : 0 ≤ m) (hm2 : m ≤ 9223372036854775807) (hn : m - L.length < l.length) (t : TypeId) (v : Value) (hE : w.cell? ⟨1, 0, none⟩ = some (.iface t v)) :
    Calls Tryd.prog 12 #[.pointer (some ⟨pa, 0, none⟩), vl] w fun e w' => e = .returned (.iface t v) ∧ RowKit.Below w.heap.size w w' := by
  obtain ⟨p, cap, hi, h1, h2, h3⟩ := hp.open
  have hl := hi.lt
  obtain ⟨c0, c1, f0, f1⟩ := hi.cells
  obtain ⟨p2, cap2, rfl, q1, q2, _⟩ := hv
  unfold maxLen at q2
  clear hi hp h3
  go_enter Tryd.func12, Tryd.ntmps12
  go_wp2_with fail
  go_quiet (fail)
  go_wp2
  go_ret
  exact ⟨rfl, (by repeat (first | with_reducible exact Below.refl _ _ | with_reducible assumption | with_reducible apply Ba | with_reducible apply Bd | with_reducible apply Bn | with_reducible apply Bg | (with_reducible refine Bs ?_ (by first | (simp; done) | (simp; omega)) _) | (with_reducible refine Bt ?_ (by assumption)) | (with_reducible refine Bt ?_ (Gr.below (by assumption)))))⟩
set_option maxHeartbeats 2000000 in
set_option maxRecDepth 100000 in
theorem pushI_yes (hp : ColI w M pa L m) (l : List Int) (vl : Value) (hv : Sl encI w vl l) (hm : 0 ≤ m) (hm2 : m ≤ 9223372036854775807) (hn : ¬ m - L.length < l.length) (hlen : L.length + l.length ≤ 1000000) :
    Calls Tryd.prog 12 #[.pointer (some ⟨pa, 0, none⟩), vl] w fun e w' => e = .returned .nilIface ∧ ColI w' (New M w w') pa (L ++ l) m ∧ Tch M w w' := by
  obtain ⟨p, cap, hi, h1, h2, h3⟩ := hp.open
  have hl := hi.lt
  obtain ⟨c0, c1, f0, f1⟩ := hi.cells
  have HV := Lib.hid hv
  obtain ⟨p2, cap2, rfl, q1, q2, _⟩ := hv
  unfold maxLen at q2
  have HI := Lib.hid hi
  clear hi hp h3
  go_enter Tryd.func12, Tryd.ntmps12
  go_wp2_with fail
  go_quiet (fail)
  have P1 := Lib.hid (HI.out.below (Bn (Below.refl _ w)) : ColIs encI 3 1 66 (w.drewN nq) M pa _ L m)
  have V1 := Lib.hid (HV.out.below (Bn (Below.refl _ w)) : Sl encI (w.drewN nq) _ l)
  go_wp2_with (at_builtin; refine wpl_app2 apI rfl _ _ rfl 0 (by rfl) (by rfl) P1.out.2.2.1 rfl V1.out hlen (Nat.zero_le _) ?_; intro v4 w4 hown4 hgrow4 hat4 _; obtain ⟨p4, c4, rfl, _, _, _⟩ := row_val hown4; have hrow4 := Lib.hid (row_grown P1.out.2.2.2 hown4 hgrow4 hat4); have G4 := Lib.hid (P1.out.grown (by decide) hgrow4); obtain ⟨z0, _, z1, _⟩ := two_cells G4.out; clear hown4 hgrow4 hat4)
  obtain ⟨P5, t5⟩ := col_put (T := 66) (M := New M w w4) (by decide) G4.out (.inl P1.out.2.1) hrow4.out.1
  have hlenS : (L ++ l).length = L.length + l.length := by simp
  rw [hlenS] at P5 t5
  go_ret
  exact ⟨rfl, P5.at.mono (New.mono (by simp)), ((Tch.of (Bn (Below.refl _ w))).more hrow4.out.2).trans t5⟩

theorem takeI_no (hp : ColI w M pa L m) (i : Int) (hn : ¬ (0 ≤ i ∧ i < L.length)) (t : TypeId) (v : Value) (hE : w.cell? ⟨0, 0, none⟩ = some (.iface t v)) : Calls Tryd.prog 18 #[.pointer (some ⟨pa, 0, none⟩), .int .i64 i] w fun e w' => e = .returned (.tuple #[.int .i64 0, .iface t v]) ∧ RowKit.Below w.heap.size w w' := by
  have hG := Lib.hid (getI_no hp i hn t v hE)
  clear hp hn
  go_enter Tryd.func18, Tryd.ntmps18
  go_wp2_with (go_at_call 15; refine hG.out.mono ?_; rintro e w1 ⟨rfl, hb1⟩)
  go_ret2
  exact ⟨rfl, (by repeat (first | with_reducible exact Below.refl _ _ | with_reducible assumption | with_reducible apply Ba | with_reducible apply Bd | with_reducible apply Bn | with_reducible apply Bg | (with_reducible refine Bs ?_ (by first | (simp; done) | (simp; omega)) _) | (with_reducible refine Bt ?_ (by assumption)) | (with_reducible refine Bt ?_ (Gr.below (by assumption)))))⟩
set_option maxHeartbeats 2000000 in
set_option maxRecDepth 100000 in
theorem takeI_yes (hp : ColI w M pa L m) (n : Nat) (hn : n < L.length) : Calls Tryd.prog 18 #[.pointer (some ⟨pa, 0, none⟩), .int .i64 n] w fun e w' => e = .returned (.tuple #[.int .i64 L[n]!, .nilIface]) ∧ ColI w' (New M w w') pa (takeC L n) m ∧ Tch M w w' := by
  have hG := Lib.hid (getI_yes hp n hn)
  have hL := Lib.hid (fun W (h : RowKit.Below w.heap.size w W) => lenI_call (hp.below h))
  obtain ⟨p, cap, hi, h1, h2, h3⟩ := hp.open
  obtain ⟨g, rfl, hg⟩ := h3 (by omega)
  have hl := hi.lt
  have HI := Lib.hid hi
  have hne : g ≠ pa := by
    obtain ⟨c, hc⟩ := row_type hi.2.2.1 (g := g) rfl
    exact type_apart hc hi.1 (by decide)
  clear hi hp h3
  have HX := Lib.hid (show (.int .i64 L[n]! : Value) = .int .i64 L[n]! from rfl)
  generalize hxn : (.int .i64 L[n]! : Value) = xn at hG ⊢
  clear hxn
  go_enter Tryd.func18, Tryd.ntmps18
  go_wp2_with (first | (go_at_call 15; refine hG.out.mono ?_; rintro e w1 ⟨rfl, hb1⟩; have B1 := Lib.hid hb1; clear hb1) | (go_at_call 21; refine (hL.out _ B1.out).mono ?_; rintro e w2 ⟨rfl, rfl⟩))
  obtain ⟨q, hq⟩ : ∃ q, L.length = q + 1 := ⟨L.length - 1, by omega⟩
  have hll : (L.length : Int) - 1 = (q : Int) := by omega
  rw [hll]
  clear hll
  have hqL : q < L.length := by omega
  have hqc : q < cap := by omega
  have hqc2 : ¬ cap = q := by omega
  have hqi : (q : Int) < (L.length : Int) := by omega
  have h1q : L.length - q = 1 := by omega
  have P1 := Lib.hid (HI.out.below B1.out)
  obtain ⟨k0, _, kf, _⟩ := P1.out.cells
  have d1 := row_cell1 cI P1.out.2.2.1 n hn
  have d2 := row_cell1 cI P1.out.2.2.1 q hqL
  have fz := P1.out.2.2.1.frozenAt n
  have hl1 := Bl B1.out hl
  generalize L[n]! = y at d1
  generalize hz : L[q]! = z at d2
  have HZ := Lib.hid hz
  clear hz
  have HQ := Lib.hid hq
  have H1Q := Lib.hid h1q
  clear hq h1q
  have hs : (flat encI L).set n (.int .i64 z) = flat encI (L.set n z) := flat1_set cI L n z
  obtain ⟨P2, t2⟩ := P1.out.cell (by decide) n (.int .i64 z) hs (List.length_set ..)
  have hst : (w1.setCell ⟨g, n, none⟩ (.int .i64 z)).drew.cell? ⟨pa, 0, none⟩ = some (.slice (some ⟨g, 0, none⟩) L.length cap) ∧ (w1.setCell ⟨g, n, none⟩ (.int .i64 z)).drew.cell? ⟨g, q, none⟩ = some (.int .i64 z) := by
    refine ⟨P2.cells.1, ?_⟩
    have hr := P2.2.2.1
    rw [List.length_set] at hr
    have := row_cell1 cI hr q (by simpa using hqL)
    rw [getElem!_pos _ _ (by simpa using hqL), List.getElem_set] at this
    refine Eq.trans this ?_
    split
    · rfl
    · rw [← HZ.out, getElem!_pos L _ hqL]
  go_region_held3 (fun w' => w'.cell? ⟨pa, 0, none⟩ = some (.slice (some ⟨g, 0, none⟩) L.length cap) ∧ w'.cell? ⟨g, q, none⟩ = some (.int .i64 z)) (first | exact ⟨k0, d2⟩ | exact hst) (fail)
  all_goals
    obtain ⟨W1, hW1⟩ : ∃ W1, W1 = (w1.setCell ⟨g, n, none⟩ (.int .i64 z)).drew := ⟨_, rfl⟩
    have P3 : ColIs encI 3 1 66 W1 M pa (.slice (some ⟨g, 0, none⟩) L.length cap) (L.set n z) m := by rw [hW1]; exact P2
    have t3 : Tch M w W1 := by rw [hW1]; exact (Tch.of B1.out).more (t2.more (Tch.of (Bd (Below.refl _ _))))
    rw [← hW1]
    clear hW1 hst P2 t2 d1 d2 k0 kf fz hs
    have hW2 : ∃ W2, (∀ ty, (Builtin.clear_ #[27] ty #[.slice (some ⟨g, q, none⟩) (L.length - q) (cap - q)]).run Tryd.prog W1 = .ok (.tuple #[]) W2) ∧ ColIs encI 3 1 66 W2 M pa (.slice (some ⟨g, 0, none⟩) L.length cap) ((L.set n z).set q (0 : Int)) m ∧ Tch M W1 W2 := by
      obtain ⟨P4, t4⟩ := P3.cell (by decide) q (.int .i64 0) (flat1_set cI (L.set n z) q (0 : Int)) (List.length_set ..)
      refine ⟨_, fun ty => ?_, P4, t4⟩
      have hr := P3.2.2.1
      rw [List.length_set] at hr
      rw [H1Q.out]
      have := Lib.run_clear_slice (P := Tryd.prog) W1 27 3 ty (.int .i64 0) Tryd.underlying27 (fun w => by kernel_rfl) rfl rfl g q 1 (cap - q) (by omega) (fun j hj => by
        obtain rfl : j = 0 := by omega
        rw [row_cell1 cI hr (q + 0) (by simpa using hqL)]; rfl) (fun j hj => hr.frozenAt (q + j))
      exact this
    obtain ⟨W2, hcl, P4, t4⟩ := hW2
    have HP4 := Lib.hid P4
    have HT4 := Lib.hid (t3.more t4)
    obtain ⟨u0, _, uf, _⟩ := P3.cells
    obtain ⟨k0, _, kf, _⟩ := P4.cells
    have hl2 := P3.lt
    have hl3 := P4.lt
    clear P3 P4 t3 t4
    go_wp2
    obtain ⟨P5, t5⟩ := HP4.out.front (by decide) lenI q (by simp; omega)
    rw [← HZ.out, takeC_eq L n q (0 : Int) HQ.out] at P5
    go_ret2
    exact ⟨rfl, P5.at.mono (fun b h => .inl h), HT4.out.more t5⟩

theorem allI_call (hp : ColI w M pa L m) (hlen : L.length ≤ 100000) : Calls Tryd.prog 23 #[.pointer (some ⟨pa, 0, none⟩)] w fun e w' => ∃ v, e = .returned v ∧ w'.ownsRow w.heap.size 3 1 v L.length (flat encI L) ∧ RowKit.Below w.heap.size w w' := by
  obtain ⟨p, cap, hi, h1, h2, _⟩ := hp.open
  have hl := hi.lt
  obtain ⟨c0, c1, f0, f1⟩ := hi.cells
  have hC := Lib.hid (scloneI_call L _ w (hi.2.2.sl lenI) hlen)
  clear hi hp
  go_enter Tryd.func23, Tryd.ntmps23
  go_wp2_with (go_at_call 34; refine hC.out.mono ?_; rintro e w1 ⟨v1, rfl, ho1, hb1⟩; obtain ⟨p1, c1', rfl, _, _, _⟩ := row_val ho1)
  go_ret
  exact ⟨_, rfl, ho1, hb1⟩

set_option maxHeartbeats 1000000 in
set_option maxRecDepth 100000 in
theorem cloneI_call (hp : ColI w M pa L m) (hlen : L.length ≤ 100000) : Calls Tryd.prog 20 #[.pointer (some ⟨pa, 0, none⟩)] w (ColNew encI 3 1 66 w L m) := by
  have HA := Lib.hid (fun W (h : RowKit.Below w.heap.size w W) => (allI_call (hp.below h) hlen).mono (fun e w' (q : ∃ v', e = .returned v' ∧ _ ∧ RowKit.Below W.heap.size W w') => (show ∃ v', e = .returned v' ∧ w'.ownsRow w.heap.size 3 1 v' L.length (flat encI L) ∧ RowKit.Below W.heap.size W w' from q.imp fun v' ⟨he, ho, hb⟩ => ⟨he, row_mono ho h.size, hb⟩)))
  obtain ⟨p, cap, hi, h1, h2, _⟩ := hp.open
  have hl := hi.lt
  obtain ⟨c0, c1, f0, f1⟩ := hi.cells
  clear hi hp
  go_enter Tryd.func20, Tryd.ntmps20
  go_wp2_with fail
  go_region_held3 (fun w' => RowKit.Below w.heap.size w w' ∧ ∀ b_1 o, b_1 < w.heap.size → w'.cell? ⟨b_1, o, none⟩ = w.cell? ⟨b_1, o, none⟩) (first | exact keep0 _ | exact keepB (by assumption) hb1 | exact keepA (by assumption) _ | assumption) ((go_at_call 23; refine (HA.out _ (Bd (Below.refl _ w))).mono ?_; rintro e w1 ⟨v1, rfl, ho1, hb1⟩; obtain ⟨p1, c1', rfl, _, _, _⟩ := row_val ho1; have X1 := Lib.hid (col_made (Bt (Bd (Below.refl _ w)) hb1) ho1 66 m); clear ho1))
  all_goals
    go_wp2
    go_ret
    exact ⟨_, rfl, X1.out.at, Ba (Bt (Bd (Below.refl _ w)) hb1) _⟩
end
end Go.Proofs.YtfoagdnbegpjeaaDoor
