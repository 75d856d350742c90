/-
  Package axis: a sweep in memory: New, Put, Drop, Len.
-/
import Derived.Test.YtbodefigeiaodaaDoorQa11
import Derived.Test.YtbodefigeiaodaaDoorPb11
namespace Go.Proofs.YtbodefigeiaodaaDoor
set_option linter.unusedSimpArgs false
set_option linter.unusedVariables false
open Go.RowKit Go.Sort Go.Lib Go.Shelf

/-- At block ps is a sweep of the boxes B; its blocks are among M. -/
def SwAt (w : World) (M : Nat → Prop) (ps : Nat) (B : List Bxd) : Prop :=
  ∃ px py Mx My, (w.heap[ps]? = some (.cells #[psP px, psP py] 107 (0, 0)) ∧ M ps) ∧ (∀ b, Mx b → M b ∧ b ≠ ps ∧ ¬ My b ∧ b < w.heap.size) ∧ (∀ b, My b → M b ∧ b ≠ ps ∧ b < w.heap.size) ∧ AxAt w Mx px (B.map xsp) ∧ AxAt w My py (B.map ysp)
section
variable {ps : Nat} {B : List Bxd} {M R : Nat → Prop} {w w' : World}
theorem SwAt.lt (h : SwAt w M ps B) : ps < w.heap.size := by
  obtain ⟨px, py, Mx, My, ⟨h1, _⟩, _⟩ := h
  exact (Array.getElem?_eq_some_iff.1 h1).1
theorem SwAt.below (h : SwAt w M ps B) (t : RowKit.Below w.heap.size w w') : SwAt w' M ps B := by
  obtain ⟨px, py, Mx, My, ⟨h1, h2⟩, h3, h4, h5, h6⟩ := h
  exact ⟨px, py, Mx, My, ⟨blk_below h1 t, h2⟩, fun b e => ⟨(h3 b e).1, (h3 b e).2.1, (h3 b e).2.2.1, Nat.lt_of_lt_of_le (h3 b e).2.2.2 t.size⟩, fun b e => ⟨(h4 b e).1, (h4 b e).2.1, Nat.lt_of_lt_of_le (h4 b e).2.2 t.size⟩, h5.below t, h6.below t⟩
theorem SwAt.mono {M' : Nat → Prop} (h : SwAt w M ps B) (hM : ∀ b, M b → M' b) : SwAt w M' ps B := by
  obtain ⟨px, py, Mx, My, ⟨h1, h2⟩, h3, h4, h5, h6⟩ := h
  exact ⟨px, py, Mx, My, ⟨h1, hM _ h2⟩, fun b e => ⟨hM _ (h3 b e).1, (h3 b e).2⟩, fun b e => ⟨hM _ (h4 b e).1, (h4 b e).2⟩, h5, h6⟩
theorem SwAt.kept (h : SwAt w R ps B) (t : Tch M w w') (hd : ∀ b, R b → ¬ M b) : SwAt w' R ps B := by
  obtain ⟨px, py, Mx, My, ⟨h1, h2⟩, h3, h4, h5, h6⟩ := h
  exact ⟨px, py, Mx, My, ⟨t.blk h1 (hd _ h2), h2⟩, fun b e => ⟨(h3 b e).1, (h3 b e).2.1, (h3 b e).2.2.1, t.lt (h3 b e).2.2.2⟩, fun b e => ⟨(h4 b e).1, (h4 b e).2.1, t.lt (h4 b e).2.2⟩, h5.kept t (fun b e => hd b (h3 b e).1), h6.kept t (fun b e => hd b (h4 b e).1)⟩
end

set_option maxHeartbeats 1000000 in
set_option maxRecDepth 100000 in
theorem newS_call (w : World) : Calls Tryd.prog 23 #[] w fun e w' => ∃ ps, e = .returned (psP ps) ∧ SwAt w' (Fresh w w') ps [] ∧ RowKit.Below w.heap.size w w' := by
  have HN := Lib.hid new_call
  unfold psP
  go_enter Tryd.func23, Tryd.ntmps23
  go_wp2_with fail
  refine (HN.out _).mono ?_
  rintro e w1 ⟨px, rfl, h1, hb1⟩
  have H1 := Lib.hid h1
  have B1 := Lib.hid hb1
  clear h1 hb1
  unfold psP
  go_wp2_with fail
  refine (HN.out _).mono ?_
  rintro e w2 ⟨py, rfl, h2, hb2⟩
  have H2 := Lib.hid h2
  have B2 := Lib.hid hb2
  clear h2 hb2
  unfold psP
  go_wp2
  go_ret
  have b3 := Ba (Below.refl _ w2) (.cells #[.pointer (some ⟨px, 0, none⟩), .pointer (some ⟨py, 0, none⟩)] 107)
  have s1 := B1.out.size
  have s2 := B2.out.size
  refine ⟨_, rfl, ⟨px, py, Fresh w w1, Fresh w1 w2, ⟨heap_alloc_new w2 _, .inr ⟨by omega, by simp⟩⟩, fun b e => e.elim (fun e => e.elim) (fun e => ⟨.inr ⟨e.1, by simp; omega⟩, by omega, fun f => f.elim (fun f => f.elim) (fun f => by omega), by simp; omega⟩), fun b e => e.elim (fun e => e.elim) (fun e => ⟨.inr ⟨by omega, by simp; omega⟩, by omega, by simp; omega⟩), (H1.out.below B2.out).below b3, H2.out.below b3⟩, Ba (Bt B1.out B2.out) _⟩

section
variable {ps : Nat} {B : List Bxd} {M : Nat → Prop} {w : World}
theorem lenS_call (hp : SwAt w M ps B) : Calls Tryd.prog 30 #[.pointer (some ⟨ps, 0, none⟩)] w fun e w' => e = .returned (.int .i64 B.length) ∧ w = w' := by
  obtain ⟨px, py, Mx, My, ⟨h1, h2⟩, h3, h4, h5, h6⟩ := hp
  obtain ⟨c0, c1, _⟩ := two_cells h1
  have hl := cell_lt c0
  have HL := Lib.hid (len_call h5)
  rw [List.length_map] at HL
  unfold psP at c0 c1
  clear h1 h2 h3 h4 h5 h6
  go_enter Tryd.func30, Tryd.ntmps30
  go_wp2_with fail
  refine HL.out.mono ?_
  rintro e w1 ⟨rfl, rfl⟩
  go_wp2
  go_ret
  exact ⟨rfl, rfl⟩
/-- The new blocks of an axis beside another one. -/
theorem SwAt.x {px py : Nat} (h1 : w.heap[ps]? = some (.cells #[psP px, psP py] 107 (0, 0))) (hps : M ps) {Mx My : Nat → Prop} (h3 : ∀ b, Mx b → M b ∧ b ≠ ps ∧ ¬ My b ∧ b < w.heap.size) (h4 : ∀ b, My b → M b ∧ b ≠ ps ∧ b < w.heap.size) {w1 w2 : World} {B' : List Bxd} (hx : AxAt w1 (New Mx w w1) px (B'.map xsp)) (tx : Tch Mx w w1) (hy : AxAt w2 (New My w1 w2) py (B'.map ysp)) (ty : Tch My w1 w2) :
    SwAt w2 (New M w w2) ps B' ∧ Tch M w w2 := by
  have hl : ps < w.heap.size := (Array.getElem?_eq_some_iff.1 h1).1
  have s1 := tx.size
  have s2 := ty.size
  have hpx : ¬ Mx ps := fun e => (h3 ps e).2.1 rfl
  have hpy : ¬ My ps := fun e => (h4 ps e).2.1 rfl
  refine ⟨⟨px, py, New Mx w w1, New My w1 w2, ⟨ty.blk (tx.blk h1 hpx) hpy, .inl hps⟩, fun b e => ?_, fun b e => ?_, hx.kept ty (fun b e f => ?_), hy⟩, ?_⟩
  · rcases e with e | e
    · exact ⟨.inl (h3 b e).1, (h3 b e).2.1, fun f => f.elim (h3 b e).2.2.1 (fun f => by have := (h3 b e).2.2.2; omega), by have := (h3 b e).2.2.2; omega⟩
    · exact ⟨.inr ⟨e.1, by omega⟩, by omega, fun f => f.elim (fun f => by have := (h4 b f).2.2; omega) (fun f => by omega), by omega⟩
  · rcases e with e | e
    · exact ⟨.inl (h4 b e).1, (h4 b e).2.1, by have := (h4 b e).2.2; omega⟩
    · exact ⟨.inr ⟨by omega, e.2⟩, by omega, e.2⟩
  · rcases e with e | e
    · exact (h3 b e).2.2.1 f
    · have := (h4 b f).2.2; omega
  · exact (tx.mono (fun b e => (h3 b e).1)).more (ty.mono (fun b e => (h4 b e).1))
/-- Is it a box? -/
def boxB (b : Bx4) : Bool := rightB b.1 b.2.1 b.2.2.1 b.2.2.2
theorem boxB_spans {b : Bx4} (h : boxB b = true) : spanB b.1 b.2.2.1 = true ∧ spanB b.2.1 b.2.2.2 = true := by
  unfold boxB rightB at h
  unfold spanB
  simp only [reachB, bothB, btw, Bool.and_eq_true, decide_eq_true_eq] at h ⊢
  omega
set_option maxHeartbeats 1000000 in
set_option maxRecDepth 100000 in
theorem putS_no (h x y a b c d : Int) (hb : boxB (a, b, c, d) = false) (t : TypeId) (u : Value) (hE : w.cell? ⟨6, 0, none⟩ = some (.iface t u)) :
    Calls Tryd.prog 24 #[.pointer (some ⟨ps, 0, none⟩), .agg #[.int .i64 x, .int .i64 y], .agg #[.int .i64 a, .int .i64 b, .int .i64 c, .int .i64 d]] w fun e w' => e = .returned (.iface t u) ∧ RowKit.Below w.heap.size w w' := by
  have HR := Lib.hid (fun W => right_any a b c d W)
  have HE := Lib.hid hE
  have hEl := cell_lt hE
  unfold boxB at hb
  dsimp only at hb
  rw [hb] at HR
  clear hE hb
  go_enter Tryd.func24, Tryd.ntmps24
  go_wp2_with fail
  refine (HR.out _).mono ?_
  rintro e w1 ⟨rfl, hg1⟩
  have hE1 := Bc (Bt (Ba (Ba (Below.refl _ w) (.cells #[.int .i64 x, .int .i64 y] 28)) (.cells #[.int .i64 a, .int .i64 b, .int .i64 c, .int .i64 d] 30)) hg1) hEl HE.out
  go_wp2
  go_ret
  exact ⟨rfl, (by repeat (first | with_reducible exact Below.refl _ _ | with_reducible assumption | with_reducible apply Ba | with_reducible apply Bd | with_reducible apply Bn | with_reducible apply Bg | (with_reducible refine Bs ?_ (by first | (simp; done) | (simp; omega)) _) | (with_reducible refine Bt ?_ (by assumption)) | (with_reducible refine Bt ?_ (Gr.below (by assumption)))))⟩
set_option maxHeartbeats 2000000 in
set_option maxRecDepth 100000 in
theorem putS_yes (hp : SwAt w M ps B) (x y a b c d : Int) (hx : HdOk (x, y)) (hb : boxB (a, b, c, d) = true) (hlen : B.length ≤ 200) (t : TypeId) (u : Value) (hE : w.cell? ⟨2, 0, none⟩ = some (.iface t u)) (hG : ¬ M 2) :
    Calls Tryd.prog 24 #[.pointer (some ⟨ps, 0, none⟩), .agg #[.int .i64 x, .int .i64 y], .agg #[.int .i64 a, .int .i64 b, .int .i64 c, .int .i64 d]] w fun e w' => e = .returned .nilIface ∧ SwAt w' (New M w w') ps (woB B (x, y) ++ [((x, y), (a, b, c, d))]) ∧ Tch M w w' := by
  obtain ⟨px, py, Mx, My, ⟨h1, h2⟩, h3, h4, h5, h6⟩ := hp
  obtain ⟨hs1, hs2⟩ := boxB_spans hb
  dsimp only at hs1 hs2
  have HR := Lib.hid (fun W => right_any a b c d W)
  unfold boxB at hb
  dsimp only at hb
  rw [hb] at HR
  clear hb
  have H1 := Lib.hid h1
  have H34 := Lib.hid (And.intro h3 h4)
  have HX := Lib.hid h5
  have HY := Lib.hid h6
  have HE := Lib.hid hE
  have HP := Lib.hid h2
  have hl1 : (B.map xsp).length ≤ 200 := by rw [List.length_map]; exact hlen
  have hl2 : (B.map ysp).length ≤ 200 := by rw [List.length_map]; exact hlen
  clear h1 h2 h3 h4 h5 h6 hE
  go_enter Tryd.func24, Tryd.ntmps24
  go_wp2_with fail
  refine (HR.out _).mono ?_
  rintro e w1 ⟨rfl, hg1⟩
  obtain ⟨k1, k2⟩ := three_blk hg1
  have hb1 := Bt (Ba (Ba (Below.refl _ w) (.cells #[.int .i64 x, .int .i64 y] 28)) (.cells #[.int .i64 a, .int .i64 b, .int .i64 c, .int .i64 d] 30)) hg1
  have k0 := blk_below H1.out hb1
  have hsz1 : w.heap.size + 2 ≤ w1.heap.size := by have := hg1.size; simp at this; omega
  have hb1d := Bd hb1
  have PX := Lib.hid (put_yes (HX.out.below hb1d) x y a c hx hs1 hl1 t u (Bc hb1d (cell_lt HE.out) HE.out))
  obtain ⟨c0, c1, _⟩ := two_cells k0
  obtain ⟨d0, d1, _⟩ := two_cells k1
  have e0 : w1.cell? ⟨w.heap.size + 1, 0, none⟩ = some (.int .i64 a) := by simp [World.cell?, k2]
  have e1 : w1.cell? ⟨w.heap.size + 1, 1, none⟩ = some (.int .i64 b) := by simp [World.cell?, k2]
  have e2 : w1.cell? ⟨w.heap.size + 1, 2, none⟩ = some (.int .i64 c) := by simp [World.cell?, k2]
  have e3 : w1.cell? ⟨w.heap.size + 1, 3, none⟩ = some (.int .i64 d) := by simp [World.cell?, k2]
  have l0 := cell_lt c0
  have l1 := cell_lt d0
  have l2 := cell_lt e0
  unfold psP at c0 c1
  have HB1 := Lib.hid hb1
  have KK := Lib.hid (And.intro k0 (And.intro k1 k2))
  clear hg1 hb1 k0 k1 k2
  go_wp2_with fail
  refine wp_region_held_drew (S := fun W => (W.cell? ⟨ps, 0, none⟩ = some (.pointer (some ⟨px, 0, none⟩)) ∧ W.cell? ⟨ps, 1, none⟩ = some (.pointer (some ⟨py, 0, none⟩))) ∧ (W.cell? ⟨w.heap.size, 0, none⟩ = some (.int .i64 x) ∧ W.cell? ⟨w.heap.size, 1, none⟩ = some (.int .i64 y)) ∧ W.cell? ⟨w.heap.size + 1, 0, none⟩ = some (.int .i64 a) ∧ W.cell? ⟨w.heap.size + 1, 1, none⟩ = some (.int .i64 b) ∧ W.cell? ⟨w.heap.size + 1, 2, none⟩ = some (.int .i64 c) ∧ W.cell? ⟨w.heap.size + 1, 3, none⟩ = some (.int .i64 d)) (by kernel_rfl) ⟨⟨c0, c1⟩, ⟨d0, d1⟩, e0, e1, e2, e3⟩ (fun hHeld => ?_)
  (refine wpAnyH_take (i := 0) (v := ?_) rfl (by kernel_rfl) (by kernel_rfl) (by kernel_rfl) (fun _ _ _ h => h) (Or.inl ⟨by rfl, ?rt⟩) (by assumption) ?_; case rt => (intro w hSw; (try dsimp only at hSw); go_simp; (try with_reducible rfl))); (try simp only [Act.put, List.getElem_toArray, List.getElem_cons_succ, List.getElem_cons_zero, List.setIfInBounds_toArray, List.set_cons_zero, List.set_cons_succ])
  (refine wpAnyH_take (i := 1) (v := ?_) rfl (by kernel_rfl) (by kernel_rfl) (by kernel_rfl) (fun _ _ _ h => h) (Or.inl ⟨by rfl, ?rt⟩) (by assumption) ?_; case rt => (intro w hSw; (try dsimp only at hSw); go_simp; (try with_reducible rfl))); (try simp only [Act.put, List.getElem_toArray, List.getElem_cons_succ, List.getElem_cons_zero, List.setIfInBounds_toArray, List.set_cons_zero, List.set_cons_succ])
  (refine wpAnyH_take (i := 2) (v := ?_) rfl (by kernel_rfl) (by kernel_rfl) (by kernel_rfl) (fun _ _ _ h => h) (Or.inl ⟨by rfl, ?rt⟩) (by assumption) ?_; case rt => (intro w hSw; (try dsimp only at hSw); go_simp; (try with_reducible rfl))); (try simp only [Act.put, List.getElem_toArray, List.getElem_cons_succ, List.getElem_cons_zero, List.setIfInBounds_toArray, List.set_cons_zero, List.set_cons_succ])
  (refine wpAnyH_take (i := 3) (v := ?_) rfl (by kernel_rfl) (by kernel_rfl) (by kernel_rfl) (fun _ _ _ h => h) (Or.inl ⟨by rfl, ?rt⟩) (by assumption) ?_; case rt => (intro w hSw; (try dsimp only at hSw); go_simp; (try with_reducible rfl))); (try simp only [Act.put, List.getElem_toArray, List.getElem_cons_succ, List.getElem_cons_zero, List.setIfInBounds_toArray, List.set_cons_zero, List.set_cons_succ])
  (refine wpAnyH_take (i := 4) (v := ?_) rfl (by kernel_rfl) (by kernel_rfl) (by kernel_rfl) (fun _ _ _ h => h) (Or.inl ⟨by rfl, ?rt⟩) (by assumption) ?_; case rt => (intro w hSw; (try dsimp only at hSw); go_simp; (try with_reducible rfl))); (try simp only [Act.put, List.getElem_toArray, List.getElem_cons_succ, List.getElem_cons_zero, List.setIfInBounds_toArray, List.set_cons_zero, List.set_cons_succ])
  (refine wpAnyH_take (i := 5) (v := ?_) rfl (by kernel_rfl) (by kernel_rfl) (by kernel_rfl) (fun _ _ _ h => h) (Or.inl ⟨by rfl, ?rt⟩) (by assumption) ?_; case rt => (intro w hSw; (try dsimp only at hSw); go_simp; (try with_reducible rfl))); (try simp only [Act.put, List.getElem_toArray, List.getElem_cons_succ, List.getElem_cons_zero, List.setIfInBounds_toArray, List.set_cons_zero, List.set_cons_succ])
  (refine wpAnyH_take (i := 6) (v := ?_) rfl (by kernel_rfl) (by kernel_rfl) (by kernel_rfl) (fun _ _ _ h => h) (Or.inl ⟨by rfl, ?rt⟩) (by assumption) ?_; case rt => (intro w hSw; (try dsimp only at hSw); go_simp; (try with_reducible rfl))); (try simp only [Act.put, List.getElem_toArray, List.getElem_cons_succ, List.getElem_cons_zero, List.setIfInBounds_toArray, List.set_cons_zero, List.set_cons_succ])
  (refine wpAnyH_take (i := 7) (v := ?_) rfl (by kernel_rfl) (by kernel_rfl) (by kernel_rfl) (fun _ _ _ h => h) (Or.inl ⟨by rfl, ?rt⟩) (by assumption) ?_; case rt => (intro w hSw; (try dsimp only at hSw); go_simp; (try with_reducible rfl))); (try simp only [Act.put, List.getElem_toArray, List.getElem_cons_succ, List.getElem_cons_zero, List.setIfInBounds_toArray, List.set_cons_zero, List.set_cons_succ])
  (refine wpAnyH_take (i := 8) (v := ?_) rfl (by kernel_rfl) (by kernel_rfl) (by kernel_rfl) (fun _ _ _ h => h) (Or.inl ⟨by rfl, ?rt⟩) (by assumption) ?_; case rt => (intro w hSw; (try dsimp only at hSw); go_simp; (try with_reducible rfl))); (try simp only [Act.put, List.getElem_toArray, List.getElem_cons_succ, List.getElem_cons_zero, List.setIfInBounds_toArray, List.set_cons_zero, List.set_cons_succ])
  refine wpAnyH_ready (rs := [9]) (by kernel_rfl) (by simp) ?_
  refine AllReadyH.cons rfl (fun K hK => ?_) AllReadyH.nil
  go_simp
  refine PX.out.mono ?_
  rintro e w2 ⟨rfl, hx2, tx2⟩
  have hM1 : ∀ b, Mx b → b ≠ ps ∧ b < w.heap.size := fun b e => ⟨(H34.out.1 b e).2.1, (H34.out.1 b e).2.2.2⟩
  have q0 := tx2.blk (show w1.drew.heap[ps]? = _ from KK.out.1) (fun e => (hM1 _ e).1 rfl)
  have q1 := tx2.blk (show w1.drew.heap[w.heap.size]? = _ from KK.out.2.1) (fun e => by have := (hM1 _ e).2; omega)
  have q2 := tx2.blk (show w1.drew.heap[w.heap.size + 1]? = _ from KK.out.2.2) (fun e => by have := (hM1 _ e).2; omega)
  obtain ⟨c0', c1', _⟩ := two_cells q0
  obtain ⟨d0', d1', _⟩ := two_cells q1
  have e0' : w2.cell? ⟨w.heap.size + 1, 0, none⟩ = some (.int .i64 a) := by simp [World.cell?, q2]
  have e1' : w2.cell? ⟨w.heap.size + 1, 1, none⟩ = some (.int .i64 b) := by simp [World.cell?, q2]
  have e2' : w2.cell? ⟨w.heap.size + 1, 2, none⟩ = some (.int .i64 c) := by simp [World.cell?, q2]
  have e3' : w2.cell? ⟨w.heap.size + 1, 3, none⟩ = some (.int .i64 d) := by simp [World.cell?, q2]
  unfold psP at c0' c1'
  have HX2 := Lib.hid hx2
  have TX2 := Lib.hid tx2
  have HYd := (HY.out.below (Bd HB1.out)).kept tx2 (fun b e f => (H34.out.1 b f).2.2.1 e)
  have hE2 : w2.cell? ⟨2, 0, none⟩ = some (.iface t u) := tx2.cell (Nat.lt_of_lt_of_le (cell_lt HE.out) HB1.out.size) (fun e => hG (H34.out.1 _ e).1) (Bc (Bd HB1.out) (cell_lt HE.out) HE.out)
  have PY := Lib.hid (put_yes (HYd.below (Bd (Below.refl _ w2))) x y b d hx hs2 hl2 t u hE2)
  have K2 := Lib.hid (And.intro q0 (And.intro q1 q2))
  clear hx2 tx2 q0 q1 q2 hM1 HYd hE2
  refine hK.out _ _ ⟨⟨c0', c1'⟩, ⟨d0', d1'⟩, e0', e1', e2', e3'⟩ (fun hHeld => ?_); clear hK K; (try simp only [Act.put, List.getElem_toArray, List.getElem_cons_succ, List.getElem_cons_zero, List.setIfInBounds_toArray, List.set_cons_zero, List.set_cons_succ])
  refine wpAnyH_done (by kernel_rfl) ?_ _
  clear hHeld c0 c1 d0 d1 e0 e1 e2 e3 l0 l1 l2
  have l0 := cell_lt c0'
  have l1 := cell_lt d0'
  have l2 := cell_lt e0'
  go_wp2_with fail
  refine wp_region_held_drew (S := fun W => (W.cell? ⟨ps, 0, none⟩ = some (.pointer (some ⟨px, 0, none⟩)) ∧ W.cell? ⟨ps, 1, none⟩ = some (.pointer (some ⟨py, 0, none⟩))) ∧ (W.cell? ⟨w.heap.size, 0, none⟩ = some (.int .i64 x) ∧ W.cell? ⟨w.heap.size, 1, none⟩ = some (.int .i64 y)) ∧ W.cell? ⟨w.heap.size + 1, 0, none⟩ = some (.int .i64 a) ∧ W.cell? ⟨w.heap.size + 1, 1, none⟩ = some (.int .i64 b) ∧ W.cell? ⟨w.heap.size + 1, 2, none⟩ = some (.int .i64 c) ∧ W.cell? ⟨w.heap.size + 1, 3, none⟩ = some (.int .i64 d)) (by kernel_rfl) ⟨⟨c0', c1'⟩, ⟨d0', d1'⟩, e0', e1', e2', e3'⟩ (fun hHeld => ?_)
  (refine wpAnyH_take (i := 0) (v := ?_) rfl (by kernel_rfl) (by kernel_rfl) (by kernel_rfl) (fun _ _ _ h => h) (Or.inl ⟨by rfl, ?rt⟩) (by assumption) ?_; case rt => (intro w hSw; (try dsimp only at hSw); go_simp; (try with_reducible rfl))); (try simp only [Act.put, List.getElem_toArray, List.getElem_cons_succ, List.getElem_cons_zero, List.setIfInBounds_toArray, List.set_cons_zero, List.set_cons_succ])
  (refine wpAnyH_take (i := 1) (v := ?_) rfl (by kernel_rfl) (by kernel_rfl) (by kernel_rfl) (fun _ _ _ h => h) (Or.inl ⟨by rfl, ?rt⟩) (by assumption) ?_; case rt => (intro w hSw; (try dsimp only at hSw); go_simp; (try with_reducible rfl))); (try simp only [Act.put, List.getElem_toArray, List.getElem_cons_succ, List.getElem_cons_zero, List.setIfInBounds_toArray, List.set_cons_zero, List.set_cons_succ])
  (refine wpAnyH_take (i := 2) (v := ?_) rfl (by kernel_rfl) (by kernel_rfl) (by kernel_rfl) (fun _ _ _ h => h) (Or.inl ⟨by rfl, ?rt⟩) (by assumption) ?_; case rt => (intro w hSw; (try dsimp only at hSw); go_simp; (try with_reducible rfl))); (try simp only [Act.put, List.getElem_toArray, List.getElem_cons_succ, List.getElem_cons_zero, List.setIfInBounds_toArray, List.set_cons_zero, List.set_cons_succ])
  (refine wpAnyH_take (i := 3) (v := ?_) rfl (by kernel_rfl) (by kernel_rfl) (by kernel_rfl) (fun _ _ _ h => h) (Or.inl ⟨by rfl, ?rt⟩) (by assumption) ?_; case rt => (intro w hSw; (try dsimp only at hSw); go_simp; (try with_reducible rfl))); (try simp only [Act.put, List.getElem_toArray, List.getElem_cons_succ, List.getElem_cons_zero, List.setIfInBounds_toArray, List.set_cons_zero, List.set_cons_succ])
  (refine wpAnyH_take (i := 4) (v := ?_) rfl (by kernel_rfl) (by kernel_rfl) (by kernel_rfl) (fun _ _ _ h => h) (Or.inl ⟨by rfl, ?rt⟩) (by assumption) ?_; case rt => (intro w hSw; (try dsimp only at hSw); go_simp; (try with_reducible rfl))); (try simp only [Act.put, List.getElem_toArray, List.getElem_cons_succ, List.getElem_cons_zero, List.setIfInBounds_toArray, List.set_cons_zero, List.set_cons_succ])
  (refine wpAnyH_take (i := 5) (v := ?_) rfl (by kernel_rfl) (by kernel_rfl) (by kernel_rfl) (fun _ _ _ h => h) (Or.inl ⟨by rfl, ?rt⟩) (by assumption) ?_; case rt => (intro w hSw; (try dsimp only at hSw); go_simp; (try with_reducible rfl))); (try simp only [Act.put, List.getElem_toArray, List.getElem_cons_succ, List.getElem_cons_zero, List.setIfInBounds_toArray, List.set_cons_zero, List.set_cons_succ])
  (refine wpAnyH_take (i := 6) (v := ?_) rfl (by kernel_rfl) (by kernel_rfl) (by kernel_rfl) (fun _ _ _ h => h) (Or.inl ⟨by rfl, ?rt⟩) (by assumption) ?_; case rt => (intro w hSw; (try dsimp only at hSw); go_simp; (try with_reducible rfl))); (try simp only [Act.put, List.getElem_toArray, List.getElem_cons_succ, List.getElem_cons_zero, List.setIfInBounds_toArray, List.set_cons_zero, List.set_cons_succ])
  (refine wpAnyH_take (i := 7) (v := ?_) rfl (by kernel_rfl) (by kernel_rfl) (by kernel_rfl) (fun _ _ _ h => h) (Or.inl ⟨by rfl, ?rt⟩) (by assumption) ?_; case rt => (intro w hSw; (try dsimp only at hSw); go_simp; (try with_reducible rfl))); (try simp only [Act.put, List.getElem_toArray, List.getElem_cons_succ, List.getElem_cons_zero, List.setIfInBounds_toArray, List.set_cons_zero, List.set_cons_succ])
  (refine wpAnyH_take (i := 8) (v := ?_) rfl (by kernel_rfl) (by kernel_rfl) (by kernel_rfl) (fun _ _ _ h => h) (Or.inl ⟨by rfl, ?rt⟩) (by assumption) ?_; case rt => (intro w hSw; (try dsimp only at hSw); go_simp; (try with_reducible rfl))); (try simp only [Act.put, List.getElem_toArray, List.getElem_cons_succ, List.getElem_cons_zero, List.setIfInBounds_toArray, List.set_cons_zero, List.set_cons_succ])
  refine wpAnyH_ready (rs := [9]) (by kernel_rfl) (by simp) ?_
  refine AllReadyH.cons rfl (fun K hK => ?_) AllReadyH.nil
  go_simp
  refine PY.out.mono ?_
  rintro e w3 ⟨rfl, hy3, ty3⟩
  have hM2 : ∀ b, My b → b ≠ ps ∧ b < w.heap.size := fun b e => ⟨(H34.out.2 b e).2.1, (H34.out.2 b e).2.2⟩
  have r0 := ty3.blk (show w2.drew.heap[ps]? = _ from K2.out.1) (fun e => (hM2 _ e).1 rfl)
  have r1 := ty3.blk (show w2.drew.heap[w.heap.size]? = _ from K2.out.2.1) (fun e => by have := (hM2 _ e).2; omega)
  have r2 := ty3.blk (show w2.drew.heap[w.heap.size + 1]? = _ from K2.out.2.2) (fun e => by have := (hM2 _ e).2; omega)
  obtain ⟨f0, f1, _⟩ := two_cells r0
  obtain ⟨g0, g1, _⟩ := two_cells r1
  unfold psP at f0 f1
  refine hK.out _ _ ⟨⟨f0, f1⟩, ⟨g0, g1⟩, by simp [World.cell?, r2], by simp [World.cell?, r2], by simp [World.cell?, r2], by simp [World.cell?, r2]⟩ (fun hHeld => ?_); clear hK K; (try simp only [Act.put, List.getElem_toArray, List.getElem_cons_succ, List.getElem_cons_zero, List.setIfInBounds_toArray, List.set_cons_zero, List.set_cons_succ])
  refine wpAnyH_done (by kernel_rfl) ?_ _
  have HF := Lib.hid (And.intro hy3 ty3)
  clear hHeld hy3 ty3 hM2 r0 r1 r2 f0 f1 g0 g1
  go_wp2
  go_ret
  have hsw := SwAt.x (w := w1.drew) (B' := woB B (x, y) ++ [((x, y), (a, b, c, d))]) (show w1.drew.heap[ps]? = _ from KK.out.1) HP.out (fun b' e => ⟨(H34.out.1 b' e).1, (H34.out.1 b' e).2.1, (H34.out.1 b' e).2.2.1, Nat.lt_of_lt_of_le (H34.out.1 b' e).2.2.2 HB1.out.size⟩) (fun b' e => ⟨(H34.out.2 b' e).1, (H34.out.2 b' e).2.1, Nat.lt_of_lt_of_le (H34.out.2 b' e).2.2 HB1.out.size⟩) (by rw [List.map_append, woB_x]; exact HX2.out) TX2.out (w2 := w3) (py := py) (by rw [List.map_append, woB_y]; exact HF.out.1) ((tch_drew My w2).more HF.out.2)
  exact ⟨rfl, hsw.1.mono (fun b' e => e.elim .inl (fun e => .inr ⟨Nat.le_trans HB1.out.size e.1, e.2⟩)), (Tch.of (Bd HB1.out)).more hsw.2⟩
end
end Go.Proofs.YtbodefigeiaodaaDoor
