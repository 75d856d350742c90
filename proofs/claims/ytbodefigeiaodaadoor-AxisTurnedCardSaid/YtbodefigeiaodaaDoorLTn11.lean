/-
  The walk of AxisTurned.
-/
import Derived.Test.YtbodefigeiaodaaDoorBx11
namespace Go.Proofs.YtbodefigeiaodaaDoor
set_option linter.unusedSimpArgs false
set_option linter.unusedVariables false
open Go.RowKit Go.Sort Go.Lib Go.Shelf

theorem boxB_flip (b : Bx4) : boxB (flipB b) = boxB b := by
  unfold boxB flipB rightB
  simp only [reachB, bothB, btw]
  rw [Bool.eq_iff_iff]
  simp only [Bool.and_eq_true, decide_eq_true_eq]
  omega
theorem swT_same (l : List Bx4) (i : Nat) : pairsB (swT boxB id l i) = pairsB (swT boxB flipB l i) := by
  rw [swT_flip boxB boxB_flip, pairsB_turn]
set_option maxHeartbeats 4000000 in
set_option maxRecDepth 100000 in
theorem axisTurned_walk (l : List Bx4) (v : Value) (W : World) (hv : Sl encX W v l) (t t2 : TypeId) (ue uf : Value) (hE : W.cell? ⟨2, 0, none⟩ = some (.iface t ue)) (hF : W.cell? ⟨6, 0, none⟩ = some (.iface t2 uf)) :
    Calls Tryd.prog 6 #[v] W fun e w' => e = .returned (.bool true) ∧ RowKit.Below W.heap.size W w' := by
  obtain ⟨p0, c0, rfl, v1, v2, v3⟩ := hv
  unfold maxLen at v2
  have HV := Lib.hid v3
  have HE := Lib.hid (And.intro hE hF)
  have hel := cell_lt hE
  have hfl := cell_lt hF
  have AL := Lib.hid (alive_any W t ue hE)
  have NS := Lib.hid newS_call
  unfold psP at NS
  clear v3 hE hF
  by_cases h1 : l.length ≤ 40
  case neg =>
    have hz : (l.length : Int) > 40 := by omega
    go_enter Tryd.func6, Tryd.ntmps6
    go_wp2_with fail
    refine AL.out.mono ?_
    rintro e w1 ⟨rfl, hb1⟩
    go_wp2
    go_ret
    exact ⟨rfl, hb1⟩
  have hz : ¬ (l.length : Int) > 40 := by omega
  go_enter Tryd.func6, Tryd.ntmps6
  go_wp2_with fail
  refine AL.out.mono ?_
  rintro e w1 ⟨rfl, hb1⟩
  have B1 := Lib.hid hb1
  clear hb1 AL
  go_wp2_with fail
  refine (NS.out _).mono ?_
  rintro e w2 ⟨pa, rfl, hp2, hb2⟩
  have O2 := Lib.hid (OO.new (P := SwB pa []) (Z := NoZ) (base := W.heap.size) hp2 B1.out.size hb2.size (fun b e => e.elim))
  have B2 := Lib.hid (Bt B1.out hb2)
  clear hp2 hb2
  go_wp2_with fail
  refine (NS.out _).mono ?_
  rintro e w3 ⟨pb, rfl, hp3, hb3⟩
  have O3 := Lib.hid (OO.beside (fr_sw pa []) (fr_sw pb []) O2.out hp3 hb3)
  have B3 := Lib.hid (Bt B2.out hb3)
  clear hp3 hb3
  go_wp2
  go_loopw [17] (fun u wr => ∃ i : Nat, u = .int .i64 i ∧ i ≤ l.length ∧ OO (And2 (SwB pa (swT boxB id l i)) (SwB pb (swT boxB flipB l i))) NoZ W.heap.size wr ∧ RowKit.Below W.heap.size W wr) (fun u _ => l.length - (intOf u).toNat)
  case atStart => exact ⟨0, rfl, Nat.zero_le _, O3.out, B3.out⟩
  case round =>
    obtain ⟨i, rfl, hi, hO, hb⟩ := hrel
    have HO := Lib.hid hO
    have HB := Lib.hid hb
    clear hO hb O2 O3 B1 B2 B3
    by_cases hlt : i < l.length
    · obtain ⟨g, o, rfl, hg1, hcs⟩ := HV.out (by omega)
      obtain ⟨c1, c2, c3, c4⟩ := atX hcs hlt
      replace c1 := Bc HB.out hg1 c1
      replace c2 := Bc HB.out hg1 c2
      replace c3 := Bc HB.out hg1 c3
      replace c4 := Bc HB.out hg1 c4
      have hgr := cell_lt c1
      have la := swT_len boxB id l i
      have lb := swT_len boxB flipB l i
      have ea : swT boxB id l (i + 1) = if boxB l[i]! then woB (swT boxB id l i) ((i : Int), 1) ++ [(((i : Int), 1), l[i]!)] else swT boxB id l i := rfl
      have eb : swT boxB flipB l (i + 1) = if boxB (flipB l[i]!) then woB (swT boxB flipB l i) ((i : Int), 1) ++ [(((i : Int), 1), flipB l[i]!)] else swT boxB flipB l i := rfl
      have ef := boxB_flip l[i]!
      generalize swT boxB id l i = A at *
      generalize swT boxB flipB l i = A' at *
      generalize l[i]! = x at *
      obtain ⟨x1, x2, x3, x4⟩ := x
      dsimp only [flipB] at c1 c2 c3 c4 ea eb ef
      have hx := hd_small i (by omega)
      have PA := Lib.hid (fun (w : World) (hE : w.cell? ⟨2, 0, none⟩ = some (.iface t ue)) (hF : w.cell? ⟨6, 0, none⟩ = some (.iface t2 uf)) (BB : List Bxd) => asks_1 (base := W.heap.size) (fr_sw pb BB) (asks_putAny (ps := pa) (B := A) (i : Int) 1 x1 x2 x3 x4 hx (by omega) hE hF hel))
      have PB := Lib.hid (fun (w : World) (hE : w.cell? ⟨2, 0, none⟩ = some (.iface t ue)) (hF : w.cell? ⟨6, 0, none⟩ = some (.iface t2 uf)) (AA : List Bxd) => asks_2 (base := W.heap.size) (fr_sw pa AA) (asks_putAny (ps := pb) (B := A') (i : Int) 1 x2 x1 x4 x3 hx (by omega) hE hF hel))
      replace eb : swT boxB flipB l (i + 1) = if boxB (x2, x1, x4, x3) then woB A' ((i : Int), 1) ++ [(((i : Int), 1), (x2, x1, x4, x3))] else A' := eb
      rw [← ea] at PA
      rw [← eb] at PB
      rw [ef] at PB
      have EA := Lib.hid (And.intro ea eb)
      generalize hA2 : swT boxB id l (i + 1) = A2 at *
      generalize hA2' : swT boxB flipB l (i + 1) = A2' at *
      have HA2 := Lib.hid (And.intro hA2 hA2')
      generalize hbx : boxB (x1, x2, x3, x4) = bx at *
      clear ea eb ef hbx hcs la lb EA hA2 hA2'
      cases bx
      all_goals
        simp only [if_true, Bool.false_eq_true, if_false] at PA PB
        have hb2 : RowKit.Below wr.heap.size wr ((wr.alloc (.cells #[.int .i64 x1, .int .i64 x2, .int .i64 x3, .int .i64 x4] 30)).alloc (.cells #[.int .i64 i, .int .i64 1] 28)) := Ba (Ba (Below.refl _ wr) _) _
        obtain ⟨k1, k2⟩ := three_blk (w := wr) (o1 := .cells #[.int .i64 x1, .int .i64 x2, .int .i64 x3, .int .i64 x4] 30) (o2 := .cells #[.int .i64 i, .int .i64 1] 28) (w3 := ((wr.alloc (.cells #[.int .i64 x1, .int .i64 x2, .int .i64 x3, .int .i64 x4] 30)).alloc (.cells #[.int .i64 i, .int .i64 1] 28)).drew) (Bd (Below.refl _ _))
        have OZ : OO (And2 (SwB pa A) (SwB pb A')) (fun b => b = wr.heap.size ∨ b = wr.heap.size + 1) W.heap.size ((wr.alloc (.cells #[.int .i64 x1, .int .i64 x2, .int .i64 x3, .int .i64 x4] 30)).alloc (.cells #[.int .i64 i, .int .i64 1] 28)).drew :=
          HO.out.turn (fr_and (fr_sw pa A) (fr_sw pb A')) (Tch.of (Bd hb2)) (fun b e => ⟨by have := HB.out.size; rcases e with e | e <;> omega, by show b < ((wr.alloc (.cells #[.int .i64 x1, .int .i64 x2, .int .i64 x3, .int .i64 x4] 30)).alloc (.cells #[.int .i64 i, .int .i64 1] 28)).heap.size; simp; omega⟩)
        have hBd : RowKit.Below W.heap.size W ((wr.alloc (.cells #[.int .i64 x1, .int .i64 x2, .int .i64 x3, .int .i64 x4] 30)).alloc (.cells #[.int .i64 i, .int .i64 1] 28)).drew := Bt HB.out (Bd hb2)
        have hE1 := Bc hBd hel HE.out.1
        have hF1 := Bc hBd hfl HE.out.2
        have HOZ := Lib.hid (And.intro OZ (And.intro hBd (And.intro hE1 (And.intro hF1 (And.intro k1 k2)))))
        obtain ⟨e1, e2, _⟩ := two_cells k2
        have d1 : ((wr.alloc (.cells #[.int .i64 x1, .int .i64 x2, .int .i64 x3, .int .i64 x4] 30)).alloc (.cells #[.int .i64 i, .int .i64 1] 28)).drew.cell? ⟨wr.heap.size, 0, none⟩ = some (.int .i64 x1) := by simp [World.cell?, k1]
        have d2 : ((wr.alloc (.cells #[.int .i64 x1, .int .i64 x2, .int .i64 x3, .int .i64 x4] 30)).alloc (.cells #[.int .i64 i, .int .i64 1] 28)).drew.cell? ⟨wr.heap.size, 1, none⟩ = some (.int .i64 x2) := by simp [World.cell?, k1]
        have d3 : ((wr.alloc (.cells #[.int .i64 x1, .int .i64 x2, .int .i64 x3, .int .i64 x4] 30)).alloc (.cells #[.int .i64 i, .int .i64 1] 28)).drew.cell? ⟨wr.heap.size, 2, none⟩ = some (.int .i64 x3) := by simp [World.cell?, k1]
        have d4 : ((wr.alloc (.cells #[.int .i64 x1, .int .i64 x2, .int .i64 x3, .int .i64 x4] 30)).alloc (.cells #[.int .i64 i, .int .i64 1] 28)).drew.cell? ⟨wr.heap.size, 3, none⟩ = some (.int .i64 x4) := by simp [World.cell?, k1]
        have HD := Lib.hid (And.intro d1 (And.intro d2 (And.intro d3 (And.intro d4 (And.intro e1 e2)))))
        clear OZ hBd hE1 hF1 k1 k2 d1 d2 d3 d4 e1 e2 hb2
        go_wp2_with fail
        generalize hwa : ((wr.alloc (.cells #[.int .i64 x1, .int .i64 x2, .int .i64 x3, .int .i64 x4] 30)).alloc (.cells #[.int .i64 i, .int .i64 1] 28)) = wa at *
        have hxs : wr.heap.size < wa.heap.size ∧ wr.heap.size + 1 < wa.heap.size := by rw [← hwa]; simp; omega
        generalize wr.heap.size = xb at *
        clear hwa
        obtain ⟨d1, d2, d3, d4, e1, e2⟩ := HD.out
        obtain ⟨lx1, lx2⟩ := hxs
        refine wp_region_held_drew (S := fun W2 => (W2.cell? ⟨xb, 0, none⟩ = some (.int .i64 x1) ∧ W2.cell? ⟨xb, 1, none⟩ = some (.int .i64 x2) ∧ W2.cell? ⟨xb, 2, none⟩ = some (.int .i64 x3) ∧ W2.cell? ⟨xb, 3, none⟩ = some (.int .i64 x4)) ∧ W2.cell? ⟨xb + 1, 0, none⟩ = some (.int .i64 i) ∧ W2.cell? ⟨xb + 1, 1, none⟩ = some (.int .i64 1)) (by kernel_rfl) ⟨⟨d1, d2, d3, d4⟩, e1, e2⟩ (fun hHeld => ?_)
        (refine wpAnyH_take (i := 0) (v := ?_) rfl (by kernel_rfl) (by kernel_rfl) (by kernel_rfl) (fun _ _ _ h => h) (Or.inl ⟨by rfl, ?rt⟩) (by assumption) ?_; case rt => (intro w hSw; (try dsimp only at hSw); go_simp; (try with_reducible rfl))); (try simp only [Act.put, List.getElem_toArray, List.getElem_cons_succ, List.getElem_cons_zero, List.setIfInBounds_toArray, List.set_cons_zero, List.set_cons_succ])
        (refine wpAnyH_take (i := 1) (v := ?_) rfl (by kernel_rfl) (by kernel_rfl) (by kernel_rfl) (fun _ _ _ h => h) (Or.inl ⟨by rfl, ?rt⟩) (by assumption) ?_; case rt => (intro w hSw; (try dsimp only at hSw); go_simp; (try with_reducible rfl))); (try simp only [Act.put, List.getElem_toArray, List.getElem_cons_succ, List.getElem_cons_zero, List.setIfInBounds_toArray, List.set_cons_zero, List.set_cons_succ])
        (refine wpAnyH_take (i := 2) (v := ?_) rfl (by kernel_rfl) (by kernel_rfl) (by kernel_rfl) (fun _ _ _ h => h) (Or.inl ⟨by rfl, ?rt⟩) (by assumption) ?_; case rt => (intro w hSw; (try dsimp only at hSw); go_simp; (try with_reducible rfl))); (try simp only [Act.put, List.getElem_toArray, List.getElem_cons_succ, List.getElem_cons_zero, List.setIfInBounds_toArray, List.set_cons_zero, List.set_cons_succ])
        (refine wpAnyH_take (i := 5) (v := ?_) rfl (by kernel_rfl) (by kernel_rfl) (by kernel_rfl) (fun _ _ _ h => h) (Or.inl ⟨by rfl, ?rt⟩) (by assumption) ?_; case rt => (intro w hSw; (try dsimp only at hSw); go_simp; (try with_reducible rfl))); (try simp only [Act.put, List.getElem_toArray, List.getElem_cons_succ, List.getElem_cons_zero, List.setIfInBounds_toArray, List.set_cons_zero, List.set_cons_succ])
        (refine wpAnyH_take (i := 6) (v := ?_) rfl (by kernel_rfl) (by kernel_rfl) (by kernel_rfl) (fun _ _ _ h => h) (Or.inl ⟨by rfl, ?rt⟩) (by assumption) ?_; case rt => (intro w hSw; (try dsimp only at hSw); go_simp; (try with_reducible rfl))); (try simp only [Act.put, List.getElem_toArray, List.getElem_cons_succ, List.getElem_cons_zero, List.setIfInBounds_toArray, List.set_cons_zero, List.set_cons_succ])
        (refine wpAnyH_take (i := 7) (v := ?_) rfl (by kernel_rfl) (by kernel_rfl) (by kernel_rfl) (fun _ _ _ h => h) (Or.inl ⟨by rfl, ?rt⟩) (by assumption) ?_; case rt => (intro w hSw; (try dsimp only at hSw); go_simp; (try with_reducible rfl))); (try simp only [Act.put, List.getElem_toArray, List.getElem_cons_succ, List.getElem_cons_zero, List.setIfInBounds_toArray, List.set_cons_zero, List.set_cons_succ])
        (refine wpAnyH_take (i := 8) (v := ?_) rfl (by kernel_rfl) (by kernel_rfl) (by kernel_rfl) (fun _ _ _ h => h) (Or.inl ⟨by rfl, ?rt⟩) (by assumption) ?_; case rt => (intro w hSw; (try dsimp only at hSw); go_simp; (try with_reducible rfl))); (try simp only [Act.put, List.getElem_toArray, List.getElem_cons_succ, List.getElem_cons_zero, List.setIfInBounds_toArray, List.set_cons_zero, List.set_cons_succ])
        (refine wpAnyH_take (i := 9) (v := ?_) rfl (by kernel_rfl) (by kernel_rfl) (by kernel_rfl) (fun _ _ _ h => h) (Or.inl ⟨by rfl, ?rt⟩) (by assumption) ?_; case rt => (intro w hSw; (try dsimp only at hSw); go_simp; (try with_reducible rfl))); (try simp only [Act.put, List.getElem_toArray, List.getElem_cons_succ, List.getElem_cons_zero, List.setIfInBounds_toArray, List.set_cons_zero, List.set_cons_succ])
        (refine wpAnyH_take (i := 10) (v := ?_) rfl (by kernel_rfl) (by kernel_rfl) (by kernel_rfl) (fun _ _ _ h => h) (Or.inl ⟨by rfl, ?rt⟩) (by assumption) ?_; case rt => (intro w hSw; (try dsimp only at hSw); go_simp; (try with_reducible rfl))); (try simp only [Act.put, List.getElem_toArray, List.getElem_cons_succ, List.getElem_cons_zero, List.setIfInBounds_toArray, List.set_cons_zero, List.set_cons_succ])
        (refine wpAnyH_take (i := 11) (v := ?_) rfl (by kernel_rfl) (by kernel_rfl) (by kernel_rfl) (fun _ _ _ h => h) (Or.inl ⟨by rfl, ?rt⟩) (by assumption) ?_; case rt => (intro w hSw; (try dsimp only at hSw); go_simp; (try with_reducible rfl))); (try simp only [Act.put, List.getElem_toArray, List.getElem_cons_succ, List.getElem_cons_zero, List.setIfInBounds_toArray, List.set_cons_zero, List.set_cons_succ])
        (refine wpAnyH_take (i := 12) (v := ?_) rfl (by kernel_rfl) (by kernel_rfl) (by kernel_rfl) (fun _ _ _ h => h) (Or.inl ⟨by rfl, ?rt⟩) (by assumption) ?_; case rt => (intro w hSw; (try dsimp only at hSw); go_simp; (try with_reducible rfl))); (try simp only [Act.put, List.getElem_toArray, List.getElem_cons_succ, List.getElem_cons_zero, List.setIfInBounds_toArray, List.set_cons_zero, List.set_cons_succ])
        (refine wpAnyH_take (i := 13) (v := ?_) rfl (by kernel_rfl) (by kernel_rfl) (by kernel_rfl) (fun _ _ _ h => h) (Or.inl ⟨by rfl, ?rt⟩) (by assumption) ?_; case rt => (intro w hSw; (try dsimp only at hSw); go_simp; (try with_reducible rfl))); (try simp only [Act.put, List.getElem_toArray, List.getElem_cons_succ, List.getElem_cons_zero, List.setIfInBounds_toArray, List.set_cons_zero, List.set_cons_succ])
        (refine wpAnyH_take (i := 14) (v := ?_) rfl (by kernel_rfl) (by kernel_rfl) (by kernel_rfl) (fun _ _ _ h => h) (Or.inl ⟨by rfl, ?rt⟩) (by assumption) ?_; case rt => (intro w hSw; (try dsimp only at hSw); go_simp; (try with_reducible rfl))); (try simp only [Act.put, List.getElem_toArray, List.getElem_cons_succ, List.getElem_cons_zero, List.setIfInBounds_toArray, List.set_cons_zero, List.set_cons_succ])
        (refine wpAnyH_take (i := 15) (v := ?_) rfl (by kernel_rfl) (by kernel_rfl) (by kernel_rfl) (fun _ _ _ h => h) (Or.inl ⟨by rfl, ?rt⟩) (by assumption) ?_; case rt => (intro w hSw; (try dsimp only at hSw); go_simp; (try with_reducible rfl))); (try simp only [Act.put, List.getElem_toArray, List.getElem_cons_succ, List.getElem_cons_zero, List.setIfInBounds_toArray, List.set_cons_zero, List.set_cons_succ])
        have HSZ : Hid (∀ W3 W4, Tch (OffZ (fun b => b = xb ∨ b = xb + 1) W.heap.size) W3 W4 → xb + 1 < W3.heap.size → ((W3.cell? ⟨xb, 0, none⟩ = some (.int .i64 x1) ∧ W3.cell? ⟨xb, 1, none⟩ = some (.int .i64 x2) ∧ W3.cell? ⟨xb, 2, none⟩ = some (.int .i64 x3) ∧ W3.cell? ⟨xb, 3, none⟩ = some (.int .i64 x4)) ∧ W3.cell? ⟨xb + 1, 0, none⟩ = some (.int .i64 i) ∧ W3.cell? ⟨xb + 1, 1, none⟩ = some (.int .i64 1)) → ((W4.cell? ⟨xb, 0, none⟩ = some (.int .i64 x1) ∧ W4.cell? ⟨xb, 1, none⟩ = some (.int .i64 x2) ∧ W4.cell? ⟨xb, 2, none⟩ = some (.int .i64 x3) ∧ W4.cell? ⟨xb, 3, none⟩ = some (.int .i64 x4)) ∧ W4.cell? ⟨xb + 1, 0, none⟩ = some (.int .i64 i) ∧ W4.cell? ⟨xb + 1, 1, none⟩ = some (.int .i64 1))) := fun W3 W4 ht hl hs => by
          have n1 : ¬ OffZ (fun b => b = xb ∨ b = xb + 1) W.heap.size xb := fun e => e.2 (.inl rfl)
          have n2 : ¬ OffZ (fun b => b = xb ∨ b = xb + 1) W.heap.size (xb + 1) := fun e => e.2 (.inr rfl)
          exact ⟨⟨ht.cell (by omega) n1 hs.1.1, ht.cell (by omega) n1 hs.1.2.1, ht.cell (by omega) n1 hs.1.2.2.1, ht.cell (by omega) n1 hs.1.2.2.2⟩, ht.cell hl n2 hs.2.1, ht.cell hl n2 hs.2.2⟩
        refine wpAnyH_ready (rs := [3]) (by kernel_rfl) (by simp) ?_
        refine AllReadyH.cons rfl (fun K hK => ?_) AllReadyH.nil
        go_simp
        obtain ⟨o1, o2, o3, o4, _⟩ := HOZ.out
        refine (o1.ask (PA.out _ o3 o4 A')).mono ?_
        rintro e w5 ⟨rfl, hO5, hT5⟩
        have hb5 := o2.trans (OO.tch hT5 o2.size)
        have hl5 : xb + 1 < w5.heap.size := Nat.lt_of_lt_of_le lx2 hT5.size
        have hS5 := HSZ.out _ _ hT5 lx2 ⟨⟨d1, d2, d3, d4⟩, e1, e2⟩
        have H5 := Lib.hid (And.intro hO5 (And.intro hb5 hS5))
        clear hO5 hT5 hb5 o1 o2 o3 o4
        refine hK.out _ _ hS5 (fun hHeld => ?_); clear hK K hS5; (try simp only [Act.put, List.getElem_toArray, List.getElem_cons_succ, List.getElem_cons_zero, List.setIfInBounds_toArray, List.set_cons_zero, List.set_cons_succ])
        (refine wpAnyH_take (i := 4) (v := ?_) rfl (by kernel_rfl) (by kernel_rfl) (by kernel_rfl) (fun _ _ _ h => h) (Or.inl ⟨by rfl, ?rt⟩) (by assumption) ?_; case rt => (intro w hSw; (try dsimp only at hSw); go_simp; (try with_reducible rfl))); (try simp only [Act.put, List.getElem_toArray, List.getElem_cons_succ, List.getElem_cons_zero, List.setIfInBounds_toArray, List.set_cons_zero, List.set_cons_succ])
        refine wpAnyH_ready (rs := [16]) (by kernel_rfl) (by simp) ?_
        refine AllReadyH.cons rfl (fun K hK => ?_) AllReadyH.nil
        go_simp
        obtain ⟨o1, o2, o3⟩ := H5.out
        refine (o1.ask (PB.out _ (Bc o2 hel HE.out.1) (Bc o2 hfl HE.out.2) A2)).mono ?_
        rintro e w6 ⟨rfl, hO6, hT6⟩
        have HB6 := Lib.hid (o2.trans (OO.tch hT6 o2.size))
        have HO6 := Lib.hid (hO6.turn (fr_and (fr_sw pa A2) (fr_sw pb A2')) (Tch.refl _ w6) (Z' := NoZ) (fun b e => e.elim))
        refine hK.out _ _ (HSZ.out _ _ hT6 hl5 o3) (fun hHeld => ?_); clear hK K; (try simp only [Act.put, List.getElem_toArray, List.getElem_cons_succ, List.getElem_cons_zero, List.setIfInBounds_toArray, List.set_cons_zero, List.set_cons_succ])
        (refine wpAnyH_take (i := 17) (v := ?_) rfl (by kernel_rfl) (by kernel_rfl) (by kernel_rfl) (fun _ _ _ h => h) (Or.inl ⟨by rfl, ?rt⟩) (by assumption) ?_; case rt => (intro w hSw; (try dsimp only at hSw); go_simp; (try with_reducible rfl))); (try simp only [Act.put, List.getElem_toArray, List.getElem_cons_succ, List.getElem_cons_zero, List.setIfInBounds_toArray, List.set_cons_zero, List.set_cons_succ])
        (refine wpAnyH_take (i := 18) (v := ?_) rfl (by kernel_rfl) (by kernel_rfl) (by kernel_rfl) (fun _ _ _ h => h) (Or.inl ⟨by rfl, ?rt⟩) (by assumption) ?_; case rt => (intro w hSw; (try dsimp only at hSw); go_simp; (try with_reducible rfl))); (try simp only [Act.put, List.getElem_toArray, List.getElem_cons_succ, List.getElem_cons_zero, List.setIfInBounds_toArray, List.set_cons_zero, List.set_cons_succ])
        clear hO6 hT6 o1 o2 o3 H5 hl5 d1 d2 d3 d4 e1 e2
        refine wpAnyH_done (by kernel_rfl) ?_ _
        go_wp2
        go_roundw
        case measure => simp only [intOf]; omega
        case rel => exact ⟨i + 1, by go_num, by omega, by rw [HA2.out.1, HA2.out.2]; exact HO6.out, HB6.out⟩
    · have hin : i = l.length := by omega
      subst hin
      have la := swT_len boxB id l l.length
      have lb := swT_len boxB flipB l l.length
      have hsame := swT_same l l.length
      generalize swT boxB id l l.length = A at *
      generalize swT boxB flipB l l.length = A' at *
      have PA := Lib.hid (HO.out.read (fun M h => pairsS_call (SwAt.of1 h) (by omega)))
      clear hlt
      go_wp2_with fail
      refine PA.out.mono ?_
      rintro e w4 ⟨v4, rfl, hw4, hb4⟩
      have PB := Lib.hid ((HO.out.below (fr_and (fr_sw pa A) (fr_sw pb A')) hb4).read (fun M h => pairsS_call (SwAt.of2 h) (by omega)))
      have H4 := Lib.hid hw4
      have B4 := Lib.hid (Bt HB.out hb4)
      clear hw4 hb4
      go_wp2_with fail
      refine PB.out.mono ?_
      rintro e w5 ⟨v5, rfl, hw5, hb5⟩
      have SP := Lib.hid (samePairs_call _ _ _ _ _ ((H4.out.sl lenP).below hb5) (hw5.sl lenP))
      have B5 := Lib.hid (Bt B4.out hb5)
      clear hw5 hb5 PA PB
      rw [hsame] at SP
      go_wp2_with fail
      refine SP.out.mono ?_
      rintro e w6 ⟨rfl, hg6⟩
      go_wp2
      go_ret
      exact ⟨by simp, Bt B5.out hg6.below⟩
end Go.Proofs.YtbodefigeiaodaaDoor
