import Derived.Test.YtaehendpdfpibaaGreatDoorZ23
import Derived.Deep.RegionHeld3
import Derived.Deep.Cut
import Derived.Test.YtaehendpdfpibaaGreatDoorZ4
import Derived.Test.YtaehendpdfpibaaGreatDoorZ13
import Derived.Test.YtaehendpdfpibaaGreatDoorZ14

/-
  The reference's store: insert.
-/
namespace Go.Proofs.YtaehendpdfpibaaGreatDoor
set_option linter.unusedSimpArgs false
set_option linter.unusedVariables false
open Go.RowKit Go.Sort Go.Lib Go.Shelf

theorem len_hds (L : List En) : (hds L).length = L.length := by simp [hds]
theorem posE_le (L : List En) (h : Hd) : posE L h ≤ L.length := by have := headLess_le (lt := ltH) h (hds L); rw [len_hds] at this; exact this
theorem hds_at {L : List En} {k : Nat} (hk : k < L.length) : (hds L)[k]! = L[k]!.1 := map_at (fun r : En => r.1) L hk
theorem posE_step {L : List En} {h : Hd} {k : Nat} (h1 : k ≤ posE L h) (hk : k < L.length) : (ltH L[k]!.1 h = true → k + 1 ≤ posE L h) ∧ (ltH L[k]!.1 h = false → k = posE L h) := by
  have := headLess_step (lt := ltH) (x := h) (l := hds L) h1 (by rw [len_hds]; exact hk)
  rw [hds_at hk] at this
  exact this
theorem SlN.front {α : Type} {enc : α → List Value} {k n cap : Nat} (hk : ∀ x, (enc x).length = k) {N : Nat → Prop} {w : World} {p : Option Addr} {l : List α} (h : SlN N enc w (.slice p n cap) l) (m : Nat) (hm : m ≤ l.length) : SlN N enc w (.slice p m cap) (l.take m) := by
  obtain ⟨p', cap', e, h1, h2, h3⟩ := h
  simp only [Value.slice.injEq] at e
  obtain ⟨rfl, _, rfl⟩ := e
  have e1 : (l.take m).length = m := by simp; omega
  refine ⟨p, cap, by rw [e1], by rw [e1]; omega, h2, fun hl => ?_⟩
  obtain ⟨g, o, e2, h4, h5, h6⟩ := h3 (by omega)
  refine ⟨g, o, e2, h4, h5, fun j u hu => h6 j u ?_⟩
  rw [← flat_take hk, List.getElem?_take] at hu
  split at hu
  · exact hu
  · cases hu
theorem SlN.inside8 {α : Type} {enc : α → List Value} {N : Nat → Prop} {w : World} {v : Value} {l : List α} (h : SlN N enc w v l) : SlN (fun b => N b ∧ b < w.heap.size) enc w v l := by
  obtain ⟨p, cap, rfl, h1, h2, h⟩ := h
  exact ⟨p, cap, rfl, h1, h2, fun hl => by obtain ⟨g, o, e, h3, h5, h4⟩ := h hl; exact ⟨g, o, e, h3, ⟨h5, h3⟩, h4⟩⟩
/-- The store's row is another one now. -/
theorem refS_set {w w8 : World} {N N8 : Nat → Prop} {pr : Nat} {L L' : List En} {v8 : Value} (h : RefS w N pr L) (hb : RowKit.Below w.heap.size w w8) (hz : LsE w8 N8 v8 L') (hN8 : ∀ b, N8 b → (N b ∨ w.heap.size ≤ b) ∧ b ≠ pr ∧ b < w8.heap.size) :
    RefS (w8.setCell ⟨pr, 0, none⟩ v8) (New N w (w8.setCell ⟨pr, 0, none⟩ v8)) pr L' ∧ Tch (fun b => b = pr) w (w8.setCell ⟨pr, 0, none⟩ v8) := by
  obtain ⟨vr, N1, h1, h2, h3, h4, h5⟩ := h
  have hhead := heap_setCell_same w8 pr 0 _ _ v8 (blk_below h1 hb)
  have hsz : (w8.setCell ⟨pr, 0, none⟩ v8).heap.size = w8.heap.size := by simp
  have t1 : Tch (fun b => b = pr) w8 (w8.setCell ⟨pr, 0, none⟩ v8) := Tch.set (M := fun b => b = pr) (p := ⟨pr, 0, none⟩) w8 rfl v8
  refine ⟨⟨v8, N8, by simpa using hhead, hz.kept t1 (fun b e c => (hN8 b e).2.1 c), .inl h3, fun b e => ⟨?_, (hN8 b e).2.1⟩, fun b e => ?_⟩, (Tch.of hb).more t1⟩
  · obtain ⟨e1, e2, e3⟩ := hN8 b e
    rcases e1 with e1 | e1
    · exact .inl e1
    · exact .inr ⟨e1, by rw [hsz]; exact e3⟩
  · rcases e with e | e
    · have := h5 b e; have := hb.size; rw [hsz]; omega
    · exact e.2
section
variable {w w' : World} {N Ne : Nat → Prop} {pr : Nat} {L : List En}
set_option maxHeartbeats 8000000 in
set_option maxRecDepth 100000 in
theorem rinsertS (h : RefS w N pr L) (x1 x2 : Int) (l : List Vl) (sp : Option Addr) (c : Nat) (hv : SlN Ne encV w (.slice sp l.length c) l) (hN : ∀ b, Ne b → N b ∧ b ≠ pr) (hlen : L.length ≤ 10000) :
    Calls Tryz.prog 87 #[rsP pr, .agg #[.int .i64 x1, .int .i64 x2, .slice sp l.length c]] w fun e w' => e = .returned (.tuple #[]) ∧ RefS w' (New N w w') pr (insE L ((x1, x2), l)) ∧ Tch (fun b => b = pr) w w' := by
  have bb := Ba (Below.refl _ w) (.cells #[.int .i64 x1, .int .i64 x2, .slice sp l.length c] 38)
  have B0 := Lib.hid bb
  have b0 := Lib.hid (heap_alloc_new w (.cells #[.int .i64 x1, .int .i64 x2, .slice sp l.length c] 38))
  have h0 := h.below bb
  have HV := Lib.hid (hv.below bb)
  obtain ⟨p, cap, N1, hb, hls, h1, h2, hNp, hN1⟩ := h0.open
  have HL := Lib.hid hls
  have HH := Lib.hid hb
  obtain ⟨H, hH⟩ : ∃ H, H = posE L (x1, x2) := ⟨_, rfl⟩
  have hHl : H ≤ L.length := by rw [hH]; exact posE_le _ _
  have EH := Lib.hid hH
  have HNl := Lib.hid h.lt
  have HRF := Lib.hid h
  have HVe := Lib.hid hv
  clear h h0 hb bb hv hls hH
  have CL : Hid (∀ (y1 y2 : Int) (v : Bool), ltH (y1, y2) (x1, x2) = v → ∀ W, Calls Tryz.prog 111 #[.agg #[.int .i64 y1, .int .i64 y2], .agg #[.int .i64 x1, .int .i64 x2]] W fun e w' => e = .returned (.bool v) ∧ RowKit.Below W.heap.size W w') := fun y1 y2 v hb W => (rless_is hb W).mono fun e w' ⟨h1, h2⟩ => ⟨h1, h2.below⟩
  go_enter Tryz.func87, Tryz.ntmps87
  go_wp2
  generalize hW : w.alloc (.cells #[.int .i64 x1, .int .i64 x2, .slice sp l.length c] 38) = W at *
  clear hW
  go_loopw [4] (fun s4 wr => ∃ k : Nat, s4 = .int .i64 k ∧ k ≤ H ∧ Hid (RowKit.Below W.heap.size W wr)) (fun i _ => L.length - (intOf i).toNat)
  case atStart => exact ⟨0, rfl, Nat.zero_le _, Lib.hid (Below.refl _ _)⟩
  case round =>
    obtain ⟨k, rfl, hk, HB⟩ := hrel
    obtain ⟨c0, f0⟩ := one_cell (blk_below HH.out HB.out)
    have hl := cell_lt c0
    obtain ⟨⟨a0, a1, a2⟩, _, _, _⟩ := three_cells (blk_below b0.out HB.out)
    have hal := cell_lt a0
    rcases Decidable.em (k < L.length ∧ ltH L[k]!.1 (x1, x2) = true) with hgo | hgo
    · obtain ⟨hkn, hlt⟩ := hgo
      have hkz : (k : Int) < (L.length : Int) := by omega
      obtain ⟨g, o, sp', c', e9, hg, _, d1, d2, d3, _, _, _⟩ := HL.out.at hkn
      replace d1 := Bc HB.out hg d1
      replace d2 := Bc HB.out hg d2
      have hgr : g < wr.heap.size := Nat.lt_of_lt_of_le hg HB.out.size
      have hst := Lib.hid (posE_step (h := (x1, x2)) (by rw [← EH.out]; exact hk) hkn)
      subst e9
      generalize L[k]!.1 = y at *
      obtain ⟨y1, y2⟩ := y
      dsimp only at d1 d2
      clear d3
      have hk1 := hst.out.1 hlt
      rw [← EH.out] at hk1
      have CT := Lib.hid (CL.out y1 y2 true hlt)
      clear hlt
      go_wp2_with fail
      refine wp_region_held_drew (S := (fun w' => Below (wr).heap.size (wr) w' ∧ ∀ b_1 o, b_1 < (wr).heap.size → w'.cell? ⟨b_1, o, none⟩ = (wr).cell? ⟨b_1, o, none⟩)) (by kernel_rfl) (keep0 _) (fun hHeld => ?_)
      (refine wpAnyH_take (i := 0) (v := ?_) rfl (by kernel_rfl) (by kernel_rfl) (by kernel_rfl) (fun _ _ _ h => h) (Or.inl ⟨by rfl, ?rt⟩) (by assumption) ?_; case rt => (intro w hSw; (try dsimp only at hSw); go_simp; (try with_reducible rfl))); (try simp only [Act.put, List.getElem_toArray, List.getElem_cons_succ, List.getElem_cons_zero, List.setIfInBounds_toArray, List.set_cons_zero, List.set_cons_succ])
      (refine wpAnyH_take (i := 1) (v := ?_) rfl (by kernel_rfl) (by kernel_rfl) (by kernel_rfl) (fun _ _ _ h => h) (Or.inl ⟨by rfl, ?rt⟩) (by assumption) ?_; case rt => (intro w hSw; (try dsimp only at hSw); go_simp; (try with_reducible rfl))); (try simp only [Act.put, List.getElem_toArray, List.getElem_cons_succ, List.getElem_cons_zero, List.setIfInBounds_toArray, List.set_cons_zero, List.set_cons_succ])
      (refine wpAnyH_take (i := 2) (v := ?_) rfl (by kernel_rfl) (by kernel_rfl) (by kernel_rfl) (fun _ _ _ h => h) (Or.inl ⟨by rfl, ?rt⟩) (by assumption) ?_; case rt => (intro w hSw; (try dsimp only at hSw); go_simp; (try with_reducible rfl))); (try simp only [Act.put, List.getElem_toArray, List.getElem_cons_succ, List.getElem_cons_zero, List.setIfInBounds_toArray, List.set_cons_zero, List.set_cons_succ])
      (refine wpAnyH_take (i := 3) (v := ?_) rfl (by kernel_rfl) (by kernel_rfl) (by kernel_rfl) (fun _ _ _ h => h) (Or.inl ⟨by rfl, ?rt⟩) (by assumption) ?_; case rt => (intro w hSw; (try dsimp only at hSw); go_simp; (try with_reducible rfl))); (try simp only [Act.put, List.getElem_toArray, List.getElem_cons_succ, List.getElem_cons_zero, List.setIfInBounds_toArray, List.set_cons_zero, List.set_cons_succ])
      (refine wpAnyH_take (i := 4) (v := ?_) rfl (by kernel_rfl) (by kernel_rfl) (by kernel_rfl) (fun _ _ _ h => h) (Or.inl ⟨by rfl, ?rt⟩) (by assumption) ?_; case rt => (intro w hSw; (try dsimp only at hSw); go_simp; (try with_reducible rfl))); (try simp only [Act.put, List.getElem_toArray, List.getElem_cons_succ, List.getElem_cons_zero, List.setIfInBounds_toArray, List.set_cons_zero, List.set_cons_succ])
      (refine wpAnyH_take (i := 5) (v := ?_) rfl (by kernel_rfl) (by kernel_rfl) (by kernel_rfl) (fun _ _ _ h => h) (Or.inl ⟨by rfl, ?rt⟩) (by assumption) ?_; case rt => (intro w hSw; (try dsimp only at hSw); go_simp; (try with_reducible rfl))); (try simp only [Act.put, List.getElem_toArray, List.getElem_cons_succ, List.getElem_cons_zero, List.setIfInBounds_toArray, List.set_cons_zero, List.set_cons_succ])
      (refine wpAnyH_take (i := 6) (v := ?_) rfl (by kernel_rfl) (by kernel_rfl) (by kernel_rfl) (fun _ _ _ h => h) (Or.inl ⟨by rfl, ?rt⟩) (by assumption) ?_; case rt => (intro w hSw; (try dsimp only at hSw); go_simp; (try with_reducible rfl))); (try simp only [Act.put, List.getElem_toArray, List.getElem_cons_succ, List.getElem_cons_zero, List.setIfInBounds_toArray, List.set_cons_zero, List.set_cons_succ])
      (refine wpAnyH_take (i := 7) (v := ?_) rfl (by kernel_rfl) (by kernel_rfl) (by kernel_rfl) (fun _ _ _ h => h) (Or.inl ⟨by rfl, ?rt⟩) (by assumption) ?_; case rt => (intro w hSw; (try dsimp only at hSw); go_simp; (try with_reducible rfl))); (try simp only [Act.put, List.getElem_toArray, List.getElem_cons_succ, List.getElem_cons_zero, List.setIfInBounds_toArray, List.set_cons_zero, List.set_cons_succ])
      (refine wpAnyH_take (i := 8) (v := ?_) rfl (by kernel_rfl) (by kernel_rfl) (by kernel_rfl) (fun _ _ _ h => h) (Or.inl ⟨by rfl, ?rt⟩) (by assumption) ?_; case rt => (intro w hSw; (try dsimp only at hSw); go_simp; (try with_reducible rfl))); (try simp only [Act.put, List.getElem_toArray, List.getElem_cons_succ, List.getElem_cons_zero, List.setIfInBounds_toArray, List.set_cons_zero, List.set_cons_succ])
      (refine wpAnyH_take (i := 9) (v := ?_) rfl (by kernel_rfl) (by kernel_rfl) (by kernel_rfl) (fun _ _ _ h => h) (Or.inl ⟨by rfl, ?rt⟩) (by assumption) ?_; case rt => (intro w hSw; (try dsimp only at hSw); go_simp; (try with_reducible rfl))); (try simp only [Act.put, List.getElem_toArray, List.getElem_cons_succ, List.getElem_cons_zero, List.setIfInBounds_toArray, List.set_cons_zero, List.set_cons_succ])
      (refine wpAnyH_take (i := 10) (v := ?_) rfl (by kernel_rfl) (by kernel_rfl) (by kernel_rfl) (fun _ _ _ h => h) (Or.inl ⟨by rfl, ?rt⟩) (by assumption) ?_; case rt => (intro w hSw; (try dsimp only at hSw); go_simp; (try with_reducible rfl))); (try simp only [Act.put, List.getElem_toArray, List.getElem_cons_succ, List.getElem_cons_zero, List.setIfInBounds_toArray, List.set_cons_zero, List.set_cons_succ])
      (refine wpAnyH_take (i := 11) (v := ?_) rfl (by kernel_rfl) (by kernel_rfl) (by kernel_rfl) (fun _ _ _ h => h) (Or.inl ⟨by rfl, ?rt⟩) (by assumption) ?_; case rt => (intro w hSw; (try dsimp only at hSw); go_simp; (try with_reducible rfl))); (try simp only [Act.put, List.getElem_toArray, List.getElem_cons_succ, List.getElem_cons_zero, List.setIfInBounds_toArray, List.set_cons_zero, List.set_cons_succ])
      (refine wpAnyH_take (i := 12) (v := ?_) rfl (by kernel_rfl) (by kernel_rfl) (by kernel_rfl) (fun _ _ _ h => h) (Or.inl ⟨by rfl, ?rt⟩) (by assumption) ?_; case rt => (intro w hSw; (try dsimp only at hSw); go_simp; (try with_reducible rfl))); (try simp only [Act.put, List.getElem_toArray, List.getElem_cons_succ, List.getElem_cons_zero, List.setIfInBounds_toArray, List.set_cons_zero, List.set_cons_succ])
      (refine wpAnyH_take (i := 13) (v := ?_) rfl (by kernel_rfl) (by kernel_rfl) (by kernel_rfl) (fun _ _ _ h => h) (Or.inl ⟨by rfl, ?rt⟩) (by assumption) ?_; case rt => (intro w hSw; (try dsimp only at hSw); go_simp; (try with_reducible rfl))); (try simp only [Act.put, List.getElem_toArray, List.getElem_cons_succ, List.getElem_cons_zero, List.setIfInBounds_toArray, List.set_cons_zero, List.set_cons_succ])
      (refine wpAnyH_take (i := 14) (v := ?_) rfl (by kernel_rfl) (by kernel_rfl) (by kernel_rfl) (fun _ _ _ h => h) (Or.inl ⟨by rfl, ?rt⟩) (by assumption) ?_; case rt => (intro w hSw; (try dsimp only at hSw); go_simp; (try with_reducible rfl))); (try simp only [Act.put, List.getElem_toArray, List.getElem_cons_succ, List.getElem_cons_zero, List.setIfInBounds_toArray, List.set_cons_zero, List.set_cons_succ])
      (refine wpAnyH_take (i := 15) (v := ?_) rfl (by kernel_rfl) (by kernel_rfl) (by kernel_rfl) (fun _ _ _ h => h) (Or.inl ⟨by rfl, ?rt⟩) (by assumption) ?_; case rt => (intro w hSw; (try dsimp only at hSw); go_simp; (try with_reducible rfl))); (try simp only [Act.put, List.getElem_toArray, List.getElem_cons_succ, List.getElem_cons_zero, List.setIfInBounds_toArray, List.set_cons_zero, List.set_cons_succ])
      (refine wpAnyH_take (i := 16) (v := ?_) rfl (by kernel_rfl) (by kernel_rfl) (by kernel_rfl) (fun _ _ _ h => h) (Or.inl ⟨by rfl, ?rt⟩) (by assumption) ?_; case rt => (intro w hSw; (try dsimp only at hSw); go_simp; (try with_reducible rfl))); (try simp only [Act.put, List.getElem_toArray, List.getElem_cons_succ, List.getElem_cons_zero, List.setIfInBounds_toArray, List.set_cons_zero, List.set_cons_succ])
      (refine wpAnyH_take (i := 17) (v := ?_) rfl (by kernel_rfl) (by kernel_rfl) (by kernel_rfl) (fun _ _ _ h => h) (Or.inl ⟨by rfl, ?rt⟩) (by assumption) ?_; case rt => (intro w hSw; (try dsimp only at hSw); go_simp; (try with_reducible rfl))); (try simp only [Act.put, List.getElem_toArray, List.getElem_cons_succ, List.getElem_cons_zero, List.setIfInBounds_toArray, List.set_cons_zero, List.set_cons_succ])
      (refine wpAnyH_ready (rs := [18]) (by kernel_rfl) (by simp) ?_; refine AllReadyH.cons rfl (fun K hK => ?_) AllReadyH.nil; go_simp; refine (CT.out _).mono ?_; rintro e w1 ⟨rfl, hb1⟩; refine hK.out _ _ (keepB (by assumption) hb1) (fun hHeld => ?_); clear hK K); (try simp only [Act.put, List.getElem_toArray, List.getElem_cons_succ, List.getElem_cons_zero, List.setIfInBounds_toArray, List.set_cons_zero, List.set_cons_succ])
      (refine wpAnyH_take (i := 19) (v := ?_) rfl (by kernel_rfl) (by kernel_rfl) (by kernel_rfl) (fun _ _ _ h => h) (Or.inl ⟨by rfl, ?rt⟩) (by assumption) ?_; case rt => (intro w hSw; (try dsimp only at hSw); go_simp; (try with_reducible rfl))); (try simp only [Act.put, List.getElem_toArray, List.getElem_cons_succ, List.getElem_cons_zero, List.setIfInBounds_toArray, List.set_cons_zero, List.set_cons_succ])
      refine wpAnyH_done (by kernel_rfl) ?_ _
      have B1 := Lib.hid (Bt HB.out hHeld.1)
      clear hHeld
      go_wp2
      go_roundw
      case measure => simp [intOf]; omega
      case rel => exact ⟨k + 1, by go_num, hk1, B1⟩
    · have hkL : k ≤ L.length := by omega
      have hkc : k ≤ cap := by omega
      have HG := Lib.hid hgo
      clear hgo
      rcases Decidable.em (k < L.length) with hkn | hkn
      case' inl =>
        have hlt : ltH L[k]!.1 (x1, x2) = false := by cases e : ltH L[k]!.1 (x1, x2) with | false => rfl | true => exact absurd ⟨hkn, e⟩ HG.out
        have hkz : (k : Int) < (L.length : Int) := by omega
        obtain ⟨g, o, sp', c', e9, hg, _, d1, d2, d3, _, _, _⟩ := HL.out.at hkn
        replace d1 := Bc HB.out hg d1
        replace d2 := Bc HB.out hg d2
        have hgr : g < wr.heap.size := Nat.lt_of_lt_of_le hg HB.out.size
        have hst := Lib.hid (posE_step (h := (x1, x2)) (by rw [← EH.out]; exact hk) hkn)
        subst e9
        generalize L[k]!.1 = y at *
        obtain ⟨y1, y2⟩ := y
        dsimp only at d1 d2
        clear d3
        have hk1 := hst.out.2 hlt
        rw [← EH.out] at hk1
        have HK := Lib.hid hk1
        have CT := Lib.hid (CL.out y1 y2 false hlt)
        clear hlt hk1
        go_wp2_with fail
        refine wp_region_held_drew (S := (fun w' => Below (wr).heap.size (wr) w' ∧ ∀ b_1 o, b_1 < (wr).heap.size → w'.cell? ⟨b_1, o, none⟩ = (wr).cell? ⟨b_1, o, none⟩)) (by kernel_rfl) (keep0 _) (fun hHeld => ?_)
        (refine wpAnyH_take (i := 0) (v := ?_) rfl (by kernel_rfl) (by kernel_rfl) (by kernel_rfl) (fun _ _ _ h => h) (Or.inl ⟨by rfl, ?rt⟩) (by assumption) ?_; case rt => (intro w hSw; (try dsimp only at hSw); go_simp; (try with_reducible rfl))); (try simp only [Act.put, List.getElem_toArray, List.getElem_cons_succ, List.getElem_cons_zero, List.setIfInBounds_toArray, List.set_cons_zero, List.set_cons_succ])
        (refine wpAnyH_take (i := 1) (v := ?_) rfl (by kernel_rfl) (by kernel_rfl) (by kernel_rfl) (fun _ _ _ h => h) (Or.inl ⟨by rfl, ?rt⟩) (by assumption) ?_; case rt => (intro w hSw; (try dsimp only at hSw); go_simp; (try with_reducible rfl))); (try simp only [Act.put, List.getElem_toArray, List.getElem_cons_succ, List.getElem_cons_zero, List.setIfInBounds_toArray, List.set_cons_zero, List.set_cons_succ])
        (refine wpAnyH_take (i := 2) (v := ?_) rfl (by kernel_rfl) (by kernel_rfl) (by kernel_rfl) (fun _ _ _ h => h) (Or.inl ⟨by rfl, ?rt⟩) (by assumption) ?_; case rt => (intro w hSw; (try dsimp only at hSw); go_simp; (try with_reducible rfl))); (try simp only [Act.put, List.getElem_toArray, List.getElem_cons_succ, List.getElem_cons_zero, List.setIfInBounds_toArray, List.set_cons_zero, List.set_cons_succ])
        (refine wpAnyH_take (i := 3) (v := ?_) rfl (by kernel_rfl) (by kernel_rfl) (by kernel_rfl) (fun _ _ _ h => h) (Or.inl ⟨by rfl, ?rt⟩) (by assumption) ?_; case rt => (intro w hSw; (try dsimp only at hSw); go_simp; (try with_reducible rfl))); (try simp only [Act.put, List.getElem_toArray, List.getElem_cons_succ, List.getElem_cons_zero, List.setIfInBounds_toArray, List.set_cons_zero, List.set_cons_succ])
        (refine wpAnyH_take (i := 4) (v := ?_) rfl (by kernel_rfl) (by kernel_rfl) (by kernel_rfl) (fun _ _ _ h => h) (Or.inl ⟨by rfl, ?rt⟩) (by assumption) ?_; case rt => (intro w hSw; (try dsimp only at hSw); go_simp; (try with_reducible rfl))); (try simp only [Act.put, List.getElem_toArray, List.getElem_cons_succ, List.getElem_cons_zero, List.setIfInBounds_toArray, List.set_cons_zero, List.set_cons_succ])
        (refine wpAnyH_take (i := 5) (v := ?_) rfl (by kernel_rfl) (by kernel_rfl) (by kernel_rfl) (fun _ _ _ h => h) (Or.inl ⟨by rfl, ?rt⟩) (by assumption) ?_; case rt => (intro w hSw; (try dsimp only at hSw); go_simp; (try with_reducible rfl))); (try simp only [Act.put, List.getElem_toArray, List.getElem_cons_succ, List.getElem_cons_zero, List.setIfInBounds_toArray, List.set_cons_zero, List.set_cons_succ])
        (refine wpAnyH_take (i := 6) (v := ?_) rfl (by kernel_rfl) (by kernel_rfl) (by kernel_rfl) (fun _ _ _ h => h) (Or.inl ⟨by rfl, ?rt⟩) (by assumption) ?_; case rt => (intro w hSw; (try dsimp only at hSw); go_simp; (try with_reducible rfl))); (try simp only [Act.put, List.getElem_toArray, List.getElem_cons_succ, List.getElem_cons_zero, List.setIfInBounds_toArray, List.set_cons_zero, List.set_cons_succ])
        (refine wpAnyH_take (i := 7) (v := ?_) rfl (by kernel_rfl) (by kernel_rfl) (by kernel_rfl) (fun _ _ _ h => h) (Or.inl ⟨by rfl, ?rt⟩) (by assumption) ?_; case rt => (intro w hSw; (try dsimp only at hSw); go_simp; (try with_reducible rfl))); (try simp only [Act.put, List.getElem_toArray, List.getElem_cons_succ, List.getElem_cons_zero, List.setIfInBounds_toArray, List.set_cons_zero, List.set_cons_succ])
        (refine wpAnyH_take (i := 8) (v := ?_) rfl (by kernel_rfl) (by kernel_rfl) (by kernel_rfl) (fun _ _ _ h => h) (Or.inl ⟨by rfl, ?rt⟩) (by assumption) ?_; case rt => (intro w hSw; (try dsimp only at hSw); go_simp; (try with_reducible rfl))); (try simp only [Act.put, List.getElem_toArray, List.getElem_cons_succ, List.getElem_cons_zero, List.setIfInBounds_toArray, List.set_cons_zero, List.set_cons_succ])
        (refine wpAnyH_take (i := 9) (v := ?_) rfl (by kernel_rfl) (by kernel_rfl) (by kernel_rfl) (fun _ _ _ h => h) (Or.inl ⟨by rfl, ?rt⟩) (by assumption) ?_; case rt => (intro w hSw; (try dsimp only at hSw); go_simp; (try with_reducible rfl))); (try simp only [Act.put, List.getElem_toArray, List.getElem_cons_succ, List.getElem_cons_zero, List.setIfInBounds_toArray, List.set_cons_zero, List.set_cons_succ])
        (refine wpAnyH_take (i := 10) (v := ?_) rfl (by kernel_rfl) (by kernel_rfl) (by kernel_rfl) (fun _ _ _ h => h) (Or.inl ⟨by rfl, ?rt⟩) (by assumption) ?_; case rt => (intro w hSw; (try dsimp only at hSw); go_simp; (try with_reducible rfl))); (try simp only [Act.put, List.getElem_toArray, List.getElem_cons_succ, List.getElem_cons_zero, List.setIfInBounds_toArray, List.set_cons_zero, List.set_cons_succ])
        (refine wpAnyH_take (i := 11) (v := ?_) rfl (by kernel_rfl) (by kernel_rfl) (by kernel_rfl) (fun _ _ _ h => h) (Or.inl ⟨by rfl, ?rt⟩) (by assumption) ?_; case rt => (intro w hSw; (try dsimp only at hSw); go_simp; (try with_reducible rfl))); (try simp only [Act.put, List.getElem_toArray, List.getElem_cons_succ, List.getElem_cons_zero, List.setIfInBounds_toArray, List.set_cons_zero, List.set_cons_succ])
        (refine wpAnyH_take (i := 12) (v := ?_) rfl (by kernel_rfl) (by kernel_rfl) (by kernel_rfl) (fun _ _ _ h => h) (Or.inl ⟨by rfl, ?rt⟩) (by assumption) ?_; case rt => (intro w hSw; (try dsimp only at hSw); go_simp; (try with_reducible rfl))); (try simp only [Act.put, List.getElem_toArray, List.getElem_cons_succ, List.getElem_cons_zero, List.setIfInBounds_toArray, List.set_cons_zero, List.set_cons_succ])
        (refine wpAnyH_take (i := 13) (v := ?_) rfl (by kernel_rfl) (by kernel_rfl) (by kernel_rfl) (fun _ _ _ h => h) (Or.inl ⟨by rfl, ?rt⟩) (by assumption) ?_; case rt => (intro w hSw; (try dsimp only at hSw); go_simp; (try with_reducible rfl))); (try simp only [Act.put, List.getElem_toArray, List.getElem_cons_succ, List.getElem_cons_zero, List.setIfInBounds_toArray, List.set_cons_zero, List.set_cons_succ])
        (refine wpAnyH_take (i := 14) (v := ?_) rfl (by kernel_rfl) (by kernel_rfl) (by kernel_rfl) (fun _ _ _ h => h) (Or.inl ⟨by rfl, ?rt⟩) (by assumption) ?_; case rt => (intro w hSw; (try dsimp only at hSw); go_simp; (try with_reducible rfl))); (try simp only [Act.put, List.getElem_toArray, List.getElem_cons_succ, List.getElem_cons_zero, List.setIfInBounds_toArray, List.set_cons_zero, List.set_cons_succ])
        (refine wpAnyH_take (i := 15) (v := ?_) rfl (by kernel_rfl) (by kernel_rfl) (by kernel_rfl) (fun _ _ _ h => h) (Or.inl ⟨by rfl, ?rt⟩) (by assumption) ?_; case rt => (intro w hSw; (try dsimp only at hSw); go_simp; (try with_reducible rfl))); (try simp only [Act.put, List.getElem_toArray, List.getElem_cons_succ, List.getElem_cons_zero, List.setIfInBounds_toArray, List.set_cons_zero, List.set_cons_succ])
        (refine wpAnyH_take (i := 16) (v := ?_) rfl (by kernel_rfl) (by kernel_rfl) (by kernel_rfl) (fun _ _ _ h => h) (Or.inl ⟨by rfl, ?rt⟩) (by assumption) ?_; case rt => (intro w hSw; (try dsimp only at hSw); go_simp; (try with_reducible rfl))); (try simp only [Act.put, List.getElem_toArray, List.getElem_cons_succ, List.getElem_cons_zero, List.setIfInBounds_toArray, List.set_cons_zero, List.set_cons_succ])
        (refine wpAnyH_take (i := 17) (v := ?_) rfl (by kernel_rfl) (by kernel_rfl) (by kernel_rfl) (fun _ _ _ h => h) (Or.inl ⟨by rfl, ?rt⟩) (by assumption) ?_; case rt => (intro w hSw; (try dsimp only at hSw); go_simp; (try with_reducible rfl))); (try simp only [Act.put, List.getElem_toArray, List.getElem_cons_succ, List.getElem_cons_zero, List.setIfInBounds_toArray, List.set_cons_zero, List.set_cons_succ])
        (refine wpAnyH_ready (rs := [18]) (by kernel_rfl) (by simp) ?_; refine AllReadyH.cons rfl (fun K hK => ?_) AllReadyH.nil; go_simp; refine (CT.out _).mono ?_; rintro e w1 ⟨rfl, hb1⟩; refine hK.out _ _ (keepB (by assumption) hb1) (fun hHeld => ?_); clear hK K); (try simp only [Act.put, List.getElem_toArray, List.getElem_cons_succ, List.getElem_cons_zero, List.setIfInBounds_toArray, List.set_cons_zero, List.set_cons_succ])
        (refine wpAnyH_take (i := 19) (v := ?_) rfl (by kernel_rfl) (by kernel_rfl) (by kernel_rfl) (fun _ _ _ h => h) (Or.inl ⟨by rfl, ?rt⟩) (by assumption) ?_; case rt => (intro w hSw; (try dsimp only at hSw); go_simp; (try with_reducible rfl))); (try simp only [Act.put, List.getElem_toArray, List.getElem_cons_succ, List.getElem_cons_zero, List.setIfInBounds_toArray, List.set_cons_zero, List.set_cons_succ])
        refine wpAnyH_done (by kernel_rfl) ?_ _
        have HBz := Lib.hid (Bt HB.out hHeld.1)
        have c9 := Bc hHeld.1 hl c0
        have hl9 := Bl hHeld.1 hl
        clear hHeld hb1 CT d1 d2 hgr hst hg
        generalize hwz : w1 = wz at *
        clear hwz
      case' inr =>
        have hkz : ¬ (k : Int) < (L.length : Int) := by omega
        have HK := Lib.hid (show k = H by omega)
        go_wp2_with fail
        refine wp_region_held_drew (S := (fun w' => Below (wr).heap.size (wr) w' ∧ ∀ b_1 o, b_1 < (wr).heap.size → w'.cell? ⟨b_1, o, none⟩ = (wr).cell? ⟨b_1, o, none⟩)) (by kernel_rfl) (keep0 _) (fun hHeld => ?_)
        (refine wpAnyH_take (i := 0) (v := ?_) rfl (by kernel_rfl) (by kernel_rfl) (by kernel_rfl) (fun _ _ _ h => h) (Or.inl ⟨by rfl, ?rt⟩) (by assumption) ?_; case rt => (intro w hSw; (try dsimp only at hSw); go_simp; (try with_reducible rfl))); (try simp only [Act.put, List.getElem_toArray, List.getElem_cons_succ, List.getElem_cons_zero, List.setIfInBounds_toArray, List.set_cons_zero, List.set_cons_succ])
        (refine wpAnyH_take (i := 1) (v := ?_) rfl (by kernel_rfl) (by kernel_rfl) (by kernel_rfl) (fun _ _ _ h => h) (Or.inl ⟨by rfl, ?rt⟩) (by assumption) ?_; case rt => (intro w hSw; (try dsimp only at hSw); go_simp; (try with_reducible rfl))); (try simp only [Act.put, List.getElem_toArray, List.getElem_cons_succ, List.getElem_cons_zero, List.setIfInBounds_toArray, List.set_cons_zero, List.set_cons_succ])
        (refine wpAnyH_take (i := 2) (v := ?_) rfl (by kernel_rfl) (by kernel_rfl) (by kernel_rfl) (fun _ _ _ h => h) (Or.inl ⟨by rfl, ?rt⟩) (by assumption) ?_; case rt => (intro w hSw; (try dsimp only at hSw); go_simp; (try with_reducible rfl))); (try simp only [Act.put, List.getElem_toArray, List.getElem_cons_succ, List.getElem_cons_zero, List.setIfInBounds_toArray, List.set_cons_zero, List.set_cons_succ])
        (refine wpAnyH_take (i := 3) (v := ?_) rfl (by kernel_rfl) (by kernel_rfl) (by kernel_rfl) (fun _ _ _ h => h) (Or.inl ⟨by rfl, ?rt⟩) (by assumption) ?_; case rt => (intro w hSw; (try dsimp only at hSw); go_simp; (try with_reducible rfl))); (try simp only [Act.put, List.getElem_toArray, List.getElem_cons_succ, List.getElem_cons_zero, List.setIfInBounds_toArray, List.set_cons_zero, List.set_cons_succ])
        (refine wpAnyH_take (i := 4) (v := ?_) rfl (by kernel_rfl) (by kernel_rfl) (by kernel_rfl) (fun _ _ _ h => h) (Or.inl ⟨by rfl, ?rt⟩) (by assumption) ?_; case rt => (intro w hSw; (try dsimp only at hSw); go_simp; (try with_reducible rfl))); (try simp only [Act.put, List.getElem_toArray, List.getElem_cons_succ, List.getElem_cons_zero, List.setIfInBounds_toArray, List.set_cons_zero, List.set_cons_succ])
        (refine wpAnyH_take (i := 5) (v := ?_) rfl (by kernel_rfl) (by kernel_rfl) (by kernel_rfl) (fun _ _ _ h => h) (Or.inl ⟨by rfl, ?rt⟩) (by assumption) ?_; case rt => (intro w hSw; (try dsimp only at hSw); go_simp; (try with_reducible rfl))); (try simp only [Act.put, List.getElem_toArray, List.getElem_cons_succ, List.getElem_cons_zero, List.setIfInBounds_toArray, List.set_cons_zero, List.set_cons_succ])
        (refine wpAnyH_take (i := 6) (v := ?_) rfl (by kernel_rfl) (by kernel_rfl) (by kernel_rfl) (fun _ _ _ h => h) (Or.inl ⟨by rfl, ?rt⟩) (by assumption) ?_; case rt => (intro w hSw; (try dsimp only at hSw); go_simp; (try with_reducible rfl))); (try simp only [Act.put, List.getElem_toArray, List.getElem_cons_succ, List.getElem_cons_zero, List.setIfInBounds_toArray, List.set_cons_zero, List.set_cons_succ])
        (refine wpAnyH_take (i := 7) (v := ?_) rfl (by kernel_rfl) (by kernel_rfl) (by kernel_rfl) (fun _ _ _ h => h) (Or.inl ⟨by rfl, ?rt⟩) (by assumption) ?_; case rt => (intro w hSw; (try dsimp only at hSw); go_simp; (try with_reducible rfl))); (try simp only [Act.put, List.getElem_toArray, List.getElem_cons_succ, List.getElem_cons_zero, List.setIfInBounds_toArray, List.set_cons_zero, List.set_cons_succ])
        refine wpAnyH_take (i := 8) (v := undef) rfl (by kernel_rfl) (by kernel_rfl) (by kernel_rfl) (fun _ _ _ h => h) (Or.inr ⟨by rfl, rfl⟩) (by assumption) ?_; (try simp only [Act.put, List.getElem_toArray, List.getElem_cons_succ, List.getElem_cons_zero, List.setIfInBounds_toArray, List.set_cons_zero, List.set_cons_succ])
        refine wpAnyH_take (i := 9) (v := undef) rfl (by kernel_rfl) (by kernel_rfl) (by kernel_rfl) (fun _ _ _ h => h) (Or.inr ⟨by rfl, rfl⟩) (by assumption) ?_; (try simp only [Act.put, List.getElem_toArray, List.getElem_cons_succ, List.getElem_cons_zero, List.setIfInBounds_toArray, List.set_cons_zero, List.set_cons_succ])
        refine wpAnyH_take (i := 10) (v := undef) rfl (by kernel_rfl) (by kernel_rfl) (by kernel_rfl) (fun _ _ _ h => h) (Or.inr ⟨by rfl, rfl⟩) (by assumption) ?_; (try simp only [Act.put, List.getElem_toArray, List.getElem_cons_succ, List.getElem_cons_zero, List.setIfInBounds_toArray, List.set_cons_zero, List.set_cons_succ])
        refine wpAnyH_take (i := 11) (v := undef) rfl (by kernel_rfl) (by kernel_rfl) (by kernel_rfl) (fun _ _ _ h => h) (Or.inr ⟨by rfl, rfl⟩) (by assumption) ?_; (try simp only [Act.put, List.getElem_toArray, List.getElem_cons_succ, List.getElem_cons_zero, List.setIfInBounds_toArray, List.set_cons_zero, List.set_cons_succ])
        refine wpAnyH_take (i := 12) (v := undef) rfl (by kernel_rfl) (by kernel_rfl) (by kernel_rfl) (fun _ _ _ h => h) (Or.inr ⟨by rfl, rfl⟩) (by assumption) ?_; (try simp only [Act.put, List.getElem_toArray, List.getElem_cons_succ, List.getElem_cons_zero, List.setIfInBounds_toArray, List.set_cons_zero, List.set_cons_succ])
        refine wpAnyH_take (i := 13) (v := undef) rfl (by kernel_rfl) (by kernel_rfl) (by kernel_rfl) (fun _ _ _ h => h) (Or.inr ⟨by rfl, rfl⟩) (by assumption) ?_; (try simp only [Act.put, List.getElem_toArray, List.getElem_cons_succ, List.getElem_cons_zero, List.setIfInBounds_toArray, List.set_cons_zero, List.set_cons_succ])
        refine wpAnyH_take (i := 14) (v := undef) rfl (by kernel_rfl) (by kernel_rfl) (by kernel_rfl) (fun _ _ _ h => h) (Or.inr ⟨by rfl, rfl⟩) (by assumption) ?_; (try simp only [Act.put, List.getElem_toArray, List.getElem_cons_succ, List.getElem_cons_zero, List.setIfInBounds_toArray, List.set_cons_zero, List.set_cons_succ])
        refine wpAnyH_take (i := 15) (v := undef) rfl (by kernel_rfl) (by kernel_rfl) (by kernel_rfl) (fun _ _ _ h => h) (Or.inr ⟨by rfl, rfl⟩) (by assumption) ?_; (try simp only [Act.put, List.getElem_toArray, List.getElem_cons_succ, List.getElem_cons_zero, List.setIfInBounds_toArray, List.set_cons_zero, List.set_cons_succ])
        refine wpAnyH_take (i := 16) (v := undef) rfl (by kernel_rfl) (by kernel_rfl) (by kernel_rfl) (fun _ _ _ h => h) (Or.inr ⟨by rfl, rfl⟩) (by assumption) ?_; (try simp only [Act.put, List.getElem_toArray, List.getElem_cons_succ, List.getElem_cons_zero, List.setIfInBounds_toArray, List.set_cons_zero, List.set_cons_succ])
        refine wpAnyH_take (i := 17) (v := undef) rfl (by kernel_rfl) (by kernel_rfl) (by kernel_rfl) (fun _ _ _ h => h) (Or.inr ⟨by rfl, rfl⟩) (by assumption) ?_; (try simp only [Act.put, List.getElem_toArray, List.getElem_cons_succ, List.getElem_cons_zero, List.setIfInBounds_toArray, List.set_cons_zero, List.set_cons_succ])
        refine wpAnyH_take (i := 18) (v := undef) rfl (by kernel_rfl) (by kernel_rfl) (by kernel_rfl) (fun _ _ _ h => h) (Or.inr ⟨by rfl, rfl⟩) (by assumption) ?_; (try simp only [Act.put, List.getElem_toArray, List.getElem_cons_succ, List.getElem_cons_zero, List.setIfInBounds_toArray, List.set_cons_zero, List.set_cons_succ])
        (refine wpAnyH_take (i := 19) (v := ?_) rfl (by kernel_rfl) (by kernel_rfl) (by kernel_rfl) (fun _ _ _ h => h) (Or.inl ⟨by rfl, ?rt⟩) (by assumption) ?_; case rt => (intro w hSw; (try dsimp only at hSw); go_simp; (try with_reducible rfl))); (try simp only [Act.put, List.getElem_toArray, List.getElem_cons_succ, List.getElem_cons_zero, List.setIfInBounds_toArray, List.set_cons_zero, List.set_cons_succ])
        refine wpAnyH_done (by kernel_rfl) ?_ _
        have HBz := Lib.hid (Bt HB.out hHeld.1)
        have c9 := Bc hHeld.1 hl c0
        have hl9 := Bl hHeld.1 hl
        clear hHeld
        generalize hwz : wr.drew = wz at *
        clear hwz
      all_goals
        clear c0 hl f0 a0 a1 a2 hal hkn hkz HG
        obtain ⟨⟨a0, a1, a2⟩, _, _, _⟩ := three_cells (blk_below b0.out HBz.out)
        have hal := cell_lt a0
        have O1 : Hid ((wz.alloc (.cells #[] 38)).ownsRow W.heap.size 38 3 (.slice (some ⟨wz.heap.size, 0, none⟩) 0 0) ([] : List Zn).length (flat encZ [])) := Lib.hid (World.ownsRow_made wz #[] 0 HBz.out.size (Nat.zero_le _) (by simp))
        obtain ⟨Z, hZ1, hZ2, hZ3⟩ := HL.out
        have hZl : Z.length = L.length := by rw [← hZ2, List.length_map]
        have HZ1 := Lib.hid hZ1
        have HZ2 := Lib.hid hZ2
        have HZ3 := Lib.hid hZ3
        clear hZ1 hZ2 hZ3
        have A1 := Lib.hid (Ba HBz.out (.cells #[] 38))
        have S1 := Lib.hid ((HZ1.out.front lenZ k (by omega)).below A1.out).sl
        have hzt : (Z.take k).length = k := by simp; omega
        obtain ⟨z, hz⟩ : ∃ z : Zn, z = (((x1, x2), l), (sp, l.length, c)) := ⟨_, rfl⟩
        have HZz := Lib.hid hz
        have hz6 : (Z.take k ++ [z]).length = k + 1 := by simp; omega
        have ez : flat encZ [z] = [.int .i64 x1, .int .i64 x2, .slice sp l.length c] := by rw [hz]; rfl
        have EZ := Lib.hid ez
        clear hz ez
        go_upto_region 5 with (at_builtin; refine wpl_app2 apZ rfl _ _ rfl W.heap.size (by rfl) (by rfl) O1.out rfl S1.out (by simp; omega) A1.out.size ?_; intro v4 w4 hown4 hgrow4 hat4 hnn4; rw [List.nil_append, hzt] at hown4; have O4 := Lib.hid hown4; have B4 := Lib.hid (grownB A1.out O1.out hgrow4); obtain ⟨p4, cp4, rfl, _, _, _⟩ := row_val hown4; clear hown4 hgrow4 hat4 hnn4)
        clear a0 a1 a2 hal c9 hl9 S1 A1 O1
        obtain ⟨c9, f9⟩ := one_cell (blk_below HH.out B4.out)
        have hl9 := cell_lt c9
        obtain ⟨⟨a0, a1, a2⟩, _, _, _⟩ := three_cells (blk_below b0.out B4.out)
        have hal := cell_lt a0
        have O5 := Lib.hid (O4.out.alloc (.cells #[.int .i64 x1, .int .i64 x2, .slice sp l.length c] 38))
        have S5 := Lib.hid (sl_lit (enc := encZ) (w := w4) (cs := #[.int .i64 x1, .int .i64 x2, .slice sp l.length c]) (t := 38) (b := w4.heap.size) [z] rfl EZ.out.symm (by unfold maxLen; simp))
        have A5 := Lib.hid (Ba B4.out (.cells #[.int .i64 x1, .int .i64 x2, .slice sp l.length c] 38))
        go_upto_region 6 with (at_builtin; refine wpl_app2 apZ rfl _ _ rfl W.heap.size (by rfl) (by rfl) O5.out hzt.symm S5.out (by simp; omega) A5.out.size ?_; intro v6 w6 hown6 hgrow6 hat6 hnn6; rw [hz6] at hown6; have O6 := Lib.hid hown6; have B6 := Lib.hid (grownB A5.out O5.out hgrow6); obtain ⟨p6, cp6, rfl, _, _, _⟩ := row_val hown6; clear hown6 hgrow6 hat6 hnn6)
        clear a0 a1 a2 hal c9 hl9 f9 S5 A5 O5 O4 B4
        obtain ⟨c9, f9⟩ := one_cell (blk_below HH.out B6.out)
        have hl9 := cell_lt c9
        have hzd : (Z.drop k).length = L.length - k := by simp; omega
        have hzs : k + 1 + (L.length - k) = L.length + 1 := by omega
        have hz8 : (Z.take k ++ [z] ++ Z.drop k).length = L.length + 1 := by rw [List.length_append, hz6, hzd]; omega
        have FIN : ∀ (w8 : World) (p8 : Option Addr) (cp8 : Nat), w8.ownsRow W.heap.size 38 3 (.slice p8 (L.length + 1) cp8) (L.length + 1) (flat encZ (Z.take k ++ [z] ++ Z.drop k)) → RowKit.Below W.heap.size W w8 →
            RefS (w8.setCell ⟨pr, 0, none⟩ (.slice p8 (L.length + 1) cp8)) (New N w (w8.setCell ⟨pr, 0, none⟩ (.slice p8 (L.length + 1) cp8))) pr (insE L ((x1, x2), l)) ∧ Tch (fun b => b = pr) w (w8.setCell ⟨pr, 0, none⟩ (.slice p8 (L.length + 1) cp8)) := by
          intro w8 p8 cp8 O8 B8
          have hBw := Bt B0.out B8
          have hWw := B0.out.size
          have hW8 := B8.size
          have hprl := HNl.out pr hNp
          refine refS_set (N8 := fun b => N1 b ∨ Ne b ∨ (W.heap.size ≤ b ∧ b < w8.heap.size)) HRF.out hBw ⟨Z.take k ++ [z] ++ Z.drop k, ((SlN.of lenZ O8 hz8.symm).inside8).mono (fun b e => .inr (.inr e)), ?_, fun y hy => ?_⟩ (fun b e => ?_)
          · rw [List.map_append, List.map_append, List.map_take, List.map_drop, HZ2.out]
            unfold insE
            rw [← EH.out, ← HK.out, HZz.out]
            simp
          · have hy2 : y = z ∨ y ∈ Z := by
              rcases List.mem_append.1 hy with e | e
              · rcases List.mem_append.1 e with e | e
                · exact .inr (List.mem_of_mem_take e)
                · exact .inl (by simpa using e)
              · exact .inr (List.mem_of_mem_drop e)
            rcases hy2 with e | e
            · rw [e, HZz.out]
              exact (HVe.out.below hBw).mono (fun b e => .inr (.inl e))
            · exact ((HZ3.out y e).below B8).mono (fun b e => .inl e)
          · rcases e with e | e | e
            · obtain ⟨e1, e2⟩ := hN1 b e
              have := HNl.out b e1
              exact ⟨.inl e1, e2, by omega⟩
            · obtain ⟨e1, e2⟩ := hN b e
              have := HNl.out b e1
              exact ⟨.inl e1, e2, by omega⟩
            · exact ⟨.inr (by omega), by omega, e.2⟩
        have FINH := Lib.hid FIN
        clear FIN
        rcases Decidable.em (k = L.length) with hkl | hkl
        · have S7 : Hid (∀ q c, c ≤ maxLen → Sl encZ w6 (.slice q (L.length - k) c) (Z.drop k)) := Lib.hid (fun q c hc => by
            have e : L.length - k = 0 := by omega
            rw [e, List.drop_eq_nil_of_le (by omega)]
            exact Sl.nil q c hc)
          clear hkl
          go_wp2_with (at_builtin; refine wpl_app2 apZ rfl _ _ rfl W.heap.size (by rfl) (by rfl) O6.out hz6.symm (S7.out _ _ (by unfold maxLen; omega)) (by simp; omega) B6.out.size ?_; intro v8 w8 hown8 hgrow8 hat8 hnn8; rw [hz8] at hown8; have O8 := Lib.hid hown8; have B8 := Lib.hid (grownB B6.out O6.out hgrow8); obtain ⟨c8, f8⟩ := one_cell (blk_below HH.out B8.out); have hl8 := cell_lt c8; obtain ⟨p8, cp8, rfl, _, _, _⟩ := row_val hown8; clear hown8 hgrow8 hat8 hnn8)
          all_goals
            go_end0
            exact ⟨rfl, FINH.out _ _ _ O8.out B8.out⟩
        · have hkk9 := HK.out
          have hkZ : k ≤ Z.length := by omega
          have hz0 : 0 < Z.length := by omega
          clear hkk9
          obtain ⟨p', cap', e', _, _, hcc⟩ := HZ1.out
          simp only [Value.slice.injEq] at e'
          obtain ⟨rfl, hq9, rfl⟩ := e'
          clear hq9
          obtain ⟨g, o, e9, hg, _, hcells⟩ := hcc hz0
          clear hcc
          first
            | subst e9
            | (simp only [Option.some.injEq, Addr.mk.injEq, and_true] at e9; obtain ⟨rfl, rfl⟩ := e9)
          have hck : ¬ cap = k := by omega
          have S7 := Lib.hid (sl_drop lenZ (w := w6) (g := g) (o := o) (cap := cap) (l := Z) k hkZ (by omega) (by unfold maxLen; omega) (Nat.lt_of_lt_of_le hg B6.out.size) (fun j u hu => Bc B6.out hg (hcells j u hu)))
          rw [hZl] at S7
          clear hcells
          go_wp2_with (at_builtin; refine wpl_app2 apZ rfl _ _ rfl W.heap.size (by rfl) (by rfl) O6.out hz6.symm S7.out (by simp; omega) B6.out.size ?_; intro v8 w8 hown8 hgrow8 hat8 hnn8; rw [hz8] at hown8; have O8 := Lib.hid hown8; have B8 := Lib.hid (grownB B6.out O6.out hgrow8); obtain ⟨c8, f8⟩ := one_cell (blk_below HH.out B8.out); have hl8 := cell_lt c8; obtain ⟨p8, cp8, rfl, _, _, _⟩ := row_val hown8; clear hown8 hgrow8 hat8 hnn8)
          all_goals
            go_end0
            exact ⟨rfl, FINH.out _ _ _ O8.out B8.out⟩
end
end Go.Proofs.YtaehendpdfpibaaGreatDoor

/-
  The reference's store: Put.
-/
namespace Go.Proofs.YtaehendpdfpibaaGreatDoor
set_option linter.unusedSimpArgs false
set_option linter.unusedVariables false
open Go.RowKit Go.Sort Go.Lib Go.Shelf

section
variable {w w' w5 : World} {N N1 : Nat → Prop} {pr : Nat} {L : List En}
theorem refS_new (h : RefS w N pr L) (hb : RowKit.Below w.heap.size w w') : RefS w' (New N w w') pr L ∧ Tch (fun b => b = pr) w w' :=
  ⟨(h.below hb).mono (fun b e => .inl e) (fun b e => e.elim (fun e => Nat.lt_of_lt_of_le (h.lt b e) hb.size) (fun e => e.2)), Tch.of hb⟩
/-- The store's row is put back. -/
theorem refS_put {vr v5 : Value} (hN : ∀ b, N b → b < w.heap.size) (hls : LsE w N1 vr L) (hNp : N pr) (hN1 : ∀ b, N1 b → N b ∧ b ≠ pr) (t : Tch (fun b => b = pr) w w5) (hp : w5.heap[pr]? = some (.cells #[v5] RsTy (0, 0))) :
    RefS (w5.setCell ⟨pr, 0, none⟩ vr) (New N w (w5.setCell ⟨pr, 0, none⟩ vr)) pr L ∧ Tch (fun b => b = pr) w (w5.setCell ⟨pr, 0, none⟩ vr) := by
  have hhead := heap_setCell_same w5 pr 0 _ _ vr hp
  have t1 : Tch (fun b => b = pr) w (w5.setCell ⟨pr, 0, none⟩ vr) := t.more (Tch.set (M := fun b => b = pr) (p := ⟨pr, 0, none⟩) w5 rfl vr)
  refine ⟨⟨vr, N1, by simpa using hhead, hls.kept t1 (fun b e c => (hN1 b e).2 c), .inl hNp, fun b e => ⟨.inl (hN1 b e).1, (hN1 b e).2⟩, fun b e => ?_⟩, t1⟩
  rcases e with e | e
  · exact Nat.lt_of_lt_of_le (hN b e) t1.size
  · exact e.2
set_option maxHeartbeats 8000000 in
set_option maxRecDepth 100000 in
theorem rputS (h : RefS w N pr L) (hG : Good L) (x1 x2 : Int) (l : List Vl) (v : Value) (hv : Sl encV w v l) (hlen : l.length ≤ 100000) :
    Calls Tryz.prog 44 #[rsP pr, .agg #[.int .i64 x1, .int .i64 x2], v] w fun e w' => e = .returned (.int .i64 (putEN L (x1, x2) l : Nat)) ∧ RefS w' (New N w w') pr (putEL L (x1, x2) l) ∧ Tch (fun b => b = pr) w w' := by
  have bb := Ba (Below.refl _ w) (.cells #[.int .i64 x1, .int .i64 x2] 31)
  have hsz : (w.alloc (.cells #[.int .i64 x1, .int .i64 x2] 31)).heap.size = w.heap.size + 1 := by simp
  have B0 := Lib.hid bb
  have b0 := Lib.hid (heap_alloc_new w (.cells #[.int .i64 x1, .int .i64 x2] 31))
  have HR := Lib.hid h
  have HV := Lib.hid hv
  have HG := Lib.hid hG
  have HLT := Lib.hid h.lt
  obtain ⟨W, hW⟩ : ∃ W, W = w.alloc (.cells #[.int .i64 x1, .int .i64 x2] 31) := ⟨_, rfl⟩
  rw [← hW] at B0 b0 hsz
  have CF := Lib.hid (rfindS (h.below B0.out) x1 x2)
  have CR : Hid (∀ W', RowKit.Below w.heap.size w W' → Calls Tryz.prog 86 #[v] W' fun e w' => e = .returned (.bool (rightB l)) ∧ RowKit.Below W'.heap.size W' w') := fun W' hb => rright_call l v W' (hv.below hb) hlen
  obtain ⟨pv, cv, rfl, _, hcv, _⟩ := id hv
  have hlv : l.length ≤ cv := by omega
  have hcv2 : cv ≤ 9223372036854775807 := by unfold maxLen at hcv; omega
  clear bb h hv hG
  cases hf : fndE L (x1, x2) with
  | some l0 =>
    obtain ⟨i, hi1, _, _⟩ := fixE_some hf
    have e1 : putEN L (x1, x2) l = 4 := by unfold putEN; rw [hf]; rfl
    have e2 : putEL L (x1, x2) l = L := by unfold putEL; rw [e1]; rfl
    rw [e1, e2]
    rw [hi1] at CF
    clear hf e1 e2 hi1
    go_enter Tryz.func44, Tryz.ntmps44
    go_wp2_with fail
    rw [← hW]
    clear hW
    refine CF.out.mono ?_
    rintro e w1 ⟨rfl, hb1⟩
    have B1 := Bt B0.out hb1
    go_wp2
    go_ret
    exact ⟨rfl, refS_new HR.out B1⟩
  | none =>
    rw [fixE_none hf] at CF
    cases hrb : rightB l with
    | false =>
      have e1 : putEN L (x1, x2) l = 7 := by unfold putEN; rw [hf, hrb]; rfl
      have e2 : putEL L (x1, x2) l = L := by unfold putEL; rw [e1]; rfl
      rw [e1, e2]
      rw [hrb] at CR
      clear hf e1 e2 hrb
      go_enter Tryz.func44, Tryz.ntmps44
      go_wp2_with fail
      rw [← hW]
      clear hW
      refine CF.out.mono ?_
      rintro e w1 ⟨rfl, hb1⟩
      have B1 := Lib.hid (Bt B0.out hb1)
      clear hb1 CF
      go_wp2_with fail
      refine (CR.out _ B1.out).mono ?_
      rintro e w2 ⟨rfl, hb2⟩
      have B2 := Bt B1.out hb2
      go_wp2
      go_ret
      exact ⟨rfl, refS_new HR.out B2⟩
    | true =>
      rw [hrb] at CR
      have hrt := (rightB_iff _).1 hrb
      obtain ⟨p, cap, N1, hb, hls, h1, h2, hNp, hN1⟩ := HR.out.open
      have HB := Lib.hid hb
      have HLS := Lib.hid hls
      have hlp := HLT.out pr hNp
      by_cases h128 : L.length < 128
      · have hz128 : ¬ (128 : Int) ≤ (L.length : Int) := by omega
        have hz128' : ¬ (L.length : Int) ≥ 128 := by omega
        have hn : (x1, x2) ∉ hds L := fun e => by
          have := fndE_mem.2 e
          rw [hf] at this
          cases this
        have hri : ∀ r ∈ insE L ((x1, x2), l), RightV r.2 := fun r hr => by
          rcases (mem_insE _ _ _).1 hr with e | e
          · rw [e]; exact hrt
          · exact HG.out.right r e
        have hnm := nM_le (insE L ((x1, x2), l))
        have HRI := Lib.hid hri
        have hEN : putEN L (x1, x2) l = if nM (insE L ((x1, x2), l)) ≤ 32 then 0 else 2 := by
          unfold putEN
          rw [hf, hrb]
          simp [h128]
        have hEL : putEL L (x1, x2) l = if nM (insE L ((x1, x2), l)) ≤ 32 then insE L ((x1, x2), l) else L := by
          unfold putEL
          rw [hEN]
          by_cases c : nM (insE L ((x1, x2), l)) ≤ 32 <;> simp [c]
        have EN := Lib.hid hEN
        have EL := Lib.hid hEL
        clear hEN hEL
        clear hf hrb hls hb hri hn hrt
        go_enter Tryz.func44, Tryz.ntmps44
        go_wp2_with fail
        rw [← hW]
        clear hW
        refine CF.out.mono ?_
        rintro e w1 ⟨rfl, hb1⟩
        have B1 := Lib.hid (Bt B0.out hb1)
        have D1 := Lib.hid hb1
        clear hb1 CF
        go_wp2_with fail
        refine (CR.out _ B1.out).mono ?_
        rintro e w2 ⟨rfl, hb2⟩
        have B2 := Lib.hid (Bt B1.out hb2)
        have X2 := Lib.hid (blk_below b0.out (Bt D1.out hb2))
        clear hb2 CR B1 D1
        obtain ⟨c0, f0⟩ := one_cell (blk_below HB.out B2.out)
        have hl := cell_lt c0
        obtain ⟨a0, a1, _, _⟩ := two_cells X2.out
        have hal := cell_lt a0
        go_wp2_with fail
        obtain ⟨s0, s1, _, _⟩ := two_cells (blk_below X2.out (Bd (Below.refl _ w2)))
        have A1 := Lib.hid (Ba (Bd (Below.refl _ w2)) (.cells #[] 34))
        have O1 := Lib.hid (show (w2.drew.alloc (.cells #[] 34)).ownsRow w2.heap.size 34 3 (.slice (some ⟨w2.heap.size, 0, none⟩) 0 0) ([] : List Vl).length (flat encV []) from World.ownsRow_made _ #[] 0 (Nat.le_refl _) (Nat.zero_le _) (by simp))
        have S1 := Lib.hid (HV.out.below (Bt B2.out A1.out))
        have hbase : w2.heap.size ≤ (w2.drew.alloc (.cells #[] 34)).heap.size := A1.out.size
        have hw2 : w.heap.size < w2.heap.size := hal
        clear a0 a1 c0 f0 hl hal
        refine wp_region_held_drew (S := fun w' => w'.cell? ⟨w.heap.size, 0, none⟩ = some (.int .i64 x1) ∧ w'.cell? ⟨w.heap.size, 1, none⟩ = some (.int .i64 x2)) (by kernel_rfl) ⟨s0, s1⟩ (fun hHeld => ?_)
        (refine wpAnyH_take (i := 0) (v := ?_) rfl (by kernel_rfl) (by kernel_rfl) (by kernel_rfl) (fun _ _ _ h => h) (Or.inl ⟨by rfl, ?rt⟩) (by assumption) ?_; case rt => (intro w hSw; (try dsimp only at hSw); go_simp; (try with_reducible rfl))); (try simp only [Act.put, List.getElem_toArray, List.getElem_cons_succ, List.getElem_cons_zero, List.setIfInBounds_toArray, List.set_cons_zero, List.set_cons_succ])
        (refine wpAnyH_take (i := 1) (v := ?_) rfl (by kernel_rfl) (by kernel_rfl) (by kernel_rfl) (fun _ _ _ h => h) (Or.inl ⟨by rfl, ?rt⟩) (by assumption) ?_; case rt => (intro w hSw; (try dsimp only at hSw); go_simp; (try with_reducible rfl))); (try simp only [Act.put, List.getElem_toArray, List.getElem_cons_succ, List.getElem_cons_zero, List.setIfInBounds_toArray, List.set_cons_zero, List.set_cons_succ])
        (refine wpAnyH_take (i := 3) (v := ?_) rfl (by kernel_rfl) (by kernel_rfl) (by kernel_rfl) (fun _ _ _ h => h) (Or.inl ⟨by rfl, ?rt⟩) (by assumption) ?_; case rt => (intro w hSw; (try dsimp only at hSw); go_simp; (try with_reducible rfl))); (try simp only [Act.put, List.getElem_toArray, List.getElem_cons_succ, List.getElem_cons_zero, List.setIfInBounds_toArray, List.set_cons_zero, List.set_cons_succ])
        refine wpAnyH_ready (rs := [2]) (by kernel_rfl) (by simp) ?_
        refine AllReadyH.cons rfl (fun K hK => ?_) AllReadyH.nil
        go_simp
        obtain ⟨s0, s1, _, _⟩ := two_cells (blk_below X2.out A1.out)
        refine hK.out _ _ ⟨s0, s1⟩ (fun hHeld => ?_)
        clear hK K hHeld
        have hHeld := And.intro s0 s1
        (try simp only [Act.put, List.getElem_toArray, List.getElem_cons_succ, List.getElem_cons_zero, List.setIfInBounds_toArray, List.set_cons_zero, List.set_cons_succ])
        refine wpAnyH_ready (rs := [4]) (by kernel_rfl) (by simp) ?_
        refine AllReadyH.cons rfl (fun K hK => ?_) AllReadyH.nil
        refine wp_app2 apV (.tmp 27) (.tmp 28) rfl w2.heap.size (by rfl) (by rfl) O1.out rfl S1.out (by simp; omega) hbase ?_
        intro va wa howna hgrowa hata hnn
        have BA := Lib.hid (grownB A1.out O1.out hgrowa)
        have OA := Lib.hid (show wa.ownsRow w2.heap.size 34 3 va l.length (flat encV l) from howna)
        clear hgrowa hata hnn
        obtain ⟨pa, ca, rfl, _, _, _⟩ := row_val howna
        clear howna
        obtain ⟨s0, s1, _, _⟩ := two_cells (blk_below X2.out BA.out)
        refine hK.out _ _ ⟨s0, s1⟩ (fun hHeld => ?_)
        clear hK K hHeld
        have hHeld := And.intro s0 s1
        (try simp only [Act.put, List.getElem_toArray, List.getElem_cons_succ, List.getElem_cons_zero, List.setIfInBounds_toArray, List.set_cons_zero, List.set_cons_succ])
        (refine wpAnyH_take (i := 5) (v := ?_) rfl (by kernel_rfl) (by kernel_rfl) (by kernel_rfl) (fun _ _ _ h => h) (Or.inl ⟨by rfl, ?rt⟩) (by assumption) ?_; case rt => (intro w hSw; (try dsimp only at hSw); go_simp; (try with_reducible rfl))); (try simp only [Act.put, List.getElem_toArray, List.getElem_cons_succ, List.getElem_cons_zero, List.setIfInBounds_toArray, List.set_cons_zero, List.set_cons_succ])
        have BW := Lib.hid (Bt B2.out BA.out)
        have HIN := Lib.hid (rinsertS (N := New N w wa) (Ne := fun b => w2.heap.size ≤ b ∧ b < wa.heap.size) (refS_new HR.out BW.out).1 x1 x2 l pa ca (by
          obtain ⟨a1, a2, a3, a4, a5, a6⟩ := SlN.of lenV OA.out rfl
          exact ⟨a1, a2, a3, a4, a5, fun hh => by
            obtain ⟨b1, b2, b3, b4, b5, b6⟩ := a6 hh
            exact ⟨b1, b2, b3, b4, ⟨b5, b4⟩, b6⟩⟩) (fun b e => ⟨.inr ⟨by omega, e.2⟩, by omega⟩) (by omega))
        refine wpAnyH_ready (rs := [6]) (by kernel_rfl) (by simp) ?_
        refine AllReadyH.cons rfl (fun K hK => ?_) AllReadyH.nil
        go_simp
        refine HIN.out.mono ?_
        rintro e w5 ⟨rfl, hR5, ht5⟩
        have hla : w.heap.size < wa.heap.size := Nat.lt_of_lt_of_le hw2 BA.out.size
        have q0 := ht5.cell hla (fun e => by omega) s0
        have q1 := ht5.cell hla (fun e => by omega) s1
        refine hK.out _ _ ⟨q0, q1⟩ (fun hHeld => ?_)
        clear hK K hHeld
        have hHeld := And.intro q0 q1
        (try simp only [Act.put, List.getElem_toArray, List.getElem_cons_succ, List.getElem_cons_zero, List.setIfInBounds_toArray, List.set_cons_zero, List.set_cons_succ])
        refine wpAnyH_done (by kernel_rfl) ?_ _
        have R5 := Lib.hid (hR5.mono (fun b e => New.step BW.out.size ht5.size b e) (fun b e => hR5.lt b (by
          rcases e with e | e
          · exact .inl (.inl e)
          · rcases Nat.lt_or_ge b wa.heap.size with c | c
            · exact .inl (.inr ⟨e.1, c⟩)
            · exact .inr ⟨c, e.2⟩)))
        have T5 := Lib.hid ((Tch.of (M := fun b => b = pr) BW.out).more ht5)
        have CM := Lib.hid (rmasksS hR5 HRI.out)
        clear hR5 ht5 HIN s0 s1 q0 q1 hHeld O1 S1 A1 OA
        obtain ⟨p5, cap5, N5, hb5, _, _, _, _, _⟩ := R5.out.open
        have HB5 := Lib.hid hb5
        clear hb5
        go_wp2_with fail
        refine CM.out.mono ?_
        rintro e w6 ⟨v6, rfl, ho6, hb6⟩
        have hm9 : (mskE (insE L ((x1, x2), l))).length = nM (insE L ((x1, x2), l)) := rfl
        rw [hm9] at ho6
        obtain ⟨p6, c6, rfl, _, _, _⟩ := row_val ho6
        have T6 := Lib.hid (T5.out.more (Tch.of hb6))
        have R6 := Lib.hid (R5.out.below hb6)
        have HB6 := Lib.hid (blk_below HB5.out hb6)
        obtain ⟨c0, f0⟩ := one_cell HB6.out
        have hl := cell_lt c0
        have B6 := Lib.hid hb6
        clear ho6 hb6 CM hm9 R5
        by_cases hm : nM (insE L ((x1, x2), l)) ≤ 32
        · have hmz : ¬ ((nM (insE L ((x1, x2), l)) : Nat) : Int) > 32 := by omega
          have E0 := Lib.hid (EN.out.trans (if_pos hm))
          have E1 := Lib.hid (EL.out.trans (if_pos hm))
          clear EN EL
          generalize nM (insE L ((x1, x2), l)) = nm at *
          go_wp2
          go_ret
          rw [E0.out, E1.out]
          exact ⟨rfl, R6.out.mono (fun b e => New.mono B6.out.size b e) (fun b e => e.elim (fun e => Nat.lt_of_lt_of_le (HLT.out b e) T6.out.size) (fun e => e.2)), T6.out⟩
        · have hmz : ((nM (insE L ((x1, x2), l)) : Nat) : Int) > 32 := by omega
          have E0 := Lib.hid (EN.out.trans (if_neg hm))
          have E1 := Lib.hid (EL.out.trans (if_neg hm))
          clear EN EL
          have FIN := Lib.hid (refS_put HLT.out HLS.out hNp hN1 T6.out HB6.out)
          generalize nM (insE L ((x1, x2), l)) = nm at *
          go_wp2
          go_ret
          rw [E0.out, E1.out]
          exact ⟨rfl, FIN.out⟩
      · have e1 : putEN L (x1, x2) l = 2 := by unfold putEN; rw [hf, hrb]; simp [h128]
        have e2 : putEL L (x1, x2) l = L := by unfold putEL; rw [e1]; rfl
        rw [e1, e2]
        have hz128 : (128 : Int) ≤ (L.length : Int) := by omega
        have hz128' : (L.length : Int) ≥ 128 := by omega
        clear hf e1 e2 hrb hls hb
        go_enter Tryz.func44, Tryz.ntmps44
        go_wp2_with fail
        rw [← hW]
        clear hW
        refine CF.out.mono ?_
        rintro e w1 ⟨rfl, hb1⟩
        have B1 := Lib.hid (Bt B0.out hb1)
        clear hb1 CF
        go_wp2_with fail
        refine (CR.out _ B1.out).mono ?_
        rintro e w2 ⟨rfl, hb2⟩
        have B2 := Lib.hid (Bt B1.out hb2)
        clear hb2
        obtain ⟨c0, f0⟩ := one_cell (blk_below HB.out B2.out)
        have hl := cell_lt c0
        go_wp2
        go_ret
        exact ⟨rfl, refS_new HR.out B2.out⟩
end
end Go.Proofs.YtaehendpdfpibaaGreatDoor

/-
  A store of the program's and the reference's, side by side, of the same entities; a store filled with rows.
-/
namespace Go.Proofs.YtaehendpdfpibaaGreatDoor
set_option linter.unusedSimpArgs false
set_option linter.unusedVariables false
open Go.RowKit Go.Sort Go.Lib Go.Shelf

theorem StoO.keepN {N X : Nat → Prop} {base ps : Nat} {w0 w : World} {L : List En} (h : StoO N base w0 ps L) (t : Tch X w0 w) (hX : ∀ b, X b → N b) : StoO (fun b => N b ∨ (w0.heap.size ≤ b ∧ b < w.heap.size)) base w ps L := by
  obtain ⟨M, h1, h2, h3, h4⟩ := h
  refine ⟨M, h1.kept t (fun b e c => (h2 b e).2 (hX b c)), fun b e => ⟨(h2 b e).1, fun c => c.elim (h2 b e).2 (fun c => by have := h1.lt b e; omega)⟩, fun b e => e.elim (fun e => Nat.lt_of_lt_of_le (h3 b e) t.size) (fun e => e.2), Nat.le_trans h4 t.size⟩
/-- At ps the program's store, at pr the reference's, both of the entities L, apart. -/
def TwoS (base : Nat) (w : World) (ps pr : Nat) (L : List En) : Prop := ∃ N M, StoO N base w ps L ∧ RefS w M pr L ∧ (∀ b, M b → N b)
section
variable {base ps pr : Nat} {w w' : World} {L L' : List En} {A : Nat → Addr}
theorem TwoS.below (h : TwoS base w ps pr L) (t : RowKit.Below w.heap.size w w') : TwoS base w' ps pr L := by
  obtain ⟨N, M, h1, h2, h3⟩ := h
  exact ⟨N, M, h1.below t, h2.below t, h3⟩
theorem TwoS.good (h : TwoS base w ps pr L) : Good L := by
  obtain ⟨N, M, h1, h2, h3⟩ := h
  exact h1.good
theorem TwoS.lo (h : TwoS base w ps pr L) : base ≤ w.heap.size := by
  obtain ⟨N, M, h1, h2, h3⟩ := h
  exact h1.lo
theorem TwoS.pr_lt (h : TwoS base w ps pr L) : pr < w.heap.size := by
  obtain ⟨N, M, h1, h2, h3⟩ := h
  obtain ⟨p, cap, N1, _, _, _, _, hp, _⟩ := h2.open
  exact h2.lt pr hp
theorem twoS_new (h : StoO NoN base w ps []) : TwoS base (w.alloc (.cells #[.slice none 0 0] RsTy)) ps w.heap.size [] := by
  have t := Ba (Below.refl _ w) (.cells #[.slice none 0 0] RsTy)
  refine ⟨_, fun b => b = w.heap.size, h.keepN (X := fun _ => False) (Tch.of t) (fun b e => e.elim), ⟨.slice none 0 0, fun _ => False, heap_alloc_new w _, ⟨[], SlN.nil none 0 (Nat.zero_le _), rfl, fun z hz => nomatch hz⟩, rfl, fun b e => e.elim, fun b e => by rw [e]; simp⟩, fun b e => .inr ⟨by omega, by simp; omega⟩⟩
/-- What only one that is old says of a store's answer: a call of the reference, then the same of the program. -/
theorem TwoS.ref (h : TwoS base w ps pr L) {P : Ending → Prop} {fn : FuncId} {args : Array Value}
    (hc : ∀ M, RefS w M pr L → Calls Tryz.prog fn args w fun e w' => P e ∧ RefS w' (New M w w') pr L' ∧ Tch (fun b => b = pr) w w') :
    Calls Tryz.prog fn args w fun e w' => P e ∧ (∃ N M, StoO N base w' ps L ∧ RefS w' M pr L' ∧ ∀ b, M b → N b) ∧ (∀ b, b < w.heap.size → b ≠ pr → w'.heap[b]? = w.heap[b]?) ∧ Tch (fun b => b = pr) w w' := by
  obtain ⟨N, M, h1, h2, h3⟩ := h
  have hpr : N pr := by
    obtain ⟨p, cap, N1, _, _, _, _, hp, _⟩ := h2.open
    exact h3 pr hp
  refine (hc M h2).mono fun e w' ⟨he, hR, ht⟩ => ⟨he, ⟨_, _, h1.keepN ht (fun b e => e ▸ hpr), hR, fun b e => ?_⟩, fun b hb hn => ht.block b hb hn, ht⟩
  rcases e with e | e
  · exact .inl (h3 b e)
  · exact .inr e
theorem two_prog {P : Ending → World → Prop} {fn : FuncId} {args : Array Value} (h : ∃ N M, StoO N base w ps L ∧ RefS w M pr L' ∧ ∀ b, M b → N b)
    (hc : ∀ N, StoO N base w ps L → Calls Tryz.prog fn args w fun e w' => P e w' ∧ StoO N base w' ps L' ∧ Tch (OffT base N) w w') :
    Calls Tryz.prog fn args w fun e w' => P e w' ∧ TwoS base w' ps pr L' ∧ Tch (fun b => base ≤ b) w w' := by
  obtain ⟨N, M, h1, h2, h3⟩ := h
  exact (hc N h1).mono fun e w' ⟨he, hS, ht⟩ => ⟨he, ⟨N, M, hS, h2.kept ht (fun b e c => c.2 (h3 b e)), h3⟩, ht.mono (fun b e => e.1)⟩
end

/-! ### A store filled with rows. -/
def bigR (l : List Rr) : Bool := l.any fun r => decide (20 < r.2.length)
theorem bigR_step {l : List Rr} {k : Nat} (hk : k < l.length) : bigR (l.take (k + 1)) = (bigR (l.take k) || decide (20 < l[k]!.2.length)) := by
  rw [getElem!_pos l k hk]
  unfold bigR
  rw [List.take_add_one, List.getElem?_eq_getElem hk, List.any_append]
  simp
theorem bigR_at {l : List Rr} {k : Nat} (hk : k < l.length) (h : 20 < l[k]!.2.length) : bigR l = true := by
  unfold bigR
  rw [List.any_eq_true]
  exact ⟨l[k]!, by rw [getElem!_pos l k hk]; exact List.getElem_mem _, decide_eq_true h⟩
section
variable {A : Nat → Addr}
set_option maxHeartbeats 4000000 in
set_option maxRecDepth 100000 in
theorem long_call (l : List Rr) (v : Value) (w : World) (hl : Sl encRr w v l) (hr : ∀ r ∈ l, Sl encV w r.1 r.2) :
    Calls Tryz.prog 22 #[v] w fun e w' => e = .returned (.bool (bigR l)) ∧ RowKit.Below w.heap.size w w' := by
  obtain ⟨p, c, rfl, h1, h2, h3⟩ := hl
  have HC := Lib.hid h3
  have HR := Lib.hid hr
  have hn2 : l.length ≤ 9223372036854775807 := by unfold maxLen at h2; omega
  clear h3 hr h2
  go_enter Tryz.func22, Tryz.ntmps22
  go_wp2
  go_loopw [7] (fun s7 wr => ∃ (k : Nat), s7 = .int .i64 k ∧ k ≤ l.length ∧ Hid (bigR (l.take k) = false) ∧ Hid (RowKit.Below w.heap.size w wr)) (fun i _ => l.length - (intOf i).toNat)
  case atStart => exact ⟨0, rfl, Nat.zero_le _, Lib.hid rfl, Lib.hid (Below.refl _ _)⟩
  case round =>
    obtain ⟨k, rfl, hk, HF, HB⟩ := hrel
    by_cases hkn : k < l.length
    · have hkz : (k : Int) < (l.length : Int) := by omega
      have hmem : l[k]! ∈ l := by rw [getElem!_pos l k hkn]; exact List.getElem_mem _
      have hsl := HR.out _ hmem
      have HST := Lib.hid (bigR_step hkn)
      have HAT := Lib.hid (fun h => bigR_at hkn h)
      obtain ⟨g, o, rfl, hg, hcells⟩ := HC.out (by omega)
      have v0 := Bc HB.out hg (atRr hcells hkn)
      have hgr : g < wr.heap.size := Nat.lt_of_lt_of_le hg HB.out.size
      generalize l[k]! = y at *
      obtain ⟨yv, yr⟩ := y
      dsimp only at *
      obtain ⟨pk, ck, rfl, _, hck, _⟩ := hsl
      have hck2 : yr.length ≤ 9223372036854775807 := by unfold maxLen at hck; omega
      clear hcells hmem hck
      by_cases hy : yr.length > 20
      · have hy' : (yr.length : Int) > 20 := by omega
        have e1 := Lib.hid (HAT.out hy)
        go_wp2
        go_ret
        exact ⟨by rw [e1.out]; rfl, HB.out⟩
      · have hy' : ¬ (yr.length : Int) > 20 := by omega
        have HF2 := Lib.hid (show bigR (l.take (k + 1)) = false by rw [HST.out, HF.out, decide_eq_false hy]; rfl)
        go_wp2
        go_roundw
        case measure => simp [intOf]; omega
        case rel => exact ⟨k + 1, by go_num, by omega, HF2, HB⟩
    · have hkk : k = l.length := by omega
      have h9 := HF.out
      rw [hkk, List.take_length] at h9
      have H9 := Lib.hid h9
      clear h9 hkk
      go_wp2
      go_ret
      exact ⟨by rw [H9.out]; rfl, HB.out⟩
theorem idx41 (k : Nat) (hk : k < 40) : IntKind.i64.wrap ((k : Int) * 7) = (k : Int) * 7 ∧ HdOk (((k : Int) * 7) % 41, 1) := by
  refine ⟨by rw [IntKind.wrap_i64]; omega, WalkArith.wf_i64 ?_, (show (Lit.int .i64 1).wf = true by decide)⟩
  omega
set_option maxHeartbeats 8000000 in
set_option maxRecDepth 100000 in
theorem filled_call (l : List Rr) (v : Value) (w : World) (hl : Sl encRr w v l) (hr : ∀ r ∈ l, Sl encV w r.1 r.2) (hE : Er8 w A) (hT : TabW w) :
    Calls Tryz.prog 21 #[v] w fun e w' => RowKit.Below w.heap.size w w' ∧
      ((e = .returned (.tuple #[.pointer none, .pointer none, .bool false]) ∧ (40 < l.length ∨ bigR l = true)) ∨
       ∃ ps pr L, e = .returned (.tuple #[psP ps, rsP pr, .bool true]) ∧ l.length ≤ 40 ∧ bigR l = false ∧ TwoS w.heap.size w' ps pr L) := by
  have HA := Lib.hid (Era.of hE hT (Nat.le_refl w.heap.size))
  have NW := Lib.hid (newS (N := NoN) (base := w.heap.size) (w := w) (Nat.le_refl _) (fun b e => e.elim))
  have HR := Lib.hid hr
  have HV := Lib.hid hl
  obtain ⟨p, c, rfl, h1, h2, h3⟩ := hl
  have HC := Lib.hid h3
  have hn2 : l.length ≤ 9223372036854775807 := by unfold maxLen at h2; omega
  clear h3 hr h2 hE hT
  by_cases h40 : l.length > 40
  · have h40' : (l.length : Int) > 40 := by omega
    have H40 := Lib.hid h40
    clear h40
    go_enter Tryz.func21, Tryz.ntmps21
    go_wp2_with fail
    refine NW.out.mono ?_
    rintro e w1 ⟨ps, rfl, hS1, hb1⟩
    have B1 := Lib.hid (Ba hb1 (.cells #[.slice none 0 0] RsTy))
    clear hS1 hb1
    go_wp2
    go_ret3
    exact ⟨B1.out, .inl ⟨rfl, .inl H40.out⟩⟩
  · have h40' : ¬ (l.length : Int) > 40 := by omega
    have H40 := Lib.hid h40
    have hl40 : l.length ≤ 40 := by omega
    clear h40
    go_enter Tryz.func21, Tryz.ntmps21
    go_wp2_with fail
    refine NW.out.mono ?_
    rintro e w1 ⟨ps, rfl, hS1, hb1⟩
    have B1 := Lib.hid (Ba hb1 (.cells #[.slice none 0 0] RsTy))
    have T1 := Lib.hid (twoS_new hS1)
    obtain ⟨pr, hpr⟩ : ∃ pr, pr = w1.heap.size := ⟨_, rfl⟩
    have HPR := Lib.hid (show w.heap.size ≤ pr by rw [hpr]; exact hb1.size)
    rw [← hpr] at T1
    clear hS1 hb1 NW
    go_wp2
    rw [← hpr]
    generalize hW : w1.alloc (.cells #[.slice none 0 0] RsTy) = W at *
    clear hW hpr
    go_loopw [18] (fun s18 wr => ∃ (k : Nat) (L : List En), s18 = .int .i64 k ∧ k ≤ l.length ∧ Hid (TwoS w.heap.size wr ps pr L) ∧ Hid (bigR (l.take k) = false) ∧ Hid (RowKit.Below w.heap.size w wr)) (fun i _ => l.length - (intOf i).toNat)
    case atStart => exact ⟨0, [], rfl, Nat.zero_le _, T1, Lib.hid rfl, B1⟩
    case round =>
      obtain ⟨k, L, rfl, hk, HTW, HF, HB⟩ := hrel
      by_cases hkn : k < l.length
      · have hkz : (k : Int) < (l.length : Int) := by omega
        have hmem : l[k]! ∈ l := by rw [getElem!_pos l k hkn]; exact List.getElem_mem _
        have hsl := HR.out _ hmem
        have HST := Lib.hid (bigR_step hkn)
        have HAT := Lib.hid (fun h => bigR_at hkn h)
        obtain ⟨g, o, rfl, hg, hcells⟩ := HC.out (by omega)
        have v0 := Bc HB.out hg (atRr hcells hkn)
        have hgr : g < wr.heap.size := Nat.lt_of_lt_of_le hg HB.out.size
        generalize l[k]! = y at *
        obtain ⟨yv, yr⟩ := y
        dsimp only at *
        have HY := Lib.hid hsl
        obtain ⟨pk, ck, rfl, _, hck, _⟩ := hsl
        have hck2 : yr.length ≤ 9223372036854775807 := by unfold maxLen at hck; omega
        clear hcells hmem hck
        by_cases hy : yr.length > 20
        · have hy' : (yr.length : Int) > 20 := by omega
          have e1 := Lib.hid (HAT.out hy)
          go_wp2
          go_ret3
          exact ⟨HB.out, .inl ⟨rfl, .inr e1.out⟩⟩
        · have hy' : ¬ (yr.length : Int) > 20 := by omega
          have HF2 := Lib.hid (show bigR (l.take (k + 1)) = false by rw [HST.out, HF.out, decide_eq_false hy]; rfl)
          obtain ⟨hw7, hok⟩ := idx41 k (by omega)
          obtain ⟨x, hx⟩ : ∃ x, x = ((k : Int) * 7) % 41 := ⟨_, rfl⟩
          rw [← hx] at hok
          have bH := Ba (Below.refl _ wr) (.cells #[.int .i64 x, .int .i64 1] 31)
          have H1 := Lib.hid (heap_alloc_new wr (.cells #[.int .i64 x, .int .i64 1] 31))
          have BH := Lib.hid (Bt HB.out bH)
          have CP := Lib.hid ((HTW.out.below bH).ref (P := fun e => e = .returned (.int .i64 (putEN L (x, 1) yr : Nat))) (L' := putEL L (x, 1) yr) (fun M hM => rputS hM HTW.out.good x 1 yr _ (HY.out.below BH.out) (by omega)))
          have hlt9 := HTW.out.pr_lt
          have hsz9 : wr.heap.size < (wr.alloc (.cells #[.int .i64 x, .int .i64 1] 31)).heap.size := by simp
          have CS : Hid (∀ w5, RowKit.Below w.heap.size w w5 → (∃ N M, StoO N w.heap.size w5 ps L ∧ RefS w5 M pr (putEL L (x, 1) yr) ∧ ∀ b, M b → N b) → Calls Tryz.prog 37 #[psP ps, .agg #[.int .i64 x, .int .i64 1], .slice pk yr.length ck] w5 fun e w' => e = .returned (errV A (putEN L (x, 1) yr)) ∧ TwoS w.heap.size w' ps pr (putEL L (x, 1) yr) ∧ Tch (fun b => w.heap.size ≤ b) w5 w') := fun w5 hb5 hN5 =>
            two_prog (P := fun e _ => e = .returned (errV A (putEN L (x, 1) yr))) hN5 (fun N hS => putS hS x 1 hok yr _ (HY.out.slN.below hb5) (fun b e => .inl e) (by omega) (HA.out.below hb5))
          obtain ⟨n, hn⟩ : ∃ n, n = putEN L (x, 1) yr := ⟨_, rfl⟩
          rw [← hn] at CP CS
          obtain ⟨z, hz⟩ : ∃ z : Int, z = (n : Int) := ⟨_, rfl⟩
          rw [← hz] at CP
          have EL : Hid (n ≠ 0 → putEL L (x, 1) yr = L) := fun h => by unfold putEL; rw [if_neg (by rw [← hn]; exact h)]
          have HX := Lib.hid hx
          generalize putEL L (x, 1) yr = L9 at *
          clear hn hok bH
          by_cases h0 : n = 0
          · subst h0
            rw [errV_no] at CS
            have hz0 : z = 0 := hz
            subst hz0
            clear EL hz
            go_wp2_with fail
            rw [← HX.out]
            refine CP.out.mono ?_
            rintro e w5 ⟨rfl, hN5, hk5, ht5⟩
            have B5 := Lib.hid (BH.out.trans (ht5.below (B := w.heap.size) (fun b e => by rw [e]; exact HPR.out) BH.out.size))
            obtain ⟨a0, a1, _, _⟩ := two_cells ((hk5 wr.heap.size hsz9 (by omega)).trans H1.out)
            have hal := cell_lt a0
            have CS5 := Lib.hid (CS.out w5 B5.out hN5)
            clear hN5 hk5 ht5 CP CS hw7 hx HX H1 v0 hgr hg
            go_wp2_with fail
            refine CS5.out.mono ?_
            rintro e w6 ⟨rfl, hT6, ht6⟩
            have T6 := Lib.hid hT6
            have B6 := Lib.hid (B5.out.trans (ht6.below (B := w.heap.size) (fun b e => e) B5.out.size))
            clear hT6 ht6 CS5 a0 a1 hal
            go_wp2
            go_roundw
            case measure => simp [intOf]; omega
            case rel => exact ⟨k + 1, L9, by go_num, by omega, T6, HF2, B6⟩
          · have hnz : ¬ z = 0 := by omega
            clear hz
            have e9 := EL.out h0
            subst e9
            clear EL CS
            go_wp2_with fail
            rw [← HX.out]
            refine CP.out.mono ?_
            rintro e w5 ⟨rfl, hN5, hk5, ht5⟩
            have B5 := Lib.hid (BH.out.trans (ht5.below (B := w.heap.size) (fun b e => by rw [e]; exact HPR.out) BH.out.size))
            have T5 := Lib.hid (show TwoS w.heap.size w5 ps pr L9 from hN5)
            clear hN5 hk5 ht5 CP h0
            go_wp2
            go_roundw
            case measure => simp [intOf]; omega
            case rel => exact ⟨k + 1, L9, by go_num, by omega, T5, HF2, B5⟩
      · have hkk : k = l.length := by omega
        have h9 := HF.out
        rw [hkk, List.take_length] at h9
        have H9 := Lib.hid h9
        clear h9 hkk
        go_wp2
        go_ret3
        exact ⟨HB.out, .inr ⟨ps, pr, L, rfl, hl40, H9.out, HTW.out⟩⟩
end
end Go.Proofs.YtaehendpdfpibaaGreatDoor
