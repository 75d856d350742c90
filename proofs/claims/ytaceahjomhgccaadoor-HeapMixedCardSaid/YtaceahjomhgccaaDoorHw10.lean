/-
  Package heap's calls at a heap in memory: Push.
-/
import Derived.Test.YtaceahjomhgccaaDoorHv10
namespace Go.Proofs.YtaceahjomhgccaaDoor
set_option linter.unusedSimpArgs false
set_option linter.unusedVariables false
open Go.RowKit Go.Sort Go.Lib Go.Shelf

section
variable {pa : Nat} {L : List Hd} {M : Nat → Prop} {w : World}
set_option maxHeartbeats 1000000 in
set_option maxRecDepth 100000 in
theorem push_full (hp : HpAt w M pa L) (xs : List Hd) (vx : Value) (hv : Sl encH w vx xs) (hm : L.length ≤ 16384) (hn : 16384 < L.length + xs.length) (t : TypeId) (v : Value) (hE : w.cell? ⟨0, 0, none⟩ = some (.iface t v)) :
    Calls Tryd.prog 10 #[.pointer (some ⟨pa, 0, none⟩), vx] w fun e w' => e = .returned (.iface t v) ∧ RowKit.Below w.heap.size w w' := by
  have N := Lib.hid (fun W (h : RowKit.Below w.heap.size w W) => len_call (hp.below h))
  obtain ⟨p, cap, rfl, h1, h2, _⟩ := hv
  unfold maxLen at h2
  have hz : (xs.length : Int) > 16384 - (L.length : Int) := by omega
  clear hp
  go_enter Tryd.func10, Tryd.ntmps10
  go_wp2_with fail
  refine (N.out _ (Below.refl _ _)).mono ?_
  rintro e w1 ⟨rfl, rfl⟩
  go_wp2
  go_ret
  exact ⟨rfl, (by repeat (first | with_reducible exact Below.refl _ _ | with_reducible assumption | with_reducible apply Ba | with_reducible apply Bd | with_reducible apply Bn | with_reducible apply Bg | (with_reducible refine Bs ?_ (by first | (simp; done) | (simp; omega)) _) | (with_reducible refine Bt ?_ (by assumption)) | (with_reducible refine Bt ?_ (Gr.below (by assumption)))))⟩

set_option maxHeartbeats 2000000 in
set_option maxRecDepth 100000 in
theorem push_call (hp : HpAt w M pa L) (xs : List Hd) (vx : Value) {N : Nat → Prop} (hv : SlN N encH w vx xs) (hN : ∀ b, N b → ¬ M b) (hm : L.length ≤ 16384) (hn : ¬ 16384 < L.length + xs.length) :
    Calls Tryd.prog 10 #[.pointer (some ⟨pa, 0, none⟩), vx] w fun e w' => e = .returned .nilIface ∧ HpAt w' (New M w w') pa (pushesL ltH L xs) ∧ Tch M w w' := by
  have NL := Lib.hid (fun W (h : RowKit.Below w.heap.size w W) => len_call (hp.below h))
  have HP := Lib.hid hp
  have HV := Lib.hid hv
  have HN := Lib.hid hN
  have hpl := hp.lt
  obtain ⟨p, cap, rfl, h1, h2, hX⟩ := hv
  have HX := Lib.hid hX
  unfold maxLen at h2
  have hz : ¬ (xs.length : Int) > 16384 - (L.length : Int) := by omega
  clear hp hX hN
  go_enter Tryd.func10, Tryd.ntmps10
  go_wp2_with fail
  refine (NL.out _ (Below.refl _ _)).mono ?_
  rintro e w1 ⟨rfl, rfl⟩
  clear hz NL
  go_wp2
  go_loopw [16] (fun v wr => ∃ (k : Nat), v = .int .i64 k ∧ k ≤ xs.length ∧ HpAt wr (New M w wr) pa (pushesL ltH L (xs.take k)) ∧ Tch M w wr) (fun v _ => xs.length - (intOf v).toNat)
  case atStart => exact ⟨0, rfl, Nat.zero_le _, by simpa [pushesL] using HP.out.mono (fun b h => .inl h), Tch.refl _ _⟩
  case round =>
    obtain ⟨k, rfl, hk, hP, hT⟩ := hrel
    have HP2 := Lib.hid hP
    have HT := Lib.hid hT
    have HV2 := Lib.hid (HV.out.kept hT HN.out)
    clear hP hT HP
    by_cases hkn : k < xs.length
    · have hkz : (k : Int) < xs.length := by omega
      obtain ⟨g, o, rfl, hg1, hNg, hcs⟩ := HX.out (by omega)
      obtain ⟨c1, c2⟩ := atH (fun j u hu => HT.out.cell hg1 (HN.out g hNg) (hcs j u hu)) hkn
      have hgr := HT.out.lt hg1
      have PL := Lib.hid (pushesL_take (lt := ltH) L xs k hkn)
      have LL : (pushesL ltH L (xs.take k)).length < 16384 := by rw [pushesL_len, List.length_take]; omega
      generalize xs[k]! = x at *
      obtain ⟨x1, x2⟩ := x
      dsimp only at c1 c2
      clear hcs
      generalize hLk : pushesL ltH L (xs.take k) = Lk at *
      have HLk := Lib.hid hLk
      clear hLk
      have hpl' := HP2.out.lt
      have HBX := Lib.hid (heap_alloc_new wr (.cells #[.int .i64 x1, .int .i64 x2] 35))
      have BX := Lib.hid (Ba (Below.refl _ wr) (.cells #[.int .i64 x1, .int .i64 x2] 35))
      go_wp2_with fail
      obtain ⟨W3, hW3⟩ : ∃ W3, W3 = wr.alloc (.cells #[.int .i64 x1, .int .i64 x2] 35) := ⟨_, rfl⟩
      rw [← hW3] at HBX BX ⊢
      have HW3 := Lib.hid hW3
      clear hW3
      obtain ⟨x0, x1', _, _⟩ := two_cells HBX.out
      obtain ⟨p3, cap3, hI, q1, q2, q3⟩ := (HP2.out.below BX.out).open
      obtain ⟨z0, zf⟩ := hI.cells
      have hl3 := hI.lt
      have hlx : wr.heap.size < W3.heap.size := cell_lt x0
      have TX := Lib.hid (HT.out.bel BX.out)
      generalize wr.heap.size = xb at *
      have P3 := Lib.hid hI
      have B4 := Lib.hid (Ba (Bd (Below.refl _ W3)) (.cells #[.int .i64 x1, .int .i64 x2] 35))
      have P4 := Lib.hid (P3.out.below B4.out)
      have S4 := Lib.hid (sl_lit (enc := encH) (w := W3.drew) (cs := #[.int .i64 x1, .int .i64 x2]) (t := 35) (b := W3.heap.size) [((x1, x2) : Hd)] rfl rfl (by unfold maxLen; simp))
      clear hI q3
      go_region_law (refine step_app2 apH rfl (.tmp 24) (.tmp 26) rfl 0 (by rfl) (by rfl) P4.out.2.2.1 rfl S4.out (by simp; omega) (Nat.zero_le _) ?_; intro v4 w4 hown4 hgrow4 hat4 _; obtain ⟨p4, c4, rfl, _, _, _⟩ := row_val hown4; have hrow4 := Lib.hid (row_grown P4.out.2.2.2 hown4 hgrow4 hat4); have G4 := Lib.hid (P4.out.grown hgrow4); obtain ⟨y0, y1⟩ := one_cell G4.out; clear hown4 hgrow4 hat4)
      all_goals
        have hm : ∀ b, New (New M w wr) (W3.alloc (.cells #[.int .i64 x1, .int .i64 x2] 35)).drew w4 b → New M w w4 b := fun b e => e.elim (fun e => e.elim .inl (fun e => .inr ⟨e.1, by have := hrow4.out.2.size; have := B4.out.size; have := BX.out.size; simp at *; omega⟩)) (fun e => .inr ⟨by have := HT.out.size; have := B4.out.size; have := BX.out.size; simp at *; omega, e.2⟩)
        have hMp : M pa := P3.out.2.1.elim id (fun e => absurd hpl (by omega))
        obtain ⟨P5, t5⟩ := hp_put (M := New M w w4) G4.out (.inl hMp) (hrow4.out.1.mono hm)
        have hlenS : (Lk ++ [(x1, x2)]).length = Lk.length + 1 := by simp
        rw [hlenS] at P5 t5
        have hs3 : wr.heap.size ≤ (W3.alloc (.cells #[.int .i64 x1, .int .i64 x2] 35)).drew.heap.size := Nat.le_trans BX.out.size B4.out.size
        have T5 := Lib.hid (((TX.out.bel B4.out).trans (hrow4.out.2.mono (New.mono hs3))).trans t5)
        have P5' := Lib.hid (P5.at.mono (New.mono (show w4.heap.size ≤ (w4.setCell ⟨pa, 0, none⟩ (.slice p4 (Lk.length + 1) c4)).heap.size by simp)))
        clear P5 t5 hm hs3 y0 y1 z0 zf x0 x1' hrow4 G4 S4 P4 B4 P3 BX
        generalize w4.setCell ⟨pa, 0, none⟩ (.slice p4 (Lk.length + 1) c4) = W5 at *
        have N5 := Lib.hid (len_call P5'.out)
        have R5 := Lib.hid (rise_call P5'.out Lk.length (by simp) (by simp; omega))
        rw [hlenS] at N5
        rw [show riseL ltH (Lk ++ [(x1, x2)]) Lk.length = pushL ltH Lk (x1, x2) from rfl, ← PL.out] at R5
        clear hlenS
        go_wp2_with fail
        refine N5.out.mono ?_
        rintro e w6 ⟨rfl, rfl⟩
        go_wp2_with fail
        refine R5.out.mono ?_
        rintro e w7 ⟨rfl, hp7, ht7⟩
        have P7 := Lib.hid (hp7.mono (New.mono ht7.size))
        have T7 := Lib.hid (T5.out.trans ht7)
        clear hp7 ht7
        go_wp2
        go_roundw
        case rel => exact ⟨k + 1, by go_num, by omega, P7.out, T7.out⟩
        case measure => simp [intOf]; omega
    · have hkx : k = xs.length := by omega
      have HE := Lib.hid (show xs.take k = xs by rw [hkx, List.take_length])
      rw [HE.out] at HP2
      clear hkx HE
      have hkz : ¬ (k : Int) < xs.length := by omega
      go_wp2
      go_ret
      exact ⟨rfl, HP2.out, HT.out⟩
end
end Go.Proofs.YtaceahjomhgccaaDoor
