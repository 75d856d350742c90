/-
  Package tiles: Under.
-/
import Derived.Test.YtmeinjkpbijaeaaTl14
namespace Go.Proofs.Ytmeinjkpbijaeaa
set_option linter.unusedSimpArgs false
set_option linter.unusedVariables false
open Go.RowKit Go.Sort Go.Lib Go.Shelf

set_option maxHeartbeats 4000000 in
set_option maxRecDepth 100000 in
theorem tunder_call (g : Gd) (b : Bx4) (w : World) : Calls Try.prog 6 #[grV g, bxV b] w fun e w' => ∃ v, e = .returned v ∧ OwnI w' w.heap.size v (und g b) ∧ RowKit.Below w.heap.size w w' := by
  cases hg : grOk g
  · rw [und_off (b := b) (by rw [hg]; rfl)]
    obtain ⟨W, H, S, X, Y⟩ := g
    obtain ⟨b1, b2, b3, b4⟩ := b
    have RC := Lib.hid (fun W' => tright_any W H S X Y W')
    rw [hg] at RC
    go_enter Try.func6, Try.ntmps6
    go_wp2_with fail
    refine (RC.out _).mono ?_
    rintro e w1 ⟨rfl, hb1⟩
    go_wp2
    go_ret
    exact ⟨_, rfl, own_nil _ _, (by repeat (first | with_reducible exact Below.refl _ _ | with_reducible assumption | with_reducible apply Ba | with_reducible apply Bd | with_reducible apply Bn | with_reducible apply Bg | (with_reducible refine Bs ?_ (by first | (simp; done) | (simp; omega)) _) | (with_reducible refine Bt ?_ (by assumption)) | (with_reducible refine Bt ?_ (Gr.below (by assumption)))))⟩
  · cases hb : okX b
    · rw [und_off (b := b) (by rw [hg, hb]; rfl)]
      obtain ⟨W, H, S, X, Y⟩ := g
      obtain ⟨b1, b2, b3, b4⟩ := b
      have RC := Lib.hid (fun W' => tright_any W H S X Y W')
      have PC := Lib.hid (fun W' => right_any b1 b2 b3 b4 W')
      rw [hg] at RC
      rw [right_okX, hb] at PC
      go_enter Try.func6, Try.ntmps6
      go_wp2_with fail
      refine (RC.out _).mono ?_
      rintro e w1 ⟨rfl, hb1⟩
      obtain ⟨k1, k2, z1, z2⟩ := two_blk (w := w) (o1 := .cells #[.int .i64 W, .int .i64 H, .int .i64 S, .int .i64 X, .int .i64 Y] 23) (o2 := .cells #[.int .i64 b1, .int .i64 b2, .int .i64 b3, .int .i64 b4] 25) hb1
      obtain ⟨y1, y2, y3, y4⟩ := cells4 k2
      have B1 := Lib.hid (by exact (by repeat (first | with_reducible exact Below.refl _ _ | with_reducible assumption | with_reducible apply Ba | with_reducible apply Bd | with_reducible apply Bn | with_reducible apply Bg | (with_reducible refine Bs ?_ (by first | (simp; done) | (simp; omega)) _) | (with_reducible refine Bt ?_ (by assumption)) | (with_reducible refine Bt ?_ (Gr.below (by assumption))))) : RowKit.Below w.heap.size w w1)
      clear hb1 k1 k2
      go_wp2_with fail
      refine (PC.out _).mono ?_
      rintro e w2 ⟨rfl, hb2⟩
      have B2 := Lib.hid (Bt B1.out hb2)
      clear hb2
      go_wp2
      go_ret
      exact ⟨_, rfl, own_nil _ _, B2.out⟩
    · have hu : und g b = undK g b (ntl g) := by unfold und; rw [hg, hb]; rfl
      rw [hu]
      obtain ⟨Wn, Hn, f, l, p, q, hC⟩ := cov_of hg hb
      have gk := grOk_iff.1 hg
      have bk := okX_iff.1 hb
      have E1 := Lib.hid hC.begin
      have E2 := Lib.hid hC.finish
      have E3 := Lib.hid (fun r hr => hC.left (r := r) hr)
      have E4 := Lib.hid (fun r hr => hC.right (r := r) hr)
      have E5 := Lib.hid (fun r c hr hc => hC.step (r := r) (c := c) hr hc)
      have cx := hC.cx
      have cy := hC.cy
      have hw := hC.hw
      have hh := hC.hh
      have hWn := hC.w1
      have hHn := hC.h1
      have fl := hC.fl
      have pq := hC.pq
      generalize hUK : undK g b = U at *
      generalize ntl g = n at *
      have UL : Hid (∀ k, k ≤ 4096 → (U k).length ≤ 4096) := Lib.hid fun k hk => by rw [← hUK]; exact Nat.le_trans (undK_len g b k) hk
      clear hC hu hUK
      obtain ⟨W, H, S, X, Y⟩ := g
      obtain ⟨b1, b2, b3, b4⟩ := b
      dsimp only at *
      subst hw hh
      have RC := Lib.hid (fun W' => tright_any Wn Hn S X Y W')
      have PC := Lib.hid (fun W' => right_any b1 b2 b3 b4 W')
      rw [hg] at RC
      rw [right_okX, hb] at PC
      have C1 := Lib.hid (fun W' => covered_call b1 b3 X S Wn W' (by omega) (by omega) (by omega) (by omega) (by omega))
      have C2 := Lib.hid (fun W' => covered_call b2 b4 Y S Hn W' (by omega) (by omega) (by omega) (by omega) (by omega))
      rw [cx] at C1
      rw [cy] at C2
      dsimp only at C1 C2
      clear cx cy hg hb gk bk
      go_enter Try.func6, Try.ntmps6
      go_wp2_with fail
      refine (RC.out _).mono ?_
      rintro e w1 ⟨rfl, hb1⟩
      obtain ⟨k1, k2, z1, z2⟩ := two_blk (w := w) (o1 := .cells #[.int .i64 Wn, .int .i64 Hn, .int .i64 S, .int .i64 X, .int .i64 Y] 23) (o2 := .cells #[.int .i64 b1, .int .i64 b2, .int .i64 b3, .int .i64 b4] 25) hb1
      have A1 := Lib.hid hb1
      obtain ⟨y1, y2, y3, y4⟩ := cells4 k2
      clear hb1 k1 k2
      go_wp2_with fail
      refine (PC.out _).mono ?_
      rintro e w2 ⟨rfl, hb2⟩
      have A2 := Lib.hid (Bt A1.out hb2)
      obtain ⟨k1, k2, z1, z2⟩ := two_blk A2.out
      obtain ⟨x1, x2, x3, x4, x5⟩ := cells5 k1
      obtain ⟨y1, y2, y3, y4⟩ := cells4 k2
      clear hb2 k1 k2 A1
      go_wp2_with fail
      refine (C1.out _).mono ?_
      rintro e w3 ⟨rfl, hb3⟩
      have A3 := Lib.hid (Bt A2.out hb3)
      obtain ⟨k1, k2, z1, z2⟩ := two_blk A3.out
      obtain ⟨x1, x2, x3, x4, x5⟩ := cells5 k1
      obtain ⟨y1, y2, y3, y4⟩ := cells4 k2
      clear hb3 k1 k2 A2
      go_wp2_with fail
      refine (C2.out _).mono ?_
      rintro e w4 ⟨rfl, hb4⟩
      have A4 := Lib.hid (Bt A3.out hb4)
      obtain ⟨k1, k2, z1, z2⟩ := two_blk A4.out
      have K1 := Lib.hid k1
      have B4 : Hid (RowKit.Below w.heap.size w w4) := Lib.hid (by have := A4.out; exact (by repeat (first | with_reducible exact Below.refl _ _ | with_reducible assumption | with_reducible apply Ba | with_reducible apply Bd | with_reducible apply Bn | with_reducible apply Bg | (with_reducible refine Bs ?_ (by first | (simp; done) | (simp; omega)) _) | (with_reducible refine Bt ?_ (by assumption)) | (with_reducible refine Bt ?_ (Gr.below (by assumption))))))
      clear hb4 k1 k2 A3 x1 x2 x3 x4 x5 y1 y2 y3 y4 C1 C2 RC PC
      go_wp2_with fail
      go_loopw [9, 10] (fun v i wr => ∃ r : Nat, p ≤ r ∧ r ≤ q ∧ i = .int .i64 r ∧ RowKit.Below w4.heap.size w4 wr ∧ OwnI wr w4.heap.size v (U (r * Wn))) (fun _ i _ => q - (intOf i).toNat)
      case atStart => exact ⟨p, Nat.le_refl _, pq.1, rfl, Below.refl _ _, by rw [E1.out]; exact own_nil _ _⟩
      case round =>
        obtain ⟨r, hr1, hr2, rfl, hb, ho⟩ := hrel
        have HB := Lib.hid hb
        have HO := Lib.hid ho
        clear hb ho
        by_cases hrq : r < q
        · have hrz : (r : Int) ≤ (q : Int) - 1 := by omega
          have hK : (r : Int) * (Wn : Int) = ((r * Wn : Nat) : Int) := (Int.natCast_mul _ _).symm
          have hKb : r * Wn ≤ 1024 := Nat.le_trans (Nat.mul_le_mul (show r ≤ 32 by omega) hWn.2) (by decide)
          have E3r := Lib.hid (E3.out r hrq)
          have E4r := Lib.hid (E4.out r hrq)
          have E5r := Lib.hid (fun c hc => E5.out r c ⟨hr1, hrq⟩ hc)
          generalize hKK : r * Wn = K at *
          have HKK := Lib.hid hKK
          clear hKK
          obtain ⟨M, hM⟩ : ∃ M, M = wr := ⟨_, rfl⟩
          rw [← hM] at HB HO ⊢
          clear hM
          go_wp2_with fail
          go_loopw [9, 11] (fun v i wr => ∃ c : Nat, f ≤ c ∧ c ≤ l ∧ i = .int .i64 c ∧ RowKit.Below w4.heap.size w4 wr ∧ OwnI wr w4.heap.size v (U (K + c))) (fun _ i _ => l - (intOf i).toNat)
          case atStart => exact ⟨f, Nat.le_refl _, fl.1, rfl, HB.out, by rw [E3r.out]; exact HO.out⟩
          case round =>
            obtain ⟨c, hc1, hc2, rfl, hb, ho⟩ := hrel
            have HB2 := Lib.hid hb
            have HO2 := Lib.hid ho
            by_cases hcl : c < l
            · have hcz : (c : Int) ≤ (l : Int) - 1 := by omega
              have hx := cells5 (blk_below K1.out hb)
              obtain ⟨x1, -⟩ := hx
              have hl1 := cell_lt x1
              have bX := Ba (Below.refl _ wr) (.cells #[.int .i64 ((K : Int) + (c : Int))] 3)
              have O5 := Lib.hid (row_below ho bX)
              have B5 := Lib.hid (Bt hb bX)
              have L5 := Lib.hid (sl_lit (enc := encI) (w := wr) (cs := #[.int .i64 ((K : Int) + (c : Int))]) (t := 3) (b := wr.heap.size) [(K : Int) + (c : Int)] (by simp) rfl (by unfold maxLen; simp))
              have hlen := UL.out (K + c) (by omega)
              have E6 := Lib.hid (E5r.out c ⟨hc1, hcl⟩)
              clear hb ho bX
              generalize U (K + c) = V at *
              go_wp2_with (at_builtin; refine wpl_app2 apI rfl _ _ rfl w4.heap.size (by rfl) (by rfl) O5.out rfl L5.out (by simp; omega) B5.out.size ?_; intro v7 w7 hown7 hgrow7 hat7 hnil7; have O7 := Lib.hid hown7; have B7 := Lib.hid (grownB B5.out O5.out hgrow7); clear hown7 hgrow7 hat7 hnil7)
              go_roundw
              case measure => simp only [intOf]; omega
              case rel => exact ⟨c + 1, by omega, by omega, by go_num, B7.out, by rw [E6.out]; exact O7.out⟩
            · obtain rfl : c = l := by omega
              have hcz : ¬ (c : Int) ≤ (c : Int) - 1 := by omega
              clear hb ho
              go_wp2
              go_roundw
              case measure => simp only [intOf]; omega
              case rel => exact ⟨r + 1, by omega, by omega, by go_num, HB2.out, by rw [E4r.out]; exact HO2.out⟩
        · obtain rfl : r = q := by omega
          have hrz : ¬ (r : Int) ≤ (r : Int) - 1 := by omega
          go_wp2
          go_ret
          exact ⟨_, rfl, row_mono (by rw [← E2.out]; exact HO.out) (Nat.le_of_lt z1), Bt B4.out HB.out⟩
end Go.Proofs.Ytmeinjkpbijaeaa
