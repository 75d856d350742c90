/-
  OrderTotal: of three handles the order is one.
-/
import Derived.Test.YtdpcdfjgpechbaaAlive
namespace Go.Proofs.Ytdpcdfjgpechbaa
set_option linter.unusedSimpArgs false
set_option linter.unusedVariables false
open Go.RowKit Go.Sort Go.Lib Go.Shelf

theorem w3_facts {w : World} {a b c d e f : Int} {W : World} (hb : RowKit.Below (((w.alloc (.cells #[.int .i64 a, .int .i64 b] 28)).alloc (.cells #[.int .i64 c, .int .i64 d] 28)).alloc (.cells #[.int .i64 e, .int .i64 f] 28)).heap.size (((w.alloc (.cells #[.int .i64 a, .int .i64 b] 28)).alloc (.cells #[.int .i64 c, .int .i64 d] 28)).alloc (.cells #[.int .i64 e, .int .i64 f] 28)) W) :
    ((W.cell? ⟨w.heap.size, 0, none⟩ = some (.int .i64 a) ∧ W.cell? ⟨w.heap.size, 1, none⟩ = some (.int .i64 b)) ∧ (W.cell? ⟨w.heap.size + 1, 0, none⟩ = some (.int .i64 c) ∧ W.cell? ⟨w.heap.size + 1, 1, none⟩ = some (.int .i64 d)) ∧
      W.cell? ⟨w.heap.size + 1 + 1, 0, none⟩ = some (.int .i64 e) ∧ W.cell? ⟨w.heap.size + 1 + 1, 1, none⟩ = some (.int .i64 f)) ∧ w.heap.size + 1 + 1 < W.heap.size := by
  obtain ⟨hc1, _⟩ := bcell hb
  refine ⟨⟨⟨?_, ?_⟩, ⟨?_, ?_⟩, ?_, ?_⟩, ?_⟩
  · rw [hc1 _ _ (by go_simp)]; go_simp
  · rw [hc1 _ _ (by go_simp)]; go_simp
  · rw [hc1 _ _ (by go_simp)]; go_simp
  · rw [hc1 _ _ (by go_simp)]; go_simp
  · rw [hc1 _ _ (by go_simp)]; go_simp
  · rw [hc1 _ _ (by go_simp)]; go_simp
  · have := hb.size
    simp at this
    omega

set_option maxHeartbeats 2000000 in
set_option maxRecDepth 100000 in
theorem orderTotal_body (a b c d e f : Int) (u v z : Bool) (h1 : ltH (a, b) (c, d) = u) (h2 : ltH (c, d) (a, b) = v) (h3 : (decide (a = c) && decide (b = d)) = z) (hu : (u = true ∧ v = false ∧ z = false) ∨ (u = false ∧ v = true ∧ z = false) ∨ (u = false ∧ v = false ∧ z = true)) (w : World) :
    Calls Try.prog 9 #[.agg #[.int .i64 a, .int .i64 b], .agg #[.int .i64 c, .int .i64 d], .agg #[.int .i64 e, .int .i64 f]] w fun e w' => e = .returned (.bool true) ∧ RowKit.Below w.heap.size w w' := by
  have eq1 := eqH_run
  have gd1 := gdH_run
  have h0 : ltH (a, b) (a, b) = false := sto_hd.irrefl _
  have ht : u = true → ltH (c, d) (e, f) = true → ltH (a, b) (e, f) = true := fun hu h => sto_hd.trans _ _ _ (by rw [h1, hu]) h
  have HT := Lib.hid ht
  have HU := Lib.hid hu
  clear ht hu
  go_enter Try.func9, Try.ntmps9
  go_wp2_with fail
  refine (alive_any _).mono ?_
  rintro e1 w1 ⟨rfl, hb1⟩
  obtain ⟨⟨⟨x0, x1⟩, ⟨x2, x3⟩, x4, x5⟩, hs1⟩ := w3_facts hb1
  have HB1 := Lib.hid hb1
  have hz0 : w.heap.size < w1.heap.size := by omega
  have hz1 : w.heap.size + 1 < w1.heap.size := by omega
  clear hb1
  go_wp2_with fail
  go_region_held3 (fun w' => Gr (w1) w' ∧ ∀ b_1 o, b_1 < (w1).heap.size → w'.cell? ⟨b_1, o, none⟩ = (w1).cell? ⟨b_1, o, none⟩) (first | exact gkeep0 _ | exact gkeepG (by assumption) hg1 | exact gkeepA (by assumption) _ | assumption)
    (first
      | (go_at_call 17; refine (less_call _ _ _ _ _).mono ?_; rintro e w5 ⟨rfl, hg1⟩))
  rename_i hHeld
  obtain ⟨W4, hW4⟩ : ∃ W4, W4 = w5.alloc (.cells #[.bool u, .bool v, .bool z] 4) := ⟨_, rfl⟩
  have r0 : W4.cell? ⟨w5.heap.size, 0, none⟩ = some (.bool u) := by rw [hW4]; go_simp
  have r1 : W4.cell? ⟨w5.heap.size, 1, none⟩ = some (.bool v) := by rw [hW4]; go_simp
  have r2 : W4.cell? ⟨w5.heap.size, 2, none⟩ = some (.bool z) := by rw [hW4]; go_simp
  rw [← hW4] at hHeld ⊢
  have b4 := hHeld.1.below
  have HB4 := Lib.hid (Bt HB1.out b4)
  obtain ⟨⟨⟨y0, y1⟩, ⟨y2, y3⟩, y4, y5⟩, hs4⟩ := w3_facts HB4.out
  have hz4 : w.heap.size < W4.heap.size := by omega
  have hz5 : w.heap.size + 1 < W4.heap.size := by omega
  clear hHeld b4 hW4 x0 x1 x2 x3 x4 x5 hs1 hz0 hz1
  rcases HU.out with ⟨rfl, rfl, rfl⟩ | ⟨rfl, rfl, rfl⟩ | ⟨rfl, rfl, rfl⟩
  · have HT1 := HT.out rfl
    clear HT HU
    cases h5 : ltH (c, d) (e, f)
    · clear HT1
      go_wp2_with fail
      refine wp_loop_rounds 4 ?_
      rw [rounds_succ]
      go_wp2
      rw [rounds_succ]
      go_wp2
      rw [rounds_succ]
      go_wp2
      rw [rounds_succ]
      go_wp2_with (go_at_call 17; refine (less_call _ _ _ _ _).mono ?_; rintro e w1 ⟨rfl, hg1⟩; have hb1 := hg1.below; obtain ⟨hc1, hf1⟩ := bcell hb1; have hz0 : w.heap.size < w1.heap.size := Bl hb1 (by first | assumption | (simp; done) | (simp; omega)); have hz1 : w.heap.size + 1 < w1.heap.size := Bl hb1 (by first | assumption | (simp; done) | (simp; omega)); have hz2 : w.heap.size + 1 + 1 < w1.heap.size := Bl hb1 (by first | assumption | (simp; done) | (simp; omega)))
      go_ret
      have HB4' := HB4.out
      exact ⟨by simp, (Ba (Ba (Ba (Below.refl _ w) _) _) _).trans (RowKit.Below.mono ((by repeat (first | with_reducible exact Below.refl _ _ | with_reducible assumption | with_reducible apply Ba | with_reducible apply Bd | with_reducible apply Bn | with_reducible apply Bg | (with_reducible refine Bs ?_ (by first | (simp; done) | (simp; omega)) _) | (with_reducible refine Bt ?_ (by assumption)) | (with_reducible refine Bt ?_ (Gr.below (by assumption))))) : RowKit.Below (((w.alloc (.cells #[.int .i64 a, .int .i64 b] 28)).alloc (.cells #[.int .i64 c, .int .i64 d] 28)).alloc (.cells #[.int .i64 e, .int .i64 f] 28)).heap.size _ _) (by simp; omega))⟩
    · have h6 := HT1 h5
      clear HT1
      go_wp2_with fail
      refine wp_loop_rounds 4 ?_
      rw [rounds_succ]
      go_wp2
      rw [rounds_succ]
      go_wp2
      rw [rounds_succ]
      go_wp2
      rw [rounds_succ]
      go_wp2_with (go_at_call 17; refine (less_call _ _ _ _ _).mono ?_; rintro e w1 ⟨rfl, hg1⟩; have hb1 := hg1.below; obtain ⟨hc1, hf1⟩ := bcell hb1; have hz0 : w.heap.size < w1.heap.size := Bl hb1 (by first | assumption | (simp; done) | (simp; omega)); have hz1 : w.heap.size + 1 < w1.heap.size := Bl hb1 (by first | assumption | (simp; done) | (simp; omega)); have hz2 : w.heap.size + 1 + 1 < w1.heap.size := Bl hb1 (by first | assumption | (simp; done) | (simp; omega)))
      go_ret
      have HB4' := HB4.out
      exact ⟨by simp, (Ba (Ba (Ba (Below.refl _ w) _) _) _).trans (RowKit.Below.mono ((by repeat (first | with_reducible exact Below.refl _ _ | with_reducible assumption | with_reducible apply Ba | with_reducible apply Bd | with_reducible apply Bn | with_reducible apply Bg | (with_reducible refine Bs ?_ (by first | (simp; done) | (simp; omega)) _) | (with_reducible refine Bt ?_ (by assumption)) | (with_reducible refine Bt ?_ (Gr.below (by assumption))))) : RowKit.Below (((w.alloc (.cells #[.int .i64 a, .int .i64 b] 28)).alloc (.cells #[.int .i64 c, .int .i64 d] 28)).alloc (.cells #[.int .i64 e, .int .i64 f] 28)).heap.size _ _) (by simp; omega))⟩
  · clear HT HU
    go_wp2_with fail
    refine wp_loop_rounds 4 ?_
    rw [rounds_succ]
    go_wp2
    rw [rounds_succ]
    go_wp2
    rw [rounds_succ]
    go_wp2
    rw [rounds_succ]
    go_wp2_with (go_at_call 17; refine (less_call _ _ _ _ _).mono ?_; rintro e w1 ⟨rfl, hg1⟩; have hb1 := hg1.below; obtain ⟨hc1, hf1⟩ := bcell hb1; have hz0 : w.heap.size < w1.heap.size := Bl hb1 (by first | assumption | (simp; done) | (simp; omega)); have hz1 : w.heap.size + 1 < w1.heap.size := Bl hb1 (by first | assumption | (simp; done) | (simp; omega)); have hz2 : w.heap.size + 1 + 1 < w1.heap.size := Bl hb1 (by first | assumption | (simp; done) | (simp; omega)))
    go_ret
    have HB4' := HB4.out
    exact ⟨by simp, (Ba (Ba (Ba (Below.refl _ w) _) _) _).trans (RowKit.Below.mono ((by repeat (first | with_reducible exact Below.refl _ _ | with_reducible assumption | with_reducible apply Ba | with_reducible apply Bd | with_reducible apply Bn | with_reducible apply Bg | (with_reducible refine Bs ?_ (by first | (simp; done) | (simp; omega)) _) | (with_reducible refine Bt ?_ (by assumption)) | (with_reducible refine Bt ?_ (Gr.below (by assumption))))) : RowKit.Below (((w.alloc (.cells #[.int .i64 a, .int .i64 b] 28)).alloc (.cells #[.int .i64 c, .int .i64 d] 28)).alloc (.cells #[.int .i64 e, .int .i64 f] 28)).heap.size _ _) (by simp; omega))⟩
  · clear HT HU
    go_wp2_with fail
    refine wp_loop_rounds 4 ?_
    rw [rounds_succ]
    go_wp2
    rw [rounds_succ]
    go_wp2
    rw [rounds_succ]
    go_wp2
    rw [rounds_succ]
    go_wp2_with (go_at_call 17; refine (less_call _ _ _ _ _).mono ?_; rintro e w1 ⟨rfl, hg1⟩; have hb1 := hg1.below; obtain ⟨hc1, hf1⟩ := bcell hb1; have hz0 : w.heap.size < w1.heap.size := Bl hb1 (by first | assumption | (simp; done) | (simp; omega)); have hz1 : w.heap.size + 1 < w1.heap.size := Bl hb1 (by first | assumption | (simp; done) | (simp; omega)); have hz2 : w.heap.size + 1 + 1 < w1.heap.size := Bl hb1 (by first | assumption | (simp; done) | (simp; omega)))
    go_ret
    have HB4' := HB4.out
    exact ⟨by simp, (Ba (Ba (Ba (Below.refl _ w) _) _) _).trans (RowKit.Below.mono ((by repeat (first | with_reducible exact Below.refl _ _ | with_reducible assumption | with_reducible apply Ba | with_reducible apply Bd | with_reducible apply Bn | with_reducible apply Bg | (with_reducible refine Bs ?_ (by first | (simp; done) | (simp; omega)) _) | (with_reducible refine Bt ?_ (by assumption)) | (with_reducible refine Bt ?_ (Gr.below (by assumption))))) : RowKit.Below (((w.alloc (.cells #[.int .i64 a, .int .i64 b] 28)).alloc (.cells #[.int .i64 c, .int .i64 d] 28)).alloc (.cells #[.int .i64 e, .int .i64 f] 28)).heap.size _ _) (by simp; omega))⟩

theorem orderTotal_walk (a b c d e f : Int) (w : World) : Calls Try.prog 9 #[.agg #[.int .i64 a, .int .i64 b], .agg #[.int .i64 c, .int .i64 d], .agg #[.int .i64 e, .int .i64 f]] w fun e w' => e = .returned (.bool true) ∧ RowKit.Below w.heap.size w w' := by
  cases h1 : ltH (a, b) (c, d) with
  | true => exact orderTotal_body a b c d e f true false false h1 (sto_hd.asymm h1) (and_ne (sto_hd.ne h1)) (.inl ⟨rfl, rfl, rfl⟩) w
  | false =>
    cases h2 : ltH (c, d) (a, b) with
    | true => exact orderTotal_body a b c d e f false true false h1 h2 (and_ne fun e => sto_hd.ne h2 e.symm) (.inr (.inl ⟨rfl, rfl, rfl⟩)) w
    | false =>
      obtain ⟨rfl, rfl⟩ : a = c ∧ b = d := by simpa using sto_hd.total _ _ h1 h2
      exact orderTotal_body a b a b e f false false true h1 h2 (by simp) (.inr (.inr ⟨rfl, rfl, rfl⟩)) w
end Go.Proofs.Ytdpcdfjgpechbaa
