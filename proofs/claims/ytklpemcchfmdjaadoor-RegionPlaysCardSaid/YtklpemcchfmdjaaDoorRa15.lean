/-
  The reference of region: All, Next, Ask; paddocknum.In.
-/
import Derived.Test.YtklpemcchfmdjaaDoorOp15
namespace Go.Proofs.YtklpemcchfmdjaaDoor
set_option linter.unusedSimpArgs false
set_option linter.unusedVariables false
open Go.RowKit Go.Sort Go.Lib Go.Shelf

set_option maxHeartbeats 1000000 in
theorem rall_call (g : Gd) (w : World) (hg : grOk g = true) : Calls Tryd.prog 11 #[grV g] w fun e w' => ∃ v, e = .returned v ∧ OwnB w' w.heap.size v (nots (ntl g)) ∧ RowKit.Below w.heap.size w w' := by
  have hn := ntl_cast hg
  obtain ⟨Z, hZ, hmk⟩ := make_bs (ntl g) hn.2.1
  have MD := Lib.hid (fun W' hW' => made_bs w W' Z (ntl g) hn.2.1 hW' hZ)
  obtain ⟨W, H, S, X, Y⟩ := g
  generalize ntl ⟨W, H, S, X, Y⟩ = n at *
  obtain ⟨hn1, hn2, hn3⟩ := hn
  have hN := hn1.symm
  dsimp only at hN
  clear hg hn1 hZ
  have M1 := Lib.hid (MD.out (w.alloc (.cells #[.int .i64 W, .int .i64 H, .int .i64 S, .int .i64 X, .int .i64 Y] 23)) (by simp))
  rw [show (w.alloc (.cells #[.int .i64 W, .int .i64 H, .int .i64 S, .int .i64 X, .int .i64 Y] 23)).heap.size = w.heap.size + 1 by simp] at M1
  go_enter Tryd.func11, Tryd.ntmps11
  go_wp2
  go_ret
  exact ⟨_, rfl, M1.out, (by repeat (first | with_reducible exact Below.refl _ _ | with_reducible assumption | with_reducible apply Ba | with_reducible apply Bd | with_reducible apply Bn | with_reducible apply Bg | (with_reducible refine Bs ?_ (by first | (simp; done) | (simp; omega)) _) | (with_reducible refine Bt ?_ (by assumption)) | (with_reducible refine Bt ?_ (Gr.below (by assumption)))))⟩
set_option maxHeartbeats 1000000 in
set_option maxRecDepth 100000 in
theorem in_call (l : List Int) (v : Value) (x : Int) (w : World) (hs : Sl encI w v l) (hn : l.length ≤ 100000) : Calls Tryd.prog 29 #[v, .int .i64 x] w fun e w' => e = .returned (.bool (decide (x ∈ l))) ∧ w = w' := by
  obtain ⟨q, cap, rfl, l1, l2, l3⟩ := hs
  unfold maxLen at l2
  have HL := Lib.hid l3
  have HX : Hid (∀ k, k < l.length → l[k]! = x → decide (x ∈ l) = true) := Lib.hid (fun k hk e => decide_eq_true (by rw [← e, getElem!_pos l k hk]; exact List.getElem_mem hk))
  have HN : Hid (∀ k, k < l.length → l[k]! ≠ x → (l.take (k + 1)).any (fun y => decide (y = x)) = (l.take k).any (fun y => decide (y = x))) := Lib.hid (fun k hk e => by
    rw [List.take_succ_eq_append_getElem hk, List.any_append]
    rw [getElem!_pos l k hk] at e
    simp [e])
  have HF : Hid (l.any (fun y => decide (y = x)) = decide (x ∈ l)) := Lib.hid (by
    rw [Bool.eq_iff_iff, List.any_eq_true]
    simp only [decide_eq_true_eq]
    exact ⟨fun ⟨y, h1, h2⟩ => h2 ▸ h1, fun h => ⟨x, h, rfl⟩⟩)
  generalize decide (x ∈ l) = r at *
  clear l3
  go_enter Tryd.func29, Tryd.ntmps29
  go_wp2
  go_loopw [9] (fun i wr => ∃ k : Nat, k ≤ l.length ∧ i = .int .i64 k ∧ wr = w ∧ Hid ((l.take k).any (fun y => decide (y = x)) = false)) (fun i _ => l.length - (intOf i).toNat)
  case atStart => exact ⟨0, Nat.zero_le _, rfl, rfl, Lib.hid (by simp)⟩
  case round =>
    obtain ⟨k, hk, rfl, rfl, hu⟩ := hrel
    by_cases hkn : k < l.length
    · obtain ⟨gb, o, rfl, hg1, hg2⟩ := HL.out (by omega)
      have c1 := sl_cell1 encI1' hg2 hkn
      have hx1 := HX.out k hkn
      have hn1 := HN.out k hkn
      generalize l[k]! = y at *
      have hkz : (k : Int) < (l.length : Int) := by omega
      clear hg2
      by_cases he : y = x
      · have H1 := Lib.hid (hx1 he)
        have e0 : (y == x) = true := by simpa using he
        have e1 : decide (y = x) = true := decide_eq_true he
        clear hx1 hn1 he
        go_wp2
        go_ret
        exact ⟨ret_bool H1.out.symm, rfl⟩
      · have H1 := Lib.hid (hn1 he)
        have e0 : (y == x) = false := by simpa using he
        have e1 : decide (y = x) = false := decide_eq_false he
        clear hx1 hn1 he
        go_wp2
        go_roundw
        case measure => simp only [intOf]; omega
        case rel => exact ⟨k + 1, by omega, by go_num, by trivial, Lib.hid (by rw [H1.out]; exact hu.out)⟩
    · obtain rfl : k = l.length := by omega
      rw [List.take_length] at hu
      have hkz : ¬ (l.length : Int) < (l.length : Int) := by omega
      go_wp2
      go_ret
      exact ⟨ret_bool (by rw [← HF.out, hu.out]), rfl⟩
end Go.Proofs.YtklpemcchfmdjaaDoor
