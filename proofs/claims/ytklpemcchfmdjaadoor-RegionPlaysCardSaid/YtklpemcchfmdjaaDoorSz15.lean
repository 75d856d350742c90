/-
  Regions: Together, Size, Count, Clone.
-/
import Derived.Test.YtklpemcchfmdjaaDoorRg15
namespace Go.Proofs.YtklpemcchfmdjaaDoor
set_option linter.unusedSimpArgs false
set_option linter.unusedVariables false
open BigFrame
open Go.RowKit Go.Sort Go.Lib Go.Shelf

/-- Both are free and bear one label, as the program asks it. -/
theorem tog_eq {L : List Int} (h : Rooted L) (a b : Int) : ((freeL' L a && freeL' L b) && decide (L[a.toNat]! = L[b.toNat]!)) = togI L a b := by
  unfold freeL' togI
  cases ha : inT L.length a
  · simp
  · cases hb : inT L.length b
    · simp
    · obtain ⟨a0, a1⟩ := inT_iff.1 ha
      obtain ⟨b0, b1⟩ := inT_iff.1 hb
      have h1 := h.lo a.toNat (by omega)
      have h2 := h.lo b.toNat (by omega)
      generalize L[a.toNat]! = x at *
      generalize L[b.toNat]! = y at *
      rw [Bool.eq_iff_iff]
      simp
      omega
theorem drewN_two (w : World) (a b : Nat) : (w.drewN a).drewN b = w.drewN (a + b) := by
  simp [World.drewN, Nat.add_assoc]
/-- How many of the first k tiles hang together with one. -/
def sizeK (L : List Int) (t : Int) (k : Nat) : Nat := ((List.range k).filter fun j : Nat => togI L t (j : Int)).length
theorem sizeK_succ (L : List Int) (t : Int) (k : Nat) : sizeK L t (k + 1) = sizeK L t k + if togI L t (k : Int) = true then 1 else 0 := by
  unfold sizeK
  rw [List.range_succ, List.filter_append, List.length_append]
  congr 1
  cases e : togI L t (k : Int)
  · rw [List.filter_cons, if_neg (by simp [e]), if_neg (by simp)]; rfl
  · rw [List.filter_cons, if_pos (by simp [e]), if_pos rfl]; rfl
theorem sizeK_le (L : List Int) (t : Int) (k : Nat) : sizeK L t k ≤ k := by
  unfold sizeK
  exact Nat.le_trans (List.length_filter_le _ _) (by simp)
theorem sizeK_all (L : List Int) (t : Int) : (sizeK L t L.length : Int) = sizeI L t := by
  unfold sizeI sizeK
  by_cases h : (inT L.length t && decide (0 ≤ L[t.toNat]!)) = true
  · rw [if_pos h, ← cntL_range]
    rw [Bool.and_eq_true, decide_eq_true_eq] at h
    congr 2
    refine List.filter_congr fun j hj => ?_
    have hj := List.mem_range.1 hj
    unfold togI
    rw [h.1, decide_eq_true h.2, Int.toNat_natCast, show inT L.length (j : Int) = true from inT_iff.2 ⟨by omega, by omega⟩, Bool.true_and, Bool.true_and, Bool.true_and, decide_eq_decide]
    exact ⟨fun e => e.symm, fun e => e.symm⟩
  · rw [if_neg h, List.filter_eq_nil_iff.2]
    · rfl
    · intro j _ e
      unfold togI at e
      rw [Bool.and_eq_true, Bool.and_eq_true, Bool.and_eq_true] at e
      exact h (by rw [Bool.and_eq_true]; exact ⟨e.1.1, e.2.1⟩)
section
variable {pa : Nat} {g : Gd} {b : List Bool} {M : Nat → Prop} {w w' : World}
set_option maxHeartbeats 2000000 in
set_option maxRecDepth 100000 in
theorem together_quiet (h : RgAt w M pa g b) (s t : Int) : Calls Tryd.prog 22 #[psR pa, .int .i64 s, .int .i64 t] w fun e w' => e = .returned (.bool (togI (labG g b) s t)) ∧ ∃ m, w' = w.drewN m := by
  obtain ⟨v, hv, hl, h1, h2⟩ := h.open
  obtain ⟨blk, cap, rfl, k1, k2, k3, k4, k5⟩ := hv.open (by omega) (by omega)
  have hlt := hv.lt
  obtain ⟨c0, c1⟩ := hv.cells
  have FA : Hid (∀ n : Nat, Calls Tryd.prog 35 #[psR pa, .int .i64 s] (w.drewN n) fun e w' => e = .returned (.bool (freeL' (labG g b) s)) ∧ w' = w.drewN n) := Lib.hid (fun n => (free_call (hv.below (Bn (Below.refl _ w))) (by omega) (by omega) s).mono fun _ _ h => ⟨h.1, h.2.symm⟩)
  have FB : Hid (∀ n : Nat, Calls Tryd.prog 35 #[psR pa, .int .i64 t] (w.drewN n) fun e w' => e = .returned (.bool (freeL' (labG g b) t)) ∧ w' = w.drewN n) := Lib.hid (fun n => (free_call (hv.below (Bn (Below.refl _ w))) (by omega) (by omega) t).mono fun _ _ h => ⟨h.1, h.2.symm⟩)
  have HTG := Lib.hid (tog_eq (labs_rooted (grG g b)) s t)
  have HFA : Hid (freeL' (labG g b) s = true → ∃ k : Nat, s = (k : Int) ∧ k < ntl g ∧ w.cell? ⟨blk, k, none⟩ = some (.int .i64 (labG g b)[s.toNat]!)) := Lib.hid (fun h => by
    unfold freeL' at h
    rw [Bool.and_eq_true] at h
    obtain ⟨t0, t1⟩ := inT_iff.1 h.1
    rw [hl] at t1
    obtain ⟨k, rfl⟩ : ∃ k : Nat, s = k := ⟨s.toNat, by omega⟩
    exact ⟨k, rfl, by omega, by rw [Int.toNat_natCast]; exact (hv.get (by omega)).1⟩)
  have HFB : Hid (freeL' (labG g b) t = true → ∃ k : Nat, t = (k : Int) ∧ k < ntl g ∧ w.cell? ⟨blk, k, none⟩ = some (.int .i64 (labG g b)[t.toNat]!)) := Lib.hid (fun h => by
    unfold freeL' at h
    rw [Bool.and_eq_true] at h
    obtain ⟨t0, t1⟩ := inT_iff.1 h.1
    rw [hl] at t1
    obtain ⟨k, rfl⟩ : ∃ k : Nat, t = k := ⟨t.toNat, by omega⟩
    exact ⟨k, rfl, by omega, by rw [Int.toNat_natCast]; exact (hv.get (by omega)).1⟩)
  rw [hl] at c1 k1
  clear hv h c0 hl
  generalize hn : ntl g = n at *
  clear hn
  unfold labG at *
  generalize (grG g b).labs = L at *
  unfold psR at *
  cases ha : freeL' L s
  · rw [ha] at FA HTG
    go_enter Tryd.func22, Tryd.ntmps22
    go_wp2_with fail
    go_big_quiet ((go_at_call 35; exact Calls.quiet_of_same (FA.out _)))
    go_wp2
    go_ret
    exact ⟨ret_bool (by rw [← HTG.out]; rfl), ⟨nq, rfl⟩⟩
  · rw [ha] at FA HTG
    obtain ⟨ks, rfl, hks, cs⟩ := HFA.out ha
    cases hb : freeL' L t
    · rw [hb] at FB HTG
      have FAB : Hid (∀ (m : Nat) (u : Int) (r : Bool), (u = (ks : Int) ∧ r = true) ∨ (u = t ∧ r = false) → Calls Tryd.prog 35 #[.pointer (some ⟨pa, 0, none⟩), .int .i64 u] (w.drewN m) fun e w' => e = .returned (.bool r) ∧ w' = w.drewN m) := Lib.hid (fun m u r hu => by
        rcases hu with ⟨rfl, rfl⟩ | ⟨rfl, rfl⟩
        · exact FA.out m
        · exact FB.out m)
      clear FA FB
      go_enter Tryd.func22, Tryd.ntmps22
      go_wp2_with fail
      go_big_quiet (first | (go_at_call 35; exact Calls.quiet_of_same (FAB.out _ _ _ (by first | exact .inl ⟨rfl, rfl⟩ | exact .inr ⟨rfl, rfl⟩))))
      go_wp2
      go_ret
      exact ⟨ret_bool (by rw [← HTG.out]; rfl), ⟨nq, rfl⟩⟩
    · rw [hb] at FB HTG
      obtain ⟨kt, rfl, hkt, ct⟩ := HFB.out hb
      clear ha hb
      have hz1 : (ks : Int) < (n : Int) := by omega
      have hz2 : (kt : Int) < (n : Int) := by omega
      have FAB : Hid (∀ (m : Nat) (u : Int), u = (ks : Int) ∨ u = (kt : Int) → Calls Tryd.prog 35 #[.pointer (some ⟨pa, 0, none⟩), .int .i64 u] (w.drewN m) fun e w' => e = .returned (.bool true) ∧ w' = w.drewN m) := Lib.hid (fun m u hu => by
        rcases hu with rfl | rfl
        · exact FA.out m
        · exact FB.out m)
      generalize L[((ks : Nat) : Int).toNat]! = x at *
      generalize L[((kt : Nat) : Int).toNat]! = y at *
      clear FA FB
      go_enter Tryd.func22, Tryd.ntmps22
      go_wp2_with fail
      go_big_quiet (first | (go_at_call 35; exact Calls.quiet_of_same (FAB.out _ _ (by first | exact .inl rfl | exact .inr rfl))))
      go_wp2
      go_ret
      exact ⟨ret_bool (by rw [← HTG.out]; by_cases e : x = y <;> simp [e]), ⟨nq, rfl⟩⟩
theorem together_call (h : RgAt w M pa g b) (s t : Int) : Calls Tryd.prog 22 #[psR pa, .int .i64 s, .int .i64 t] w fun e w' => e = .returned (.bool (togI (labG g b) s t)) ∧ RowKit.Below w.heap.size w w' :=
  (together_quiet h s t).mono fun e w' ⟨he, m, hm⟩ => ⟨he, by rw [hm]; exact Bn (Below.refl _ w)⟩
set_option maxHeartbeats 2000000 in
set_option maxRecDepth 100000 in
theorem size_quiet (h : RgAt w M pa g b) (t : Int) : Calls Tryd.prog 21 #[psR pa, .int .i64 t] w fun e w' => e = .returned (.int .i64 (sizeI (labG g b) t)) ∧ ∃ m, w' = w.drewN m := by
  obtain ⟨v, hv, hl, h1, h2⟩ := h.open
  obtain ⟨blk, cap, rfl, k1, k2, k3, k4, k5⟩ := hv.open (by omega) (by omega)
  have hlt := hv.lt
  obtain ⟨c0, c1⟩ := hv.cells
  have TG := Lib.hid (fun (m : Nat) (u : Int) => together_quiet (h.below (Bn (Below.refl _ w) (n := m))) t u)
  have HA := Lib.hid (by have := sizeK_all (labG g b) t; rw [hl] at this; exact this)
  have HSU := Lib.hid (fun k => sizeK_succ (labG g b) t k)
  have HLE := Lib.hid (fun k => sizeK_le (labG g b) t k)
  rw [hl] at c1 k1
  clear hv h c0 hl
  generalize hn : ntl g = n at *
  clear hn
  generalize labG g b = L at *
  unfold psR at *
  go_enter Tryd.func21, Tryd.ntmps21
  go_wp2_with fail
  go_loopw [5, 12] (fun c i wr => ∃ k : Nat, k ≤ n ∧ i = .int .i64 k ∧ c = .int .i64 (sizeK L t k : Int) ∧ (∃ m, wr = w.drewN m)) (fun _ i _ => n - (intOf i).toNat)
  case atStart => exact ⟨0, Nat.zero_le _, rfl, rfl, 0, rfl⟩
  case round =>
    obtain ⟨k, hk, rfl, rfl, m, rfl⟩ := hrel
    by_cases hkn : k < n
    · have hkz : (k : Int) < (n : Int) := by omega
      have TC := Lib.hid (TG.out m (k : Int))
      have hs := HSU.out k
      have hle := HLE.out k
      cases htg : togI L t (k : Int)
      · rw [htg] at TC hs
        rw [if_neg (by simp), Nat.add_zero] at hs
        have HS := Lib.hid hs
        generalize sizeK L t k = z at *
        clear hs htg
        go_wp2_with fail
        refine TC.out.mono ?_
        rintro e w4 ⟨rfl, m4, rfl⟩
        go_wp2
        go_roundw
        case measure => simp only [intOf]; omega
        case rel => exact ⟨k + 1, by omega, by go_num, by rw [HS.out]; rfl, m + m4, rfl⟩
      · rw [htg] at TC hs
        rw [if_pos rfl] at hs
        have HS := Lib.hid hs
        generalize sizeK L t k = z at *
        clear hs htg
        go_wp2_with fail
        refine TC.out.mono ?_
        rintro e w4 ⟨rfl, m4, rfl⟩
        go_wp2
        go_roundw
        case measure => simp only [intOf]; omega
        case rel => exact ⟨k + 1, by omega, by go_num, by rw [HS.out]; go_num, m + m4, rfl⟩
    · obtain rfl : k = n := by omega
      have hkz : ¬ (k : Int) < (k : Int) := by omega
      rw [HA.out]
      go_wp2
      go_ret
      exact ⟨rfl, m, rfl⟩
theorem size_call (h : RgAt w M pa g b) (t : Int) : Calls Tryd.prog 21 #[psR pa, .int .i64 t] w fun e w' => e = .returned (.int .i64 (sizeI (labG g b) t)) ∧ RowKit.Below w.heap.size w w' :=
  (size_quiet h t).mono fun e w' ⟨he, m, hm⟩ => ⟨he, by rw [hm]; exact Bn (Below.refl _ w)⟩
set_option maxHeartbeats 2000000 in
set_option maxRecDepth 100000 in
theorem rgcount_call (h : RgAt w M pa g b) : Calls Tryd.prog 23 #[psR pa] w fun e w' => e = .returned (.int .i64 (rootN (labG g b) (ntl g) : Int)) ∧ RowKit.Below w.heap.size w w' := by
  obtain ⟨v, hv, hl, h1, h2⟩ := h.open
  obtain ⟨blk, cap, rfl, k1, k2, k3, k4, k5⟩ := hv.open (by omega) (by omega)
  have hlt := hv.lt
  obtain ⟨c0, c1⟩ := hv.cells
  have HC := Lib.hid (fun k (hk : k < ntl g) => (hv.get (j := k) (by omega)).1)
  have HSU := Lib.hid (fun k => rootN_succ (labG g b) k)
  have HLE := Lib.hid (show ∀ k, rootN (labG g b) k ≤ k from fun k => by unfold rootN; exact Nat.le_trans (List.length_filter_le _ _) (by simp))
  rw [hl] at c1 k1
  clear hv h c0 hl
  generalize hn : ntl g = n at *
  clear hn
  generalize labG g b = L at *
  unfold psR at *
  go_enter Tryd.func23, Tryd.ntmps23
  go_wp2_with fail
  go_loopw [3, 11] (fun c i wr => ∃ k : Nat, k ≤ n ∧ i = .int .i64 k ∧ c = .int .i64 (rootN L k : Int) ∧ Hid (RowKit.Below w.heap.size w wr)) (fun _ i _ => n - (intOf i).toNat)
  case atStart => exact ⟨0, Nat.zero_le _, rfl, rfl, Lib.hid (Below.refl _ _)⟩
  case round =>
    obtain ⟨k, hk, rfl, rfl, HB⟩ := hrel
    by_cases hkn : k < n
    · have hkz : (k : Int) < (n : Int) := by omega
      have ct := Bc HB.out k3 (HC.out k hkn)
      have hgw := cell_lt ct
      have hs := HSU.out k
      have hle := HLE.out k
      by_cases he : L[k]! = (k : Int)
      · rw [if_pos he] at hs
        have HS := Lib.hid hs
        rw [he] at ct
        generalize rootN L k = z at *
        clear hs he
        go_wp2
        go_roundw
        case measure => simp only [intOf]; omega
        case rel => exact ⟨k + 1, by omega, by go_num, by rw [HS.out]; go_num, HB⟩
      · rw [if_neg he, Nat.add_zero] at hs
        have HS := Lib.hid hs
        have e0 : ((k : Int) == L[k]!) = false := by rw [beq_eq_false_iff_ne]; exact fun e => he e.symm
        have e1 : decide ((k : Int) = L[k]!) = false := decide_eq_false (fun e => he e.symm)
        generalize rootN L k = z at *
        generalize L[k]! = x at *
        clear hs he
        go_wp2
        go_roundw
        case measure => simp only [intOf]; omega
        case rel => exact ⟨k + 1, by omega, by go_num, by rw [HS.out]; rfl, HB⟩
    · obtain rfl : k = n := by omega
      have hkz : ¬ (k : Int) < (k : Int) := by omega
      go_wp2
      go_ret
      exact ⟨rfl, HB.out⟩
end
end Go.Proofs.YtklpemcchfmdjaaDoor
