/-
  The reference's Put: a row in order with an entry.
-/
import Derived.Test.YtaceahjomhgccaaDoorHu10
namespace Go.Proofs.YtaceahjomhgccaaDoor
set_option linter.unusedSimpArgs false
set_option linter.unusedVariables false
open Go.RowKit Go.Sort Go.Lib Go.Shelf

theorem apR : Ap encH 26 37 2 (.agg #[.int .i64 0, .int .i64 0]) 16 :=
  ⟨Tryd.underlying26, info_parts (by kernel_rfl), by decide, by decide, by decide, lenH, oneH⟩

set_option maxHeartbeats 2000000 in
set_option maxRecDepth 100000 in
theorem rput_some (l : List Hd) (v : Value) (x1 x2 : Int) (w : World) (hv : Sl encH w v l) (h0 : 0 < l.length) (hlen : l.length ≤ 100000) :
    Calls Tryd.prog 12 #[v, .agg #[.int .i64 x1, .int .i64 x2]] w fun e w' => ∃ v', e = .returned v' ∧ w'.ownsRow w.heap.size 37 2 v' (putL ltH l (x1, x2)).length (flat encH (putL ltH l (x1, x2))) ∧ RowKit.Below w.heap.size w w' := by
  obtain ⟨p, cap, rfl, h1, h2, hX⟩ := hv
  obtain ⟨g, o, rfl, hg, hcs⟩ := hX h0
  obtain ⟨K, hK⟩ : ∃ K, K = putK ltH l (x1, x2) l.length := ⟨_, rfl⟩
  have HP := Lib.hid (show putL ltH l (x1, x2) = l.take K ++ (x1, x2) :: l.drop K by rw [hK]; rfl)
  have HKL := Lib.hid (show K ≤ l.length by rw [hK]; exact putK_le _ _ _)
  have HC := Lib.hid hcs
  have HCM := Lib.hid h2
  unfold maxLen at h2
  clear hX hcs
  go_enter Tryd.func12, Tryd.ntmps12
  go_wp2
  go_loopw [5] (fun s5 wr => ∃ k n : Nat, s5 = .int .i64 k ∧ k ≤ l.length ∧ wr = (w.alloc (.cells #[.int .i64 x1, .int .i64 x2] 37)).drewN n ∧ Hid (K = putK ltH l (x1, x2) k)) (fun i _ => (intOf i).toNat)
  case atStart => exact ⟨l.length, 0, rfl, Nat.le_refl _, rfl, Lib.hid hK⟩
  case round =>
    clear hK
    obtain ⟨k, n, rfl, hk, hwr, HK⟩ := hrel
    have BB := Lib.hid (show RowKit.Below w.heap.size w wr by rw [hwr]; exact Bn (Ba (Below.refl _ w) _))
    obtain ⟨d1, d2, _⟩ := two_cells (show wr.heap[w.heap.size]? = some (.cells #[.int .i64 x1, .int .i64 x2] 37 (0, 0)) by rw [hwr]; exact blk_below (heap_alloc_new w _) (Bn (Below.refl _ _)))
    have HW := Lib.hid hwr
    have hgw : g < wr.heap.size := Bl BB.out hg
    have hlw : w.heap.size < wr.heap.size := cell_lt d1
    clear hwr
    by_cases hgo : 0 < k ∧ ltH (x1, x2) l[k - 1]! = true
    · obtain ⟨hk0, hlt⟩ := hgo
      obtain ⟨i, rfl⟩ : ∃ i, k = i + 1 := ⟨k - 1, by omega⟩
      rw [Nat.add_sub_cancel] at hlt
      have HK2 := Lib.hid (show K = putK ltH l (x1, x2) i by rw [HK.out, putK, if_pos hlt])
      obtain ⟨c1, c2⟩ := atH (fun j u hu => Bc BB.out hg (HC.out j u hu)) (show i < l.length by omega)
      generalize l[i]! = y at *
      obtain ⟨y1, y2⟩ := y
      dsimp only at c1 c2
      rw [ltH_eq] at hlt
      simp only [Bool.or_eq_true, Bool.and_eq_true, decide_eq_true_eq] at hlt
      rcases hlt with hlt | ⟨he, hlt⟩
      · go_wp2_with fail
        go_quiet (fail)
        go_wp2
        go_roundw
        case rel => exact ⟨i, n + nq, by go_num, by omega, by rw [HW.out]; exact drewN_drewN _ _ _, HK2⟩
        case measure => simp [intOf]
      · go_wp2_with fail
        go_quiet (fail)
        go_wp2
        go_roundw
        case rel => exact ⟨i, n + nq, by go_num, by omega, by rw [HW.out]; exact drewN_drewN _ _ _, HK2⟩
        case measure => simp [intOf]
    · have hKk : K = k := by
        rw [HK.out]
        cases k with
        | zero => rfl
        | succ i => rw [putK, if_neg (fun c => hgo ⟨by omega, by simpa using c⟩)]
      have KE := Lib.hid hKk
      clear hKk HK
      rcases Nat.eq_zero_or_pos k with hk0 | hk0
      · have hkz0 : ¬ 0 < (k : Int) := by omega
        have hkz1 : ¬ 0 < k := by omega
        have hkz2 : decide (0 < (k : Int)) = false := decide_eq_false hkz0
        have hkz3 : decide (0 < k) = false := decide_eq_false hkz1
        have hkl : k < l.length := by omega
        clear hgo hk0
        go_wp2_with fail
        go_quiet (fail)
        clear hkz0 hkz1 hkz2 hkz3
        obtain ⟨W2, hW2⟩ : ∃ W2, W2 = wr.drewN nq := ⟨_, rfl⟩
        have HQ := Lib.hid (show putL ltH l (x1, x2) = l.take k ++ (x1, x2) :: l.drop k by rw [HP.out, KE.out])
        rw [HW.out] at hW2
        rw [← HW.out] at hW2
        have HW2 := Lib.hid (show W2 = ((w.alloc (.cells #[.int .i64 x1, .int .i64 x2] 37)).drewN n).drewN nq by rw [hW2, HW.out])
        rw [← hW2]
        clear hW2 d1 d2 hgw hlw
        obtain ⟨a, ha⟩ : ∃ a, a = w.alloc (.cells #[.int .i64 x1, .int .i64 x2] 37) := ⟨_, rfl⟩
        have has : a.heap.size = w.heap.size + 1 := by rw [ha]; simp
        have DA : Hid (a.cell? ⟨w.heap.size, 0, none⟩ = some (.int .i64 x1) ∧ a.cell? ⟨w.heap.size, 1, none⟩ = some (.int .i64 x2)) := by rw [ha]; exact ⟨by simp, by simp⟩
        have WA : Hid (RowKit.Below w.heap.size w a) := by rw [ha]; exact Ba (Below.refl _ _) _
        have B2 : Hid (RowKit.Below a.heap.size a W2) := by rw [HW2.out, ← ha]; exact Bn (Bn (Below.refl _ _))
        have CA : Hid (∀ j u, (flat encH l)[j]? = some u → a.cell? ⟨g, o + j, none⟩ = some u) := fun j u hu => Bc WA.out hg (HC.out j u hu)
        clear ha HW2
        have hga : g < a.heap.size := by omega
        have SLT := Lib.hid (fun W (hb : RowKit.Below a.heap.size a W) => sl_take lenH (w := W) (g := g) (o := o) (cap := cap) (l := l) k (by omega) h1 HCM.out (Bl hb hga) (fun j u hu => Bc hb hga (CA.out j u hu)))
        have SLD := Lib.hid (fun W (hb : RowKit.Below a.heap.size a W) => sl_drop lenH (w := W) (g := g) (o := o) (cap := cap) (l := l) k (by omega) h1 HCM.out (Bl hb hga) (fun j u hu => Bc hb hga (CA.out j u hu)))
        have A1 := Lib.hid (Ba B2.out (.cells #[] 37))
        have O1 := Lib.hid (show (W2.alloc (.cells #[] 37)).ownsRow a.heap.size 37 2 (.slice (some ⟨W2.heap.size, 0, none⟩) 0 0) 0 (flat encH ([] : List Hd)) from World.ownsRow_made _ #[] 0 B2.out.size (Nat.zero_le _) (by simp))
        have hkl1 : k ≤ l.length := by omega
        have hkl2 : k ≤ cap := by omega
        have hkz : ¬ cap = k := by omega
        go_wp2_with (first
          | (at_builtin; refine wpl_app apR rfl _ _ rfl a.heap.size (by rfl) (by rfl) O1.out rfl (SLT.out _ A1.out) (by simp; omega) A1.out.size ?_; intro v1 w1 hown1 hgrow1 hnil1; have b3 := grownB A1.out O1.out hgrow1; have O3 := Lib.hid hown1; have dd1 : w1.cell? ⟨w.heap.size, 0, none⟩ = some (.int .i64 x1) := Bc b3 (by omega) DA.out.1; have dd2 : w1.cell? ⟨w.heap.size, 1, none⟩ = some (.int .i64 x2) := Bc b3 (by omega) DA.out.2; have A3 := Lib.hid (Ba b3 (.cells #[.int .i64 x1, .int .i64 x2] 37)); have O4 := Lib.hid (O3.out.alloc (.cells #[.int .i64 x1, .int .i64 x2] 37)); have S4 := Lib.hid (sl_lit (enc := encH) (w := w1) (cs := #[.int .i64 x1, .int .i64 x2]) (t := 37) (b := w1.heap.size) [((x1, x2) : Hd)] rfl rfl (by unfold maxLen; simp)); clear hown1 hgrow1 hnil1 b3 O1)
          | (at_builtin; refine wpl_app apR rfl _ _ rfl a.heap.size (by rfl) (by rfl) O4.out (by first | (simp; done) | (simp; omega)) S4.out (by first | (simp; done) | (simp; omega)) A3.out.size ?_; intro v2 w2 hown2 hgrow2 hnil2; have b5 := grownB A3.out O4.out hgrow2; have B5 := Lib.hid b5; have O5 := Lib.hid hown2; clear hown2 hgrow2 hnil2 b5 O4)
          | (at_builtin; refine wpl_app apR rfl _ _ rfl a.heap.size (by rfl) (by rfl) O5.out (by first | (simp; done) | (simp; omega)) (SLD.out _ B5.out) (by first | (simp; done) | (simp; omega)) B5.out.size ?_; intro v3 w3 hown3 hgrow3 hnil3))
        have b6 := grownB B5.out O5.out hgrow3
        go_ret
        have hBw : RowKit.Below w.heap.size w w3 := WA.out.trans (b6.mono (by omega))
        refine ⟨v3, rfl, ?_, hBw⟩
        rw [HQ.out]
        have e1 : ([] ++ l.take k ++ [((x1, x2) : Hd)]) ++ l.drop k = l.take k ++ (x1, x2) :: l.drop k := by simp
        rw [e1] at hown3
        have e2 : ([] ++ l.take k ++ [((x1, x2) : Hd)]).length + (l.drop k).length = (l.take k ++ (x1, x2) :: l.drop k).length := by simp; omega
        rw [e2] at hown3
        exact row_mono hown3 (show w.heap.size ≤ a.heap.size by omega)
      · obtain ⟨i, hki⟩ : ∃ i, k = i + 1 := ⟨k - 1, by omega⟩
        have e1 : (k : Int) - 1 = (i : Int) := by omega
        rw [show k - 1 = i by omega] at hgo
        obtain ⟨c1, c2⟩ := atH (fun j u hu => Bc BB.out hg (HC.out j u hu)) (show i < l.length by omega)
        have hlt : ltH (x1, x2) l[i]! = false := by
          cases e : ltH (x1, x2) l[i]! with
          | false => rfl
          | true => exact absurd ⟨by omega, e⟩ hgo
        clear hgo
        have hwi : IntKind.i64.wrap (i : Int) = (i : Int) := IntWalk.i64_in _ (by omega)
        generalize l[i]! = y at *
        obtain ⟨y1, y2⟩ := y
        dsimp only at c1 c2
        rw [ltH_eq] at hlt
        simp only [Bool.or_eq_false_iff, Bool.and_eq_false_iff, decide_eq_false_iff_not] at hlt
        obtain ⟨hlt1, hlt2⟩ := hlt
        have hil : i < l.length := by omega
        clear hki
        rcases Decidable.em (x1 = y1) with he | he
        case' inl =>
          have hlt3 : ¬ x2 < y2 := hlt2.resolve_left (fun c => c he)
          subst he
          have hld : decide (x2 < y2) = false := decide_eq_false hlt3
          clear hlt1 hlt2
          go_wp2_with fail
          go_quiet (fail)
        case' inr =>
          have hd1 : decide (x1 < y1) = false := by simpa using hlt1
          have hez : (y1 == x1) = false := by simpa using fun c : y1 = x1 => he c.symm
          have hed : decide (y1 = x1) = false := by simpa using fun c : y1 = x1 => he c.symm
          clear hlt2 he
          go_wp2_with fail
          go_quiet (fail)
          clear hd1 hez hed hlt1
        all_goals
          clear c1 c2 e1 hil
          by_cases hkl : k < l.length
          · clear hwi
            obtain ⟨W2, hW2⟩ : ∃ W2, W2 = wr.drewN nq := ⟨_, rfl⟩
            have HQ := Lib.hid (show putL ltH l (x1, x2) = l.take k ++ (x1, x2) :: l.drop k by rw [HP.out, KE.out])
            rw [HW.out] at hW2
            rw [← HW.out] at hW2
            have HW2 := Lib.hid (show W2 = ((w.alloc (.cells #[.int .i64 x1, .int .i64 x2] 37)).drewN n).drewN nq by rw [hW2, HW.out])
            rw [← hW2]
            clear hW2 d1 d2 hgw hlw
            obtain ⟨a, ha⟩ : ∃ a, a = w.alloc (.cells #[.int .i64 x1, .int .i64 x2] 37) := ⟨_, rfl⟩
            have has : a.heap.size = w.heap.size + 1 := by rw [ha]; simp
            have DA : Hid (a.cell? ⟨w.heap.size, 0, none⟩ = some (.int .i64 x1) ∧ a.cell? ⟨w.heap.size, 1, none⟩ = some (.int .i64 x2)) := by rw [ha]; exact ⟨by simp, by simp⟩
            have WA : Hid (RowKit.Below w.heap.size w a) := by rw [ha]; exact Ba (Below.refl _ _) _
            have B2 : Hid (RowKit.Below a.heap.size a W2) := by rw [HW2.out, ← ha]; exact Bn (Bn (Below.refl _ _))
            have CA : Hid (∀ j u, (flat encH l)[j]? = some u → a.cell? ⟨g, o + j, none⟩ = some u) := fun j u hu => Bc WA.out hg (HC.out j u hu)
            clear ha HW2
            have hga : g < a.heap.size := by omega
            have SLT := Lib.hid (fun W (hb : RowKit.Below a.heap.size a W) => sl_take lenH (w := W) (g := g) (o := o) (cap := cap) (l := l) k (by omega) h1 HCM.out (Bl hb hga) (fun j u hu => Bc hb hga (CA.out j u hu)))
            have SLD := Lib.hid (fun W (hb : RowKit.Below a.heap.size a W) => sl_drop lenH (w := W) (g := g) (o := o) (cap := cap) (l := l) k (by omega) h1 HCM.out (Bl hb hga) (fun j u hu => Bc hb hga (CA.out j u hu)))
            have A1 := Lib.hid (Ba B2.out (.cells #[] 37))
            have O1 := Lib.hid (show (W2.alloc (.cells #[] 37)).ownsRow a.heap.size 37 2 (.slice (some ⟨W2.heap.size, 0, none⟩) 0 0) 0 (flat encH ([] : List Hd)) from World.ownsRow_made _ #[] 0 B2.out.size (Nat.zero_le _) (by simp))
            have hkl1 : k ≤ l.length := by omega
            have hkl2 : k ≤ cap := by omega
            have hkz : ¬ cap = k := by omega
            go_wp2_with (first
              | (at_builtin; refine wpl_app apR rfl _ _ rfl a.heap.size (by rfl) (by rfl) O1.out rfl (SLT.out _ A1.out) (by simp; omega) A1.out.size ?_; intro v1 w1 hown1 hgrow1 hnil1; have b3 := grownB A1.out O1.out hgrow1; have O3 := Lib.hid hown1; have dd1 : w1.cell? ⟨w.heap.size, 0, none⟩ = some (.int .i64 x1) := Bc b3 (by omega) DA.out.1; have dd2 : w1.cell? ⟨w.heap.size, 1, none⟩ = some (.int .i64 x2) := Bc b3 (by omega) DA.out.2; have A3 := Lib.hid (Ba b3 (.cells #[.int .i64 x1, .int .i64 x2] 37)); have O4 := Lib.hid (O3.out.alloc (.cells #[.int .i64 x1, .int .i64 x2] 37)); have S4 := Lib.hid (sl_lit (enc := encH) (w := w1) (cs := #[.int .i64 x1, .int .i64 x2]) (t := 37) (b := w1.heap.size) [((x1, x2) : Hd)] rfl rfl (by unfold maxLen; simp)); clear hown1 hgrow1 hnil1 b3 O1)
              | (at_builtin; refine wpl_app apR rfl _ _ rfl a.heap.size (by rfl) (by rfl) O4.out (by first | (simp; done) | (simp; omega)) S4.out (by first | (simp; done) | (simp; omega)) A3.out.size ?_; intro v2 w2 hown2 hgrow2 hnil2; have b5 := grownB A3.out O4.out hgrow2; have B5 := Lib.hid b5; have O5 := Lib.hid hown2; clear hown2 hgrow2 hnil2 b5 O4)
              | (at_builtin; refine wpl_app apR rfl _ _ rfl a.heap.size (by rfl) (by rfl) O5.out (by first | (simp; done) | (simp; omega)) (SLD.out _ B5.out) (by first | (simp; done) | (simp; omega)) B5.out.size ?_; intro v3 w3 hown3 hgrow3 hnil3))
            have b6 := grownB B5.out O5.out hgrow3
            go_ret
            have hBw : RowKit.Below w.heap.size w w3 := WA.out.trans (b6.mono (by omega))
            refine ⟨v3, rfl, ?_, hBw⟩
            rw [HQ.out]
            have e1 : ([] ++ l.take k ++ [((x1, x2) : Hd)]) ++ l.drop k = l.take k ++ (x1, x2) :: l.drop k := by simp
            rw [e1] at hown3
            have e2 : ([] ++ l.take k ++ [((x1, x2) : Hd)]).length + (l.drop k).length = (l.take k ++ (x1, x2) :: l.drop k).length := by simp; omega
            rw [e2] at hown3
            exact row_mono hown3 (show w.heap.size ≤ a.heap.size by omega)
          · clear hwi
            obtain ⟨W2, hW2⟩ : ∃ W2, W2 = wr.drewN nq := ⟨_, rfl⟩
            have HQ := Lib.hid (show putL ltH l (x1, x2) = l.take k ++ (x1, x2) :: l.drop k by rw [HP.out, KE.out])
            rw [HW.out] at hW2
            rw [← HW.out] at hW2
            have HW2 := Lib.hid (show W2 = ((w.alloc (.cells #[.int .i64 x1, .int .i64 x2] 37)).drewN n).drewN nq by rw [hW2, HW.out])
            rw [← hW2]
            clear hW2 d1 d2 hgw hlw
            obtain ⟨a, ha⟩ : ∃ a, a = w.alloc (.cells #[.int .i64 x1, .int .i64 x2] 37) := ⟨_, rfl⟩
            have has : a.heap.size = w.heap.size + 1 := by rw [ha]; simp
            have DA : Hid (a.cell? ⟨w.heap.size, 0, none⟩ = some (.int .i64 x1) ∧ a.cell? ⟨w.heap.size, 1, none⟩ = some (.int .i64 x2)) := by rw [ha]; exact ⟨by simp, by simp⟩
            have WA : Hid (RowKit.Below w.heap.size w a) := by rw [ha]; exact Ba (Below.refl _ _) _
            have B2 : Hid (RowKit.Below a.heap.size a W2) := by rw [HW2.out, ← ha]; exact Bn (Bn (Below.refl _ _))
            have CA : Hid (∀ j u, (flat encH l)[j]? = some u → a.cell? ⟨g, o + j, none⟩ = some u) := fun j u hu => Bc WA.out hg (HC.out j u hu)
            clear ha HW2
            have hga : g < a.heap.size := by omega
            have SLT := Lib.hid (fun W (hb : RowKit.Below a.heap.size a W) => sl_take lenH (w := W) (g := g) (o := o) (cap := cap) (l := l) k (by omega) h1 HCM.out (Bl hb hga) (fun j u hu => Bc hb hga (CA.out j u hu)))
            have SLD := Lib.hid (fun W (hb : RowKit.Below a.heap.size a W) => (⟨_, cap - k, by rw [List.length_drop], by rw [List.length_drop]; omega, by have := HCM.out; omega, fun h => absurd h (by rw [List.length_drop]; omega)⟩ : Sl encH W (.slice (if cap = k then some ⟨g, o, none⟩ else some ⟨g, o + k * 2, none⟩) (l.length - k) (cap - k)) (l.drop k)))
            have A1 := Lib.hid (Ba B2.out (.cells #[] 37))
            have O1 := Lib.hid (show (W2.alloc (.cells #[] 37)).ownsRow a.heap.size 37 2 (.slice (some ⟨W2.heap.size, 0, none⟩) 0 0) 0 (flat encH ([] : List Hd)) from World.ownsRow_made _ #[] 0 B2.out.size (Nat.zero_le _) (by simp))
            have hkl1 : k ≤ l.length := by omega
            have hkl2 : k ≤ cap := by omega
            
            go_wp2_with (first
              | (at_builtin; refine wpl_app apR rfl _ _ rfl a.heap.size (by rfl) (by rfl) O1.out rfl (SLT.out _ A1.out) (by simp; omega) A1.out.size ?_; intro v1 w1 hown1 hgrow1 hnil1; have b3 := grownB A1.out O1.out hgrow1; have O3 := Lib.hid hown1; have dd1 : w1.cell? ⟨w.heap.size, 0, none⟩ = some (.int .i64 x1) := Bc b3 (by omega) DA.out.1; have dd2 : w1.cell? ⟨w.heap.size, 1, none⟩ = some (.int .i64 x2) := Bc b3 (by omega) DA.out.2; have A3 := Lib.hid (Ba b3 (.cells #[.int .i64 x1, .int .i64 x2] 37)); have O4 := Lib.hid (O3.out.alloc (.cells #[.int .i64 x1, .int .i64 x2] 37)); have S4 := Lib.hid (sl_lit (enc := encH) (w := w1) (cs := #[.int .i64 x1, .int .i64 x2]) (t := 37) (b := w1.heap.size) [((x1, x2) : Hd)] rfl rfl (by unfold maxLen; simp)); clear hown1 hgrow1 hnil1 b3 O1)
              | (at_builtin; refine wpl_app apR rfl _ _ rfl a.heap.size (by rfl) (by rfl) O4.out (by first | (simp; done) | (simp; omega)) S4.out (by first | (simp; done) | (simp; omega)) A3.out.size ?_; intro v2 w2 hown2 hgrow2 hnil2; have b5 := grownB A3.out O4.out hgrow2; have B5 := Lib.hid b5; have O5 := Lib.hid hown2; clear hown2 hgrow2 hnil2 b5 O4)
              | (at_builtin; refine wpl_app apR rfl _ _ rfl a.heap.size (by rfl) (by rfl) O5.out (by first | (simp; done) | (simp; omega)) (SLD.out _ B5.out) (by first | (simp; done) | (simp; omega)) B5.out.size ?_; intro v3 w3 hown3 hgrow3 hnil3))
            all_goals
              have b6 := grownB B5.out O5.out hgrow3
              go_ret
              have hBw : RowKit.Below w.heap.size w w3 := WA.out.trans (b6.mono (by omega))
              refine ⟨v3, rfl, ?_, hBw⟩
              rw [HQ.out]
              have e1 : ([] ++ l.take k ++ [((x1, x2) : Hd)]) ++ l.drop k = l.take k ++ (x1, x2) :: l.drop k := by simp
              rw [e1] at hown3
              have e2 : ([] ++ l.take k ++ [((x1, x2) : Hd)]).length + (l.drop k).length = (l.take k ++ (x1, x2) :: l.drop k).length := by simp; omega
              rw [e2] at hown3
              exact row_mono hown3 (show w.heap.size ≤ a.heap.size by omega)
end Go.Proofs.YtaceahjomhgccaaDoor
