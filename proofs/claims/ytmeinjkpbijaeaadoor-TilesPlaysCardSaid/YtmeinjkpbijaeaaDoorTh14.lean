/-
  Package tiles: these; slices.IndexFunc, ContainsFunc and Clone at numbers.
-/
import Derived.Test.YtmeinjkpbijaeaaDoorMq14
namespace Go.Proofs.YtmeinjkpbijaeaaDoor
set_option linter.unusedSimpArgs false
set_option linter.unusedVariables false
open Go.RowKit Go.Sort Go.Lib Go.Shelf

/-- What a function value answers, wherever the world has only grown. -/
def Tells (fa : FuncId) (pv : Value) (w : World) (p : Int → Bool) : Prop := ∀ W, RowKit.Below w.heap.size w W → ∀ t : Int, Calls Tryd.prog fa #[pv, .int .i64 t] W fun e w' => e = .returned (.bool (p t)) ∧ W = w'
theorem Tells.below {fa : FuncId} {pv : Value} {w w' : World} {p : Int → Bool} (h : Tells fa pv w p) (hb : RowKit.Below w.heap.size w w') : Tells fa pv w' p := fun W k => h W (Bt hb k)
set_option maxHeartbeats 2000000 in
set_option maxRecDepth 100000 in
theorem these_call (fa : FuncId) (pv : Value) (hen : ∀ args w, (callFunc fa args).run Tryd.prog w = .ok (.enter fa args) w) (p : Int → Bool) (l : List Int) (v : Value) (w : World) (hl : Sl encI w v l) (hn : l.length ≤ 1024) (ha : Tells fa pv w p) :
    Calls Tryd.prog 35 #[v, .func (.func fa) #[pv] #[]] w fun e w' => ∃ v', e = .returned v' ∧ OwnI w' w.heap.size v' (l.filter p) ∧ RowKit.Below w.heap.size w w' := by
  obtain ⟨q, cap, rfl, l1, l2, l3⟩ := hl
  unfold maxLen at l2
  have HL := Lib.hid l3
  have HA := Lib.hid ha
  clear ha l3
  go_enter Tryd.func35, Tryd.ntmps35
  go_wp2
  go_loopw [5, 10] (fun v i wr => ∃ k : Nat, k ≤ l.length ∧ i = .int .i64 k ∧ RowKit.Below w.heap.size w wr ∧ OwnI wr w.heap.size v ((l.take k).filter p)) (fun _ i _ => l.length - (intOf i).toNat)
  case atStart => exact ⟨0, Nat.zero_le _, rfl, Below.refl _ _, own_nil _ _⟩
  case round =>
    obtain ⟨k, hk, rfl, hb, ho⟩ := hrel
    have HB := Lib.hid hb
    have HO := Lib.hid ho
    by_cases hkn : k < l.length
    · obtain ⟨gb, o, rfl, hg1, hg2⟩ := HL.out (by omega)
      have c1 := Bc hb hg1 (sl_cell1 encI1 hg2 hkn)
      have ft := filter_take hkn p
      have hlen : ((l.take k).filter p).length ≤ 1024 := Nat.le_trans (List.length_filter_le _ _) (by rw [List.length_take]; omega)
      have HT := Lib.hid (HA.out wr hb l[k]!)
      generalize l[k]! = x at *
      have hkz : (k : Int) < (l.length : Int) := by omega
      clear hb ho hg2
      cases hp : p x
      · rw [hp] at HT
        rw [if_neg (by rw [hp]; simp), List.append_nil] at ft
        have FT := Lib.hid ft
        clear ft hp
        go_wp2_with fail
        refine HT.out.mono ?_
        rintro e w1 ⟨rfl, rfl⟩
        go_wp2
        go_roundw
        case measure => simp only [intOf]; omega
        case rel => exact ⟨k + 1, by omega, by go_num, HB.out, by rw [FT.out]; exact HO.out⟩
      · rw [hp] at HT
        rw [if_pos hp] at ft
        have FT := Lib.hid ft
        have bX := Ba (Below.refl _ wr) (.cells #[.int .i64 x] 3)
        have O5 := Lib.hid (row_below HO.out bX)
        have B5 := Lib.hid (Bt HB.out bX)
        have L5 := Lib.hid (sl_lit (enc := encI) (w := wr) (cs := #[.int .i64 x]) (t := 3) (b := wr.heap.size) [x] (by simp) rfl (by unfold maxLen; simp))
        clear ft hp bX
        go_wp2_with fail
        refine HT.out.mono ?_
        rintro e w1 ⟨rfl, rfl⟩
        go_wp2_with (at_builtin; refine wpl_app2 apI rfl _ _ rfl w.heap.size (by rfl) (by rfl) O5.out rfl L5.out (by simp; omega) B5.out.size ?_; intro v7 w7 hown7 hgrow7 hat7 hnil7; have O7 := Lib.hid hown7; have B7 := Lib.hid (grownB B5.out O5.out hgrow7); clear hown7 hgrow7 hat7 hnil7)
        go_roundw
        case measure => simp only [intOf]; omega
        case rel => exact ⟨k + 1, by omega, by go_num, B7.out, by rw [FT.out]; exact O7.out⟩
    · obtain rfl : k = l.length := by omega
      rw [List.take_length] at HO
      clear hb ho
      go_wp2
      go_ret
      exact ⟨_, rfl, HO.out, HB.out⟩
theorem any_take {l : List Int} {k : Nat} (hk : k < l.length) (p : Int → Bool) : (l.take (k + 1)).any p = ((l.take k).any p || p l[k]!) := by
  rw [List.take_succ_eq_append_getElem hk, List.any_append, getElem!_pos l k hk]
  simp
theorem any_at {l : List Int} {k : Nat} (hk : k < l.length) (p : Int → Bool) (h : p l[k]! = true) : l.any p = true := by
  rw [List.any_eq_true]
  exact ⟨l[k]!, by rw [getElem!_pos l k hk]; exact List.getElem_mem hk, h⟩
set_option maxHeartbeats 2000000 in
set_option maxRecDepth 100000 in
theorem indexI_call (fa : FuncId) (pv : Value) (hen : ∀ args w, (callFunc fa args).run Tryd.prog w = .ok (.enter fa args) w) (p : Int → Bool) (l : List Int) (v : Value) (w : World) (hl : Sl encI w v l) (hn : l.length ≤ 1024) (ha : Tells fa pv w p) :
    Calls Tryd.prog 46 #[v, .func (.func fa) #[pv] #[]] w fun e w' => (∃ r : Int, e = .returned (.int .i64 r) ∧ decide (0 ≤ r) = l.any p) ∧ w = w' := by
  obtain ⟨q, cap, rfl, l1, l2, l3⟩ := hl
  unfold maxLen at l2
  have HL := Lib.hid l3
  have HA := Lib.hid (ha w (Below.refl _ _))
  clear ha l3
  go_enter Tryd.func46, Tryd.ntmps46
  go_wp2
  go_loopw [8] (fun i wr => ∃ k : Nat, k ≤ l.length ∧ i = .int .i64 k ∧ wr = w ∧ Hid ((l.take k).any p = false)) (fun i _ => l.length - (intOf i).toNat)
  case atStart => exact ⟨0, Nat.zero_le _, rfl, rfl, Lib.hid (by simp)⟩
  case round =>
    obtain ⟨k, hk, rfl, rfl, hu⟩ := hrel
    by_cases hkn : k < l.length
    · obtain ⟨gb, o, rfl, hg1, hg2⟩ := HL.out (by omega)
      have c1 := sl_cell1 encI1 hg2 hkn
      have ft := any_take hkn p
      have HT := Lib.hid (HA.out l[k]!)
      have AT := Lib.hid (any_at hkn p)
      generalize l[k]! = x at *
      have hkz : (k : Int) < (l.length : Int) := by omega
      clear hg2
      cases hp : p x
      · rw [hp] at HT ft
        have FT := Lib.hid ft
        clear ft hp AT
        go_wp2_with fail
        refine HT.out.mono ?_
        rintro e w1 ⟨rfl, rfl⟩
        go_wp2
        go_roundw
        case measure => simp only [intOf]; omega
        case rel => exact ⟨k + 1, by omega, by go_num, by trivial, Lib.hid (by rw [FT.out, hu.out]; rfl)⟩
      · rw [hp] at HT
        have A1 := Lib.hid (AT.out hp)
        clear ft hp AT
        go_wp2_with fail
        refine HT.out.mono ?_
        rintro e w1 ⟨rfl, rfl⟩
        go_wp2
        go_ret
        exact ⟨⟨(k : Int), rfl, by rw [A1.out]; simp⟩, rfl⟩
    · obtain rfl : k = l.length := by omega
      rw [List.take_length] at hu
      go_wp2
      go_ret
      exact ⟨⟨-1, rfl, by rw [hu.out]; rfl⟩, rfl⟩
theorem containsI_call (fa : FuncId) (pv : Value) (hen : ∀ args w, (callFunc fa args).run Tryd.prog w = .ok (.enter fa args) w) (p : Int → Bool) (l : List Int) (v : Value) (w : World) (hl : Sl encI w v l) (hn : l.length ≤ 1024) (ha : Tells fa pv w p) :
    Calls Tryd.prog 37 #[v, .func (.func fa) #[pv] #[]] w fun e w' => e = .returned (.bool (l.any p)) ∧ w = w' := by
  have IC := Lib.hid (indexI_call fa pv hen p l v w hl hn ha)
  clear ha
  obtain ⟨q, cap, rfl, l1, l2, l3⟩ := hl
  generalize l.any p = b at *
  clear l3
  go_enter Tryd.func37, Tryd.ntmps37
  go_wp2_with fail
  refine IC.out.mono ?_
  rintro e w1 ⟨⟨r, rfl, hr⟩, rfl⟩
  have HR := Lib.hid hr
  clear hr
  go_wp2
  go_ret
  exact ⟨ret_bool HR.out, rfl⟩
theorem eqS_some (a o n m : Nat) (w : World) : (binOp .eql 50 (.slice (some ⟨a, o, none⟩) n m) (.slice none 0 0)).run Tryd.prog w = .ok (.bool false) w := by kernel_rfl
set_option maxHeartbeats 2000000 in
set_option maxRecDepth 100000 in
theorem cloneI_call (l : List Int) (v : Value) (w : World) (hl : Sl encI w v l) (h0 : 1 ≤ l.length) (hn : l.length ≤ 1024) :
    Calls Tryd.prog 38 #[v] w fun e w' => ∃ v', e = .returned v' ∧ OwnI w' w.heap.size v' l ∧ RowKit.Below w.heap.size w w' := by
  have HL := Lib.hid hl
  obtain ⟨q, cap, rfl, l1, l2, l3⟩ := hl
  unfold maxLen at l2
  obtain ⟨gb, o, rfl, hg1, -⟩ := l3 (by omega)
  have bX := Ba (Below.refl _ w) (.cells #[] 3)
  have O5 := Lib.hid (World.ownsRow_made (base := w.heap.size) (e := 3) (size := 1) w #[] 0 (Nat.le_refl _) (Nat.zero_le _) (by simp))
  have B5 := Lib.hid bX
  have L5 := Lib.hid (HL.out.below bX)
  clear bX l3 HL
  have eqs := eqS_some
  go_enter Tryd.func38, Tryd.ntmps38
  go_wp2_with (at_builtin; refine wpl_app2 (la := []) apI rfl _ _ rfl w.heap.size (by rfl) (by rfl) O5.out rfl L5.out (by simp; omega) B5.out.size ?_; intro v7 w7 hown7 hgrow7 hat7 hnil7; have O7 := Lib.hid hown7; have B7 := Lib.hid (grownB B5.out O5.out hgrow7); clear hown7 hgrow7 hat7 hnil7)
  go_ret
  exact ⟨_, rfl, O7.out, B7.out⟩
end Go.Proofs.YtmeinjkpbijaeaaDoor
