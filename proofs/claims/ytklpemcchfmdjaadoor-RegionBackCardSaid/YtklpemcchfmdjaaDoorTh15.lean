/-
  slices.IndexFunc, ContainsFunc and Clone at numbers (stage 14's texts).
-/
import Derived.Test.YtklpemcchfmdjaaDoorOp15
namespace Go.Proofs.YtklpemcchfmdjaaDoor
set_option linter.unusedSimpArgs false
set_option linter.unusedVariables false
open Go.RowKit Go.Sort Go.Lib Go.Shelf

/-- What a function value answers, wherever the world has only grown. -/
def Tells (fa : FuncId) (pv : Value) (w : World) (p : Int → Bool) : Prop := ∀ W, RowKit.Below w.heap.size w W → ∀ t : Int, Calls Tryd.prog fa #[pv, .int .i64 t] W fun e w' => e = .returned (.bool (p t)) ∧ W = w'
theorem Tells.below {fa : FuncId} {pv : Value} {w w' : World} {p : Int → Bool} (h : Tells fa pv w p) (hb : RowKit.Below w.heap.size w w') : Tells fa pv w' p := fun W k => h W (Bt hb k)
theorem any_take {l : List Int} {k : Nat} (hk : k < l.length) (p : Int → Bool) : (l.take (k + 1)).any p = ((l.take k).any p || p l[k]!) := by
  rw [List.take_succ_eq_append_getElem hk, List.any_append, getElem!_pos l k hk]
  simp
theorem any_at {l : List Int} {k : Nat} (hk : k < l.length) (p : Int → Bool) (h : p l[k]! = true) : l.any p = true := by
  rw [List.any_eq_true]
  exact ⟨l[k]!, by rw [getElem!_pos l k hk]; exact List.getElem_mem hk, h⟩
set_option maxHeartbeats 2000000 in
set_option maxRecDepth 100000 in
theorem indexI_call (fa : FuncId) (pv : Value) (hen : ∀ args w, (callFunc fa args).run Tryd.prog w = .ok (.enter fa args) w) (p : Int → Bool) (l : List Int) (v : Value) (w : World) (hl : Sl encI w v l) (hn : l.length ≤ 1024) (ha : Tells fa pv w p) :
    Calls Tryd.prog 41 #[v, .func (.func fa) #[pv] #[]] w fun e w' => (∃ r : Int, e = .returned (.int .i64 r) ∧ decide (0 ≤ r) = l.any p) ∧ w = w' := by
  obtain ⟨q, cap, rfl, l1, l2, l3⟩ := hl
  unfold maxLen at l2
  have HL := Lib.hid l3
  have HA := Lib.hid (ha w (Below.refl _ _))
  clear ha l3
  go_enter Tryd.func41, Tryd.ntmps41
  go_wp2
  go_loopw [8] (fun i wr => ∃ k : Nat, k ≤ l.length ∧ i = .int .i64 k ∧ wr = w ∧ Hid ((l.take k).any p = false)) (fun i _ => l.length - (intOf i).toNat)
  case atStart => exact ⟨0, Nat.zero_le _, rfl, rfl, Lib.hid (by simp)⟩
  case round =>
    obtain ⟨k, hk, rfl, rfl, hu⟩ := hrel
    by_cases hkn : k < l.length
    · obtain ⟨gb, o, rfl, hg1, hg2⟩ := HL.out (by omega)
      have c1 := sl_cell1 encI1' hg2 hkn
      have ft := any_take hkn p
      have HT := Lib.hid (HA.out l[k]!)
      have AT := Lib.hid (any_at hkn p)
      generalize l[k]! = x at *
      have hkz : (k : Int) < (l.length : Int) := by omega
      clear hg2
      cases hp : p x
      · rw [hp] at HT ft
        have FT := Lib.hid ft
        clear ft hp AT
        go_wp2_with fail
        refine HT.out.mono ?_
        rintro e w1 ⟨rfl, rfl⟩
        go_wp2
        go_roundw
        case measure => simp only [intOf]; omega
        case rel => exact ⟨k + 1, by omega, by go_num, by trivial, Lib.hid (by rw [FT.out, hu.out]; rfl)⟩
      · rw [hp] at HT
        have A1 := Lib.hid (AT.out hp)
        clear ft hp AT
        go_wp2_with fail
        refine HT.out.mono ?_
        rintro e w1 ⟨rfl, rfl⟩
        go_wp2
        go_ret
        exact ⟨⟨(k : Int), rfl, by rw [A1.out]; simp⟩, rfl⟩
    · obtain rfl : k = l.length := by omega
      rw [List.take_length] at hu
      go_wp2
      go_ret
      exact ⟨⟨-1, rfl, by rw [hu.out]; rfl⟩, rfl⟩
theorem containsI_call (fa : FuncId) (pv : Value) (hen : ∀ args w, (callFunc fa args).run Tryd.prog w = .ok (.enter fa args) w) (p : Int → Bool) (l : List Int) (v : Value) (w : World) (hl : Sl encI w v l) (hn : l.length ≤ 1024) (ha : Tells fa pv w p) :
    Calls Tryd.prog 30 #[v, .func (.func fa) #[pv] #[]] w fun e w' => e = .returned (.bool (l.any p)) ∧ w = w' := by
  have IC := Lib.hid (indexI_call fa pv hen p l v w hl hn ha)
  clear ha
  obtain ⟨q, cap, rfl, l1, l2, l3⟩ := hl
  generalize l.any p = b at *
  clear l3
  go_enter Tryd.func30, Tryd.ntmps30
  go_wp2_with fail
  refine IC.out.mono ?_
  rintro e w1 ⟨⟨r, rfl, hr⟩, rfl⟩
  have HR := Lib.hid hr
  clear hr
  go_wp2
  go_ret
  exact ⟨ret_bool HR.out, rfl⟩
theorem eqS_some (a o n m : Nat) (w : World) : (binOp .eql 35 (.slice (some ⟨a, o, none⟩) n m) (.slice none 0 0)).run Tryd.prog w = .ok (.bool false) w := by kernel_rfl
set_option maxHeartbeats 2000000 in
set_option maxRecDepth 100000 in
theorem cloneI_call (l : List Int) (v : Value) (w : World) (hl : Sl encI w v l) (h0 : 1 ≤ l.length) (hn : l.length ≤ 1024) :
    Calls Tryd.prog 36 #[v] w fun e w' => ∃ v', e = .returned v' ∧ OwnI w' w.heap.size v' l ∧ RowKit.Below w.heap.size w w' := by
  have HL := Lib.hid hl
  obtain ⟨q, cap, rfl, l1, l2, l3⟩ := hl
  unfold maxLen at l2
  obtain ⟨gb, o, rfl, hg1, -⟩ := l3 (by omega)
  have bX := Ba (Below.refl _ w) (.cells #[] 3)
  have O5 := Lib.hid (World.ownsRow_made (base := w.heap.size) (e := 3) (size := 1) w #[] 0 (Nat.le_refl _) (Nat.zero_le _) (by simp))
  have B5 := Lib.hid bX
  have L5 := Lib.hid (HL.out.below bX)
  clear bX l3 HL
  have eqs := eqS_some
  go_enter Tryd.func36, Tryd.ntmps36
  go_wp2_with (at_builtin; refine wpl_app2 (la := []) apI rfl _ _ rfl w.heap.size (by rfl) (by rfl) O5.out rfl L5.out (by simp; omega) B5.out.size ?_; intro v7 w7 hown7 hgrow7 hat7 hnil7; have O7 := Lib.hid hown7; have B7 := Lib.hid (grownB B5.out O5.out hgrow7); clear hown7 hgrow7 hat7 hnil7)
  go_ret
  exact ⟨_, rfl, O7.out, B7.out⟩
end Go.Proofs.YtklpemcchfmdjaaDoor
