import Derived.Test.YtlnncnbahmgpfaaDoorZ4
import Derived.Test.YtlnncnbahmgpfaaDoorZ20
import Derived.Deep.RegionHeld3

/-
  QuadWalks' two closures: what enters, what is met.
-/
namespace Go.Proofs.YtlnncnbahmgpfaaDoor
set_option linter.unusedSimpArgs false
set_option linter.unusedVariables false
open Go.RowKit Go.Sort Go.Lib Go.Shelf

/-- Is a cell entered? -/
def entersB (deep : Int) (left : Bool) (c : Cl) : Bool := decide (c.1 ≤ deep) && (!left || decide (c.2.1 * 2 ≤ pwI c.1.toNat))
set_option maxHeartbeats 2000000 in
set_option maxRecDepth 100000 in
theorem enters_call (k : Nat) (hk : k ≤ 8) (c2 c3 : Int) (h2 : 0 ≤ c2) (h3 : c2 ≤ 255) (bd bf : Nat) (deep : Int) (left : Bool) (w : World) (hd : w.cell? ⟨bd, 0, none⟩ = some (.int .i64 deep)) (hl : w.cell? ⟨bf, 0, none⟩ = some (.bool left)) :
    Calls Tryd.prog 17 #[clV ((k : Int), c2, c3), .pointer (some ⟨bd, 0, none⟩), .pointer (some ⟨bf, 0, none⟩)] w fun e w' => e = .returned (.bool (entersB deep left ((k : Int), c2, c3))) ∧ Gr w w' := by
  have hpw := wrap_pw hk
  obtain ⟨_, _, _, p1, p2⟩ := side_pw hk
  have HV : Hid (entersB deep left ((k : Int), c2, c3) = (decide ((k : Int) ≤ deep) && (!left || decide (c2 * 2 ≤ pwI k)))) := Lib.hid rfl
  rw [HV.out]
  clear HV
  have hbd := cell_lt hd
  have hbf := cell_lt hl
  generalize pwI k = pw at *
  by_cases e1 : (k : Int) ≤ deep
  case neg =>
    have d1 : decide ((k : Int) ≤ deep) = false := decide_eq_false e1
    rw [d1]
    go_enter Tryd.func17, Tryd.ntmps17
    go_wp2_with fail
    go_quiet (fail)
    go_wp2
    go_ret
    exact ⟨by simp, (by repeat (first | with_reducible exact Gr.refl _ | with_reducible assumption | with_reducible apply Gr.alloc | with_reducible apply Gr.drewN | with_reducible apply Gr.drew | with_reducible apply Gr.grow | (with_reducible refine Gr.trans ?_ (by assumption))))⟩
  have d1 : decide ((k : Int) ≤ deep) = true := decide_eq_true e1
  rw [d1]
  cases left
  · go_enter Tryd.func17, Tryd.ntmps17
    go_wp2_with fail
    go_quiet (fail)
    go_wp2
    go_ret
    exact ⟨by simp, (by repeat (first | with_reducible exact Gr.refl _ | with_reducible assumption | with_reducible apply Gr.alloc | with_reducible apply Gr.drewN | with_reducible apply Gr.drew | with_reducible apply Gr.grow | (with_reducible refine Gr.trans ?_ (by assumption))))⟩
  · by_cases e2 : c2 * 2 ≤ pw
    · have d2 : decide (c2 * 2 ≤ pw) = true := decide_eq_true e2
      rw [d2]
      go_enter Tryd.func17, Tryd.ntmps17
      go_wp2_with fail
      go_quiet (fail)
      go_wp2
      go_ret
      exact ⟨by simp, (by repeat (first | with_reducible exact Gr.refl _ | with_reducible assumption | with_reducible apply Gr.alloc | with_reducible apply Gr.drewN | with_reducible apply Gr.drew | with_reducible apply Gr.grow | (with_reducible refine Gr.trans ?_ (by assumption))))⟩
    · have d2 : decide (c2 * 2 ≤ pw) = false := decide_eq_false e2
      rw [d2]
      go_enter Tryd.func17, Tryd.ntmps17
      go_wp2_with fail
      go_quiet (fail)
      go_wp2
      go_ret
      exact ⟨by simp, (by repeat (first | with_reducible exact Gr.refl _ | with_reducible assumption | with_reducible apply Gr.alloc | with_reducible apply Gr.drewN | with_reducible apply Gr.drew | with_reducible apply Gr.grow | (with_reducible refine Gr.trans ?_ (by assumption))))⟩
end Go.Proofs.YtlnncnbahmgpfaaDoor
