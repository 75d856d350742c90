/-
  The calls of Column[byte], at a column in memory.
-/
import Derived.Test.YtfoagdnbegpjeaaDoorCm
import Derived.Test.YtfoagdnbegpjeaaDoorEnc
import Derived.Lib.SliceRun
import Derived.Shelf.SlSortCmp.QuietGrown
import Derived.Deep.LoopGhost
namespace Go.Proofs.YtfoagdnbegpjeaaDoor
set_option linter.unusedSimpArgs false
set_option linter.unusedVariables false
open Go.RowKit Go.Sort Go.Lib Go.Shelf

section
variable {pa : Nat} {L : List Int} {m : Int} {M : Nat → Prop} {w : World}
/-- A column of this type. -/
abbrev ColB (w : World) (M : Nat → Prop) (pa : Nat) (L : List Int) (m : Int) : Prop := ColAt encB 5 1 73 w M pa L m

theorem newB_call (m : Int) (w : World) : Calls Tryd.prog 29 #[.int .i64 m] w (ColNew encB 5 1 73 w [] (max m 0)) := by
  have X := Lib.hid (col_made (enc := encB) (et := 5) (k := 1) (w := w) (L := []) (v := .slice none 0 0) (Below.refl _ w) (World.ownsRow_nil _ _ _ _) 73 (max m 0))
  go_enter Tryd.func29, Tryd.ntmps29
  go_wp2
  go_ret
  exact ⟨_, rfl, X.out.at, (by repeat (first | with_reducible exact Below.refl _ _ | with_reducible assumption | with_reducible apply Ba | with_reducible apply Bd | with_reducible apply Bn | with_reducible apply Bg | (with_reducible refine Bs ?_ (by first | (simp; done) | (simp; omega)) _) | (with_reducible refine Bt ?_ (by assumption)) | (with_reducible refine Bt ?_ (Gr.below (by assumption)))))⟩

theorem lenB_call (hp : ColB w M pa L m) : Calls Tryd.prog 31 #[.pointer (some ⟨pa, 0, none⟩)] w fun e w' => e = .returned (.int .i64 L.length) ∧ w = w' := by
  obtain ⟨p, cap, hi, h1, h2, _⟩ := hp.open
  have hl := hi.lt
  obtain ⟨c0, c1, f0, f1⟩ := hi.cells
  clear hi hp
  go_enter Tryd.func31, Tryd.ntmps31
  go_wp2
  go_ret
  exact ⟨rfl, rfl⟩

set_option maxHeartbeats 1000000 in
set_option maxRecDepth 100000 in
theorem pushB_no (hp : ColB w M pa L m) (l : List Int) (vl : Value) (hv : Sl encB w vl l) (hm : 0 ≤ m) (hm2 : m ≤ 9223372036854775807) (hn : m - L.length < l.length) (t : TypeId) (v : Value) (hE : w.cell? ⟨1, 0, none⟩ = some (.iface t v)) :
    Calls Tryd.prog 30 #[.pointer (some ⟨pa, 0, none⟩), vl] w fun e w' => e = .returned (.iface t v) ∧ RowKit.Below w.heap.size w w' := by
  obtain ⟨p, cap, hi, h1, h2, h3⟩ := hp.open
  have hl := hi.lt
  obtain ⟨c0, c1, f0, f1⟩ := hi.cells
  obtain ⟨p2, cap2, rfl, q1, q2, _⟩ := hv
  unfold maxLen at q2
  clear hi hp h3
  go_enter Tryd.func30, Tryd.ntmps30
  go_wp2_with fail
  go_quiet (fail)
  go_wp2
  go_ret
  exact ⟨rfl, (by repeat (first | with_reducible exact Below.refl _ _ | with_reducible assumption | with_reducible apply Ba | with_reducible apply Bd | with_reducible apply Bn | with_reducible apply Bg | (with_reducible refine Bs ?_ (by first | (simp; done) | (simp; omega)) _) | (with_reducible refine Bt ?_ (by assumption)) | (with_reducible refine Bt ?_ (Gr.below (by assumption)))))⟩
set_option maxHeartbeats 2000000 in
set_option maxRecDepth 100000 in
theorem pushB_yes (hp : ColB w M pa L m) (l : List Int) (vl : Value) (hv : Sl encB w vl l) (hm : 0 ≤ m) (hm2 : m ≤ 9223372036854775807) (hn : ¬ m - L.length < l.length) (hlen : L.length + l.length ≤ 1000000) :
    Calls Tryd.prog 30 #[.pointer (some ⟨pa, 0, none⟩), vl] w fun e w' => e = .returned .nilIface ∧ ColB w' (New M w w') pa (L ++ l) m ∧ Tch M w w' := by
  obtain ⟨p, cap, hi, h1, h2, h3⟩ := hp.open
  have hl := hi.lt
  obtain ⟨c0, c1, f0, f1⟩ := hi.cells
  have HV := Lib.hid hv
  obtain ⟨p2, cap2, rfl, q1, q2, _⟩ := hv
  unfold maxLen at q2
  have HI := Lib.hid hi
  clear hi hp h3
  go_enter Tryd.func30, Tryd.ntmps30
  go_wp2_with fail
  go_quiet (fail)
  have P1 := Lib.hid (HI.out.below (Bn (Below.refl _ w)) : ColIs encB 5 1 73 (w.drewN nq) M pa _ L m)
  have V1 := Lib.hid (HV.out.below (Bn (Below.refl _ w)) : Sl encB (w.drewN nq) _ l)
  go_wp2_with (at_builtin; refine wpl_app2 apB rfl _ _ rfl 0 (by rfl) (by rfl) P1.out.2.2.1 rfl V1.out hlen (Nat.zero_le _) ?_; intro v4 w4 hown4 hgrow4 hat4 _; obtain ⟨p4, c4, rfl, _, _, _⟩ := row_val hown4; have hrow4 := Lib.hid (row_grown P1.out.2.2.2 hown4 hgrow4 hat4); have G4 := Lib.hid (P1.out.grown (by decide) hgrow4); obtain ⟨z0, _, z1, _⟩ := two_cells G4.out; clear hown4 hgrow4 hat4)
  obtain ⟨P5, t5⟩ := col_put (T := 73) (M := New M w w4) (by decide) G4.out (.inl P1.out.2.1) hrow4.out.1
  have hlenS : (L ++ l).length = L.length + l.length := by simp
  rw [hlenS] at P5 t5
  go_ret
  exact ⟨rfl, P5.at.mono (New.mono (by simp)), ((Tch.of (Bn (Below.refl _ w))).more hrow4.out.2).trans t5⟩
end
end Go.Proofs.YtfoagdnbegpjeaaDoor
