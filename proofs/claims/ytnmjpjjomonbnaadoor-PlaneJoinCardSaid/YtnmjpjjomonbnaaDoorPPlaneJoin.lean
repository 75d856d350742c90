/-
  Whatever list of boxes it is given, PlaneJoin answers true and leaves its argument as it was. Conditions: the errors' variables that it names read as the program's text lays them (the card ties them to that text).
-/
import Derived.Test.YtnmjpjjomonbnaaDoorBase
import Derived.Test.YtnmjpjjomonbnaaDoorL1i
import Derived.Test.YtnmjpjjomonbnaaDoorSent
import Derived.Deep.Slices
import Derived.SizedLaws
namespace Go.Proofs.YtnmjpjjomonbnaaDoor
set_option linter.unusedSimpArgs false
set_option linter.unusedVariables false
open Go.ChangeShapes Go.WideShapes Go.ChangeAt Go.RowKit Go.Joins

set_option maxRecDepth 100000 in
theorem planeJoin_lifted (os : Os) (started : os.Started) (H : Type) (enc : TypeId × Value → H) :
    ReturnsInHanded {} Tryd.checked os 10 .any (fun w args => (Rows.planeJoinSpec.pre enc Tryd.prog Tryd.f10 [] false w args ∧ laidMetH Tryd.prog Rows.planeJoinRow.laid w) ∧ sizedMet enc Tryd.prog Tryd.f10 (OpenSpec.ofChange Rows.planeJoinSpec) false w args)
      (Rows.planeJoinSpec.post enc Tryd.prog Tryd.f10 false true false false) := by
  refine returnsInHanded_of_change_and (C := Tryd.checked) (X := fun w _ => laidMetH Tryd.prog Rows.planeJoinRow.laid w) (fun _ _ _ hh h => h.of_heap hh) own started (by kernel_rfl) Tryd.func10
    (ChangeSpec.witness_shaped (enc := enc) (C := Tryd.checked) (os := os) (X := fun w _ => laidMetH Tryd.prog Rows.planeJoinRow.laid w) false (World.doorLaid Tryd.prog 199 os) #[.slice none 0 0] 8 rfl (World.shaped_of_RefB (by kernel_rfl) (by kernel_rfl)) (by kernel_rfl) (by kernel_rfl) (by kernel_rfl) (laidMetH_of_parts3 (fuel := 8) (laidMet_of_run' 8 (by kernel_rfl) (by kernel_rfl)) (by kernel_rfl) (by kernel_rfl))) ?_
  intro W base args ds gs before hval0 hW _ hsz0 hL _
  have hval : ∀ (j : Nat) t v, Tryd.f10.params[j]? = some t → args[j]? = some v → Value.okWide Tryd.prog W .any base t v := hval0
  have hW' := hW
  obtain ⟨p, q, hA0, hV, rfl, hfz, hnd⟩ := hW
  have hA : DataW.TrodAll enc Tryd.prog W 0 (fun _ => true) true Tryd.f10.params.toList args.toList ds p := hA0
  rw [Tryd.params10] at hA hval
  obtain ⟨v0, vs0, d0, ds0, p0, q0, hargs, rfl, rfl, h0, r0⟩ := trodAll_cons hA
  obtain ⟨rfl, rfl, rfl⟩ := trodAll_nil r0
  obtain rfl : args = #[v0] := by cases args; simp_all
  clear hA0 hval0
  have hL' : laidMet Tryd.prog Rows.planeJoinRow.laid W := by
    have h := hL
    rw [MakeChecks.laidMetH_plain _ _ _ (by kernel_rfl)] at h
    exact h
  have hsh := shape_of (L := Rows.planeJoinRow.laid) (by kernel_rfl) (by
    intro x hx
    simp only [Rows.planeJoinRow] at hx
    repeat (rcases List.mem_cons.1 hx with rfl | hx; · exact ⟨_, rfl⟩)
    exact absurd hx (by simp))
  obtain ⟨A, hE⟩ := errs_of hL' hsh (by simp [Rows.planeJoinRow]) (by simp only [Rows.planeJoinRow, errN]; decide)
  obtain ⟨fuel, hf⟩ := h0
  have fin : ∀ v0 : Value, DataW.Whole enc Tryd.checked.prog Tryd.f10.params.toList Rows.planeJoinSpec.vars false W (#[v0] : Array Value).toList [d0] gs (p0 ++ [] ++ q) → (Calls Tryd.prog 10 #[v0] W fun e w' => e = .returned (.bool true) ∧ Below W.heap.size W w') →
      Calls Tryd.checked.prog 10 #[v0] W fun e W' => ∃ v, e = .returned v ∧ Rows.planeJoinSpec.post enc Tryd.checked.prog Tryd.f10 false true false false W #[v0] v W' := fun v0 hw hc =>
    hc.mono fun e W' ⟨he, hb⟩ => by
      subst he
      exact ⟨_, rfl, law_post laidOut (by kernel_rfl) rfl (by kernel_rfl) Tryd.underlying4 (fun ds hd => by match ds, hd with | [_], _ => rfl) hw hb⟩
  rcases Go.Deep.open_slice Tryd.underlying51 hf with ⟨hcs, _⟩ | ⟨a, len, cap, m, k, D, Pl, hcs, _, hl, hm, hmm, hx, hi⟩
  · obtain ⟨al, ln, cp, rfl⟩ := okWide_slice Tryd.underlying51 (hval 0 51 v0 rfl rfl)
    simp [Value.cells] at hcs
    obtain ⟨rfl, rfl, rfl⟩ := hcs
    exact fin _ hW' (planeJoin_none none 0 W hE)
  · obtain ⟨al, ln, cp, rfl⟩ := okWide_slice Tryd.underlying51 (hval 0 51 v0 rfl rfl)
    simp [Value.cells] at hcs
    obtain ⟨rfl, rfl, rfl⟩ := hcs
    simp only [if_true] at hmm
    subst hmm
    simp only [Prod.mk.injEq] at hx
    obtain ⟨hd, _⟩ := hx
    have hsz : (DataW.weightsEach Tryd.prog [51] [d0]).all (· ≤ reachBytes) = true := by
      have := hsz0
      have e : Tryd.f10.params.toList = [51] := by rw [Tryd.params10]
      have e2 : gs = [] := (trodVars_none hV).1
      rw [e2, List.append_nil] at this
      exact this
    have hcap : m ≤ 1152921504606846975 := by
      have h := sized_slice hsz (j := 0) (t := 51) (e := 26) (elems := (List.range ln).map D) (spare := (List.range (m - ln)).map fun j => D (ln + j)) rfl (by rw [← hd]; rfl) Tryd.underlying51
      rw [show Tryd.prog.bytesOf 26 = 32 by kernel_rfl] at h
      simp [reachBytes] at h
      omega
    have elem : ∀ i, i < m → ∃ x : Bx, W.cell? (a.add (i * 4)) = some (.int .i64 x.a) ∧ W.cell? (a.add (i * 4 + 1)) = some (.int .i64 x.b) ∧ W.cell? (a.add (i * 4 + 2)) = some (.int .i64 x.c) ∧ W.cell? (a.add (i * 4 + 3)) = some (.int .i64 x.d) := by
      intro i hic
      obtain ⟨cs', hc, ht⟩ := hi i hic
      rw [cellsBox] at hc
      obtain ⟨_, hlen, hat⟩ := World.cells?_some hc
      match cs', hlen with
      | [c0, c1, c2, c3], _ =>
        obtain ⟨y0, y1, y2, y3, n', _, _, t0, t1, t2, t3⟩ := trod_struct4 Tryd.underlying26 ht
        have ci : Tryd.prog.cellsOf 3 = 1 := by kernel_rfl
        simp only [ci, List.drop_zero, List.drop_succ_cons, List.take_succ_cons, List.take_zero] at t0 t1 t2 t3
        obtain ⟨n0, g0, _, _⟩ := DataW.trod_int Tryd.underlying3 t0
        obtain ⟨n1, g1, _, _⟩ := DataW.trod_int Tryd.underlying3 t1
        obtain ⟨n2, g2, _, _⟩ := DataW.trod_int Tryd.underlying3 t2
        obtain ⟨n3, g3, _, _⟩ := DataW.trod_int Tryd.underlying3 t3
        simp at g0 g1 g2 g3
        subst g0 g1 g2 g3
        have k0 := hat 0 (by omega)
        have k1 := hat 1 (by omega)
        have k2 := hat 2 (by omega)
        have k3 := hat 3 (by omega)
        rw [Go.Deep.add_add] at k0 k1 k2 k3
        exact ⟨⟨n0, n1, n2, n3⟩, k0, k1, k2, k3⟩
    by_cases hz : ln = 0
    · subst hz
      exact fin _ hW' (planeJoin_none _ _ W hE)
    · have hB : ∃ bg bo, a = ⟨bg, bo, none⟩ := by
        obtain ⟨x0, e0, _⟩ := elem 0 (by omega)
        obtain ⟨bg, bo, spot⟩ := a
        have hspot : spot = none := by simpa [Addr.add] using World.cell?_spot e0
        exact ⟨bg, bo, by rw [hspot]⟩
      obtain ⟨bg, bo, rfl⟩ := hB
      have hadd : ∀ k, (⟨bg, bo, none⟩ : Addr).add k = ⟨bg, bo + k, none⟩ := by
        intro k
        unfold Addr.add
        split
        · rename_i h
          first | simp [h] | (subst h; rfl)
        · rfl
      have elem2 : ∀ i, i < m → ∃ x : Bx, W.cell? ⟨bg, bo + i * 4, none⟩ = some (.int .i64 x.a) ∧ W.cell? ⟨bg, bo + i * 4 + 1, none⟩ = some (.int .i64 x.b) ∧ W.cell? ⟨bg, bo + i * 4 + 2, none⟩ = some (.int .i64 x.c) ∧ W.cell? ⟨bg, bo + i * 4 + 3, none⟩ = some (.int .i64 x.d) := by
        intro i hic
        obtain ⟨x, r0, r1, r2, r3⟩ := elem i hic
        rw [hadd] at r0 r1 r2 r3
        exact ⟨x, r0, r1, r2, r3⟩
      have hB : Boxes W bg bo ln (fun i => if h : i < m then (elem2 i h).choose else ⟨0, 0, 0, 0⟩) := by
        intro i hi'
        have hic : i < m := by omega
        simp only [dif_pos hic]
        exact (elem2 i hic).choose_spec
      exact fin _ hW' (planeJoin_walk bg bo ln m _ W hE hB hl hcap)

theorem planeJoin_row : Rows.PlaneJoinSaid :=
  OpenClaim.holds_of_wide 10 Tryd.f10 rfl rfl rfl rfl rfl rfl rfl ⟨rfl, rfl, rfl, rfl, rfl⟩ rfl rfl rfl rfl rfl (by kernel_rfl) Tryd.func10 (by kernel_rfl)
    (of_decide_eq_true (by kernel_rfl)) (by unfold Func.isWrapper; first | (rw [if_pos (by decide +kernel)]; kernel_rfl) | (rw [if_neg (by decide +kernel)]; exact ⟨rfl, rfl⟩))
    (fun os started H enc _ => planeJoin_lifted os started H enc)

theorem planeJoin_holds : Rows.PlaneJoinCardSaid :=
  Claim7.holds_tied_plain_at .later [] Rows.planeJoinCard.laidKinds true Rows.planeJoinCard.stood.harness true
    planeJoin_row (fun _ h => by cases h) (by kernel_rfl) (fun _ h => by cases h) planeJoin_row_tie rfl ⟨rfl, rfl⟩ (by kernel_rfl) rfl
    (fun f fn hf hfn => by
      obtain rfl : f = 10 := Option.some.inj ((show Tryd.prog.funcNamed "paddock/paddocklaw01.PlaneJoin" = some 10 by kernel_rfl).symm.trans hf) |>.symm
      obtain rfl : fn = Tryd.f10 := (Option.some.inj (Tryd.func10.symm.trans hfn)).symm
      exact ⟨by kernel_rfl, fun j t ht => by
        rw [Tryd.params10] at ht
        have hm : t ∈ [51] := by
          have := Array.mem_of_getElem? ht
          simp at this ⊢
          omega
        have hall : ([51].all fun u => !Tryd.prog.wantsStandIn u) = true := by kernel_rfl
        exact (show Tryd.prog.wantsStandIn t = false by simpa using List.all_eq_true.1 hall t hm)⟩)
    (by kernel_rfl)
#print axioms planeJoin_holds
end Go.Proofs.YtnmjpjjomonbnaaDoor
