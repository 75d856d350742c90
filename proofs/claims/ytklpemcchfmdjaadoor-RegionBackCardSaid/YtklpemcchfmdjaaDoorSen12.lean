/-
  What the row's listed variables give: each errors' variable holds an error of errors.New's make, no two the same.
-/
import Derived.Test.YtklpemcchfmdjaaDoorBas12
import Derived.Test.YtklpemcchfmdjaaDoorErrK
namespace Go.Proofs.YtklpemcchfmdjaaDoor
set_option linter.unusedSimpArgs false
set_option linter.unusedVariables false
open Go.ChangeShapes Go.WideShapes Go.ChangeAt Go.RowKit Go.Joins Go.Sort

def errT (text : List UInt8) : DataW Unit := .iface "*errors.errorString" (.ptr (.agg [.lit (.string text)]))

theorem starE : "*" ++ "errors.errorString" = "*errors.errorString" := by decide
theorem rowEr (u : TypeId) (h : Tryd.prog.typeName? 3 u = some "*errors.errorString") : u = 114 :=
  typeName_ptr_named (nm := "errors.errorString") (by rw [starE]; kernel_rfl) (by kernel_rfl) (by decide) u (by rw [starE]; exact h)
theorem cellsE : Tryd.prog.cellsOf 138 = 1 := by kernel_rfl
theorem cellsS : Tryd.prog.cellsOf 9 = 1 := by kernel_rfl

/-- The variable named n holds the error at a. -/
def SentAt (W : World) (n : String) (a : Addr) : Prop :=
  ∀ g, Tryd.prog.globalNamed n = some g → W.cell? ⟨g, 0, none⟩ = some (.iface 114 (.pointer (some a))) ∧ ∃ c t, W.heap[a.block]? = some (.cells c t (0, 0))

set_option maxRecDepth 100000 in
theorem sents_aux {W : World} : ∀ (L : List (String × DataW Unit)) (ps : List MemPlace), DataW.LaidVars Tryd.prog W L ps → ps.Nodup →
    (∀ b off, MemPlace.cell b off ∈ ps → (∃ c t, W.heap[b]? = some (.cells c t (0, 0))) ∧ ∀ u v, W.cell? ⟨b, off, none⟩ = some (.iface u v) → Value.okWide Tryd.prog W .any 0 u v) →
    (∀ x ∈ L, (∃ text, x.2 = errT text) ∧ ∃ g, Tryd.prog.globalNamed x.1 = some g ∧ (Tryd.prog.globals[g]?).map (·.type) = some 28) → (L.map (·.1)).Nodup →
    ∃ A : String → Addr, (∀ x ∈ L, SentAt W x.1 (A x.1) ∧ MemPlace.cell (A x.1).block (A x.1).off ∈ ps) ∧ ∀ x ∈ L, ∀ y ∈ L, x.1 ≠ y.1 → A x.1 ≠ A y.1
  | [], _, _, _, _, _, _ => ⟨fun _ => ⟨0, 0, none⟩, (fun x hx => absurd hx (by simp)), (fun x hx => absurd hx (by simp))⟩
  | (n, d) :: r, ps, h, hnd, hrows, hsh, hnn => by
    obtain ⟨g0, t0, cs0, f0, p0, q0, hg0, ht0, hv0, hd0, hq, e0⟩ := h
    obtain ⟨⟨text, hd⟩, g1, hg1, ht1⟩ := hsh (n, d) (by simp)
    have hd' : d = errT text := hd
    subst hd'
    obtain rfl := Option.some.inj (hg1.symm.trans hg0)
    obtain rfl := Option.some.inj (ht1.symm.trans ht0)
    subst e0
    obtain ⟨l0⟩ := cs0
    have ok0 : ∀ u v, l0 = [.iface u v] → Value.okWide Tryd.prog W .any 0 u v := fun u v e => by
      subst e
      exact (hrows g1 0 (by simp [MemPlace.row])).2 u v (by simpa using World.var?_cell hg0 hv0 0)
    obtain ⟨a0, s0, rfl, hc0, hs0, hz0, rfl⟩ := errorString_of_trod Tryd.underlying28 rowEr Tryd.underlying114 Tryd.underlying138 rfl rfl Tryd.underlying9 cellsE cellsS hd0 ok0
    have hin : MemPlace.cell a0.block a0.off ∈ MemPlace.row a0 1 := by simp [MemPlace.row]
    obtain ⟨hnd1, hnd2, hdis⟩ := List.nodup_append.1 hnd
    simp only [List.map_cons, List.nodup_cons] at hnn
    obtain ⟨A, hA, hne⟩ := sents_aux r q0 hq hnd2 (fun b off hm => hrows b off (by simp [hm])) (fun x hx => hsh x (by simp [hx])) hnn.2
    have hname : ∀ x ∈ r, x.1 ≠ n := fun x hx e => hnn.1 (by rw [← e]; exact List.mem_map_of_mem hx)
    have hfar : ∀ x ∈ r, a0 ≠ A x.1 := fun x hx e => by
      have h1 := (hA x hx).2
      exact hdis (MemPlace.cell a0.block a0.off) (by simp [hin]) (MemPlace.cell (A x.1).block (A x.1).off) h1 (by rw [e])
    refine ⟨fun s => if s = n then a0 else A s, fun x hx => ?_, fun x hx y hy hxy => ?_⟩
    · rcases List.mem_cons.1 hx with rfl | hx
      · simp only [if_true]
        refine ⟨fun g hg => ?_, by simp [hin]⟩
        obtain rfl := Option.some.inj (hg0.symm.trans hg)
        refine ⟨by simpa using World.var?_cell hg0 hv0 0, (hrows a0.block a0.off (by simp [hin])).1⟩
      · simp only [if_neg (hname x hx)]
        exact ⟨(hA x hx).1, by simp [(hA x hx).2]⟩
    · rcases List.mem_cons.1 hx with rfl | hx <;> rcases List.mem_cons.1 hy with rfl | hy
      · exact absurd rfl hxy
      · simp only [if_true, if_neg (hname y hy)]
        exact hfar y hy
      · simp only [if_true, if_neg (hname x hx)]
        exact fun e => hfar x hx e.symm
      · simp only [if_neg (hname y hy), if_neg (hname x hx)]
        exact hne x hx y hy hxy

theorem sents {W : World} {L : List (String × DataW Unit)} (h : laidMet Tryd.prog L W)
    (hsh : ∀ x ∈ L, (∃ text, x.2 = errT text) ∧ ∃ g, Tryd.prog.globalNamed x.1 = some g ∧ (Tryd.prog.globals[g]?).map (·.type) = some 28) (hnn : (L.map (·.1)).Nodup) :
    ∃ A : String → Addr, (∀ x ∈ L, SentAt W x.1 (A x.1)) ∧ ∀ x ∈ L, ∀ y ∈ L, x.1 ≠ y.1 → A x.1 ≠ A y.1 := by
  obtain ⟨ps, hv, hnd, hrows⟩ := h
  obtain ⟨A, h1, h2⟩ := sents_aux L ps hv hnd hrows hsh hnn
  exact ⟨A, fun x hx => (h1 x hx).1, h2⟩

/-- The names of the errors' variables, by the errors' numbers. -/
def errN : List String := ["paddock/api.ErrRange", "paddock/api.ErrFull", "paddock/api.ErrNone", "paddock/api.ErrExists", "paddock/api.ErrKind", "paddock/api.ErrState", "paddock/api.ErrForm", "paddock/api.ErrBlocked", "paddock/api.ErrPath", "paddock/api.ErrGoal"]
theorem errN_at : ∀ k, k < 10 → Tryd.prog.globalNamed (errN.getD k "") = some (errG.getD k 0) := by
  intro k hk
  obtain rfl | rfl | rfl | rfl | rfl | rfl | rfl | rfl | rfl | rfl : k = 0 ∨ k = 1 ∨ k = 2 ∨ k = 3 ∨ k = 4 ∨ k = 5 ∨ k = 6 ∨ k = 7 ∨ k = 8 ∨ k = 9 := by omega
  all_goals kernel_rfl
theorem errN_apart : ∀ i j, i < 10 → j < 10 → i ≠ j → errN.getD i "" ≠ errN.getD j "" := by
  have h : ((List.range 10).all fun i => (List.range 10).all fun j => i == j || errN.getD i "" != errN.getD j "") = true := by decide
  intro i j hi hj hij
  have := List.all_eq_true.1 (List.all_eq_true.1 h i (by simp; omega)) j (by simp; omega)
  simpa [hij] using this

/-- The shape of a row's list, out of one closed fact and the data's own form. -/
theorem shape_of {L : List (String × DataW Unit)} (hb : (L.all fun x => ((Tryd.prog.globalNamed x.1).bind fun g => (Tryd.prog.globals[g]?).map (·.type)) == some 28) = true) (ht : ∀ x ∈ L, ∃ text, x.2 = errT text) :
    ∀ x ∈ L, (∃ text, x.2 = errT text) ∧ ∃ g, Tryd.prog.globalNamed x.1 = some g ∧ (Tryd.prog.globals[g]?).map (·.type) = some 28 := by
  intro x hx
  refine ⟨ht x hx, ?_⟩
  have h := List.all_eq_true.1 hb x hx
  cases hg : Tryd.prog.globalNamed x.1 with
  | none => simp [hg] at h
  | some g => exact ⟨g, rfl, by simpa [hg] using h⟩

theorem errs_of {W : World} {L : List (String × DataW Unit)} (h : laidMet Tryd.prog L W)
    (hsh : ∀ x ∈ L, (∃ text, x.2 = errT text) ∧ ∃ g, Tryd.prog.globalNamed x.1 = some g ∧ (Tryd.prog.globals[g]?).map (·.type) = some 28) (hnn : (L.map (·.1)).Nodup)
    (hall : ∀ k, k < 10 → errN.getD k "" ∈ L.map (·.1)) : ∃ A, Errs W A := by
  obtain ⟨A, h1, h2⟩ := sents h hsh hnn
  have hm : ∀ k, k < 10 → ∃ x ∈ L, x.1 = errN.getD k "" := fun k hk => by simpa using List.mem_map.1 (hall k hk)
  refine ⟨fun k => A (errN.getD k ""), fun i hi => ?_, fun i hi => ?_, fun i j hi hj hij => ?_⟩
  · obtain ⟨x, hx, e⟩ := hm i hi
    have := (h1 x hx _ (by rw [e]; exact errN_at i hi)).1
    rwa [e] at this
  · obtain ⟨x, hx, e⟩ := hm i hi
    have := (h1 x hx _ (by rw [e]; exact errN_at i hi)).2
    rwa [e] at this
  · obtain ⟨x, hx, e⟩ := hm i hi
    obtain ⟨y, hy, f⟩ := hm j hj
    have := h2 x hx y hy (by rw [e, f]; exact errN_apart i j hi hj hij)
    rwa [e, f] at this


set_option maxRecDepth 100000 in
/-- One listed error's variable, wherever it stands on the list, whatever else is listed. -/
theorem sent_aux {W : World} : ∀ (L : List (String × DataW Unit)) (ps : List MemPlace), DataW.LaidVars Tryd.prog W L ps →
    (∀ b off, MemPlace.cell b off ∈ ps → ∀ u v, W.cell? ⟨b, off, none⟩ = some (.iface u v) → Value.okWide Tryd.prog W .any 0 u v) →
    ∀ n text, (n, errT text) ∈ L → ∀ g, Tryd.prog.globalNamed n = some g → (Tryd.prog.globals[g]?).map (·.type) = some 28 → ∃ a, W.cell? ⟨g, 0, none⟩ = some (.iface 114 (.pointer (some a)))
  | [], _, _, _, _, _, hm, _, _, _ => absurd hm (by simp)
  | (n', d) :: r, ps, h, hrows, n, text, hm, g, hg, ht => by
    obtain ⟨g0, t0, cs0, f0, p0, q0, hg0, ht0, hv0, hd0, hq, e0⟩ := h
    rcases List.mem_cons.1 hm with e | e
    · obtain ⟨rfl, rfl⟩ : n = n' ∧ errT text = d := by simpa using e
      obtain rfl := Option.some.inj (hg.symm.trans hg0)
      obtain rfl := Option.some.inj (ht.symm.trans ht0)
      subst e0
      obtain ⟨l0⟩ := cs0
      have ok0 : ∀ u v, l0 = [.iface u v] → Value.okWide Tryd.prog W .any 0 u v := fun u v e => by
        subst e
        exact hrows g 0 (by simp [MemPlace.row]) u v (by simpa using World.var?_cell hg0 hv0 0)
      obtain ⟨a0, s0, rfl, hc0, hs0, hz0, rfl⟩ := errorString_of_trod Tryd.underlying28 rowEr Tryd.underlying114 Tryd.underlying138 rfl rfl Tryd.underlying9 cellsE cellsS hd0 ok0
      exact ⟨a0, by simpa using World.var?_cell hg0 hv0 0⟩
    · exact sent_aux r q0 hq (fun b off hm' => hrows b off (by subst e0; simp [hm'])) n text e g hg ht
set_option maxRecDepth 100000 in
theorem sent_range {W : World} {L : List (String × DataW Unit)} (h : laidMet Tryd.prog L W) {text : List UInt8} (hm : ("paddock/api.ErrRange", errT text) ∈ L) : ∃ a, W.cell? ⟨1, 0, none⟩ = some (.iface 114 (.pointer (some a))) := by
  obtain ⟨ps, hv, _, hrows⟩ := h
  exact sent_aux L ps hv (fun b off hb => (hrows b off hb).2) _ text hm _ (by kernel_rfl) (by kernel_rfl)
set_option maxRecDepth 100000 in
theorem sent_none {W : World} {L : List (String × DataW Unit)} (h : laidMet Tryd.prog L W) {text : List UInt8} (hm : ("paddock/api.ErrNone", errT text) ∈ L) : ∃ a, W.cell? ⟨3, 0, none⟩ = some (.iface 114 (.pointer (some a))) := by
  obtain ⟨ps, hv, _, hrows⟩ := h
  exact sent_aux L ps hv (fun b off hb => (hrows b off hb).2) _ text hm _ (by kernel_rfl) (by kernel_rfl)
set_option maxRecDepth 100000 in
theorem sent_form {W : World} {L : List (String × DataW Unit)} (h : laidMet Tryd.prog L W) {text : List UInt8} (hm : ("paddock/api.ErrForm", errT text) ∈ L) : ∃ a, W.cell? ⟨0, 0, none⟩ = some (.iface 114 (.pointer (some a))) := by
  obtain ⟨ps, hv, _, hrows⟩ := h
  exact sent_aux L ps hv (fun b off hb => (hrows b off hb).2) _ text hm _ (by kernel_rfl) (by kernel_rfl)
end Go.Proofs.YtklpemcchfmdjaaDoor
