/-
  The arguments' shapes of stage 15: a grid, numbers, a script; the listed errors.
-/
import Derived.Test.YtklpemcchfmdjaaDoorBas14
import Derived.Test.YtklpemcchfmdjaaDoorSen12
import Derived.Test.YtklpemcchfmdjaaDoorOr15
namespace Go.Proofs.YtklpemcchfmdjaaDoor
set_option linter.unusedSimpArgs false
set_option linter.unusedVariables false
open Go.ChangeShapes Go.WideShapes Go.ChangeAt Go.RowKit Go.Joins Go.Sort

set_option maxRecDepth 100000 in
theorem sent_state {W : World} {L : List (String × DataW Unit)} (h : laidMet Tryd.prog L W) {text : List UInt8} (hm : ("paddock/api.ErrState", errT text) ∈ L) : ∃ a, W.cell? ⟨6, 0, none⟩ = some (.iface 114 (.pointer (some a))) := by
  obtain ⟨ps, hv, _, hrows⟩ := h
  exact sent_aux L ps hv (fun b off hb => (hrows b off hb).2) _ text hm _ (by kernel_rfl) (by kernel_rfl)
set_option maxRecDepth 100000 in
theorem sent_blockd {W : World} {L : List (String × DataW Unit)} (h : laidMet Tryd.prog L W) {text : List UInt8} (hm : ("paddock/api.ErrBlocked", errT text) ∈ L) : ∃ a, W.cell? ⟨7, 0, none⟩ = some (.iface 114 (.pointer (some a))) := by
  obtain ⟨ps, hv, _, hrows⟩ := h
  exact sent_aux L ps hv (fun b off hb => (hrows b off hb).2) _ text hm _ (by kernel_rfl) (by kernel_rfl)
theorem cellsInts : Tryd.prog.cellsOf 35 = 1 := by kernel_rfl
theorem cellsOr : Tryd.prog.cellsOf 37 = 2 := by kernel_rfl
section
variable {H : Type} {enc : TypeId × Value → H} {W : World} {b0 : Nat} {held : Bool} {v : Value} {d : DataW H} {p : List MemPlace}
set_option maxRecDepth 100000 in
theorem open_ints2 (hv : Value.okWide Tryd.prog W .any b0 35 v) (h : DataW.Trod enc Tryd.prog W 0 (fun _ => true) held 35 v d p) : ∃ l : List Int, Sl encI W v l := by
  obtain ⟨al, ln, cp, rfl⟩ := okWide_slice Tryd.underlying35 hv
  obtain ⟨fuel, hf⟩ := h
  rcases Go.Deep.open_slice Tryd.underlying35 hf with ⟨hcs, _⟩ | ⟨a, len, cap, m, k, D, Pl, hcs, _, hl, hm, hmm, hx, hi⟩
  · simp [Value.cells] at hcs
    obtain ⟨rfl, rfl, rfl⟩ := hcs
    exact ⟨[], Sl.nil none 0 (Nat.zero_le _)⟩
  · simp [Value.cells] at hcs
    obtain ⟨rfl, rfl, rfl⟩ := hcs
    simp only [if_true] at hmm
    subst hmm
    refine (fun (q : ∃ l : List Int, Sl encI W _ l ∧ ∀ x ∈ l, True) => q.imp fun _ h => h.1) (sl_of_elemsP (p := fun _ => True) lenI (by omega) hl hm fun i hic => ?_)
    obtain ⟨cs', hc, ht⟩ := hi i (by omega)
    rw [cellsInt] at hc
    obtain ⟨_, hlen, hat⟩ := World.cells?_some hc
    match cs', hlen with
    | [c0], _ =>
      obtain ⟨n0, g0, _, _⟩ := DataW.trod_int Tryd.underlying3 ht
      simp at g0
      subst g0
      refine ⟨n0, trivial, fun c u hu => ?_⟩
      have hcl : c < 1 := by have := (List.getElem?_eq_some_iff.1 hu).1; rwa [lenI] at this
      have k0 := hat c (by simpa using hcl)
      rw [Go.Deep.add_add] at k0
      rw [k0]
      exact hu


set_option maxRecDepth 100000 in
/-- A slice of numbers that lies in a cell. -/
theorem open_intsC {fuel : Nat} {c : Value} {x : DataW H × List MemPlace} (hf : DataW.trod enc Tryd.prog W 0 (fun _ => true) held fuel 35 [c] = some x) : ∃ l : List Int, Sl encI W c l := by
  rcases Go.Deep.open_slice Tryd.underlying35 hf with ⟨hcs, _⟩ | ⟨a, len, cap, m, k, D, Pl, hcs, _, hl, hm, hmm, hx, hi⟩
  · simp at hcs
    subst hcs
    exact ⟨[], Sl.nil none 0 (Nat.zero_le _)⟩
  · simp at hcs
    subst hcs
    simp only [if_true] at hmm
    subst hmm
    refine (fun (q : ∃ l : List Int, Sl encI W _ l ∧ ∀ x ∈ l, True) => q.imp fun _ h => h.1) (sl_of_elemsP (p := fun _ => True) lenI (by omega) hl hm fun i hic => ?_)
    obtain ⟨cs', hc, ht⟩ := hi i (by omega)
    rw [cellsInt] at hc
    obtain ⟨_, hlen, hat⟩ := World.cells?_some hc
    match cs', hlen with
    | [c0], _ =>
      obtain ⟨n0, g0, _, _⟩ := DataW.trod_int Tryd.underlying3 ht
      simp at g0
      subst g0
      refine ⟨n0, trivial, fun c u hu => ?_⟩
      have hcl : c < 1 := by have := (List.getElem?_eq_some_iff.1 hu).1; rwa [lenI] at this
      have k0 := hat c (by simpa using hcl)
      rw [Go.Deep.add_add] at k0
      rw [k0]
      exact hu

set_option maxRecDepth 100000 in
/-- A script. -/
theorem open_opr (hv : Value.okWide Tryd.prog W .any b0 24 v) (h : DataW.Trod enc Tryd.prog W 0 (fun _ => true) held 24 v d p) : ∃ l : List Opr, Sl encR W v l ∧ ∀ x ∈ l, Sl encI W x.2.1 x.2.2 := by
  obtain ⟨al, ln, cp, rfl⟩ := okWide_slice Tryd.underlying24 hv
  obtain ⟨fuel, hf⟩ := h
  rcases Go.Deep.open_slice Tryd.underlying24 hf with ⟨hcs, _⟩ | ⟨a, len, cap, m, k, D, Pl, hcs, _, hl, hm, hmm, hx, hi⟩
  · simp [Value.cells] at hcs
    obtain ⟨rfl, rfl, rfl⟩ := hcs
    exact ⟨[], Sl.nil none 0 (Nat.zero_le _), by simp⟩
  · simp [Value.cells] at hcs
    obtain ⟨rfl, rfl, rfl⟩ := hcs
    simp only [if_true] at hmm
    subst hmm
    refine sl_of_elemsP lenR (by omega) hl hm fun i hic => ?_
    obtain ⟨cs', hc, ht⟩ := hi i (by omega)
    rw [cellsOr] at hc
    obtain ⟨_, hlen, hat⟩ := World.cells?_some hc
    match cs', hlen with
    | [c0, c1], _ =>
      obtain ⟨xs3, n3, _, _, _, hl3, hf3⟩ := DataW.trod_struct Tryd.underlying37 ht
      match xs3, hl3 with
      | [z0, z1], _ =>
        have s0 := by simpa using hf3 0 _ rfl
        have s1 := by simpa using hf3 1 _ rfl
        simp only [cellsInt, cellsInts, List.drop_zero, List.drop_succ_cons, List.take_succ_cons, List.take_zero, List.take_nil, List.drop_nil] at s0 s1
        obtain ⟨n0, g0, _, _⟩ := DataW.trod_int Tryd.underlying3 s0
        simp at g0
        subst g0
        obtain ⟨l3, hl3⟩ := open_intsC s1
        refine ⟨(n0, c1, l3), hl3, fun c u hu => ?_⟩
        have hcl : c < 2 := by have := (List.getElem?_eq_some_iff.1 hu).1; rwa [lenR] at this
        have k0 := hat c (by simpa using hcl)
        rw [Go.Deep.add_add] at k0
        rw [k0]
        exact hu
end
end Go.Proofs.YtklpemcchfmdjaaDoor
