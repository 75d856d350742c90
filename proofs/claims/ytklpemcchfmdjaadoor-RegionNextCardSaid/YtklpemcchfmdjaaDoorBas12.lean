/-
  What every statement of this seat needs, once: a law's post out of 'true, and no old memory changed'; the arguments' shapes: a number, boxes, a script.
-/
import Derived.Test.YtklpemcchfmdjaaDoorRows
import Derived.Test.YtklpemcchfmdjaaDoorTie
import Derived.Test.YtklpemcchfmdjaaDoorCards
import Derived.Test.YtklpemcchfmdjaaDoorOp14
import Derived.WalkKit
import Derived.ProofKit
import Derived.LaidMore
import Derived.Stop.LaidErr
import Derived.SevenTiedAt
import Derived.Lib.SmallJoins
import Derived.OpenShut
import Derived.Carry
import Derived.Deep.Slices
import Derived.SizedLaws
import Derived.Deep.Strs
namespace Go.Proofs.YtklpemcchfmdjaaDoor
set_option linter.unusedSimpArgs false
set_option linter.unusedVariables false
open Go.ChangeShapes Go.WideShapes Go.ChangeAt Go.RowKit Go.Joins Go.Sort

theorem own : ownKnob Tryd.prog.godebug = none := by kernel_rfl
theorem laidOut : laidOutB Tryd.prog = true := by kernel_rfl

section
variable {H : Type} {enc : TypeId × Value → H} {P : Program}

/-- The arguments read behind the call as they did. -/
theorem trodAll_stays (hl : laidOutB P = true) {W W' : World} (hb : RowKit.Below W.heap.size W W') :
    ∀ {ts : List TypeId} {vs : List Value} {ds : List (DataW H)} {ps : List MemPlace}, ts.all (fun t => P.readableRec t && decide (t < P.types.size)) = true → DataW.TrodAll enc P W 0 (fun _ => true) true ts vs ds ps →
      (∀ x ∈ ps, x.block < W.heap.size) → DataW.TrodAll enc P W' 0 (fun b => decide (b < W.heap.size)) true ts vs ds ps
  | [], _, _, _, _, h, _ => by
    obtain ⟨rfl, rfl, rfl⟩ := trodAll_nil h
    exact trodAll_mk0
  | t :: ts, _, _, _, hr, h, hlt => by
    obtain ⟨v, vs1, d, ds1, a, b, rfl, rfl, rfl, h1, h2⟩ := trodAll_cons h
    simp only [List.all_cons, Bool.and_eq_true, decide_eq_true_eq] at hr
    exact trodAll_cons_mk (RowKit.Below.trod hl hr.1.1 hr.1.2 h1 hb (fun x hx => hlt x (by simp [hx]))) (trodAll_stays hl hb (by simpa using hr.2) h2 (fun x hx => hlt x (by simp [hx])))

/-- A law's post: it answers true, nothing that was there has changed, the arguments read as they did. -/
theorem law_post {fn : Func} {s : ChangeSpec} {tb : TypeId} {W W' : World} {args : Array Value} {ds gs : List (DataW H)} {before : List MemPlace}
    (hl : laidOutB P = true) (hr : fn.params.toList.all (fun t => P.readableRec t && decide (t < P.types.size)) = true)
    (hvars : s.vars = []) (hres : fn.resultTypes = #[tb]) (htb : P.underlying tb = some .bool)
    (hs : ∀ ds : List (DataW H), ds.length = fn.params.size → s.fn H ds = { results := [.lit (.bool true)], args := ds })
    (hW : DataW.Whole enc P fn.params.toList s.vars false W args.toList ds gs before) (hb : RowKit.Below W.heap.size W W') :
    s.post enc P fn false true false false W args (.bool true) W' := by
  have hlt : ∀ x ∈ before, x.block < W.heap.size := fun x hx => by simpa using hW.lt x hx
  have hW' := hW
  obtain ⟨p, q, hA, hV, rfl, _, _⟩ := hW
  rw [hvars] at hV
  obtain ⟨rfl, rfl⟩ := trodVars_none hV
  simp only [List.append_nil] at hlt hW' ⊢
  have hlen : ds.length = fn.params.size := by
    have : ∀ {ts : List TypeId} {vs : List Value} {ds : List (DataW H)} {ps : List MemPlace}, DataW.TrodAll enc P W 0 (fun _ => true) true ts vs ds ps → ds.length = ts.length := by
      intro ts
      induction ts with
      | nil => intro vs ds ps h; obtain ⟨rfl, rfl, rfl⟩ := trodAll_nil h; rfl
      | cons t ts ih =>
        intro vs ds ps h
        obtain ⟨v, vs1, d, ds1, a, b, rfl, rfl, rfl, h1, h2⟩ := trodAll_cons h
        simp [ih h2]
    simpa using this hA
  have e := hs (ds ++ []) (by simpa using hlen)
  refine ⟨ds, [], p, [], p, [], by simpa using hW', ?_, ?_, ?_, hb.frame _, fun h => by cases h⟩
  · rw [e, hres]
    exact trodAll_mk1 (shut_bool htb _)
  · rw [e]
    simpa using trodAll_stays hl hb hr hA hlt
  · rw [e, hvars]
    rfl
end

theorem cellsInt : Tryd.prog.cellsOf 3 = 1 := by kernel_rfl
theorem sl_of_elemsP {α : Type} [Inhabited α] {enc : α → List Value} {k : Nat} (hk : ∀ x, (enc x).length = k) (k0 : 0 < k) {W : World} {a : Addr} {ln cap : Nat} {p : α → Prop} (hl : ln ≤ cap) (hm : cap ≤ maxLen)
    (elem : ∀ i, i < ln → ∃ x : α, p x ∧ ∀ c u, (enc x)[c]? = some u → W.cell? (a.add (i * k + c)) = some u) : ∃ l : List α, Sl enc W (.slice (some a) ln cap) l ∧ ∀ x ∈ l, p x := by
  have hX : ∃ X : Nat → α, ∀ i, i < ln → p (X i) ∧ ∀ c u, (enc (X i))[c]? = some u → W.cell? (a.add (i * k + c)) = some u :=
    ⟨fun i => if h : i < ln then (elem i h).choose else default, fun i hi => by simp only [dif_pos hi]; exact (elem i hi).choose_spec⟩
  obtain ⟨X, hX⟩ := hX
  have hlen : ((List.range ln).map X).length = ln := by simp
  refine ⟨(List.range ln).map X, ⟨some a, cap, by rw [hlen], by rw [hlen]; exact hl, hm, fun hp => ?_⟩, fun x hx => by
    obtain ⟨i, hi, rfl⟩ := List.mem_map.1 hx
    exact (hX i (List.mem_range.1 hi)).1⟩
  rw [hlen] at hp
  have h00 : (enc (X 0))[0]? = some ((enc (X 0))[0]'(by rw [hk]; exact k0)) := List.getElem?_eq_getElem (by rw [hk]; exact k0)
  have e0 := (hX 0 hp).2 0 _ h00
  obtain ⟨g, o, spot⟩ := a
  have hspot : spot = none := by simpa [Addr.add] using World.cell?_spot e0
  subst hspot
  rw [Addr.add_lit] at e0
  refine ⟨g, o, rfl, cell_lt e0, fun j u hu => ?_⟩
  have hj : j < ln * k := by have := (List.getElem?_eq_some_iff.1 hu).1; rwa [flat_len hk, hlen] at this
  have hq : j / k < ln := Nat.div_lt_of_lt_mul (by rw [Nat.mul_comm]; exact hj)
  have hr : j % k < k := Nat.mod_lt _ k0
  have e : j / k * k + j % k = j := by rw [Nat.mul_comm]; exact Nat.div_add_mod j k
  have g1 := flat_get hk ((List.range ln).map X) (j / k) (j % k) (by rw [hlen]; exact hq) hr
  rw [e, hu, getElem!_pos _ _ (by rw [hlen]; exact hq), List.getElem_map, List.getElem_range] at g1
  have := (hX (j / k) hq).2 (j % k) u g1.symm
  rwa [e, Addr.add_lit] at this

section
variable {H : Type} {enc : TypeId × Value → H} {W : World} {b0 : Nat} {held : Bool} {v : Value} {d : DataW H} {p : List MemPlace}

end
end Go.Proofs.YtklpemcchfmdjaaDoor
