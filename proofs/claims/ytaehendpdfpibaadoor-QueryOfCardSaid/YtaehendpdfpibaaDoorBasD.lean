/-
  What every statement of this seat needs, once: a law's post out of 'true, and no old memory changed'; the arguments' shapes: numbers, components, slices of components, a script, rows.
-/
import Derived.Test.YtaehendpdfpibaaDoorRows
import Derived.Test.YtaehendpdfpibaaDoorTie
import Derived.Test.YtaehendpdfpibaaDoorCards
import Derived.Test.YtaehendpdfpibaaDoorVf
import Derived.WalkKit
import Derived.ProofKit
import Derived.LaidMore
import Derived.Stop.LaidErr
import Derived.SevenTiedAt
import Derived.Lib.SmallJoins
import Derived.OpenShut
import Derived.Carry
import Derived.Deep.Slices
import Derived.SizedLaws
import Derived.Deep.Strs
namespace Go.Proofs.YtaehendpdfpibaaDoor
set_option linter.unusedSimpArgs false
set_option linter.unusedVariables false
open Go.ChangeShapes Go.WideShapes Go.ChangeAt Go.RowKit Go.Joins Go.Sort

theorem own : ownKnob Tryd.prog.godebug = none := by kernel_rfl
theorem laidOut : laidOutB Tryd.prog = true := by kernel_rfl

section
variable {H : Type} {enc : TypeId × Value → H} {P : Program}

/-- The arguments read behind the call as they did. -/
theorem trodAll_stays (hl : laidOutB P = true) {W W' : World} (hb : RowKit.Below W.heap.size W W') :
    ∀ {ts : List TypeId} {vs : List Value} {ds : List (DataW H)} {ps : List MemPlace}, ts.all (fun t => P.readableRec t && decide (t < P.types.size)) = true → DataW.TrodAll enc P W 0 (fun _ => true) true ts vs ds ps →
      (∀ x ∈ ps, x.block < W.heap.size) → DataW.TrodAll enc P W' 0 (fun b => decide (b < W.heap.size)) true ts vs ds ps
  | [], _, _, _, _, h, _ => by
    obtain ⟨rfl, rfl, rfl⟩ := trodAll_nil h
    exact trodAll_mk0
  | t :: ts, _, _, _, hr, h, hlt => by
    obtain ⟨v, vs1, d, ds1, a, b, rfl, rfl, rfl, h1, h2⟩ := trodAll_cons h
    simp only [List.all_cons, Bool.and_eq_true, decide_eq_true_eq] at hr
    exact trodAll_cons_mk (RowKit.Below.trod hl hr.1.1 hr.1.2 h1 hb (fun x hx => hlt x (by simp [hx]))) (trodAll_stays hl hb (by simpa using hr.2) h2 (fun x hx => hlt x (by simp [hx])))

/-- A law's post: it answers true, nothing that was there has changed, the arguments read as they did. -/
theorem law_post {fn : Func} {s : ChangeSpec} {tb : TypeId} {W W' : World} {args : Array Value} {ds gs : List (DataW H)} {before : List MemPlace}
    (hl : laidOutB P = true) (hr : fn.params.toList.all (fun t => P.readableRec t && decide (t < P.types.size)) = true)
    (hvars : s.vars = []) (hres : fn.resultTypes = #[tb]) (htb : P.underlying tb = some .bool)
    (hs : ∀ ds : List (DataW H), ds.length = fn.params.size → s.fn H ds = { results := [.lit (.bool true)], args := ds })
    (hW : DataW.Whole enc P fn.params.toList s.vars false W args.toList ds gs before) (hb : RowKit.Below W.heap.size W W') :
    s.post enc P fn false true false false W args (.bool true) W' := by
  have hlt : ∀ x ∈ before, x.block < W.heap.size := fun x hx => by simpa using hW.lt x hx
  have hW' := hW
  obtain ⟨p, q, hA, hV, rfl, _, _⟩ := hW
  rw [hvars] at hV
  obtain ⟨rfl, rfl⟩ := trodVars_none hV
  simp only [List.append_nil] at hlt hW' ⊢
  have hlen : ds.length = fn.params.size := by
    have : ∀ {ts : List TypeId} {vs : List Value} {ds : List (DataW H)} {ps : List MemPlace}, DataW.TrodAll enc P W 0 (fun _ => true) true ts vs ds ps → ds.length = ts.length := by
      intro ts
      induction ts with
      | nil => intro vs ds ps h; obtain ⟨rfl, rfl, rfl⟩ := trodAll_nil h; rfl
      | cons t ts ih =>
        intro vs ds ps h
        obtain ⟨v, vs1, d, ds1, a, b, rfl, rfl, rfl, h1, h2⟩ := trodAll_cons h
        simp [ih h2]
    simpa using this hA
  have e := hs (ds ++ []) (by simpa using hlen)
  refine ⟨ds, [], p, [], p, [], by simpa using hW', ?_, ?_, ?_, hb.frame _, fun h => by cases h⟩
  · rw [e, hres]
    exact trodAll_mk1 (shut_bool htb _)
  · rw [e]
    simpa using trodAll_stays hl hb hr hA hlt
  · rw [e, hvars]
    rfl
end

theorem cellsInt : Tryd.prog.cellsOf 3 = 1 := by kernel_rfl
theorem cellsVal : Tryd.prog.cellsOf 42 = 3 := by kernel_rfl
theorem cellsVals : Tryd.prog.cellsOf 23 = 1 := by kernel_rfl
theorem cellsHd : Tryd.prog.cellsOf 122 = 2 := by kernel_rfl

theorem sl_of_elemsP {α : Type} [Inhabited α] {enc : α → List Value} {k : Nat} (hk : ∀ x, (enc x).length = k) (k0 : 0 < k) {W : World} {a : Addr} {ln cap : Nat} {p : α → Prop} (hl : ln ≤ cap) (hm : cap ≤ maxLen)
    (elem : ∀ i, i < ln → ∃ x : α, p x ∧ ∀ c u, (enc x)[c]? = some u → W.cell? (a.add (i * k + c)) = some u) : ∃ l : List α, Sl enc W (.slice (some a) ln cap) l ∧ ∀ x ∈ l, p x := by
  have hX : ∃ X : Nat → α, ∀ i, i < ln → p (X i) ∧ ∀ c u, (enc (X i))[c]? = some u → W.cell? (a.add (i * k + c)) = some u :=
    ⟨fun i => if h : i < ln then (elem i h).choose else default, fun i hi => by simp only [dif_pos hi]; exact (elem i hi).choose_spec⟩
  obtain ⟨X, hX⟩ := hX
  have hlen : ((List.range ln).map X).length = ln := by simp
  refine ⟨(List.range ln).map X, ⟨some a, cap, by rw [hlen], by rw [hlen]; exact hl, hm, fun hp => ?_⟩, fun x hx => by
    obtain ⟨i, hi, rfl⟩ := List.mem_map.1 hx
    exact (hX i (List.mem_range.1 hi)).1⟩
  rw [hlen] at hp
  have h00 : (enc (X 0))[0]? = some ((enc (X 0))[0]'(by rw [hk]; exact k0)) := List.getElem?_eq_getElem (by rw [hk]; exact k0)
  have e0 := (hX 0 hp).2 0 _ h00
  obtain ⟨g, o, spot⟩ := a
  have hspot : spot = none := by simpa [Addr.add] using World.cell?_spot e0
  subst hspot
  rw [Addr.add_lit] at e0
  refine ⟨g, o, rfl, cell_lt e0, fun j u hu => ?_⟩
  have hj : j < ln * k := by have := (List.getElem?_eq_some_iff.1 hu).1; rwa [flat_len hk, hlen] at this
  have hq : j / k < ln := Nat.div_lt_of_lt_mul (by rw [Nat.mul_comm]; exact hj)
  have hr : j % k < k := Nat.mod_lt _ k0
  have e : j / k * k + j % k = j := by rw [Nat.mul_comm]; exact Nat.div_add_mod j k
  have g1 := flat_get hk ((List.range ln).map X) (j / k) (j % k) (by rw [hlen]; exact hq) hr
  rw [e, hu, getElem!_pos _ _ (by rw [hlen]; exact hq), List.getElem_map, List.getElem_range] at g1
  have := (hX (j / k) hq).2 (j % k) u g1.symm
  rwa [e, Addr.add_lit] at this

section
variable {H : Type} {enc : TypeId × Value → H} {W : World} {b0 : Nat} {held : Bool} {v : Value} {d : DataW H} {p : List MemPlace}

set_option maxRecDepth 100000 in
/-- A component as an argument. -/
theorem open_val (hv : Value.okWide Tryd.prog W .any b0 42 v) (h : DataW.Trod enc Tryd.prog W 0 (fun _ => true) held 42 v d p) :
    ∃ a b c : Int, v = .agg #[.int .i64 a, .int .i64 b, .int .i64 c] ∧ (Lit.int .i64 a).wf = true ∧ (Lit.int .i64 b).wf = true ∧ (Lit.int .i64 c).wf = true := by
  obtain ⟨c0, c1, c2, y0, y1, y2, m, rfl, rfl, rfl, h0, h1, h2⟩ := open_agg3 Tryd.underlying42 (by kernel_rfl) cellsVal hv h
  obtain ⟨a, e0, rfl, wa⟩ := DataW.trod_int Tryd.underlying3 h0
  obtain ⟨b, e1, rfl, wb⟩ := DataW.trod_int Tryd.underlying3 h1
  obtain ⟨c, e2, rfl, wc⟩ := DataW.trod_int Tryd.underlying3 h2
  simp at e0 e1 e2
  subst e0 e1 e2
  exact ⟨a, b, c, rfl, wa, wb, wc⟩

set_option maxRecDepth 100000 in
/-- The three cells of a component. -/
theorem open_cellsV {fuel : Nat} {cs : List Value} {x : DataW H × List MemPlace} (ht : DataW.trod enc Tryd.prog W 0 (fun _ => true) held fuel 42 cs = some x) (hl : cs.length = 3) :
    ∃ a b c : Int, cs = [.int .i64 a, .int .i64 b, .int .i64 c] := by
  match cs, hl with
  | [c0, c1, c2], _ =>
    obtain ⟨y0, y1, y2, n', _, _, s0, s1, s2⟩ := Go.Deep.trod_struct3 Tryd.underlying42 ht
    simp only [cellsInt, List.drop_zero, List.drop_succ_cons, List.take_succ_cons, List.take_zero] at s0 s1 s2
    obtain ⟨n0, g0, _, _⟩ := DataW.trod_int Tryd.underlying3 s0
    obtain ⟨n1, g1, _, _⟩ := DataW.trod_int Tryd.underlying3 s1
    obtain ⟨n2, g2, _, _⟩ := DataW.trod_int Tryd.underlying3 s2
    simp at g0 g1 g2
    subst g0 g1 g2
    exact ⟨n0, n1, n2, rfl⟩

set_option maxRecDepth 100000 in
/-- A slice of components. -/
theorem open_vals (hv : Value.okWide Tryd.prog W .any b0 23 v) (h : DataW.Trod enc Tryd.prog W 0 (fun _ => true) held 23 v d p) : ∃ l : List Vl, Sl encV W v l := by
  obtain ⟨al, ln, cp, rfl⟩ := okWide_slice Tryd.underlying23 hv
  obtain ⟨fuel, hf⟩ := h
  rcases Go.Deep.open_slice Tryd.underlying23 hf with ⟨hcs, _⟩ | ⟨a, len, cap, m, k, D, Pl, hcs, _, hl, hm, hmm, hx, hi⟩
  · simp [Value.cells] at hcs
    obtain ⟨rfl, rfl, rfl⟩ := hcs
    exact ⟨[], Sl.nil none 0 (Nat.zero_le _)⟩
  · simp [Value.cells] at hcs
    obtain ⟨rfl, rfl, rfl⟩ := hcs
    simp only [if_true] at hmm
    subst hmm
    refine (fun (q : ∃ l : List Vl, Sl encV W _ l ∧ ∀ x ∈ l, True) => q.imp fun _ h => h.1) (sl_of_elemsP (p := fun _ => True) lenV (by omega) hl hm fun i hic => ?_)
    obtain ⟨cs', hc, ht⟩ := hi i (by omega)
    rw [cellsVal] at hc
    obtain ⟨_, hlen, hat⟩ := World.cells?_some hc
    obtain ⟨n0, n1, n2, rfl⟩ := open_cellsV ht hlen
    refine ⟨(n0, n1, n2), trivial, fun c u hu => ?_⟩
    have hcl : c < 3 := by have := (List.getElem?_eq_some_iff.1 hu).1; rwa [lenV] at this
    have k0 := hat c (by simpa using hcl)
    rw [Go.Deep.add_add] at k0
    rw [k0]
    exact hu

set_option maxRecDepth 100000 in
theorem open_ints2 (hv : Value.okWide Tryd.prog W .any b0 22 v) (h : DataW.Trod enc Tryd.prog W 0 (fun _ => true) held 22 v d p) : ∃ l : List Int, Sl encI W v l := by
  obtain ⟨al, ln, cp, rfl⟩ := okWide_slice Tryd.underlying22 hv
  obtain ⟨fuel, hf⟩ := h
  rcases Go.Deep.open_slice Tryd.underlying22 hf with ⟨hcs, _⟩ | ⟨a, len, cap, m, k, D, Pl, hcs, _, hl, hm, hmm, hx, hi⟩
  · simp [Value.cells] at hcs
    obtain ⟨rfl, rfl, rfl⟩ := hcs
    exact ⟨[], Sl.nil none 0 (Nat.zero_le _)⟩
  · simp [Value.cells] at hcs
    obtain ⟨rfl, rfl, rfl⟩ := hcs
    simp only [if_true] at hmm
    subst hmm
    refine (fun (q : ∃ l : List Int, Sl encI W _ l ∧ ∀ x ∈ l, True) => q.imp fun _ h => h.1) (sl_of_elemsP (p := fun _ => True) lenI (by omega) hl hm fun i hic => ?_)
    obtain ⟨cs', hc, ht⟩ := hi i (by omega)
    rw [cellsInt] at hc
    obtain ⟨_, hlen, hat⟩ := World.cells?_some hc
    match cs', hlen with
    | [c0], _ =>
      obtain ⟨n0, g0, _, _⟩ := DataW.trod_int Tryd.underlying3 ht
      simp at g0
      subst g0
      refine ⟨n0, trivial, fun c u hu => ?_⟩
      have hcl : c < 1 := by have := (List.getElem?_eq_some_iff.1 hu).1; rwa [lenI] at this
      have k0 := hat c (by simpa using hcl)
      rw [Go.Deep.add_add] at k0
      rw [k0]
      exact hu


set_option maxRecDepth 100000 in
theorem nat_u64 {n : Int} (h : (Lit.int .u64 n).wf = true) : ∃ m : Nat, n = m ∧ m < 18446744073709551616 := by
  have := bounds_u64 h
  exact ⟨n.toNat, by omega, by omega⟩
set_option maxRecDepth 100000 in
theorem open_u64 {sp : Nat → Bool} (hv : Value.okWide Tryd.prog W .any b0 26 v) (h : DataW.Trod enc Tryd.prog W 0 sp held 26 v d p) : ∃ m : Nat, v = .int .u64 m ∧ m < 18446744073709551616 := by
  obtain ⟨x, rfl, rfl, rfl, hx⟩ := open_int Tryd.underlying26 hv h
  obtain ⟨m, rfl, hm⟩ := nat_u64 hx
  exact ⟨m, rfl, hm⟩

set_option maxRecDepth 100000 in
/-- A slice of components that lies in a cell. -/
theorem open_valsC {fuel : Nat} {c : Value} {x : DataW H × List MemPlace} (hf : DataW.trod enc Tryd.prog W 0 (fun _ => true) held fuel 23 [c] = some x) : ∃ l : List Vl, Sl encV W c l := by
  rcases Go.Deep.open_slice Tryd.underlying23 hf with ⟨hcs, _⟩ | ⟨a, len, cap, m, k, D, Pl, hcs, _, hl, hm, hmm, hx, hi⟩
  · simp at hcs
    subst hcs
    exact ⟨[], Sl.nil none 0 (Nat.zero_le _)⟩
  · simp at hcs
    subst hcs
    simp only [if_true] at hmm
    subst hmm
    refine (fun (q : ∃ l : List Vl, Sl encV W _ l ∧ ∀ x ∈ l, True) => q.imp fun _ h => h.1) (sl_of_elemsP (p := fun _ => True) lenV (by omega) hl hm fun i hic => ?_)
    obtain ⟨cs', hc, ht⟩ := hi i (by omega)
    rw [cellsVal] at hc
    obtain ⟨_, hlen, hat⟩ := World.cells?_some hc
    obtain ⟨n0, n1, n2, rfl⟩ := open_cellsV ht hlen
    refine ⟨(n0, n1, n2), trivial, fun c u hu => ?_⟩
    have hcl : c < 3 := by have := (List.getElem?_eq_some_iff.1 hu).1; rwa [lenV] at this
    have k0 := hat c (by simpa using hcl)
    rw [Go.Deep.add_add] at k0
    rw [k0]
    exact hu

end
end Go.Proofs.YtaehendpdfpibaaDoor
