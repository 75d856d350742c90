import Derived.Test.YtahichjiphjapaaGreatDoorRows
import Derived.Test.YtahichjiphjapaaGreatDoorTie
import Derived.Test.YtahichjiphjapaaGreatDoorCards
import Derived.Test.YtahichjiphjapaaGreatDoorZ20
import Derived.WalkKit
import Derived.ProofKit
import Derived.LaidMore
import Derived.Stop.LaidErr
import Derived.SevenTiedAt
import Derived.Lib.SmallJoins
import Derived.OpenShut
import Derived.Carry
import Derived.Deep.Slices
import Derived.SizedLaws
import Derived.Deep.Strs
import Derived.Test.YtahichjiphjapaaGreatDoorZ24

/-
  What every statement of this seat needs, once: a law's post out of 'true, and no old memory changed'; the arguments' shapes: a number, boxes, a script.
-/
namespace Go.Proofs.YtahichjiphjapaaGreatDoor
set_option linter.unusedSimpArgs false
set_option linter.unusedVariables false
open Go.ChangeShapes Go.WideShapes Go.ChangeAt Go.RowKit Go.Joins Go.Sort

theorem own : ownKnob Tryz.prog.godebug = none := by kernel_rfl
theorem laidOut : laidOutB Tryz.prog = true := by kernel_rfl

section
variable {H : Type} {enc : TypeId × Value → H} {P : Program}

/-- The arguments read behind the call as they did. -/
theorem trodAll_stays (hl : laidOutB P = true) {W W' : World} (hb : RowKit.Below W.heap.size W W') :
    ∀ {ts : List TypeId} {vs : List Value} {ds : List (DataW H)} {ps : List MemPlace}, ts.all (fun t => P.readableRec t && decide (t < P.types.size)) = true → DataW.TrodAll enc P W 0 (fun _ => true) true ts vs ds ps →
      (∀ x ∈ ps, x.block < W.heap.size) → DataW.TrodAll enc P W' 0 (fun b => decide (b < W.heap.size)) true ts vs ds ps
  | [], _, _, _, _, h, _ => by
    obtain ⟨rfl, rfl, rfl⟩ := trodAll_nil h
    exact trodAll_mk0
  | t :: ts, _, _, _, hr, h, hlt => by
    obtain ⟨v, vs1, d, ds1, a, b, rfl, rfl, rfl, h1, h2⟩ := trodAll_cons h
    simp only [List.all_cons, Bool.and_eq_true, decide_eq_true_eq] at hr
    exact trodAll_cons_mk (RowKit.Below.trod hl hr.1.1 hr.1.2 h1 hb (fun x hx => hlt x (by simp [hx]))) (trodAll_stays hl hb (by simpa using hr.2) h2 (fun x hx => hlt x (by simp [hx])))

/-- A law's post: it answers true, nothing that was there has changed, the arguments read as they did. -/
theorem law_post {fn : Func} {s : ChangeSpec} {tb : TypeId} {W W' : World} {args : Array Value} {ds gs : List (DataW H)} {before : List MemPlace}
    (hl : laidOutB P = true) (hr : fn.params.toList.all (fun t => P.readableRec t && decide (t < P.types.size)) = true)
    (hvars : s.vars = []) (hres : fn.resultTypes = #[tb]) (htb : P.underlying tb = some .bool)
    (hs : ∀ ds : List (DataW H), ds.length = fn.params.size → s.fn H ds = { results := [.lit (.bool true)], args := ds })
    (hW : DataW.Whole enc P fn.params.toList s.vars false W args.toList ds gs before) (hb : RowKit.Below W.heap.size W W') :
    s.post enc P fn false true false false W args (.bool true) W' := by
  have hlt : ∀ x ∈ before, x.block < W.heap.size := fun x hx => by simpa using hW.lt x hx
  have hW' := hW
  obtain ⟨p, q, hA, hV, rfl, _, _⟩ := hW
  rw [hvars] at hV
  obtain ⟨rfl, rfl⟩ := trodVars_none hV
  simp only [List.append_nil] at hlt hW' ⊢
  have hlen : ds.length = fn.params.size := by
    have : ∀ {ts : List TypeId} {vs : List Value} {ds : List (DataW H)} {ps : List MemPlace}, DataW.TrodAll enc P W 0 (fun _ => true) true ts vs ds ps → ds.length = ts.length := by
      intro ts
      induction ts with
      | nil => intro vs ds ps h; obtain ⟨rfl, rfl, rfl⟩ := trodAll_nil h; rfl
      | cons t ts ih =>
        intro vs ds ps h
        obtain ⟨v, vs1, d, ds1, a, b, rfl, rfl, rfl, h1, h2⟩ := trodAll_cons h
        simp [ih h2]
    simpa using this hA
  have e := hs (ds ++ []) (by simpa using hlen)
  refine ⟨ds, [], p, [], p, [], by simpa using hW', ?_, ?_, ?_, hb.frame _, fun h => by cases h⟩
  · rw [e, hres]
    exact trodAll_mk1 (shut_bool htb _)
  · rw [e]
    simpa using trodAll_stays hl hb hr hA hlt
  · rw [e, hvars]
    rfl
end

theorem cellsInt : Tryz.prog.cellsOf 3 = 1 := by kernel_rfl
theorem cellsBx : Tryz.prog.cellsOf 45 = 4 := by kernel_rfl
theorem cellsHd : Tryz.prog.cellsOf 42 = 2 := by kernel_rfl
theorem cellsQC : Tryz.prog.cellsOf 87 = 3 := by kernel_rfl

theorem sl_of_elemsP {α : Type} [Inhabited α] {enc : α → List Value} {k : Nat} (hk : ∀ x, (enc x).length = k) (k0 : 0 < k) {W : World} {a : Addr} {ln cap : Nat} {p : α → Prop} (hl : ln ≤ cap) (hm : cap ≤ maxLen)
    (elem : ∀ i, i < ln → ∃ x : α, p x ∧ ∀ c u, (enc x)[c]? = some u → W.cell? (a.add (i * k + c)) = some u) : ∃ l : List α, Sl enc W (.slice (some a) ln cap) l ∧ ∀ x ∈ l, p x := by
  have hX : ∃ X : Nat → α, ∀ i, i < ln → p (X i) ∧ ∀ c u, (enc (X i))[c]? = some u → W.cell? (a.add (i * k + c)) = some u :=
    ⟨fun i => if h : i < ln then (elem i h).choose else default, fun i hi => by simp only [dif_pos hi]; exact (elem i hi).choose_spec⟩
  obtain ⟨X, hX⟩ := hX
  have hlen : ((List.range ln).map X).length = ln := by simp
  refine ⟨(List.range ln).map X, ⟨some a, cap, by rw [hlen], by rw [hlen]; exact hl, hm, fun hp => ?_⟩, fun x hx => by
    obtain ⟨i, hi, rfl⟩ := List.mem_map.1 hx
    exact (hX i (List.mem_range.1 hi)).1⟩
  rw [hlen] at hp
  have h00 : (enc (X 0))[0]? = some ((enc (X 0))[0]'(by rw [hk]; exact k0)) := List.getElem?_eq_getElem (by rw [hk]; exact k0)
  have e0 := (hX 0 hp).2 0 _ h00
  obtain ⟨g, o, spot⟩ := a
  have hspot : spot = none := by simpa [Addr.add] using World.cell?_spot e0
  subst hspot
  rw [Addr.add_lit] at e0
  refine ⟨g, o, rfl, cell_lt e0, fun j u hu => ?_⟩
  have hj : j < ln * k := by have := (List.getElem?_eq_some_iff.1 hu).1; rwa [flat_len hk, hlen] at this
  have hq : j / k < ln := Nat.div_lt_of_lt_mul (by rw [Nat.mul_comm]; exact hj)
  have hr : j % k < k := Nat.mod_lt _ k0
  have e : j / k * k + j % k = j := by rw [Nat.mul_comm]; exact Nat.div_add_mod j k
  have g1 := flat_get hk ((List.range ln).map X) (j / k) (j % k) (by rw [hlen]; exact hq) hr
  rw [e, hu, getElem!_pos _ _ (by rw [hlen]; exact hq), List.getElem_map, List.getElem_range] at g1
  have := (hX (j / k) hq).2 (j % k) u g1.symm
  rwa [e, Addr.add_lit] at this

section
variable {H : Type} {enc : TypeId × Value → H} {W : World} {b0 : Nat} {held : Bool} {v : Value} {d : DataW H} {p : List MemPlace}

set_option maxRecDepth 100000 in
theorem open_cells4 {fuel : Nat} {cs : List Value} {x : DataW H × List MemPlace} (ht : DataW.trod enc Tryz.prog W 0 (fun _ => true) held fuel 45 cs = some x) (hl : cs.length = 4) :
    ∃ b : Bx4, cs = encX b := by
  match cs, hl with
  | [c0, c1, c2, c3], _ =>
    obtain ⟨xs3, n3, _, _, _, hl3, hf3⟩ := DataW.trod_struct Tryz.underlying45 ht
    match xs3, hl3 with
    | [z0, z1, z2, z3], _ =>
      have t0 := by simpa using hf3 0 _ rfl
      have t1 := by simpa using hf3 1 _ rfl
      have t2 := by simpa using hf3 2 _ rfl
      have t3 := by simpa using hf3 3 _ rfl
      simp only [cellsInt, List.drop_zero, List.drop_succ_cons, List.take_succ_cons, List.take_zero] at t0 t1 t2 t3
      obtain ⟨h0, g0, _, _⟩ := DataW.trod_int Tryz.underlying3 t0
      obtain ⟨h1, g1, _, _⟩ := DataW.trod_int Tryz.underlying3 t1
      obtain ⟨h2, g2, _, _⟩ := DataW.trod_int Tryz.underlying3 t2
      obtain ⟨h3, g3, _, _⟩ := DataW.trod_int Tryz.underlying3 t3
      simp at g0 g1 g2 g3
      subst g0 g1 g2 g3
      exact ⟨(h0, h1, h2, h3), rfl⟩
set_option maxRecDepth 100000 in
theorem open_cells2 {fuel : Nat} {cs : List Value} {x : DataW H × List MemPlace} (ht : DataW.trod enc Tryz.prog W 0 (fun _ => true) held fuel 42 cs = some x) (hl : cs.length = 2) :
    ∃ a b : Int, cs = [.int .i64 a, .int .i64 b] ∧ HdOk (a, b) := by
  match cs, hl with
  | [c0, c1], _ =>
    obtain ⟨xs3, n3, _, _, _, hl3, hf3⟩ := DataW.trod_struct Tryz.underlying42 ht
    match xs3, hl3 with
    | [z0, z1], _ =>
      have t0 := by simpa using hf3 0 _ rfl
      have t1 := by simpa using hf3 1 _ rfl
      simp only [cellsInt, List.drop_zero, List.drop_succ_cons, List.take_succ_cons, List.take_zero] at t0 t1
      obtain ⟨h1, g3, _, wh1⟩ := DataW.trod_int Tryz.underlying3 t0
      obtain ⟨h2, g4, _, wh2⟩ := DataW.trod_int Tryz.underlying3 t1
      simp at g3 g4
      subst g3 g4
      exact ⟨h1, h2, rfl, wh1, wh2⟩
set_option maxRecDepth 100000 in
/-- Boxes. -/
theorem open_boxes (hv : Value.okWide Tryz.prog W .any b0 22 v) (h : DataW.Trod enc Tryz.prog W 0 (fun _ => true) held 22 v d p) : ∃ l : List Bx4, Sl encX W v l := by
  obtain ⟨al, ln, cp, rfl⟩ := okWide_slice Tryz.underlying22 hv
  obtain ⟨fuel, hf⟩ := h
  rcases Go.Deep.open_slice Tryz.underlying22 hf with ⟨hcs, _⟩ | ⟨a, len, cap, m, k, D, Pl, hcs, _, hl, hm, hmm, hx, hi⟩
  · simp [Value.cells] at hcs
    obtain ⟨rfl, rfl, rfl⟩ := hcs
    exact ⟨[], Sl.nil none 0 (Nat.zero_le _)⟩
  · simp [Value.cells] at hcs
    obtain ⟨rfl, rfl, rfl⟩ := hcs
    simp only [if_true] at hmm
    subst hmm
    refine (fun (q : ∃ l : List Bx4, Sl encX W _ l ∧ ∀ x ∈ l, True) => q.imp fun _ h => h.1) (sl_of_elemsP (p := fun _ => True) lenX (by omega) hl hm fun i hic => ?_)
    obtain ⟨cs', hc, ht⟩ := hi i (by omega)
    rw [cellsBx] at hc
    obtain ⟨_, hlen, hat⟩ := World.cells?_some hc
    obtain ⟨b, rfl⟩ := open_cells4 ht hlen
    refine ⟨b, trivial, fun c u hu => ?_⟩
    have hcl : c < 4 := by have := (List.getElem?_eq_some_iff.1 hu).1; rwa [lenX] at this
    have k0 := hat c (by simpa using hcl)
    rw [Go.Deep.add_add] at k0
    rw [k0]
    exact hu
end
set_option maxRecDepth 100000 in
theorem open_box {H : Type} {enc : TypeId × Value → H} {W : World} {b0 : Nat} {sp : Nat → Bool} {held : Bool} {v : Value} {d : DataW H} {p : List MemPlace} (hv : Value.okWide Tryz.prog W .any b0 45 v) (h : DataW.Trod enc Tryz.prog W 0 sp held 45 v d p) :
    ∃ a b c d : Int, v = .agg #[.int .i64 a, .int .i64 b, .int .i64 c, .int .i64 d] := by
  obtain ⟨c0, c1, c2, c3, y0, y1, y2, y3, m, rfl, rfl, rfl, h0, h1, h2, h3⟩ := open_agg4 Tryz.underlying45 (by kernel_rfl) cellsBx hv h
  obtain ⟨a, e0, rfl, wa⟩ := DataW.trod_int Tryz.underlying3 h0
  obtain ⟨b, e1, rfl, wb⟩ := DataW.trod_int Tryz.underlying3 h1
  obtain ⟨c, e2, rfl, wc⟩ := DataW.trod_int Tryz.underlying3 h2
  obtain ⟨d, e3, rfl, wd⟩ := DataW.trod_int Tryz.underlying3 h3
  simp at e0 e1 e2 e3
  subst e0 e1 e2 e3
  exact ⟨a, b, c, d, rfl⟩
set_option maxRecDepth 100000 in
theorem open_cell {H : Type} {enc : TypeId × Value → H} {W : World} {b0 : Nat} {sp : Nat → Bool} {held : Bool} {v : Value} {d : DataW H} {p : List MemPlace} (hv : Value.okWide Tryz.prog W .any b0 87 v) (h : DataW.Trod enc Tryz.prog W 0 sp held 87 v d p) :
    ∃ a b c : Int, v = .agg #[.int .i64 a, .int .i64 b, .int .i64 c] := by
  obtain ⟨c0, c1, c2, y0, y1, y2, m, rfl, rfl, rfl, h0, h1, h2⟩ := open_agg3 Tryz.underlying87 (by kernel_rfl) cellsQC hv h
  obtain ⟨a, e0, rfl, wa⟩ := DataW.trod_int Tryz.underlying3 h0
  obtain ⟨b, e1, rfl, wb⟩ := DataW.trod_int Tryz.underlying3 h1
  obtain ⟨c, e2, rfl, wc⟩ := DataW.trod_int Tryz.underlying3 h2
  simp at e0 e1 e2
  subst e0 e1 e2
  exact ⟨a, b, c, rfl⟩
end Go.Proofs.YtahichjiphjapaaGreatDoor

/-
  The arguments' shapes of stage 13: a point, handles.
-/
namespace Go.Proofs.YtahichjiphjapaaGreatDoor
set_option linter.unusedSimpArgs false
set_option linter.unusedVariables false
open Go.ChangeShapes Go.WideShapes Go.ChangeAt Go.RowKit Go.Joins Go.Sort

theorem cellsPt : Tryz.prog.cellsOf 24 = 2 := by kernel_rfl
set_option maxRecDepth 100000 in
theorem open_pt {H : Type} {enc : TypeId × Value → H} {W : World} {b0 : Nat} {sp : Nat → Bool} {held : Bool} {v : Value} {d : DataW H} {p : List MemPlace} (hv : Value.okWide Tryz.prog W .any b0 24 v) (h : DataW.Trod enc Tryz.prog W 0 sp held 24 v d p) :
    ∃ a b : Int, v = .agg #[.int .i64 a, .int .i64 b] := by
  obtain ⟨c0, c1, y0, y1, m, rfl, rfl, rfl, h0, h1⟩ := open_agg2 Tryz.underlying24 (by kernel_rfl) cellsPt hv h
  obtain ⟨a, e0, rfl, wa⟩ := DataW.trod_int Tryz.underlying3 h0
  obtain ⟨b, e1, rfl, wb⟩ := DataW.trod_int Tryz.underlying3 h1
  simp at e0 e1
  subst e0 e1
  exact ⟨a, b, rfl⟩

theorem sl_of_elems {α : Type} [Inhabited α] {enc : α → List Value} {k : Nat} (hk : ∀ x, (enc x).length = k) (k0 : 0 < k) {W : World} {a : Addr} {ln cap : Nat} (hl : ln ≤ cap) (hm : cap ≤ maxLen)
    (elem : ∀ i, i < ln → ∃ x : α, ∀ c u, (enc x)[c]? = some u → W.cell? (a.add (i * k + c)) = some u) : ∃ l : List α, Sl enc W (.slice (some a) ln cap) l := by
  have hX : ∃ X : Nat → α, ∀ i, i < ln → ∀ c u, (enc (X i))[c]? = some u → W.cell? (a.add (i * k + c)) = some u :=
    ⟨fun i => if h : i < ln then (elem i h).choose else default, fun i hi => by simp only [dif_pos hi]; exact (elem i hi).choose_spec⟩
  obtain ⟨X, hX⟩ := hX
  have hlen : ((List.range ln).map X).length = ln := by simp
  refine ⟨(List.range ln).map X, some a, cap, by rw [hlen], by rw [hlen]; exact hl, hm, fun hp => ?_⟩
  rw [hlen] at hp
  have h00 : (enc (X 0))[0]? = some ((enc (X 0))[0]'(by rw [hk]; exact k0)) := List.getElem?_eq_getElem (by rw [hk]; exact k0)
  have e0 := hX 0 hp 0 _ h00
  obtain ⟨g, o, spot⟩ := a
  have hspot : spot = none := by simpa [Addr.add] using World.cell?_spot e0
  subst hspot
  rw [Addr.add_lit] at e0
  refine ⟨g, o, rfl, cell_lt e0, fun j u hu => ?_⟩
  have hj : j < ln * k := by have := (List.getElem?_eq_some_iff.1 hu).1; rwa [flat_len hk, hlen] at this
  have hq : j / k < ln := Nat.div_lt_of_lt_mul (by rw [Nat.mul_comm]; exact hj)
  have hr : j % k < k := Nat.mod_lt _ k0
  have e : j / k * k + j % k = j := by rw [Nat.mul_comm]; exact Nat.div_add_mod j k
  have g1 := flat_get hk ((List.range ln).map X) (j / k) (j % k) (by rw [hlen]; exact hq) hr
  rw [e, hu, getElem!_pos _ _ (by rw [hlen]; exact hq), List.getElem_map, List.getElem_range] at g1
  have := hX (j / k) hq (j % k) u g1.symm
  rwa [e, Addr.add_lit] at this

section
variable {H : Type} {enc : TypeId × Value → H} {W : World} {b0 : Nat} {held : Bool} {v : Value} {d : DataW H} {p : List MemPlace}
set_option maxRecDepth 100000 in
theorem open_hds (hv : Value.okWide Tryz.prog W .any b0 30 v) (h : DataW.Trod enc Tryz.prog W 0 (fun _ => true) held 30 v d p) : ∃ l : List Hd, Sl encH W v l := by
  obtain ⟨al, ln, cp, rfl⟩ := okWide_slice Tryz.underlying30 hv
  obtain ⟨fuel, hf⟩ := h
  rcases Go.Deep.open_slice Tryz.underlying30 hf with ⟨hcs, _⟩ | ⟨a, len, cap, m, k, D, Pl, hcs, _, hl, hm, hmm, hx, hi⟩
  · simp [Value.cells] at hcs
    obtain ⟨rfl, rfl, rfl⟩ := hcs
    exact ⟨[], Sl.nil none 0 (Nat.zero_le _)⟩
  · simp [Value.cells] at hcs
    obtain ⟨rfl, rfl, rfl⟩ := hcs
    simp only [if_true] at hmm
    subst hmm
    refine (fun (q : ∃ l : List Hd, Sl encH W _ l ∧ ∀ x ∈ l, True) => q.imp fun _ h => h.1) (sl_of_elemsP (p := fun _ => True) lenH (by omega) hl hm fun i hic => ?_)
    obtain ⟨cs', hc, ht⟩ := hi i (by omega)
    rw [cellsHd] at hc
    obtain ⟨_, hlen, hat⟩ := World.cells?_some hc
    obtain ⟨n0, n1, rfl, -⟩ := open_cells2 ht hlen
    refine ⟨(n0, n1), trivial, fun c u hu => ?_⟩
    have hcl : c < 2 := by have := (List.getElem?_eq_some_iff.1 hu).1; rwa [lenH] at this
    have k0 := hat c (by simpa using hcl)
    rw [Go.Deep.add_add] at k0
    rw [k0]
    exact hu
end
end Go.Proofs.YtahichjiphjapaaGreatDoor

/-
  What the row's listed variables give: each errors' variable holds an error of errors.New's make, no two the same.
-/
namespace Go.Proofs.YtahichjiphjapaaGreatDoor
set_option linter.unusedSimpArgs false
set_option linter.unusedVariables false
open Go.ChangeShapes Go.WideShapes Go.ChangeAt Go.RowKit Go.Joins Go.Sort

def errT (text : List UInt8) : DataW Unit := .iface "*errors.errorString" (.ptr (.agg [.lit (.string text)]))

theorem starE : "*" ++ "errors.errorString" = "*errors.errorString" := by decide
theorem rowEr (u : TypeId) (h : Tryz.prog.typeName? 3 u = some "*errors.errorString") : u = 187 :=
  typeName_ptr_named (nm := "errors.errorString") (by rw [starE]; kernel_rfl) (by kernel_rfl) (by decide) u (by rw [starE]; exact h)
theorem cellsE : Tryz.prog.cellsOf 211 = 1 := by kernel_rfl
theorem cellsS : Tryz.prog.cellsOf 9 = 1 := by kernel_rfl

/-- The variable named n holds the error at a. -/
def SentAt (W : World) (n : String) (a : Addr) : Prop :=
  ∀ g, Tryz.prog.globalNamed n = some g → W.cell? ⟨g, 0, none⟩ = some (.iface 187 (.pointer (some a))) ∧ ∃ c t, W.heap[a.block]? = some (.cells c t (0, 0))

set_option maxRecDepth 100000 in
theorem sents_aux {W : World} : ∀ (L : List (String × DataW Unit)) (ps : List MemPlace), DataW.LaidVars Tryz.prog W L ps → ps.Nodup →
    (∀ b off, MemPlace.cell b off ∈ ps → (∃ c t, W.heap[b]? = some (.cells c t (0, 0))) ∧ ∀ u v, W.cell? ⟨b, off, none⟩ = some (.iface u v) → Value.okWide Tryz.prog W .any 0 u v) →
    (∀ x ∈ L, (∃ text, x.2 = errT text) ∧ ∃ g, Tryz.prog.globalNamed x.1 = some g ∧ (Tryz.prog.globals[g]?).map (·.type) = some 32) → (L.map (·.1)).Nodup →
    ∃ A : String → Addr, (∀ x ∈ L, SentAt W x.1 (A x.1) ∧ MemPlace.cell (A x.1).block (A x.1).off ∈ ps) ∧ ∀ x ∈ L, ∀ y ∈ L, x.1 ≠ y.1 → A x.1 ≠ A y.1
  | [], _, _, _, _, _, _ => ⟨fun _ => ⟨0, 0, none⟩, (fun x hx => absurd hx (by simp)), (fun x hx => absurd hx (by simp))⟩
  | (n, d) :: r, ps, h, hnd, hrows, hsh, hnn => by
    obtain ⟨g0, t0, cs0, f0, p0, q0, hg0, ht0, hv0, hd0, hq, e0⟩ := h
    obtain ⟨⟨text, hd⟩, g1, hg1, ht1⟩ := hsh (n, d) (by simp)
    have hd' : d = errT text := hd
    subst hd'
    obtain rfl := Option.some.inj (hg1.symm.trans hg0)
    obtain rfl := Option.some.inj (ht1.symm.trans ht0)
    subst e0
    obtain ⟨l0⟩ := cs0
    have ok0 : ∀ u v, l0 = [.iface u v] → Value.okWide Tryz.prog W .any 0 u v := fun u v e => by
      subst e
      exact (hrows g1 0 (by simp [MemPlace.row])).2 u v (by simpa using World.var?_cell hg0 hv0 0)
    obtain ⟨a0, s0, rfl, hc0, hs0, hz0, rfl⟩ := errorString_of_trod Tryz.underlying32 rowEr Tryz.underlying187 Tryz.underlying211 rfl rfl Tryz.underlying9 cellsE cellsS hd0 ok0
    have hin : MemPlace.cell a0.block a0.off ∈ MemPlace.row a0 1 := by simp [MemPlace.row]
    obtain ⟨hnd1, hnd2, hdis⟩ := List.nodup_append.1 hnd
    simp only [List.map_cons, List.nodup_cons] at hnn
    obtain ⟨A, hA, hne⟩ := sents_aux r q0 hq hnd2 (fun b off hm => hrows b off (by simp [hm])) (fun x hx => hsh x (by simp [hx])) hnn.2
    have hname : ∀ x ∈ r, x.1 ≠ n := fun x hx e => hnn.1 (by rw [← e]; exact List.mem_map_of_mem hx)
    have hfar : ∀ x ∈ r, a0 ≠ A x.1 := fun x hx e => by
      have h1 := (hA x hx).2
      exact hdis (MemPlace.cell a0.block a0.off) (by simp [hin]) (MemPlace.cell (A x.1).block (A x.1).off) h1 (by rw [e])
    refine ⟨fun s => if s = n then a0 else A s, fun x hx => ?_, fun x hx y hy hxy => ?_⟩
    · rcases List.mem_cons.1 hx with rfl | hx
      · simp only [if_true]
        refine ⟨fun g hg => ?_, by simp [hin]⟩
        obtain rfl := Option.some.inj (hg0.symm.trans hg)
        refine ⟨by simpa using World.var?_cell hg0 hv0 0, (hrows a0.block a0.off (by simp [hin])).1⟩
      · simp only [if_neg (hname x hx)]
        exact ⟨(hA x hx).1, by simp [(hA x hx).2]⟩
    · rcases List.mem_cons.1 hx with rfl | hx <;> rcases List.mem_cons.1 hy with rfl | hy
      · exact absurd rfl hxy
      · simp only [if_true, if_neg (hname y hy)]
        exact hfar y hy
      · simp only [if_true, if_neg (hname x hx)]
        exact fun e => hfar x hx e.symm
      · simp only [if_neg (hname y hy), if_neg (hname x hx)]
        exact hne x hx y hy hxy

theorem sents {W : World} {L : List (String × DataW Unit)} (h : laidMet Tryz.prog L W)
    (hsh : ∀ x ∈ L, (∃ text, x.2 = errT text) ∧ ∃ g, Tryz.prog.globalNamed x.1 = some g ∧ (Tryz.prog.globals[g]?).map (·.type) = some 32) (hnn : (L.map (·.1)).Nodup) :
    ∃ A : String → Addr, (∀ x ∈ L, SentAt W x.1 (A x.1)) ∧ ∀ x ∈ L, ∀ y ∈ L, x.1 ≠ y.1 → A x.1 ≠ A y.1 := by
  obtain ⟨ps, hv, hnd, hrows⟩ := h
  obtain ⟨A, h1, h2⟩ := sents_aux L ps hv hnd hrows hsh hnn
  exact ⟨A, fun x hx => (h1 x hx).1, h2⟩

/-- The names of the errors' variables, by the errors' numbers. -/
def errN : List String := ["paddock/api.ErrRange", "paddock/api.ErrFull", "paddock/api.ErrNone", "paddock/api.ErrExists", "paddock/api.ErrKind", "paddock/api.ErrState", "paddock/api.ErrForm", "paddock/api.ErrBlocked", "paddock/api.ErrPath", "paddock/api.ErrGoal"]
theorem errN_at : ∀ k, k < 10 → Tryz.prog.globalNamed (errN.getD k "") = some (errG.getD k 0) := by
  intro k hk
  obtain rfl | rfl | rfl | rfl | rfl | rfl | rfl | rfl | rfl | rfl : k = 0 ∨ k = 1 ∨ k = 2 ∨ k = 3 ∨ k = 4 ∨ k = 5 ∨ k = 6 ∨ k = 7 ∨ k = 8 ∨ k = 9 := by omega
  all_goals kernel_rfl
theorem errN_apart : ∀ i j, i < 10 → j < 10 → i ≠ j → errN.getD i "" ≠ errN.getD j "" := by
  have h : ((List.range 10).all fun i => (List.range 10).all fun j => i == j || errN.getD i "" != errN.getD j "") = true := by decide
  intro i j hi hj hij
  have := List.all_eq_true.1 (List.all_eq_true.1 h i (by simp; omega)) j (by simp; omega)
  simpa [hij] using this

/-- The shape of a row's list, out of one closed fact and the data's own form. -/
theorem shape_of {L : List (String × DataW Unit)} (hb : (L.all fun x => ((Tryz.prog.globalNamed x.1).bind fun g => (Tryz.prog.globals[g]?).map (·.type)) == some 32) = true) (ht : ∀ x ∈ L, ∃ text, x.2 = errT text) :
    ∀ x ∈ L, (∃ text, x.2 = errT text) ∧ ∃ g, Tryz.prog.globalNamed x.1 = some g ∧ (Tryz.prog.globals[g]?).map (·.type) = some 32 := by
  intro x hx
  refine ⟨ht x hx, ?_⟩
  have h := List.all_eq_true.1 hb x hx
  cases hg : Tryz.prog.globalNamed x.1 with
  | none => simp [hg] at h
  | some g => exact ⟨g, rfl, by simpa [hg] using h⟩

theorem errs_of {W : World} {L : List (String × DataW Unit)} (h : laidMet Tryz.prog L W)
    (hsh : ∀ x ∈ L, (∃ text, x.2 = errT text) ∧ ∃ g, Tryz.prog.globalNamed x.1 = some g ∧ (Tryz.prog.globals[g]?).map (·.type) = some 32) (hnn : (L.map (·.1)).Nodup)
    (hall : ∀ k, k < 10 → errN.getD k "" ∈ L.map (·.1)) : ∃ A, Errs W A := by
  obtain ⟨A, h1, h2⟩ := sents h hsh hnn
  have hm : ∀ k, k < 10 → ∃ x ∈ L, x.1 = errN.getD k "" := fun k hk => by simpa using List.mem_map.1 (hall k hk)
  refine ⟨fun k => A (errN.getD k ""), fun i hi => ?_, fun i hi => ?_, fun i j hi hj hij => ?_⟩
  · obtain ⟨x, hx, e⟩ := hm i hi
    have := (h1 x hx _ (by rw [e]; exact errN_at i hi)).1
    rwa [e] at this
  · obtain ⟨x, hx, e⟩ := hm i hi
    have := (h1 x hx _ (by rw [e]; exact errN_at i hi)).2
    rwa [e] at this
  · obtain ⟨x, hx, e⟩ := hm i hi
    obtain ⟨y, hy, f⟩ := hm j hj
    have := h2 x hx y hy (by rw [e, f]; exact errN_apart i j hi hj hij)
    rwa [e, f] at this


set_option maxRecDepth 100000 in
/-- One listed error's variable, wherever it stands on the list, whatever else is listed. -/
theorem sent_aux {W : World} : ∀ (L : List (String × DataW Unit)) (ps : List MemPlace), DataW.LaidVars Tryz.prog W L ps →
    (∀ b off, MemPlace.cell b off ∈ ps → ∀ u v, W.cell? ⟨b, off, none⟩ = some (.iface u v) → Value.okWide Tryz.prog W .any 0 u v) →
    ∀ n text, (n, errT text) ∈ L → ∀ g, Tryz.prog.globalNamed n = some g → (Tryz.prog.globals[g]?).map (·.type) = some 32 → ∃ a, W.cell? ⟨g, 0, none⟩ = some (.iface 187 (.pointer (some a)))
  | [], _, _, _, _, _, hm, _, _, _ => absurd hm (by simp)
  | (n', d) :: r, ps, h, hrows, n, text, hm, g, hg, ht => by
    obtain ⟨g0, t0, cs0, f0, p0, q0, hg0, ht0, hv0, hd0, hq, e0⟩ := h
    rcases List.mem_cons.1 hm with e | e
    · obtain ⟨rfl, rfl⟩ : n = n' ∧ errT text = d := by simpa using e
      obtain rfl := Option.some.inj (hg.symm.trans hg0)
      obtain rfl := Option.some.inj (ht.symm.trans ht0)
      subst e0
      obtain ⟨l0⟩ := cs0
      have ok0 : ∀ u v, l0 = [.iface u v] → Value.okWide Tryz.prog W .any 0 u v := fun u v e => by
        subst e
        exact hrows g 0 (by simp [MemPlace.row]) u v (by simpa using World.var?_cell hg0 hv0 0)
      obtain ⟨a0, s0, rfl, hc0, hs0, hz0, rfl⟩ := errorString_of_trod Tryz.underlying32 rowEr Tryz.underlying187 Tryz.underlying211 rfl rfl Tryz.underlying9 cellsE cellsS hd0 ok0
      exact ⟨a0, by simpa using World.var?_cell hg0 hv0 0⟩
    · exact sent_aux r q0 hq (fun b off hm' => hrows b off (by subst e0; simp [hm'])) n text e g hg ht
set_option maxRecDepth 100000 in
theorem sent_range {W : World} {L : List (String × DataW Unit)} (h : laidMet Tryz.prog L W) {text : List UInt8} (hm : ("paddock/api.ErrRange", errT text) ∈ L) : ∃ a, W.cell? ⟨0, 0, none⟩ = some (.iface 187 (.pointer (some a))) := by
  obtain ⟨ps, hv, _, hrows⟩ := h
  exact sent_aux L ps hv (fun b off hb => (hrows b off hb).2) _ text hm _ (by kernel_rfl) (by kernel_rfl)
set_option maxRecDepth 100000 in
theorem sent_none {W : World} {L : List (String × DataW Unit)} (h : laidMet Tryz.prog L W) {text : List UInt8} (hm : ("paddock/api.ErrNone", errT text) ∈ L) : ∃ a, W.cell? ⟨2, 0, none⟩ = some (.iface 187 (.pointer (some a))) := by
  obtain ⟨ps, hv, _, hrows⟩ := h
  exact sent_aux L ps hv (fun b off hb => (hrows b off hb).2) _ text hm _ (by kernel_rfl) (by kernel_rfl)
set_option maxRecDepth 100000 in
theorem sent_form {W : World} {L : List (String × DataW Unit)} (h : laidMet Tryz.prog L W) {text : List UInt8} (hm : ("paddock/api.ErrForm", errT text) ∈ L) : ∃ a, W.cell? ⟨6, 0, none⟩ = some (.iface 187 (.pointer (some a))) := by
  obtain ⟨ps, hv, _, hrows⟩ := h
  exact sent_aux L ps hv (fun b off hb => (hrows b off hb).2) _ text hm _ (by kernel_rfl) (by kernel_rfl)
end Go.Proofs.YtahichjiphjapaaGreatDoor
