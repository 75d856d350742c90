/-
  Maps keyed by kinds, of pointers to columns: what is looked up, put, ranged over.
-/
import Derived.Test.YtknfmjjlfhfocaaDoorCo
import Derived.Maps.RangeWalk
import Derived.Maps.Views
import Derived.Maps.OwnOps
import Derived.Maps.OwnSet
import Derived.StringKeys
import Derived.DeepKeys5
namespace Go.Proofs.YtknfmjjlfhfocaaDoor
set_option linter.unusedSimpArgs false
set_option linter.unusedVariables false
open Go.RowKit Go.Sort Go.Lib Go.Shelf Go.ChangeShapes Go.WideShapes

abbrev MapTy : Nat := 83
abbrev PtrTy : Nat := 85
theorem kindKeyed : Maps.Keyed Tryd.prog 3 := Maps.int_keyed Tryd.underlying3
theorem mapPU : Tryd.prog.underlying MapTy = some (.map 3 PtrTy) := Tryd.underlying83
theorem zeroP (w : World) : (zeroValue PtrTy).run Tryd.prog w = .ok (.pointer none) w := by kernel_rfl
/-- A kind as a key. -/
def kk (x : Int) : Lit := .int .i64 x
theorem keyK {x : Int} (h : (Lit.int .i64 x).wf = true) : keyOf Tryd.prog 3 (.int .i64 x) = some (kk x) := Maps.keyOf_int_mk Tryd.underlying3 h
theorem keyK_inv {v : Value} {kl : Lit} (h : keyOf Tryd.prog 3 v = some kl) : ∃ x, v = .int .i64 x ∧ kl = kk x ∧ (Lit.int .i64 x).wf = true := Maps.keyOf_int_inv Tryd.underlying3 h
theorem kk_inj {a b : Int} (h : kk a = kk b) : a = b := by
  unfold kk at h
  simpa using h
/-- A pointer as an element. -/
def ptrElem : Value → Option (DataW Unit × List MemPlace)
  | .pointer none => some (.nil, [])
  | .pointer (some ⟨g, 0, none⟩) => some (.lit (.int .i64 g), [])
  | _ => none
def ptrD : Option Nat → DataW Unit
  | none => .nil
  | some g => .lit (.int .i64 g)
def ptrV : Option Nat → Value
  | none => .pointer none
  | some g => .pointer (some ⟨g, 0, none⟩)
theorem ptrElem_mk (o : Option Nat) : ptrElem (ptrV o) = some (ptrD o, []) := by cases o <;> rfl
theorem ptrElem_inv {v : Value} {d : DataW Unit} {ps : List MemPlace} (h : ptrElem v = some (d, ps)) : ∃ o, v = ptrV o ∧ d = ptrD o := by
  unfold ptrElem at h
  split at h
  · simp only [Option.some.injEq, Prod.mk.injEq] at h
    exact ⟨none, rfl, h.1.symm⟩
  · rename_i g
    simp only [Option.some.injEq, Prod.mk.injEq] at h
    exact ⟨some g, rfl, h.1.symm⟩
  · cases h
theorem ptrD_inj {a b : Option Nat} (h : ptrD a = ptrD b) : a = b := by
  cases a <;> cases b <;> simp [ptrD] at h ⊢
  omega

/-- Block b is a map of at most n entries, in which each kind leads where f says. -/
def MapP (w : World) (b n : Nat) (f : Int → Option Nat) : Prop :=
  ∃ D : DataW Unit, w.ownsMap Tryd.prog 3 ptrElem b n D ∧ (∀ x, D.atKey (kk x) .nil = ptrD (f x)) ∧ ∀ x, Maps.has D (kk x) = (f x).isSome
section
variable {w w' : World} {b n : Nat} {f : Int → Option Nat}
theorem MapP.made (w : World) : MapP (w.alloc (.map #[] 0)) w.heap.size 0 (fun _ => none) := ⟨_, World.ownsMap_made w _ _ _, fun s => rfl, fun s => rfl⟩
theorem MapP.congr {g : Int → Option Nat} (h : MapP w b n f) (e : ∀ s, f s = g s) : MapP w b n g := by
  obtain ⟨D, h1, h2, h3⟩ := h
  exact ⟨D, h1, fun s => by rw [h2, e], fun s => by rw [h3, e]⟩
theorem MapP.mono {m : Nat} (h : MapP w b n f) (hm : n ≤ m) : MapP w b m f := by
  obtain ⟨D, h1, h2⟩ := h
  exact ⟨D, h1.mono hm, h2⟩
theorem MapP.lt (h : MapP w b n f) : b < w.heap.size := h.choose_spec.1.lt
theorem MapP.is (h : MapP w b n f) : ∃ es c, w.heap[b]? = some (.map es c) := by
  obtain ⟨D, ⟨es, c, hb, _⟩, _⟩ := h
  exact ⟨es, c, hb⟩
theorem MapP.blk (h : MapP w b n f) (k : w'.heap[b]? = w.heap[b]?) : MapP w' b n f := by
  obtain ⟨D, ⟨es, clock, hb, r⟩, h2⟩ := h
  exact ⟨D, ⟨es, clock, k.trans hb, r⟩, h2⟩
theorem MapP.below (h : MapP w b n f) (k : RowKit.Below w.heap.size w w') : MapP w' b n f := h.blk (k.block b h.lt)
/-- m[x]. -/
theorem MapP.look (h : MapP w b n f) (x : Int) (hx : (Lit.int .i64 x).wf = true) : (Instr.lookup MapTy (.map (some b)) (.int .i64 x) false).run Tryd.prog w = .ok (ptrV (f x)) w := by
  obtain ⟨D, h1, h2, _⟩ := h
  obtain ⟨v, ps, hr, hv⟩ := h1.lookup kindKeyed mapPU (zeroP w) (ptrElem_mk none) (keyK hx)
  obtain ⟨o, rfl, ho⟩ := ptrElem_inv hv
  have e := h2 x
  rw [show ptrD none = (DataW.nil : DataW Unit) from rfl] at ho
  rw [e] at ho
  rw [ptrD_inj ho]
  exact hr
/-- m[x] = p. -/
theorem MapP.put (h : MapP w b n f) (hn : n < 1000) (x : Int) (hx : (Lit.int .i64 x).wf = true) (g : Nat) : ∃ w', (Instr.mapUpdate MapTy (.map (some b)) (.int .i64 x) (.pointer (some ⟨g, 0, none⟩))).run Tryd.prog w = .ok () w' ∧ MapP w' b (n + 1) (fun y => if y = x then some g else f y) ∧ w.grownBy w' (some b) := by
  obtain ⟨D, h1, h2, h3⟩ := h
  obtain ⟨w', hr, ho, hg⟩ := h1.update kindKeyed mapPU (by unfold maxLen; omega) (keyK hx) (ptrElem_mk (some g))
  refine ⟨w', hr, ⟨_, ho, fun y => ?_, fun y => ?_⟩, hg⟩
  · show _ = ptrD (if y = x then some g else f y)
    by_cases e : y = x
    · subst e
      rw [if_pos rfl]
      exact Maps.atKey_put_same h1.isMap (kindKeyed.key (keyK hx)) _ _
    · rw [if_neg e, Maps.atKey_put_other (fun q => e (kk_inj q)), h2]
  · show _ = (if y = x then some g else f y).isSome
    by_cases e : y = x
    · subst e
      rw [if_pos rfl]
      exact Maps.has_put_same h1.isMap (kindKeyed.key (keyK hx)) _
    · rw [if_neg e, Maps.has_put_other (fun q => e (kk_inj q)), h3]
/-- A block of cells behind a change of the map. -/
theorem grown_blk {b2 : Nat} {o : Obj} (hb : w.heap[b2]? = some o) (hg : w.grownBy w' (some b)) (hne : b2 ≠ b) : w'.heap[b2]? = some o :=
  (hg.block b2 (Array.getElem?_eq_some_iff.1 hb).1 (fun e => hne (Option.some.inj e))).trans hb
theorem tch_grown {M : Nat → Prop} (hg : w.grownBy w' (some b)) (hb : M b) : Tch M w w' := ⟨hg.os, hg.tape, hg.output, hg.size, fun k hk hn => hg.block k hk (fun e => hn (by rw [Option.some.inj e]; exact hb))⟩
theorem bel_map {a : World} (h : RowKit.Below a.heap.size a w) (hg : w.grownBy w' (some b)) (hb : a.heap.size ≤ b) : RowKit.Below a.heap.size a w' :=
  ⟨hg.os.trans h.os, hg.tape.trans h.tape, hg.output.trans h.output, Nat.le_trans h.size hg.size, fun k hk => (hg.block k (Nat.lt_of_lt_of_le hk h.size) (by simp; omega)).trans (h.block k hk)⟩
theorem grown_below (h : w.grownBy w' none) : RowKit.Below w.heap.size w w' := ⟨h.os, h.tape, h.output, h.size, fun k hk => h.block k hk (by simp)⟩

/-! ### The range. -/
/-- The loop over the map at b under way, its iterator at r: which kinds are still to come. -/
def RngP (w : World) (b r n : Nat) (f : Int → Option Nat) (left : Int → Bool) (cnt : Nat) : Prop :=
  ∃ (D : DataW Unit) (lf : Lit → Bool), w.ranges Tryd.prog 3 ptrElem b r n D lf cnt ∧ (∀ x, D.atKey (kk x) .nil = ptrD (f x)) ∧ (∀ x, Maps.has D (kk x) = (f x).isSome) ∧ (∀ x, lf (kk x) = left x) ∧ ∀ x, left x = true → (f x).isSome = true
theorem RngP.map {r cnt : Nat} {left : Int → Bool} (h : RngP w b r n f left cnt) : MapP w b n f := by
  obtain ⟨D, lf, h1, h2, h3, _⟩ := h
  exact ⟨D, h1.owns, h2, h3⟩
theorem RngP.lt {r cnt : Nat} {left : Int → Bool} (h : RngP w b r n f left cnt) : r < w.heap.size := h.choose_spec.choose_spec.1.lt
theorem RngP.left_eq {r cnt : Nat} {left : Int → Bool} (h : RngP w b r n f left cnt) : w.rangeLeft b r = cnt := h.choose_spec.choose_spec.1.left_eq
theorem RngP.ne {r cnt : Nat} {left : Int → Bool} (h : RngP w b r n f left cnt) : r ≠ b := h.choose_spec.choose_spec.1.ne
theorem RngP.kept {r cnt : Nat} {left : Int → Bool} (h : RngP w b r n f left cnt) {M : Nat → Prop} (t : Tch M w w') (hb : ¬ M b) (hr : ¬ M r) : RngP w' b r n f left cnt := by
  obtain ⟨D, lf, h1, h2, h3⟩ := h
  have hbl := h1.owns.lt
  have hrl := h1.lt
  obtain ⟨es, clock, since, seen, c0, e1, F, hs, hD, e2, rest⟩ := h1
  exact ⟨D, lf, ⟨es, clock, since, seen, c0, (t.block b hbl hb).trans e1, F, hs, hD, (t.block r hrl hr).trans e2, rest⟩, h2, h3⟩
/-- 'range m'. -/
theorem MapP.range (h : MapP w b n f) : ∃ w' cnt, (Instr.range MapTy (.map (some b))).run Tryd.prog w = .ok (.pointer (some ⟨w.heap.size, 0, none⟩)) w' ∧ RngP w' b w.heap.size n f (fun x => (f x).isSome) cnt ∧ w.grownBy w' none ∧ w'.heap.size = w.heap.size + 1 ∧ cnt ≤ n := by
  obtain ⟨D, h1, h2, h3⟩ := h
  obtain ⟨w', hrun, r1, r2, r3⟩ := h1.range kindKeyed mapPU
  exact ⟨w', _, hrun, ⟨D, _, r1, h2, h3, h3, fun x h => h⟩, r2, r3, h1.size_le⟩
/-- The step. -/
theorem RngP.next {r cnt : Nat} {left : Int → Bool} (h : RngP w b r n f left cnt) (ty : TypeId) :
    ((∀ x, left x = false) ∧ (Instr.next (.pointer (some ⟨r, 0, none⟩)) false ty).run Tryd.prog w = .ok (.tuple #[.bool false]) w) ∨
    ∃ x g w' cnt', (Lit.int .i64 x).wf = true ∧ left x = true ∧ f x = some g ∧ (Instr.next (.pointer (some ⟨r, 0, none⟩)) false ty).run Tryd.prog w = .ok (.tuple #[.bool true, .int .i64 x, .pointer (some ⟨g, 0, none⟩)]) w' ∧
      RngP w' b r n f (fun y => left y && !decide (y = x)) cnt' ∧ cnt' < cnt ∧ w.grownBy w' (some r) ∧ w'.heap.size = w.heap.size ∧ (Instr.entry (.pointer (some ⟨r, 0, none⟩))).run Tryd.prog w' = .ok (.tuple #[.int .i64 x, .pointer (some ⟨g, 0, none⟩)]) w' := by
  obtain ⟨D, lf, h1, h2, h5, h3, h6⟩ := h
  rcases h1.next kindKeyed ty with ⟨_, hl, hrun⟩ | ⟨key, v, kl, y, w', cnt', hkey, hlk, hv, hat, hrun, hrg, hlt, hgr, hsz, hen⟩
  · exact .inl ⟨fun x => by rw [← h3, hl], hrun⟩
  · obtain ⟨x, rfl, rfl, hx⟩ := keyK_inv hkey
    obtain ⟨yd, yp⟩ := y
    obtain ⟨o, rfl, rfl⟩ := ptrElem_inv hv
    have e := hat .nil
    rw [h2] at e
    have e2 := ptrD_inj e
    cases o with
    | none =>
      have := h6 x (by rw [← h3]; exact hlk)
      rw [e2] at this
      cases this
    | some g =>
      refine .inr ⟨x, g, w', cnt', hx, by rw [← h3]; exact hlk, e2, hrun, ⟨D, _, hrg, h2, h5, fun y => ?_, fun y hy => h6 y (by simp only [Bool.and_eq_true] at hy; exact hy.1)⟩, hlt, hgr, hsz, hen⟩
      show (lf (kk y) && !(kk y).sameKey (kk x)) = _
      rw [h3]
      by_cases e4 : y = x
      · subst e4
        rw [WideAt.sameKey_self (kindKeyed.key (keyK hx))]
        simp
      · rw [Maps.sameKey_ne (fun q => e4 (kk_inj q))]
        simp [e4]
end
section
variable {w : World} {b n : Nat} {f : Int → Option Nat} {ops : Array Oper} {rest : List Oper} {o : Oper} {a : Act} {Q : Exit → Act → World → Prop}
theorem wpl_rangeP (hg : o.guard = none) (m : Operand) (hop : o.op = Op.range MapTy m) (hm : a.eval m = .map (some b)) (h : MapP w b n f)
    (hK : ∀ w' cnt, RngP w' b w.heap.size n f (fun x => (f x).isSome) cnt → w.grownBy w' none → w'.heap.size = w.heap.size + 1 → cnt ≤ n → wpList Tryd.prog ops Q rest (a.put o.dst (.pointer (some ⟨w.heap.size, 0, none⟩))) w') : wpList Tryd.prog ops Q (o :: rest) a w := by
  refine wpList_plain hg fun K' hK' => ?_
  obtain ⟨w', cnt, hrun, r1, r2, r3, r4⟩ := h.range
  unfold Oper.wp
  simp [execOp, hop, hm, hrun, Result.andThen]
  exact hK' _ _ (hK w' cnt r1 r2 r3 r4)
theorem wpl_nextP (hg : o.guard = none) (it : Operand) (hop : o.op = Op.next it false) {r cnt : Nat} {left : Int → Bool} (hit : a.eval it = .pointer (some ⟨r, 0, none⟩)) (h : RngP w b r n f left cnt)
    (hDone : (∀ x, left x = false) → wpList Tryd.prog ops Q rest (a.put o.dst (.tuple #[.bool false])) w)
    (hMore : ∀ x g w' cnt', (Lit.int .i64 x).wf = true → left x = true → f x = some g → RngP w' b r n f (fun y => left y && !decide (y = x)) cnt' → cnt' < cnt → w.grownBy w' (some r) → w'.heap.size = w.heap.size →
      (Instr.entry (.pointer (some ⟨r, 0, none⟩))).run Tryd.prog w' = .ok (.tuple #[.int .i64 x, .pointer (some ⟨g, 0, none⟩)]) w' → wpList Tryd.prog ops Q rest (a.put o.dst (.tuple #[.bool true, .int .i64 x, .pointer (some ⟨g, 0, none⟩)])) w') : wpList Tryd.prog ops Q (o :: rest) a w := by
  refine wpList_plain hg fun K' hK' => ?_
  unfold Oper.wp
  rcases h.next o.type with ⟨hl, hrun⟩ | ⟨x, g, w', cnt', h1, h2, h3, hrun, h4, h5, h6, h7, h8⟩
  · simp [execOp, hop, hit, hrun, Result.andThen]
    exact hK' _ _ (hDone hl)
  · simp [execOp, hop, hit, hrun, Result.andThen]
    exact hK' _ _ (hMore x g w' cnt' h1 h2 h3 h4 h5 h6 h7 h8)
/-- 'm[k] = p' at the operation. -/
theorem wpl_putP (hg : o.guard = none) (m x v : Operand) (hop : o.op = Op.mapUpdate MapTy m x v) (hm : a.eval m = .map (some b)) (h : MapP w b n f) (hn : n < 1000) (k : Int) (hx : a.eval x = .int .i64 k) (hk : (Lit.int .i64 k).wf = true) (g : Nat) (hv : a.eval v = .pointer (some ⟨g, 0, none⟩))
    (hK : ∀ w', MapP w' b (n + 1) (fun y => if y = k then some g else f y) → w.grownBy w' (some b) → wpList Tryd.prog ops Q rest (a.put o.dst undef) w') : wpList Tryd.prog ops Q (o :: rest) a w := by
  refine wpList_plain hg fun K' hK' => ?_
  obtain ⟨w', hrun, r1, r2⟩ := h.put hn k hk g
  unfold Oper.wp
  simp [execOp, hop, hm, hx, hv, hrun, Result.andThen]
  exact hK' _ _ (hK w' r1 r2)
end
end Go.Proofs.YtknfmjjlfhfocaaDoor
