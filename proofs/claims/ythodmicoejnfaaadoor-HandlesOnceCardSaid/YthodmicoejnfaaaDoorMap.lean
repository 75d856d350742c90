/-
  Maps keyed by handles, of yes and no: what is looked up, put, ranged over.
-/
import Derived.Test.YthodmicoejnfaaaDoorRh
import Derived.DeepKeys5
import Derived.Maps.RangeWalk
import Derived.Maps.Views
import Derived.Maps.OwnOps
namespace Go.Proofs.YthodmicoejnfaaaDoor
set_option linter.unusedSimpArgs false
set_option linter.unusedVariables false
open Go.RowKit Go.Sort Go.Lib Go.Shelf Go.ChangeShapes Go.WideShapes

theorem hdLaid : laidOutB Tryd.prog = true := by kernel_rfl
theorem hdKeyed : Maps.Keyed Tryd.prog 40 :=
  Maps.Keyed.of_law (deep_law_gate hdLaid (of_decide_eq_true (by kernel_rfl)) (of_decide_eq_true (by kernel_rfl)) (by kernel_rfl) (by kernel_rfl))
theorem hdKT : Tryd.prog.keyType 40 = true := by kernel_rfl
theorem hdCells : Tryd.prog.cellsOf 40 = 2 := by kernel_rfl
theorem intCells : Tryd.prog.cellsOf 3 = 1 := by kernel_rfl
theorem hdFuel : ∃ m, Tryd.prog.types.size = m + 1 := ⟨Tryd.prog.types.size - 1, by
  have h : 1 ≤ Tryd.prog.types.size := of_decide_eq_true (by kernel_rfl)
  omega⟩
theorem zeroB (w : World) : (zeroValue 4).run Tryd.prog w = .ok (.bool false) w := by kernel_rfl

/-- What a handle reads as, as a key. -/
def kH (h : Hd) : Lit := .string (keyBytes [.int .i64 h.1, .int .i64 h.2])
/-- A handle of numbers of int. -/
def HdOk (h : Hd) : Prop := (Lit.int .i64 h.1).wf = true ∧ (Lit.int .i64 h.2).wf = true

set_option maxRecDepth 100000 in
theorem keyLitsH (n : Nat) (a b : Value) : Tryd.prog.keyLits (n + 1) 40 [a, b] = (Tryd.prog.keyLits n 3 [a]).bind fun x => (Tryd.prog.keyLits n 3 [b]).bind fun y => some (x ++ y) := by
  conv => lhs; unfold Program.keyLits
  rw [Tryd.underlying40]
  simp [hdCells, intCells]
  cases Tryd.prog.keyLits n 3 [a] with
  | none => rfl
  | some x =>
    cases Tryd.prog.keyLits n 3 [b] with
    | none => rfl
    | some y => simp
set_option maxRecDepth 100000 in
theorem keyLitsI (m : Nat) (v : Value) : Tryd.prog.keyLits (m + 1) 3 [v] = match v with | .int q n => (if q = .i64 ∧ (Lit.int .i64 n).wf = true then some [.int .i64 n] else none) | _ => none := by
  conv => lhs; unfold Program.keyLits
  rw [Tryd.underlying3]
  cases v <;> rfl
set_option maxRecDepth 100000 in
theorem keyH {h : Hd} (hw : HdOk h) : keyOf Tryd.prog 40 (.agg #[.int .i64 h.1, .int .i64 h.2]) = some (kH h) := by
  unfold keyOf
  rw [Tryd.underlying40]
  have hf : (Value.agg #[.int .i64 h.1, .int .i64 h.2]).formed Tryd.prog 40 = true := by simp [Value.formed, Tryd.underlying40, hdCells]
  dsimp only
  rw [hdKT, hf]
  simp only [Bool.and_self, if_true, Value.cells]
  obtain ⟨m, hm⟩ := hdFuel
  rw [keyLitsH, hm, keyLitsI, keyLitsI]
  simp [hw.1, hw.2, kH]
set_option maxRecDepth 100000 in
theorem keyH_inv {v : Value} {kl : Lit} (h : keyOf Tryd.prog 40 v = some kl) : ∃ x : Hd, v = .agg #[.int .i64 x.1, .int .i64 x.2] ∧ HdOk x ∧ kl = kH x := by
  unfold keyOf at h
  rw [Tryd.underlying40] at h
  dsimp only at h
  split at h
  · rename_i hc
    simp only [Bool.and_eq_true] at hc
    have hf := hc.2
    cases v with
    | agg cs =>
      simp [Value.formed, Tryd.underlying40, hdCells] at hf
      obtain ⟨l⟩ := cs
      match l, hf with
      | [a, b], _ =>
        simp only [Value.cells] at h
        obtain ⟨m, hm⟩ := hdFuel
        rw [keyLitsH, hm, keyLitsI, keyLitsI] at h
        cases a with
        | int q1 n1 =>
          cases b with
          | int q2 n2 =>
            by_cases c1 : q1 = .i64 ∧ (Lit.int .i64 n1).wf = true
            · by_cases c2 : q2 = .i64 ∧ (Lit.int .i64 n2).wf = true
              · obtain ⟨rfl, w1⟩ := c1
                obtain ⟨rfl, w2⟩ := c2
                simp [w1, w2] at h
                subst h
                exact ⟨(n1, n2), rfl, ⟨w1, w2⟩, rfl⟩
              · simp [c1, c2] at h
            · simp [c1] at h
          | _ => simp at h
        | _ => simp at h
    | _ => simp [Value.formed, Tryd.underlying40] at hf
  · cases h

theorem underlyingMap : Tryd.prog.underlying 55 = some (.map 40 4) := Tryd.underlying55
set_option maxRecDepth 100000 in
theorem elemB_inv {v : Value} {y : DataW Unit × List MemPlace} (h : plainElem Tryd.prog 4 v = some y) : ∃ c : Bool, v = .bool c ∧ y = (.lit (.bool c), []) := by
  unfold plainElem at h
  rw [Tryd.underlying4] at h
  cases v <;> simp at h
  exact ⟨_, rfl, h.symm⟩
set_option maxRecDepth 100000 in
theorem kH_key {h : Hd} (hw : HdOk h) : WideAt.IsKeyLit (kH h) := hdKeyed.key (keyH hw)
set_option maxRecDepth 100000 in
theorem kH_inj {a b : Hd} (ha : HdOk a) (hb : HdOk b) (e : kH a = kH b) : a = b := by
  have h1 := keyH ha
  rw [e] at h1
  have := hdKeyed.inj h1 (keyH hb)
  simp only [Value.agg.injEq, Array.mk.injEq, List.cons.injEq, Value.int.injEq, true_and, and_true] at this
  exact Prod.ext this.1 this.2

/-- The words of a set of handles. -/
def setH (G : List Hd) : DataW Unit := Maps.setOf (.lit (.bool true)) (G.map kH)
/-- Block b is a map of at most n entries: the handles of G, each with yes. -/
def MapH (w : World) (b n : Nat) (G : List Hd) : Prop := w.ownsMap Tryd.prog 40 (plainElem Tryd.prog 4) b n (setH G) ∧ ∀ h ∈ G, HdOk h
set_option maxRecDepth 100000 in
theorem has_setH {G : List Hd} (hG : ∀ h ∈ G, HdOk h) {x : Hd} (hx : HdOk x) : Maps.has (setH G) (kH x) = true ↔ x ∈ G := by
  unfold setH
  rw [Maps.has_setOf _ _ _ (fun k hk => by
    obtain ⟨g, hg, rfl⟩ := List.mem_map.1 hk
    exact kH_key (hG g hg)), List.any_eq_true]
  constructor
  · rintro ⟨k, hk, e⟩
    obtain ⟨g, hg, rfl⟩ := List.mem_map.1 hk
    rw [← kH_inj (hG g hg) hx (WideAt.sameKey_eq e)]
    exact hg
  · intro h
    exact ⟨kH x, List.mem_map_of_mem h, WideAt.sameKey_self (kH_key hx)⟩
theorem MapH.made (w : World) : MapH (w.alloc (.map #[] 0)) w.heap.size 0 [] := ⟨World.ownsMap_made w _ _ _, by simp⟩
theorem MapH.blk {w w' : World} {b n : Nat} {G : List Hd} (h : MapH w b n G) (k : ∀ es c, w.heap[b]? = some (.map es c) → w'.heap[b]? = some (.map es c)) : MapH w' b n G := by
  obtain ⟨⟨es, clock, hb, r⟩, h2⟩ := h
  exact ⟨⟨es, clock, k _ _ hb, r⟩, h2⟩
theorem MapH.below {w w' : World} {b n : Nat} {G : List Hd} (h : MapH w b n G) (k : RowKit.Below w.heap.size w w') : MapH w' b n G := h.blk fun _ _ e => blk_below e k
theorem MapH.kq {T base : Nat} {X : Nat → Prop} {w w' : World} {b n : Nat} {G : List Hd} (h : MapH w b n G) (k : Kq T base X w w') : MapH w' b n G := h.blk fun _ _ e => k.map e
theorem MapH.lt {w : World} {b n : Nat} {G : List Hd} (h : MapH w b n G) : b < w.heap.size := h.1.lt
theorem MapH.grown {w w' : World} {b n m : Nat} {G : List Hd} {b0 et k : Nat} {v : Value} {xs : List Value} (h : MapH w b n G) (hr : w.ownsRow b0 et k v m xs) (hg : w.grownBy w' v.ownBlock) : MapH w' b n G :=
  h.blk fun es c e => (hg.block b (Array.getElem?_eq_some_iff.1 e).1 (fun q => by
    obtain ⟨cs, hc⟩ := row_type hr q.symm
    rw [e] at hc
    cases hc)).trans e
theorem MapH.other {w w' : World} {b b2 n : Nat} {G : List Hd} (h : MapH w b n G) (hg : w.grownBy w' (some b2)) (hne : b ≠ b2) : MapH w' b n G :=
  h.blk fun es c e => (hg.block b (Array.getElem?_eq_some_iff.1 e).1 (fun q => hne (Option.some.inj q))).trans e

set_option maxRecDepth 100000 in
theorem MapH.no {w : World} {b n : Nat} {G : List Hd} (h : MapH w b n G) {x : Hd} (hx : HdOk x) (hn : x ∉ G) : (Instr.lookup 55 (.map (some b)) (.agg #[.int .i64 x.1, .int .i64 x.2]) false).run Tryd.prog w = .ok (.bool false) w := by
  obtain ⟨v, ps, hrun, hv⟩ := h.1.lookup hdKeyed underlyingMap (zeroB w) (plainElem_bool Tryd.underlying4 false) (keyH hx)
  have hh : Maps.has (setH G) (kH x) = false := by
    cases e : Maps.has (setH G) (kH x) with
    | false => rfl
    | true => exact absurd ((has_setH h.2 hx).1 e) hn
  rw [Maps.atKey_of_not_has hh] at hv
  obtain ⟨c, rfl, e⟩ := elemB_inv hv
  simp only [Prod.mk.injEq, DataW.lit.injEq, Lit.bool.injEq] at e
  rw [hrun, ← e.1]
/-- Behind a store. -/
theorem MapH.put {w' : World} {b n : Nat} {G : List Hd} (hG : ∀ h ∈ G, HdOk h) {x : Hd} (hx : HdOk x) (h : w'.ownsMap Tryd.prog 40 (plainElem Tryd.prog 4) b (n + 1) ((setH G).put (kH x) (.lit (.bool true)))) : MapH w' b (n + 1) (G ++ [x]) := by
  refine ⟨?_, fun h' hm => ?_⟩
  · have e : setH (G ++ [x]) = (setH G).put (kH x) (.lit (.bool true)) := by
      unfold setH
      rw [List.map_append, List.map_singleton, Maps.setOf_snoc]
    rw [e]
    exact h
  · rcases List.mem_append.1 hm with hm | hm
    · exact hG _ hm
    · simp only [List.mem_singleton] at hm
      exact hm ▸ hx

set_option maxRecDepth 100000 in
theorem MapH.seen {G : List Hd} (hG : ∀ h ∈ G, HdOk h) {x : Hd} {kl : Lit} {y : DataW Unit} (hk : keyOf Tryd.prog 40 (.agg #[.int .i64 x.1, .int .i64 x.2]) = some kl) (hat : ∀ z, (setH G).atKey kl z = y) : x ∈ G := by
  obtain ⟨x', e, hx, rfl⟩ := keyH_inv hk
  simp only [Value.agg.injEq, Array.mk.injEq, List.cons.injEq, Value.int.injEq, true_and, and_true] at e
  obtain rfl : x = x' := Prod.ext e.1 e.2
  exact (has_setH hG hx).1 (Maps.has_true_of_atKey hat)
theorem wf64 {n : Int} (h1 : -9223372036854775808 ≤ n) (h2 : n ≤ 9223372036854775807) : (Lit.int .i64 n).wf = true := WalkArith.wf_i64 (by omega)
end Go.Proofs.YthodmicoejnfaaaDoor
