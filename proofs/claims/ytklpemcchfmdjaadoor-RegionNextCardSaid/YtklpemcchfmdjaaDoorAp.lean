/-
  append onto a row of the call's own, of any slice that holds a list (nil, empty or not), in one law; numbers.
-/
import Derived.Test.YtklpemcchfmdjaaDoorKit
import Derived.Deep.Upon
import Derived.Maps.AppendAt
import Derived.OwnWalk
import Derived.Deep.RegionLaw
import Derived.Laws.OwnMore
namespace Go.Proofs.YtklpemcchfmdjaaDoor
set_option linter.unusedSimpArgs false
set_option linter.unusedVariables false
open Go.RowKit Go.Sort Go.Lib Go.Shelf

/-- What an append of a slice type asks of its types. -/
structure Ap {α : Type} (enc : α → List Value) (st et k : Nat) (z : Value) (bytes : Nat) : Prop where
  ht : Tryd.prog.underlying st = some (.slice et)
  hi : ∃ i, Tryd.prog.info? et = some i ∧ i.zero = some z ∧ i.size = k ∧ i.bytes = bytes
  zs : z.cells.size = k
  k0 : 0 < k
  by32 : bytes ≤ 1000
  hk : ∀ x, (enc x).length = k
  h1 : ∀ x, ∀ v ∈ enc x, v.oneCell' = true
theorem apI : Ap encI 35 3 1 (.int .i64 0) 8 :=
  ⟨Tryd.underlying35, info_parts (by kernel_rfl), by decide, by decide, by decide, lenI, oneI⟩

section
variable {α : Type} {enc : α → List Value} {st et k : Nat} {z : Value} {bytes : Nat}

theorem app_run (A : Ap enc st et k z bytes) (ty base : Nat) {w : World} {v vx : Value} {n : Nat} {la lb : List α} (hown : w.ownsRow base et k v n (flat enc la)) (hn : n = la.length) (hX : Sl enc w vx lb) (hlen : la.length + lb.length ≤ 1000000) (hbase : base ≤ w.heap.size) :
    ∃ v' w', (Builtin.append_ #[st, st] ty #[v, vx]).run Tryd.prog w = .ok v' w' ∧ w'.ownsRow base et k v' (la.length + lb.length) (flat enc (la ++ lb)) ∧ w.grownBy w' v.ownBlock ∧ (v' = .slice none 0 0 ↔ v = .slice none 0 0 ∧ lb = []) := by
  subst hn
  obtain ⟨i, hi, hz, hs, hb⟩ := A.hi
  obtain ⟨p, c, rfl, h1, h2, hX⟩ := hX
  by_cases hl : lb = []
  · subst hl
    refine ⟨v, w, ?_, by simpa using hown, ⟨rfl, rfl, rfl, Nat.le_refl _, fun _ _ _ => rfl⟩, by simp⟩
    have hc : ∀ W, (Builtin.firstCells k 0 (.slice p 0 c)).run Tryd.prog W = .ok #[] W := fun W => by
      cases p <;> simp [Builtin.firstCells, loadCells, loadCellsFrom]
    rcases hown.2 with ⟨rfl, h0⟩ | ⟨g, cap, cur, rfl, _, _, hnc, _⟩
    · exact run_append_nothing w st st ty et i A.ht hi none 0 0 (Nat.le_refl _) _ ⟨.inl ⟨et, A.ht⟩, fun w' => by simp [Builtin.lenOf], by rw [hs]; exact hc w, by rw [hs]; exact hc w.drew, by simp, fun u hu => by cases hu⟩
    · exact run_append_nothing w st st ty et i A.ht hi _ _ _ hnc _ ⟨.inl ⟨et, A.ht⟩, fun w' => by simp [Builtin.lenOf], by rw [hs]; exact hc w, by rw [hs]; exact hc w.drew, by simp, fun u hu => by cases hu⟩
  · have hpos : 0 < lb.length := List.length_pos_iff.2 hl
    obtain ⟨g, o, rfl, hg, hcells⟩ := hX hpos
    have hbytes : (la.length + lb.length) * bytes ≤ 140737488355328 := Nat.le_trans (Nat.mul_le_mul hlen A.by32) (by decide)
    obtain ⟨v', w', hr, ho, hgr, hnil, _⟩ := run_append_own_at (P := Tryd.prog) w base st ty et i z k bytes A.ht hi hz hs hb A.zs A.k0 v la.length (flat enc la) hown ⟨g, o, none⟩ lb.length c (flat enc lb) (flat_len A.hk lb)
      (fun j u hu => by rw [Addr.add_lit]; exact hcells j u hu) (flat_one A.h1 lb) (by unfold maxLen; omega) hbytes hbase
    refine ⟨v', w', hr, by rw [flat_append]; exact ho, hgr, hnil.trans ⟨fun h => ?_, fun h => absurd h.2 hl⟩⟩
    exact absurd h.2 (by omega)

theorem wp_app (A : Ap enc st et k z bytes) {w : World} {o : Oper} {a : Act} {K : Act → World → Prop} {Q : Exit → Act → World → Prop} (s x : Operand) (ho : o.op = .call { callee := .builtin .append, args := #[s, x], argTypes := #[st, st] }) (base : Nat)
    {v vx : Value} {n : Nat} {la lb : List α} (hs : a.eval s = v) (hx : a.eval x = vx) (hown : w.ownsRow base et k v n (flat enc la)) (hn : n = la.length) (hX : Sl enc w vx lb) (hlen : la.length + lb.length ≤ 1000000) (hbase : base ≤ w.heap.size)
    (h : ∀ v' w', w'.ownsRow base et k v' (la.length + lb.length) (flat enc (la ++ lb)) → w.grownBy w' v.ownBlock → (v' = .slice none 0 0 ↔ v = .slice none 0 0 ∧ lb = []) → K (a.put o.dst v') w') : o.wp Tryd.prog a w K Q := by
  obtain ⟨v', w', hr, h2, h3, h4⟩ := app_run A o.type base hown hn hX hlen hbase
  unfold Oper.wp execOp
  simp only [ho, resolve, invoke, builtin, Sem.run_bind, Sem.run_pure, Result.andThen_ok, List.map_toArray, List.map_cons, List.map_nil, hs, hx, hr]
  exact h v' w' h2 h3 h4

/-- At the list of a plain region's operations. -/
theorem wpl_app (A : Ap enc st et k z bytes) {w : World} {ops : Array Oper} {rest : List Oper} {o : Oper} {a : Act} {Q : Exit → Act → World → Prop} (hgd : o.guard = none) (s x : Operand) (ho : o.op = .call { callee := .builtin .append, args := #[s, x], argTypes := #[st, st] }) (base : Nat)
    {v vx : Value} {n : Nat} {la lb : List α} (hs : a.eval s = v) (hx : a.eval x = vx) (hown : w.ownsRow base et k v n (flat enc la)) (hn : n = la.length) (hX : Sl enc w vx lb) (hlen : la.length + lb.length ≤ 1000000) (hbase : base ≤ w.heap.size)
    (h : ∀ v' w', w'.ownsRow base et k v' (la.length + lb.length) (flat enc (la ++ lb)) → w.grownBy w' v.ownBlock → (v' = .slice none 0 0 ↔ v = .slice none 0 0 ∧ lb = []) → wpList Tryd.prog ops Q rest (a.put o.dst v') w') : wpList Tryd.prog ops Q (o :: rest) a w :=
  wpList_plain hgd fun _ hK => wp_app A s x ho base hs hx hown hn hX hlen hbase fun v' w' h2 h3 h4 => hK _ _ (h v' w' h2 h3 h4)

/-- At a step of a region that draws its order. -/
theorem step_app (A : Ap enc st et k z bytes) {w : World} {ops : Array Oper} {o : Oper} {a : Act} {K : Act → World → Prop} {Q : Exit → Act → World → Prop} {E : Prop} (hgd : o.guard = none) (s x : Operand) (ho : o.op = .call { callee := .builtin .append, args := #[s, x], argTypes := #[st, st] }) (base : Nat)
    {v vx : Value} {n : Nat} {la lb : List α} (hs : a.eval s = v) (hx : a.eval x = vx) (hown : w.ownsRow base et k v n (flat enc la)) (hn : n = la.length) (hX : Sl enc w vx lb) (hlen : la.length + lb.length ≤ 1000000) (hbase : base ≤ w.heap.size)
    (h : ∀ v' w', w'.ownsRow base et k v' (la.length + lb.length) (flat enc (la ++ lb)) → w.grownBy w' v.ownBlock → (v' = .slice none 0 0 ↔ v = .slice none 0 0 ∧ lb = []) → K (a.put o.dst v') w') :
    if Region.wanted o (yielded ops a.tmps) = true then Oper.wp Tryd.prog o a w K Q else E := by
  have hw : Region.wanted o (yielded ops a.tmps) = true := by simp [Region.wanted, hgd]
  rw [if_pos hw]
  exact wp_app A s x ho base hs hx hown hn hX hlen hbase h

/-- What the call owns, to be read. -/
theorem row_sl [Inhabited α] (hk : ∀ x, (enc x).length = k) {w : World} {base et : Nat} {v : Value} {n : Nat} {l : List α} (h : w.ownsRow base et k v n (flat enc l)) (hn : n = l.length) : Sl enc w v l := (own_of_row hk h hn).sl hk

/-- The form of a value that owns a row and isn't nil. -/
theorem row_form {w : World} {base et : Nat} {v : Value} {n : Nat} {xs : List Value} (h : w.ownsRow base et k v n xs) (hv : v ≠ .slice none 0 0) :
    ∃ g cap, v = .slice (some ⟨g, 0, none⟩) n cap ∧ base ≤ g ∧ g < w.heap.size ∧ n ≤ cap ∧ cap ≤ maxLen := by
  rcases h.2 with ⟨h, _⟩ | ⟨g, cap, cur, rfl, hb, hh, hc, hm, _⟩
  · exact absurd h hv
  · refine ⟨g, cap, rfl, hb, ?_, hc, hm⟩
    rcases Nat.lt_or_ge g w.heap.size with h' | h'
    · exact h'
    · rw [Array.getElem?_eq_none h'] at hh; cases hh

/-- A piece of a slice that holds a list, from its start: 's[:n]'. -/
theorem sl_take (hk : ∀ x, (enc x).length = k) {w : World} {g o cap : Nat} {l : List α} (n : Nat) (hn : n ≤ l.length) (h1 : l.length ≤ cap) (h2 : cap ≤ maxLen) (hg : g < w.heap.size) (hc : ∀ j u, (flat enc l)[j]? = some u → w.cell? ⟨g, o + j, none⟩ = some u) :
    Sl enc w (.slice (some ⟨g, o, none⟩) n cap) (l.take n) := by
  have e : (l.take n).length = n := by simp; omega
  refine ⟨_, cap, by rw [e], by rw [e]; omega, h2, fun _ => ⟨g, o, rfl, hg, fun j u hu => hc j u ?_⟩⟩
  rw [← flat_take hk, List.getElem?_take] at hu
  split at hu
  · exact hu
  · cases hu
/-- A piece of a slice that holds a list, to its end: 's[n:]'. -/
theorem sl_drop (hk : ∀ x, (enc x).length = k) {w : World} {g o cap : Nat} {l : List α} (n : Nat) (hn : n ≤ l.length) (h1 : l.length ≤ cap) (h2 : cap ≤ maxLen) (hg : g < w.heap.size) (hc : ∀ j u, (flat enc l)[j]? = some u → w.cell? ⟨g, o + j, none⟩ = some u) :
    Sl enc w (.slice (some ⟨g, o + n * k, none⟩) (l.length - n) (cap - n)) (l.drop n) := by
  have e : (l.drop n).length = l.length - n := by simp
  refine ⟨_, cap - n, by rw [e], by rw [e]; omega, by omega, fun _ => ⟨g, o + n * k, rfl, hg, fun j u hu => ?_⟩⟩
  rw [← flat_drop hk, List.getElem?_drop] at hu
  rw [Nat.add_assoc]
  exact hc _ u hu
end
theorem Sl.congr {α : Type} {enc : α → List Value} {w : World} {v : Value} {l l' : List α} (h : Sl enc w v l) (e : l = l') : Sl enc w v l' := e ▸ h

/-- The block of a literal, to be read. -/
theorem sl_lit {α : Type} [Inhabited α] {enc : α → List Value} {w : World} {cs : Array Value} {t b : Nat} (l : List α) (hb : b = w.heap.size) (hc : cs.toList = flat enc l) (hm : l.length ≤ maxLen) : Sl enc (w.alloc (.cells cs t)) (.slice (some ⟨b, 0, none⟩) l.length l.length) l := by
  subst hb
  refine ⟨_, l.length, rfl, Nat.le_refl _, hm, fun _ => ⟨w.heap.size, 0, rfl, by simp, fun j u hu => ?_⟩⟩
  rw [World.cell?_alloc_at (w := w) cs t w.heap.size _ rfl, Nat.zero_add]
  rw [← hc] at hu
  simpa using hu
/-- Behind an append onto a row of the call's own: what was there when 'a' was is as it was. -/
theorem grownB {a w w' : World} {e k n : Nat} {v : Value} {xs : List Value} (h : Below a.heap.size a w) (hown : w.ownsRow a.heap.size e k v n xs) (hg : w.grownBy w' v.ownBlock) : Below a.heap.size a w' := h.grown hg h.size (fun j hj => (hown.lt j hj).1)

theorem ret_bool {a b : Bool} (h : a = b) : Ending.returned (.bool a) = Ending.returned (.bool b) := by rw [h]
theorem ret_int {a b : Int} (h : a = b) : Ending.returned (.int .i64 a) = Ending.returned (.int .i64 b) := by rw [h]
theorem flatI (l : List Int) : flat encI l = l.map (Value.int .i64) := by
  induction l with
  | nil => rfl
  | cons x r ih => simp only [flat, List.flatMap_cons] at ih ⊢; rw [ih]; rfl
theorem flatI_get (l : List Int) (j : Nat) (h : j < l.length) : (flat encI l)[j]? = some (.int .i64 l[j]!) := by
  rw [flatI, List.getElem?_map, List.getElem?_eq_getElem h, getElem!_pos l j h]; rfl
theorem take_succ_eq {α : Type} [Inhabited α] [DecidableEq α] (a b : List α) (k : Nat) (hl : a.length = b.length) (hk : k < a.length) (h : a.take k = b.take k) : a.take (k + 1) = b.take (k + 1) ↔ a[k]! = b[k]! := by
  have ea : a.take (k + 1) = a.take k ++ [a[k]] := List.take_succ_eq_append_getElem hk
  have eb : b.take (k + 1) = b.take k ++ [b[k]'(by omega)] := List.take_succ_eq_append_getElem (by omega)
  rw [ea, eb, h, getElem!_pos a k hk, getElem!_pos b k (by omega), List.append_right_inj]
  simp
theorem frontI {w : World} {base et g n cap : Nat} {l : List Int} (h : w.ownsRow base et 1 (.slice (some ⟨g, 0, none⟩) n cap) n (flat encI l)) (hn : n = l.length) (j : Nat) (hj : j ≤ n) :
    w.ownsRow base et 1 (.slice (some ⟨g, 0, none⟩) j cap) j (flat encI (l.take j)) := by
  rcases h.2 with ⟨h', _⟩ | ⟨g', cap', cur, e, hb, hh, hc, hm, hs, ht⟩
  · simp at h'
  · simp only [Value.slice.injEq, Option.some.injEq, Addr.mk.injEq, and_true, true_and] at e
    obtain ⟨rfl, rfl⟩ := e
    refine ⟨by rw [flat_len lenI, List.length_take]; congr 1; omega, .inr ⟨g, cap, cur, rfl, hb, hh, by omega, hm, hs, ?_⟩⟩
    rw [← flat_take lenI, ← ht, List.take_take, Nat.min_eq_left (Nat.mul_le_mul_right 1 hj)]
theorem cellsI {w : World} {base et k g n cap : Nat} {xs : List Value} (h : w.ownsRow base et k (.slice (some ⟨g, 0, none⟩) n cap) n xs) : ∀ j u, xs[j]? = some u → w.cell? ⟨g, 0 + j, none⟩ = some u := fun j u hu => by
  have h1 := (List.getElem?_eq_some_iff.1 hu).1
  rw [Nat.zero_add, h.cellAt j (by rw [← h.1]; exact h1)]
  exact hu
end Go.Proofs.YtklpemcchfmdjaaDoor
