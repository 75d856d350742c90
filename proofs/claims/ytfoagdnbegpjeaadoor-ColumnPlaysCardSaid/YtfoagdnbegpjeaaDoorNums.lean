/-
  append onto a row of the call's own, of any slice that holds a list (nil, empty or not), in one law; numbers.
-/
import Derived.Test.YtfoagdnbegpjeaaDoorKit
import Derived.Deep.Upon
import Derived.Maps.AppendAt
import Derived.OwnWalk
import Derived.Deep.RegionLaw
import Derived.Laws.OwnMore
namespace Go.Proofs.YtfoagdnbegpjeaaDoor
set_option linter.unusedSimpArgs false
set_option linter.unusedVariables false
open Go.RowKit Go.Sort Go.Lib Go.Shelf

/-- What an append of a slice type asks of its types. -/
structure Ap {α : Type} (enc : α → List Value) (st et k : Nat) (z : Value) (bytes : Nat) : Prop where
  ht : Tryd.prog.underlying st = some (.slice et)
  hi : ∃ i, Tryd.prog.info? et = some i ∧ i.zero = some z ∧ i.size = k ∧ i.bytes = bytes
  zs : z.cells.size = k
  k0 : 0 < k
  by32 : bytes ≤ 32
  hk : ∀ x, (enc x).length = k
  h1 : ∀ x, ∀ v ∈ enc x, v.oneCell' = true
theorem apI : Ap encI 27 3 1 (.int .i64 0) 8 :=
  ⟨Tryd.underlying27, info_parts (by kernel_rfl), by decide, by decide, by decide, lenI, oneI⟩

section
variable {α : Type} {enc : α → List Value} {st et k : Nat} {z : Value} {bytes : Nat}

theorem app_run (A : Ap enc st et k z bytes) (ty base : Nat) {w : World} {v vx : Value} {n : Nat} {la lb : List α} (hown : w.ownsRow base et k v n (flat enc la)) (hn : n = la.length) (hX : Sl enc w vx lb) (hlen : la.length + lb.length ≤ 1000000) (hbase : base ≤ w.heap.size) :
    ∃ v' w', (Builtin.append_ #[st, st] ty #[v, vx]).run Tryd.prog w = .ok v' w' ∧ w'.ownsRow base et k v' (la.length + lb.length) (flat enc (la ++ lb)) ∧ w.grownBy w' v.ownBlock ∧ (v' = .slice none 0 0 ↔ v = .slice none 0 0 ∧ lb = []) := by
  subst hn
  obtain ⟨i, hi, hz, hs, hb⟩ := A.hi
  obtain ⟨p, c, rfl, h1, h2, hX⟩ := hX
  by_cases hl : lb = []
  · subst hl
    refine ⟨v, w, ?_, by simpa using hown, ⟨rfl, rfl, rfl, Nat.le_refl _, fun _ _ _ => rfl⟩, by simp⟩
    have hc : ∀ W, (Builtin.firstCells k 0 (.slice p 0 c)).run Tryd.prog W = .ok #[] W := fun W => by
      cases p <;> simp [Builtin.firstCells, loadCells, loadCellsFrom]
    rcases hown.2 with ⟨rfl, h0⟩ | ⟨g, cap, cur, rfl, _, _, hnc, _⟩
    · exact run_append_nothing w st st ty et i A.ht hi none 0 0 (Nat.le_refl _) _ ⟨.inl ⟨et, A.ht⟩, fun w' => by simp [Builtin.lenOf], by rw [hs]; exact hc w, by rw [hs]; exact hc w.drew, by simp, fun u hu => by cases hu⟩
    · exact run_append_nothing w st st ty et i A.ht hi _ _ _ hnc _ ⟨.inl ⟨et, A.ht⟩, fun w' => by simp [Builtin.lenOf], by rw [hs]; exact hc w, by rw [hs]; exact hc w.drew, by simp, fun u hu => by cases hu⟩
  · have hpos : 0 < lb.length := List.length_pos_iff.2 hl
    obtain ⟨g, o, rfl, hg, hcells⟩ := hX hpos
    have hbytes : (la.length + lb.length) * bytes ≤ 140737488355328 := Nat.le_trans (Nat.mul_le_mul hlen A.by32) (by decide)
    obtain ⟨v', w', hr, ho, hgr, hnil, _⟩ := run_append_own_at (P := Tryd.prog) w base st ty et i z k bytes A.ht hi hz hs hb A.zs A.k0 v la.length (flat enc la) hown ⟨g, o, none⟩ lb.length c (flat enc lb) (flat_len A.hk lb)
      (fun j u hu => by rw [Addr.add_lit]; exact hcells j u hu) (flat_one A.h1 lb) (by unfold maxLen; omega) hbytes hbase
    refine ⟨v', w', hr, by rw [flat_append]; exact ho, hgr, hnil.trans ⟨fun h => ?_, fun h => absurd h.2 hl⟩⟩
    exact absurd h.2 (by omega)

theorem wp_app (A : Ap enc st et k z bytes) {w : World} {o : Oper} {a : Act} {K : Act → World → Prop} {Q : Exit → Act → World → Prop} (s x : Operand) (ho : o.op = .call { callee := .builtin .append, args := #[s, x], argTypes := #[st, st] }) (base : Nat)
    {v vx : Value} {n : Nat} {la lb : List α} (hs : a.eval s = v) (hx : a.eval x = vx) (hown : w.ownsRow base et k v n (flat enc la)) (hn : n = la.length) (hX : Sl enc w vx lb) (hlen : la.length + lb.length ≤ 1000000) (hbase : base ≤ w.heap.size)
    (h : ∀ v' w', w'.ownsRow base et k v' (la.length + lb.length) (flat enc (la ++ lb)) → w.grownBy w' v.ownBlock → (v' = .slice none 0 0 ↔ v = .slice none 0 0 ∧ lb = []) → K (a.put o.dst v') w') : o.wp Tryd.prog a w K Q := by
  obtain ⟨v', w', hr, h2, h3, h4⟩ := app_run A o.type base hown hn hX hlen hbase
  unfold Oper.wp execOp
  simp only [ho, resolve, invoke, builtin, Sem.run_bind, Sem.run_pure, Result.andThen_ok, List.map_toArray, List.map_cons, List.map_nil, hs, hx, hr]
  exact h v' w' h2 h3 h4

/-- At the list of a plain region's operations. -/
theorem wpl_app (A : Ap enc st et k z bytes) {w : World} {ops : Array Oper} {rest : List Oper} {o : Oper} {a : Act} {Q : Exit → Act → World → Prop} (hgd : o.guard = none) (s x : Operand) (ho : o.op = .call { callee := .builtin .append, args := #[s, x], argTypes := #[st, st] }) (base : Nat)
    {v vx : Value} {n : Nat} {la lb : List α} (hs : a.eval s = v) (hx : a.eval x = vx) (hown : w.ownsRow base et k v n (flat enc la)) (hn : n = la.length) (hX : Sl enc w vx lb) (hlen : la.length + lb.length ≤ 1000000) (hbase : base ≤ w.heap.size)
    (h : ∀ v' w', w'.ownsRow base et k v' (la.length + lb.length) (flat enc (la ++ lb)) → w.grownBy w' v.ownBlock → (v' = .slice none 0 0 ↔ v = .slice none 0 0 ∧ lb = []) → wpList Tryd.prog ops Q rest (a.put o.dst v') w') : wpList Tryd.prog ops Q (o :: rest) a w :=
  wpList_plain hgd fun _ hK => wp_app A s x ho base hs hx hown hn hX hlen hbase fun v' w' h2 h3 h4 => hK _ _ (h v' w' h2 h3 h4)

/-- At a step of a region that draws its order. -/
theorem step_app (A : Ap enc st et k z bytes) {w : World} {ops : Array Oper} {o : Oper} {a : Act} {K : Act → World → Prop} {Q : Exit → Act → World → Prop} {E : Prop} (hgd : o.guard = none) (s x : Operand) (ho : o.op = .call { callee := .builtin .append, args := #[s, x], argTypes := #[st, st] }) (base : Nat)
    {v vx : Value} {n : Nat} {la lb : List α} (hs : a.eval s = v) (hx : a.eval x = vx) (hown : w.ownsRow base et k v n (flat enc la)) (hn : n = la.length) (hX : Sl enc w vx lb) (hlen : la.length + lb.length ≤ 1000000) (hbase : base ≤ w.heap.size)
    (h : ∀ v' w', w'.ownsRow base et k v' (la.length + lb.length) (flat enc (la ++ lb)) → w.grownBy w' v.ownBlock → (v' = .slice none 0 0 ↔ v = .slice none 0 0 ∧ lb = []) → K (a.put o.dst v') w') :
    if Region.wanted o (yielded ops a.tmps) = true then Oper.wp Tryd.prog o a w K Q else E := by
  have hw : Region.wanted o (yielded ops a.tmps) = true := by simp [Region.wanted, hgd]
  rw [if_pos hw]
  exact wp_app A s x ho base hs hx hown hn hX hlen hbase h

/-- What the call owns, to be read. -/
theorem row_sl [Inhabited α] (hk : ∀ x, (enc x).length = k) {w : World} {base et : Nat} {v : Value} {n : Nat} {l : List α} (h : w.ownsRow base et k v n (flat enc l)) (hn : n = l.length) : Sl enc w v l := (own_of_row hk h hn).sl hk

/-- The form of a value that owns a row and isn't nil. -/
theorem row_form {w : World} {base et : Nat} {v : Value} {n : Nat} {xs : List Value} (h : w.ownsRow base et k v n xs) (hv : v ≠ .slice none 0 0) :
    ∃ g cap, v = .slice (some ⟨g, 0, none⟩) n cap ∧ base ≤ g ∧ g < w.heap.size ∧ n ≤ cap ∧ cap ≤ maxLen := by
  rcases h.2 with ⟨h, _⟩ | ⟨g, cap, cur, rfl, hb, hh, hc, hm, _⟩
  · exact absurd h hv
  · refine ⟨g, cap, rfl, hb, ?_, hc, hm⟩
    rcases Nat.lt_or_ge g w.heap.size with h' | h'
    · exact h'
    · rw [Array.getElem?_eq_none h'] at hh; cases hh

/-- A piece of a slice that holds a list, from its start: 's[:n]'. -/
theorem sl_take (hk : ∀ x, (enc x).length = k) {w : World} {g o cap : Nat} {l : List α} (n : Nat) (hn : n ≤ l.length) (h1 : l.length ≤ cap) (h2 : cap ≤ maxLen) (hg : g < w.heap.size) (hc : ∀ j u, (flat enc l)[j]? = some u → w.cell? ⟨g, o + j, none⟩ = some u) :
    Sl enc w (.slice (some ⟨g, o, none⟩) n cap) (l.take n) := by
  have e : (l.take n).length = n := by simp; omega
  refine ⟨_, cap, by rw [e], by rw [e]; omega, h2, fun _ => ⟨g, o, rfl, hg, fun j u hu => hc j u ?_⟩⟩
  rw [← flat_take hk, List.getElem?_take] at hu
  split at hu
  · exact hu
  · cases hu
/-- A piece of a slice that holds a list, to its end: 's[n:]'. -/
theorem sl_drop (hk : ∀ x, (enc x).length = k) {w : World} {g o cap : Nat} {l : List α} (n : Nat) (hn : n ≤ l.length) (h1 : l.length ≤ cap) (h2 : cap ≤ maxLen) (hg : g < w.heap.size) (hc : ∀ j u, (flat enc l)[j]? = some u → w.cell? ⟨g, o + j, none⟩ = some u) :
    Sl enc w (.slice (some ⟨g, o + n * k, none⟩) (l.length - n) (cap - n)) (l.drop n) := by
  have e : (l.drop n).length = l.length - n := by simp
  refine ⟨_, cap - n, by rw [e], by rw [e]; omega, by omega, fun _ => ⟨g, o + n * k, rfl, hg, fun j u hu => ?_⟩⟩
  rw [← flat_drop hk, List.getElem?_drop] at hu
  rw [Nat.add_assoc]
  exact hc _ u hu
end
theorem Sl.congr {α : Type} {enc : α → List Value} {w : World} {v : Value} {l l' : List α} (h : Sl enc w v l) (e : l = l') : Sl enc w v l' := e ▸ h

/-- The block of a literal, to be read. -/
theorem sl_lit {α : Type} [Inhabited α] {enc : α → List Value} {w : World} {cs : Array Value} {t b : Nat} (l : List α) (hb : b = w.heap.size) (hc : cs.toList = flat enc l) (hm : l.length ≤ maxLen) : Sl enc (w.alloc (.cells cs t)) (.slice (some ⟨b, 0, none⟩) l.length l.length) l := by
  subst hb
  refine ⟨_, l.length, rfl, Nat.le_refl _, hm, fun _ => ⟨w.heap.size, 0, rfl, by simp, fun j u hu => ?_⟩⟩
  rw [World.cell?_alloc_at (w := w) cs t w.heap.size _ rfl, Nat.zero_add]
  rw [← hc] at hu
  simpa using hu
/-- Behind an append onto a row of the call's own: what was there when 'a' was is as it was. -/
theorem grownB {a w w' : World} {e k n : Nat} {v : Value} {xs : List Value} (h : Below a.heap.size a w) (hown : w.ownsRow a.heap.size e k v n xs) (hg : w.grownBy w' v.ownBlock) : Below a.heap.size a w' := h.grown hg h.size (fun j hj => (hown.lt j hj).1)

theorem ret_bool {a b : Bool} (h : a = b) : Ending.returned (.bool a) = Ending.returned (.bool b) := by rw [h]
theorem ret_int {a b : Int} (h : a = b) : Ending.returned (.int .i64 a) = Ending.returned (.int .i64 b) := by rw [h]
theorem flatI (l : List Int) : flat encI l = l.map (Value.int .i64) := by
  induction l with
  | nil => rfl
  | cons x r ih => simp only [flat, List.flatMap_cons] at ih ⊢; rw [ih]; rfl
theorem flatI_get (l : List Int) (j : Nat) (h : j < l.length) : (flat encI l)[j]? = some (.int .i64 l[j]!) := by
  rw [flatI, List.getElem?_map, List.getElem?_eq_getElem h, getElem!_pos l j h]; rfl
theorem take_succ_eq {α : Type} [Inhabited α] [DecidableEq α] (a b : List α) (k : Nat) (hl : a.length = b.length) (hk : k < a.length) (h : a.take k = b.take k) : a.take (k + 1) = b.take (k + 1) ↔ a[k]! = b[k]! := by
  have ea : a.take (k + 1) = a.take k ++ [a[k]] := List.take_succ_eq_append_getElem hk
  have eb : b.take (k + 1) = b.take k ++ [b[k]'(by omega)] := List.take_succ_eq_append_getElem (by omega)
  rw [ea, eb, h, getElem!_pos a k hk, getElem!_pos b k (by omega), List.append_right_inj]
  simp
theorem frontI {w : World} {base et g n cap : Nat} {l : List Int} (h : w.ownsRow base et 1 (.slice (some ⟨g, 0, none⟩) n cap) n (flat encI l)) (hn : n = l.length) (j : Nat) (hj : j ≤ n) :
    w.ownsRow base et 1 (.slice (some ⟨g, 0, none⟩) j cap) j (flat encI (l.take j)) := by
  rcases h.2 with ⟨h', _⟩ | ⟨g', cap', cur, e, hb, hh, hc, hm, hs, ht⟩
  · simp at h'
  · simp only [Value.slice.injEq, Option.some.injEq, Addr.mk.injEq, and_true, true_and] at e
    obtain ⟨rfl, rfl⟩ := e
    refine ⟨by rw [flat_len lenI, List.length_take]; congr 1; omega, .inr ⟨g, cap, cur, rfl, hb, hh, by omega, hm, hs, ?_⟩⟩
    rw [← flat_take lenI, ← ht, List.take_take, Nat.min_eq_left (Nat.mul_le_mul_right 1 hj)]
theorem cellsI {w : World} {base et k g n cap : Nat} {xs : List Value} (h : w.ownsRow base et k (.slice (some ⟨g, 0, none⟩) n cap) n xs) : ∀ j u, xs[j]? = some u → w.cell? ⟨g, 0 + j, none⟩ = some u := fun j u hu => by
  have h1 := (List.getElem?_eq_some_iff.1 hu).1
  rw [Nat.zero_add, h.cellAt j (by rw [← h.1]; exact h1)]
  exact hu
set_option maxHeartbeats 1000000 in
/-- SameInts: two lists of numbers. -/
theorem sameInts_call (la lb : List Int) (va vb : Value) (w : World) (ha : Sl encI w va la) (hb : Sl encI w vb lb) : Calls Tryd.prog 22 #[va, vb] w fun e w' => e = .returned (.bool (decide (la = lb))) ∧ Gr w w' := by
  obtain ⟨pa, ca, rfl, ha1, ha2, ha⟩ := ha
  obtain ⟨pb, cb, rfl, hb1, hb2, hb⟩ := hb
  by_cases hl : la.length = lb.length
  · have hbig : la.length ≤ 9223372036854775807 := by unfold maxLen at ha2; omega
    have HA := Lib.hid ha
    have HB := Lib.hid hb
    clear ha hb ha2 hb2
    go_enter Tryd.func22, Tryd.ntmps22
    rw [← hl]
    go_wp2
    go_loopw [13] (fun i wr => ∃ k : Nat, k ≤ la.length ∧ i = .int .i64 k ∧ Gr w wr ∧ la.take k = lb.take k) (fun i _ => la.length - (intOf i).toNat)
    case atStart => exact ⟨0, Nat.zero_le _, rfl, (by repeat (first | with_reducible exact Gr.refl _ | with_reducible assumption | with_reducible apply Gr.alloc | with_reducible apply Gr.drewN | with_reducible apply Gr.drew | with_reducible apply Gr.grow | (with_reducible refine Gr.trans ?_ (by assumption)))), by simp⟩
    case round =>
      obtain ⟨k, hk, rfl, hg, ht⟩ := hrel
      by_cases hkn : k < la.length
      · obtain ⟨g, o, rfl, hg1, hg2⟩ := HA.out (by omega)
        obtain ⟨g', o', rfl, hg3, hg4⟩ := HB.out (by omega)
        have c1 := atI hg2 hkn
        have d1 := atI hg4 (show k < lb.length by omega)
        replace c1 := Bc hg.below hg1 c1
        replace d1 := Bc hg.below hg3 d1
        have hstep := Lib.hid (take_succ_eq la lb k hl hkn ht)
        have HT := Lib.hid ht
        clear ht hg2 hg4
        generalize hx : la[k]! = x at *
        generalize hy : lb[k]! = y at *
        by_cases hxy : x = y
        · have e : decide (x = y) = true := decide_eq_true hxy
          go_wp2_with fail
          go_region
          go_wp2
          go_roundw
          case measure => simp [intOf]; omega
          case rel => exact ⟨k + 1, by omega, by go_num, (by repeat (first | with_reducible exact Gr.refl _ | with_reducible assumption | with_reducible apply Gr.alloc | with_reducible apply Gr.drewN | with_reducible apply Gr.drew | with_reducible apply Gr.grow | (with_reducible refine Gr.trans ?_ (by assumption)))), hstep.out.2 hxy⟩
        · have e : decide (x = y) = false := decide_eq_false hxy
          have hne : decide (la = lb) = false := decide_eq_false fun h => hxy (hstep.out.1 (by rw [h]))
          go_wp2_with fail
          go_region
          go_wp2
          go_ret
          exact ⟨by rw [hne]; rfl, (by repeat (first | with_reducible exact Gr.refl _ | with_reducible assumption | with_reducible apply Gr.alloc | with_reducible apply Gr.drewN | with_reducible apply Gr.drew | with_reducible apply Gr.grow | (with_reducible refine Gr.trans ?_ (by assumption))))⟩
      · have hkn' : k = la.length := by omega
        have he : la = lb := by
          have := ht
          rwa [hkn', List.take_length, hl, List.take_length] at this
        go_wp2
        go_ret
        exact ⟨by rw [decide_eq_true he]; rfl, (by repeat (first | with_reducible exact Gr.refl _ | with_reducible assumption | with_reducible apply Gr.alloc | with_reducible apply Gr.drewN | with_reducible apply Gr.drew | with_reducible apply Gr.grow | (with_reducible refine Gr.trans ?_ (by assumption))))⟩
  · have hne : decide (la = lb) = false := decide_eq_false fun h => hl (by rw [h])
    have hz : ((la.length : Int) == (lb.length : Int)) = false := by simp; omega
    clear ha hb
    go_enter Tryd.func22, Tryd.ntmps22
    go_wp2
    go_ret
    exact ⟨by rw [hne]; rfl, (by repeat (first | with_reducible exact Gr.refl _ | with_reducible assumption | with_reducible apply Gr.alloc | with_reducible apply Gr.drewN | with_reducible apply Gr.drew | with_reducible apply Gr.grow | (with_reducible refine Gr.trans ?_ (by assumption))))⟩
/-- The four marks behind a list that is to be kept. -/
def marks : List Int := [-91, -92, -93, -94]
set_option maxHeartbeats 2000000 in
set_option maxRecDepth 100000 in
theorem numInts_call (l : List Int) (v : Value) (w : World) (hl : Sl encI w v l) (hlen : l.length ≤ 100000) :
    Calls Tryd.prog 10 #[v] w fun e w' => ∃ g cap, e = .returned (.slice (some ⟨g, 0, none⟩) l.length cap) ∧ w'.ownsRow w.heap.size 3 1 (.slice (some ⟨g, 0, none⟩) (l.length + 4) cap) (l.length + 4) (flat encI (l ++ marks)) ∧ RowKit.Below w.heap.size w w' := by
  obtain ⟨p, cap, rfl, hl1, hl2, hl3⟩ := hl
  have HL := Lib.hid (show Sl encI w (.slice p l.length cap) l from ⟨p, cap, rfl, hl1, hl2, hl3⟩)
  clear hl3
  have hz : (l.length : Int) ≤ 100000 := by omega
  obtain ⟨Z, hZ, hmk⟩ : ∃ Z : Array Value, Z.size = (l.length + 4) * 1 ∧ ∀ W : World, (Instr.makeSlice 27 (.int .i64 0) (.int .i64 ((l.length : Int) + 4))).run Tryd.prog W = .ok (.slice (some ⟨W.heap.size, 0, none⟩) 0 (l.length + 4)) (W.alloc (.cells Z 3)) := by
    obtain ⟨i, hi, hz1, hs1, hb1⟩ := apI.hi
    refine ⟨madeCells (Value.int .i64 0).cells (((l.length : Int) + 4).toNat * i.size), ?_, fun W => ?_⟩
    · rw [size_madeCells, hs1]; congr 1
    · have := run_make (P := Tryd.prog) W 27 3 i (.int .i64 0) apI.ht hi hz1 .i64 .i64 0 ((l.length : Int) + 4) (Int.le_refl _) (by omega) (by rw [hb1]; omega) (by omega)
      have e : ((l.length : Int) + 4).toNat = l.length + 4 := by omega
      rw [e] at this ⊢
      exact this
  have O1 := Lib.hid (show (w.alloc (.cells Z 3)).ownsRow w.heap.size 3 1 (.slice (some ⟨w.heap.size, 0, none⟩) 0 (l.length + 4)) 0 (flat encI []) from World.ownsRow_made w Z (l.length + 4) (Nat.le_refl _) (by unfold maxLen; omega) hZ)
  have A1 := Lib.hid (Ba (Below.refl _ w) (.cells Z 3))
  have S1 := Lib.hid (HL.out.below A1.out)
  clear hZ
  go_enter Tryd.func10, Tryd.ntmps10
  go_wp2_with (first
    | (at_builtin; refine wpl_app apI rfl _ _ rfl w.heap.size (by rfl) (by rfl) O1.out rfl S1.out (by simp; omega) A1.out.size ?_; intro v1 w1 hown1 hgrow1 hnil1; have b3 := grownB A1.out O1.out hgrow1; have N3 := Lib.hid (show v1 ≠ .slice none 0 0 from fun h => by simp [h] at hnil1); have A3 := Lib.hid (Ba b3 (.cells #[.int .i64 (-91), .int .i64 (-92), .int .i64 (-93), .int .i64 (-94)] 3)); have O4 := Lib.hid (hown1.alloc (.cells #[.int .i64 (-91), .int .i64 (-92), .int .i64 (-93), .int .i64 (-94)] 3)); have S4 := Lib.hid (sl_lit (enc := encI) (w := w1) (cs := #[.int .i64 (-91), .int .i64 (-92), .int .i64 (-93), .int .i64 (-94)]) (t := 3) (b := w1.heap.size) marks rfl rfl (by unfold maxLen; simp [marks])); clear hown1 hgrow1 hnil1 b3 O1)
    | (at_builtin; refine wpl_app apI rfl _ _ rfl w.heap.size (by rfl) (by rfl) O4.out (by rw [List.length_append]) S4.out (by rw [List.nil_append]; show l.length + 4 ≤ 1000000; omega) A3.out.size ?_; intro v2 w2 hown2 hgrow2 hnil2; have B5 := Lib.hid (grownB A3.out O4.out hgrow2); obtain ⟨g, cap2, rfl, hbg, hgl, hlc, hcm⟩ := row_form hown2 (fun h => N3.out (hnil2.1 h).1); have hzz : l.length ≤ cap2 := Nat.le_trans (Nat.le_add_right l.length marks.length) hlc; have O5 := Lib.hid hown2; clear hown2 hgrow2 hnil2 hlc hcm))
  go_ret
  refine ⟨g, cap2, rfl, ?_, B5.out⟩
  have := O5.out
  simpa [marks] using this
set_option maxHeartbeats 2000000 in
set_option maxRecDepth 100000 in
theorem keptInts_call (l : List Int) (base g cap : Nat) (vb : Value) (w : World) (hrow : w.ownsRow base 3 1 (.slice (some ⟨g, 0, none⟩) (l.length + 4) cap) (l.length + 4) (flat encI (l ++ marks))) (hb : Sl encI w vb l) (hlen : l.length ≤ 100000) :
    Calls Tryd.prog 14 #[.slice (some ⟨g, 0, none⟩) l.length cap, vb] w fun e w' => e = .returned (.bool true) ∧ Gr w w' := by
  obtain ⟨_, _, hf, hbg, hgl, hlc, hcm⟩ := row_form hrow (by simp)
  simp only [Value.slice.injEq, Option.some.injEq, Addr.mk.injEq, and_true, true_and] at hf
  obtain ⟨rfl, rfl⟩ := hf
  obtain ⟨p, c, rfl, hl1, hl2, hl3⟩ := hb
  have HL := Lib.hid (show Sl encI w (.slice p l.length c) l from ⟨p, c, rfl, hl1, hl2, hl3⟩)
  have hml : cap ≤ 9223372036854775807 := by unfold maxLen at hcm; omega
  have HC := Lib.hid (cellsI hrow)
  have HF : Hid (Sl encI w (.slice (some ⟨g, 0, none⟩) l.length cap) l) := by
    have := row_sl lenI (frontI hrow (by simp [marks]) l.length (by omega)) (by simp)
    rwa [List.take_left] at this
  clear hl3 hrow
  have hz : ¬ (cap : Int) < (l.length : Int) + 4 := by omega
  have hz2 : l.length ≤ cap := by omega
  have hd : decide (l = l) = true := decide_eq_true rfl
  go_enter Tryd.func14, Tryd.ntmps14
  go_wp2_with fail
  refine (sameInts_call l l _ _ w HF.out HL.out).mono ?_
  rintro e w1 ⟨rfl, hg1⟩
  have HG := Lib.hid hg1
  have CM : Hid (∀ j, j < 4 → w1.cell? ⟨g, l.length + j, none⟩ = some (.int .i64 (-91 - (j : Int)))) := fun j hj => by
    have h1 : (flat encI (l ++ marks))[l.length + j]? = some (.int .i64 (-91 - (j : Int))) := by
      rw [flatI_get _ _ (by simp [marks]; omega), getElem!_pos _ _ (by simp [marks]; omega), List.getElem_append_right (by omega)]
      have : j = 0 ∨ j = 1 ∨ j = 2 ∨ j = 3 := by omega
      rcases this with rfl | rfl | rfl | rfl <;> simp [marks]
    have h2 := HC.out _ _ h1
    rw [Nat.zero_add] at h2
    exact Bc HG.out.below hgl h2
  clear hg1 hd
  go_wp2_with fail
  go_loopw [6] (fun i wr => ∃ j : Nat, j ≤ 4 ∧ i = .int .i64 j ∧ wr = w1) (fun i _ => 4 - (intOf i).toNat)
  case atStart => exact ⟨0, Nat.zero_le _, rfl, rfl⟩
  case round =>
    obtain ⟨j, hj, rfl, rfl⟩ := hrel
    by_cases hj4 : j < 4
    · have hjz : (j : Int) < 4 := by omega
      have c1 := CM.out j hj4
      have hti : ((l.length : Int) + (j : Int)).toNat = l.length + j := by omega
      have hlt : (l.length : Int) + (j : Int) < (cap : Int) := by omega
      have hln : l.length + j < cap := by omega
      go_wp2
      go_roundw
      case measure => simp [intOf]; omega
      case rel => exact ⟨j + 1, by omega, by go_num, trivial⟩
    · have hjz : ¬ (j : Int) < 4 := by omega
      go_wp2
      go_ret
      exact ⟨rfl, HG.out⟩
end Go.Proofs.YtfoagdnbegpjeaaDoor
