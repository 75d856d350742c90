import Derived.Test.YtahichjiphjapaaGreatDoorZ0
import Derived.Maps.RangeWalk
import Derived.Maps.Views
import Derived.Maps.OwnOps
import Derived.Maps.OwnSet
import Derived.DeepKeys5
import Derived.Test.YtahichjiphjapaaGreatDoorZ3
import Derived.Test.YtahichjiphjapaaGreatDoorZ24

/-
  Maps of any keys and elements by a function: what is looked up, put, deleted, counted, ranged over. Handles leading to yes or no.
-/
namespace Go.Proofs.YtahichjiphjapaaGreatDoor
set_option linter.unusedSimpArgs false
set_option linter.unusedVariables false
open Go.RowKit Go.Sort Go.Lib Go.Shelf

/-- What is to be known of a map's type: keys of κ, elements of ε. -/
structure MpT (k e t : TypeId) {κ ε : Type} (mk : κ → Value) (lit : κ → Lit) (ok : κ → Prop) (vl : ε → Value) (dt : ε → DataW Unit) (zr : ε) (R : Value → Option (DataW Unit × List MemPlace)) : Prop where
  K : Maps.Keyed Tryz.prog k
  ht : Tryz.prog.underlying t = some (.map k e)
  key : ∀ x, ok x → keyOf Tryz.prog k (mk x) = some (lit x)
  inv : ∀ v l, keyOf Tryz.prog k v = some l → ∃ x, v = mk x ∧ l = lit x ∧ ok x
  inj : ∀ x y, ok x → ok y → lit x = lit y → x = y
  zero : ∀ w, (zeroValue e).run Tryz.prog w = .ok (vl zr) w
  rmk : ∀ o, R (vl o) = some (dt o, [])
  rinv : ∀ v d ps, R v = some (d, ps) → ∃ o, v = vl o ∧ d = dt o
  dinj : ∀ a b, dt a = dt b → a = b

/-- Block b is a map of just c entries, in which each key leads where f says. -/
def MapG {κ ε : Type} (k : TypeId) (lit : κ → Lit) (ok : κ → Prop) (dt : ε → DataW Unit) (zr : ε) (R : Value → Option (DataW Unit × List MemPlace)) (w : World) (b c : Nat) (f : κ → Option ε) : Prop :=
  ∃ D : DataW Unit, w.ownsMap Tryz.prog k R b c D ∧ Maps.size D = c ∧ ∀ x, ok x → D.atKey (lit x) (dt zr) = dt ((f x).getD zr) ∧ Maps.has D (lit x) = (f x).isSome

section
variable {k e t : TypeId} {κ ε : Type} {mk : κ → Value} {lit : κ → Lit} {ok : κ → Prop} {vl : ε → Value} {dt : ε → DataW Unit} {zr : ε} {R : Value → Option (DataW Unit × List MemPlace)}
variable {w w' : World} {b c : Nat} {f : κ → Option ε}

theorem MapG.made (w : World) : MapG k lit ok dt zr R (w.alloc (.map #[] 0)) w.heap.size 0 (fun _ => none) := ⟨_, World.ownsMap_made w _ _ _, rfl, fun s _ => ⟨rfl, rfl⟩⟩
theorem MapG.congr {g : κ → Option ε} (h : MapG k lit ok dt zr R w b c f) (e : ∀ s, f s = g s) : MapG k lit ok dt zr R w b c g := by
  obtain ⟨D, h1, h2, h3⟩ := h
  exact ⟨D, h1, h2, fun s hs => by rw [← e]; exact h3 s hs⟩
theorem MapG.cnt {c' : Nat} (h : MapG k lit ok dt zr R w b c f) (e : c = c') : MapG k lit ok dt zr R w b c' f := e ▸ h
theorem MapG.lt (h : MapG k lit ok dt zr R w b c f) : b < w.heap.size := h.choose_spec.1.lt
theorem MapG.is (h : MapG k lit ok dt zr R w b c f) : ∃ es c', w.heap[b]? = some (.map es c') := by
  obtain ⟨D, ⟨es, c, hb, _⟩, _⟩ := h
  exact ⟨es, c, hb⟩
theorem MapG.blk (h : MapG k lit ok dt zr R w b c f) (q : w'.heap[b]? = w.heap[b]?) : MapG k lit ok dt zr R w' b c f := by
  obtain ⟨D, ⟨es, clock, hb, r⟩, h2⟩ := h
  exact ⟨D, ⟨es, clock, q.trans hb, r⟩, h2⟩
theorem MapG.below (h : MapG k lit ok dt zr R w b c f) (q : RowKit.Below w.heap.size w w') : MapG k lit ok dt zr R w' b c f := h.blk (q.block b h.lt)
theorem MapG.kept {M : Nat → Prop} (h : MapG k lit ok dt zr R w b c f) (q : Tch M w w') (hb : ¬ M b) : MapG k lit ok dt zr R w' b c f := h.blk (q.block b h.lt hb)
theorem shrink_own {D : DataW Unit} {n : Nat} (h : w.ownsMap Tryz.prog k R b n D) : w.ownsMap Tryz.prog k R b (Maps.size D) D := by
  obtain ⟨es, clock, hb, F, hs, hD⟩ := h
  exact ⟨es, clock, hb, F, by rw [hD]; simp [Maps.size, length_sorted], hD⟩
/-- m[x]. -/
theorem MapG.look (T : MpT k e t mk lit ok vl dt zr R) (h : MapG k lit ok dt zr R w b c f) (x : κ) (hx : ok x) : (Instr.lookup t (.map (some b)) (mk x) false).run Tryz.prog w = .ok (vl ((f x).getD zr)) w := by
  obtain ⟨D, h1, _, h3⟩ := h
  obtain ⟨v, ps, hr, hv⟩ := h1.lookup T.K T.ht (T.zero w) (T.rmk zr) (T.key x hx)
  obtain ⟨o, rfl, ho⟩ := T.rinv _ _ _ hv
  rw [(h3 x hx).1] at ho
  rw [T.dinj _ _ ho]
  exact hr
/-- m[x], and whether it is there. -/
theorem MapG.look2 (T : MpT k e t mk lit ok vl dt zr R) (h : MapG k lit ok dt zr R w b c f) (x : κ) (hx : ok x) : (Instr.lookup t (.map (some b)) (mk x) true).run Tryz.prog w = .ok (.tuple #[vl ((f x).getD zr), .bool (f x).isSome]) w := by
  obtain ⟨D, h1, _, h3⟩ := h
  obtain ⟨v, ps, hr, hv⟩ := h1.look_ok T.K T.ht (T.zero w) (T.rmk zr) (T.key x hx)
  obtain ⟨o, rfl, ho⟩ := T.rinv _ _ _ hv
  rw [(h3 x hx).1] at ho
  rw [T.dinj _ _ ho, ← (h3 x hx).2]
  exact hr
/-- len(m). -/
theorem MapG.len (T : MpT k e t mk lit ok vl dt zr R) (h : MapG k lit ok dt zr R w b c f) (ty : TypeId) : (Builtin.len_ #[t] ty #[.map (some b)]).run Tryz.prog w = .ok (.int .i64 c) w := by
  obtain ⟨D, h1, h2, _⟩ := h
  rw [← h2]
  exact h1.len T.ht ty
/-- m[x] = y. -/
theorem MapG.put [DecidableEq κ] (T : MpT k e t mk lit ok vl dt zr R) (h : MapG k lit ok dt zr R w b c f) (hc : c < 100000) (x : κ) (hx : ok x) (y : ε) :
    ∃ w', (Instr.mapUpdate t (.map (some b)) (mk x) (vl y)).run Tryz.prog w = .ok () w' ∧ MapG k lit ok dt zr R w' b (if (f x).isSome then c else c + 1) (fun z => if z = x then some y else f z) ∧ w.grownBy w' (some b) := by
  obtain ⟨D, h1, h2, h3⟩ := h
  obtain ⟨w', hr, ho, hg⟩ := h1.update T.K T.ht (by unfold maxLen; omega) (T.key x hx) (T.rmk y)
  have hs : Maps.size (D.put (lit x) (dt y)) = if (f x).isSome then c else c + 1 := by
    rw [Maps.size_put (h1.tidy T.K), (h3 x hx).2, h2]
  refine ⟨w', hr, ⟨_, hs ▸ shrink_own ho, hs, fun z hz => ?_⟩, hg⟩
  by_cases q : z = x
  · subst q
    simp only [if_true]
    exact ⟨Maps.atKey_put_same h1.isMap (T.K.key (T.key z hz)) _ _, Maps.has_put_same h1.isMap (T.K.key (T.key z hz)) _⟩
  · simp only [if_neg q]
    have hne : lit z ≠ lit x := fun q' => q (T.inj z x hz hx q')
    rw [Maps.atKey_put_other hne, Maps.has_put_other hne]
    exact h3 z hz
/-- delete(m, x). -/
theorem MapG.del [DecidableEq κ] (T : MpT k e t mk lit ok vl dt zr R) (h : MapG k lit ok dt zr R w b c f) (x : κ) (hx : ok x) (ty : TypeId) :
    ∃ w', (Builtin.delete_ #[t, k] ty #[.map (some b), mk x]).run Tryz.prog w = .ok (.tuple #[]) w' ∧ MapG k lit ok dt zr R w' b (if (f x).isSome then c - 1 else c) (fun z => if z = x then none else f z) ∧ w.grownBy w' (some b) := by
  obtain ⟨D, h1, h2, h3⟩ := h
  obtain ⟨w', hr, ho, hg⟩ := h1.drop T.K T.ht (T.key x hx) ty
  have hs : Maps.size (D.del (lit x)) = if (f x).isSome then c - 1 else c := by
    have := Maps.size_del (k := lit x) (h1.tidy T.K)
    rw [(h3 x hx).2, h2] at this
    cases q : (f x).isSome with
    | true => rw [q] at this; simp only [if_true] at this ⊢; omega
    | false => rw [q] at this; simpa using this
  refine ⟨w', hr, ⟨_, hs ▸ shrink_own ho, hs, fun z hz => ?_⟩, hg.grown⟩
  by_cases q : z = x
  · subst q
    simp only [if_true]
    exact ⟨Maps.atKey_del_same _, Maps.has_del_same⟩
  · simp only [if_neg q]
    have hne : lit z ≠ lit x := fun q' => q (T.inj z x hz hx q')
    rw [Maps.atKey_del_other hne, Maps.has_del_other hne]
    exact h3 z hz

/-! ### The range. -/
/-- The loop over the map at b under way, its iterator at r: which keys are still to come. -/
def RngG {κ ε : Type} (k : TypeId) (lit : κ → Lit) (ok : κ → Prop) (dt : ε → DataW Unit) (zr : ε) (R : Value → Option (DataW Unit × List MemPlace)) (w : World) (b r c : Nat) (f : κ → Option ε) (left : κ → Bool) (cnt : Nat) : Prop :=
  ∃ (D : DataW Unit) (lf : Lit → Bool), w.ranges Tryz.prog k R b r c D lf cnt ∧ Maps.size D = c ∧ (∀ x, ok x → D.atKey (lit x) (dt zr) = dt ((f x).getD zr) ∧ Maps.has D (lit x) = (f x).isSome) ∧ ∀ x, ok x → lf (lit x) = left x ∧ (left x = true → (f x).isSome = true)
theorem RngG.map {r cnt : Nat} {left : κ → Bool} (h : RngG k lit ok dt zr R w b r c f left cnt) : MapG k lit ok dt zr R w b c f := by
  obtain ⟨D, lf, h1, h2, h3, _⟩ := h
  exact ⟨D, h1.owns, h2, h3⟩
theorem RngG.lt {r cnt : Nat} {left : κ → Bool} (h : RngG k lit ok dt zr R w b r c f left cnt) : r < w.heap.size := h.choose_spec.choose_spec.1.lt
theorem RngG.left_eq {r cnt : Nat} {left : κ → Bool} (h : RngG k lit ok dt zr R w b r c f left cnt) : w.rangeLeft b r = cnt := h.choose_spec.choose_spec.1.left_eq
theorem RngG.ne {r cnt : Nat} {left : κ → Bool} (h : RngG k lit ok dt zr R w b r c f left cnt) : r ≠ b := h.choose_spec.choose_spec.1.ne
theorem RngG.kept {r cnt : Nat} {left : κ → Bool} (h : RngG k lit ok dt zr R w b r c f left cnt) {M : Nat → Prop} (t : Tch M w w') (hb : ¬ M b) (hr : ¬ M r) : RngG k lit ok dt zr R w' b r c f left cnt := by
  obtain ⟨D, lf, h1, h2, h3⟩ := h
  have hbl := h1.owns.lt
  have hrl := h1.lt
  obtain ⟨es, clock, since, seen, c0, e1, F, hs, hD, e2, rest⟩ := h1
  exact ⟨D, lf, ⟨es, clock, since, seen, c0, (t.block b hbl hb).trans e1, F, hs, hD, (t.block r hrl hr).trans e2, rest⟩, h2, h3⟩
/-- 'range m'. -/
theorem MapG.range (T : MpT k e t mk lit ok vl dt zr R) (h : MapG k lit ok dt zr R w b c f) : ∃ w' cnt, (Instr.range t (.map (some b))).run Tryz.prog w = .ok (.pointer (some ⟨w.heap.size, 0, none⟩)) w' ∧ RngG k lit ok dt zr R w' b w.heap.size c f (fun x => (f x).isSome) cnt ∧ w.grownBy w' none ∧ w'.heap.size = w.heap.size + 1 ∧ cnt ≤ c := by
  obtain ⟨D, h1, h2, h3⟩ := h
  obtain ⟨w', hrun, r1, r2, r3⟩ := h1.range T.K T.ht
  exact ⟨w', _, hrun, ⟨D, _, r1, h2, h3, fun x hx => ⟨(h3 x hx).2, fun q => q⟩⟩, r2, r3, h1.size_le⟩
/-- The step. -/
theorem RngG.next [DecidableEq κ] (T : MpT k e t mk lit ok vl dt zr R) {r cnt : Nat} {left : κ → Bool} (h : RngG k lit ok dt zr R w b r c f left cnt) (ty : TypeId) :
    ((∀ x, ok x → left x = false) ∧ (Instr.next (.pointer (some ⟨r, 0, none⟩)) false ty).run Tryz.prog w = .ok (.tuple #[.bool false]) w) ∨
    ∃ x y w' cnt', ok x ∧ left x = true ∧ f x = some y ∧ (Instr.next (.pointer (some ⟨r, 0, none⟩)) false ty).run Tryz.prog w = .ok (.tuple #[.bool true, mk x, vl y]) w' ∧
      RngG k lit ok dt zr R w' b r c f (fun z => left z && !decide (z = x)) cnt' ∧ cnt' < cnt ∧ w.grownBy w' (some r) ∧ w'.heap.size = w.heap.size ∧ (Instr.entry (.pointer (some ⟨r, 0, none⟩))).run Tryz.prog w' = .ok (.tuple #[mk x, vl y]) w' := by
  obtain ⟨D, lf, h1, h2, h5, h3⟩ := h
  rcases h1.next T.K ty with ⟨_, hl, hrun⟩ | ⟨key, v, kl, y, w', cnt', hkey, hlk, hv, hat, hrun, hrg, hlt, hgr, hsz, hen⟩
  · exact .inl ⟨fun x hx => by rw [← (h3 x hx).1, hl], hrun⟩
  · obtain ⟨x, rfl, rfl, hx⟩ := T.inv _ _ hkey
    obtain ⟨yd, yp⟩ := y
    obtain ⟨o, rfl, rfl⟩ := T.rinv _ _ _ hv
    have e := hat (dt zr)
    rw [(h5 x hx).1] at e
    have e2 := T.dinj _ _ e
    have hl : left x = true := by rw [← (h3 x hx).1]; exact hlk
    have hs := (h3 x hx).2 hl
    obtain ⟨o', ho⟩ := Option.isSome_iff_exists.1 hs
    rw [ho] at e2
    obtain rfl : o' = o := e2
    refine .inr ⟨x, o', w', cnt', hx, hl, ho, hrun, ⟨D, _, hrg, h2, h5, fun z hz => ⟨?_, fun q => (h3 z hz).2 (by simp only [Bool.and_eq_true] at q; exact q.1)⟩⟩, hlt, hgr, hsz, hen⟩
    show (lf (lit z) && !(lit z).sameKey (lit x)) = _
    rw [(h3 z hz).1]
    by_cases e4 : z = x
    · subst e4
      rw [WideAt.sameKey_self (T.K.key (T.key z hz))]
      simp
    · rw [Maps.sameKey_ne (fun q => e4 (T.inj _ _ hz hx q))]
      simp [e4]
end
section
variable {k e t : TypeId} {κ ε : Type} [DecidableEq κ] {mk : κ → Value} {lit : κ → Lit} {ok : κ → Prop} {vl : ε → Value} {dt : ε → DataW Unit} {zr : ε} {R : Value → Option (DataW Unit × List MemPlace)}
set_option linter.unusedSectionVars false
variable {w : World} {b c : Nat} {f : κ → Option ε} {ops : Array Oper} {rest : List Oper} {o : Oper} {a : Act} {Q : Exit → Act → World → Prop} {KK : Act → World → Prop}
theorem wpl_rangeG (T : MpT k e t mk lit ok vl dt zr R) (hg : o.guard = none) (m : Operand) (hop : o.op = Op.range t m) (hm : a.eval m = .map (some b)) (h : MapG k lit ok dt zr R w b c f)
    (hK : ∀ w' cnt, RngG k lit ok dt zr R w' b w.heap.size c f (fun x => (f x).isSome) cnt → w.grownBy w' none → w'.heap.size = w.heap.size + 1 → cnt ≤ c → wpList Tryz.prog ops Q rest (a.put o.dst (.pointer (some ⟨w.heap.size, 0, none⟩))) w') : wpList Tryz.prog ops Q (o :: rest) a w := by
  refine wpList_plain hg fun K' hK' => ?_
  obtain ⟨w', cnt, hrun, r1, r2, r3, r4⟩ := h.range T
  unfold Oper.wp
  simp [execOp, hop, hm, hrun, Result.andThen]
  exact hK' _ _ (hK w' cnt r1 r2 r3 r4)
theorem wpl_nextG (T : MpT k e t mk lit ok vl dt zr R) (hg : o.guard = none) (it : Operand) (hop : o.op = Op.next it false) {r cnt : Nat} {left : κ → Bool} (hit : a.eval it = .pointer (some ⟨r, 0, none⟩)) (h : RngG k lit ok dt zr R w b r c f left cnt)
    (hDone : (∀ x, ok x → left x = false) → wpList Tryz.prog ops Q rest (a.put o.dst (.tuple #[.bool false])) w)
    (hMore : ∀ x y w' cnt', ok x → left x = true → f x = some y → RngG k lit ok dt zr R w' b r c f (fun z => left z && !decide (z = x)) cnt' → cnt' < cnt → w.grownBy w' (some r) → w'.heap.size = w.heap.size →
      (Instr.entry (.pointer (some ⟨r, 0, none⟩))).run Tryz.prog w' = .ok (.tuple #[mk x, vl y]) w' → wpList Tryz.prog ops Q rest (a.put o.dst (.tuple #[.bool true, mk x, vl y])) w') : wpList Tryz.prog ops Q (o :: rest) a w := by
  refine wpList_plain hg fun K' hK' => ?_
  unfold Oper.wp
  rcases h.next T o.type with ⟨hl, hrun⟩ | ⟨x, y, w', cnt', h1, h2, h3, hrun, h4, h5, h6, h7, h8⟩
  · simp [execOp, hop, hit, hrun, Result.andThen]
    exact hK' _ _ (hDone hl)
  · simp [execOp, hop, hit, hrun, Result.andThen]
    exact hK' _ _ (hMore x y w' cnt' h1 h2 h3 h4 h5 h6 h7 h8)
/-- 'm[x] = y' at the operation. -/
theorem wp_putG (T : MpT k e t mk lit ok vl dt zr R) (m x v : Operand) (hop : o.op = Op.mapUpdate t m x v) (hm : a.eval m = .map (some b)) (h : MapG k lit ok dt zr R w b c f) (hc : c < 100000) (xx : κ) (hx : a.eval x = mk xx) (hxx : ok xx) (y : ε) (hv : a.eval v = vl y)
    (hK : ∀ w', MapG k lit ok dt zr R w' b (if (f xx).isSome then c else c + 1) (fun z => if z = xx then some y else f z) → w.grownBy w' (some b) → KK (a.put o.dst undef) w') : Oper.wp Tryz.prog o a w KK Q := by
  obtain ⟨w', hrun, r1, r2⟩ := h.put T hc xx hxx y
  unfold Oper.wp
  simp [execOp, hop, hm, hx, hv, hrun, Result.andThen]
  exact hK w' r1 r2
theorem wpl_putG (T : MpT k e t mk lit ok vl dt zr R) (hg : o.guard = none) (m x v : Operand) (hop : o.op = Op.mapUpdate t m x v) (hm : a.eval m = .map (some b)) (h : MapG k lit ok dt zr R w b c f) (hc : c < 100000) (xx : κ) (hx : a.eval x = mk xx) (hxx : ok xx) (y : ε) (hv : a.eval v = vl y)
    (hK : ∀ w', MapG k lit ok dt zr R w' b (if (f xx).isSome then c else c + 1) (fun z => if z = xx then some y else f z) → w.grownBy w' (some b) → wpList Tryz.prog ops Q rest (a.put o.dst undef) w') : wpList Tryz.prog ops Q (o :: rest) a w := by
  refine wpList_plain hg fun K' hK' => ?_
  obtain ⟨w', hrun, r1, r2⟩ := h.put T hc xx hxx y
  unfold Oper.wp
  simp [execOp, hop, hm, hx, hv, hrun, Result.andThen]
  exact hK' _ _ (hK w' r1 r2)
/-- 'delete(m, x)' at the operation. -/
theorem wp_delG (T : MpT k e t mk lit ok vl dt zr R) (m x : Operand) (hop : o.op = Op.call { callee := Callee.builtin Builtin.delete, args := #[m, x], argTypes := #[t, k] }) (hm : a.eval m = .map (some b)) (h : MapG k lit ok dt zr R w b c f) (xx : κ) (hx : a.eval x = mk xx) (hxx : ok xx)
    (hK : ∀ w', MapG k lit ok dt zr R w' b (if (f xx).isSome then c - 1 else c) (fun z => if z = xx then none else f z) → w.grownBy w' (some b) → KK (a.put o.dst (.tuple #[])) w') : Oper.wp Tryz.prog o a w KK Q := by
  obtain ⟨w', hrun, r1, r2⟩ := h.del T xx hxx o.type
  unfold Oper.wp
  simp [execOp, hop, resolve, invoke, builtin, hm, hx, hrun, Result.andThen]
  exact hK w' r1 r2
end

/-! ### Handles as keys. -/
theorem hdLaid : laidOutB Tryz.prog = true := by kernel_rfl
theorem hdKeyed : Maps.Keyed Tryz.prog 42 :=
  Maps.Keyed.of_law (deep_law_gate hdLaid (of_decide_eq_true (by kernel_rfl)) (of_decide_eq_true (by kernel_rfl)) (by kernel_rfl) (by kernel_rfl))
theorem hdKT : Tryz.prog.keyType 42 = true := by kernel_rfl
theorem hdCells : Tryz.prog.cellsOf 42 = 2 := by kernel_rfl
theorem intCells : Tryz.prog.cellsOf 3 = 1 := by kernel_rfl
theorem hdFuel : ∃ m, Tryz.prog.types.size = m + 1 := ⟨Tryz.prog.types.size - 1, by
  have h : 1 ≤ Tryz.prog.types.size := of_decide_eq_true (by kernel_rfl)
  omega⟩
/-- What a handle reads as, as a key. -/
def kH (h : Hd) : Lit := .string (keyBytes [.int .i64 h.1, .int .i64 h.2])
/-- A handle of numbers of int. -/
def HdOk (h : Hd) : Prop := (Lit.int .i64 h.1).wf = true ∧ (Lit.int .i64 h.2).wf = true
set_option maxRecDepth 100000 in
theorem keyLitsH (n : Nat) (a b : Value) : Tryz.prog.keyLits (n + 1) 42 [a, b] = (Tryz.prog.keyLits n 3 [a]).bind fun x => (Tryz.prog.keyLits n 3 [b]).bind fun y => some (x ++ y) := by
  conv => lhs; unfold Program.keyLits
  rw [Tryz.underlying42]
  simp [hdCells, intCells]
  cases Tryz.prog.keyLits n 3 [a] with
  | none => rfl
  | some x =>
    cases Tryz.prog.keyLits n 3 [b] with
    | none => rfl
    | some y => simp
set_option maxRecDepth 100000 in
theorem keyLitsI (m : Nat) (v : Value) : Tryz.prog.keyLits (m + 1) 3 [v] = match v with | .int q n => (if q = .i64 ∧ (Lit.int .i64 n).wf = true then some [.int .i64 n] else none) | _ => none := by
  conv => lhs; unfold Program.keyLits
  rw [Tryz.underlying3]
  cases v <;> rfl
set_option maxRecDepth 100000 in
theorem keyH {h : Hd} (hw : HdOk h) : keyOf Tryz.prog 42 (.agg #[.int .i64 h.1, .int .i64 h.2]) = some (kH h) := by
  unfold keyOf
  rw [Tryz.underlying42]
  have hf : (Value.agg #[.int .i64 h.1, .int .i64 h.2]).formed Tryz.prog 42 = true := by simp [Value.formed, Tryz.underlying42, hdCells]
  dsimp only
  rw [hdKT, hf]
  simp only [Bool.and_self, if_true, Value.cells]
  obtain ⟨m, hm⟩ := hdFuel
  rw [keyLitsH, hm, keyLitsI, keyLitsI]
  simp [hw.1, hw.2, kH]
set_option maxRecDepth 100000 in
theorem keyH_inv {v : Value} {kl : Lit} (h : keyOf Tryz.prog 42 v = some kl) : ∃ x : Hd, v = .agg #[.int .i64 x.1, .int .i64 x.2] ∧ HdOk x ∧ kl = kH x := by
  unfold keyOf at h
  rw [Tryz.underlying42] at h
  dsimp only at h
  split at h
  · rename_i hc
    simp only [Bool.and_eq_true] at hc
    have hf := hc.2
    cases v with
    | agg cs =>
      simp [Value.formed, Tryz.underlying42, hdCells] at hf
      obtain ⟨l⟩ := cs
      match l, hf with
      | [a, b], _ =>
        simp only [Value.cells] at h
        obtain ⟨m, hm⟩ := hdFuel
        rw [keyLitsH, hm, keyLitsI, keyLitsI] at h
        cases a with
        | int q1 n1 =>
          cases b with
          | int q2 n2 =>
            by_cases c1 : q1 = .i64 ∧ (Lit.int .i64 n1).wf = true
            · by_cases c2 : q2 = .i64 ∧ (Lit.int .i64 n2).wf = true
              · obtain ⟨rfl, w1⟩ := c1
                obtain ⟨rfl, w2⟩ := c2
                simp [w1, w2] at h
                subst h
                exact ⟨(n1, n2), rfl, ⟨w1, w2⟩, rfl⟩
              · simp [c1, c2] at h
            · simp [c1] at h
          | _ => simp at h
        | _ => simp at h
    | _ => simp [Value.formed, Tryz.underlying42] at hf
  · cases h
set_option maxRecDepth 100000 in
theorem kH_inj {a b : Hd} (ha : HdOk a) (hb : HdOk b) (e : kH a = kH b) : a = b := by
  have h1 := keyH ha
  rw [e] at h1
  have := hdKeyed.inj h1 (keyH hb)
  simp only [Value.agg.injEq, Array.mk.injEq, List.cons.injEq, Value.int.injEq, true_and, and_true] at this
  exact Prod.ext this.1 this.2

/-! ### Masks leading to tables. -/

def mH (h : Hd) : Value := .agg #[.int .i64 h.1, .int .i64 h.2]
def blV (p : Bool) : Value := .bool p
def blD (p : Bool) : DataW Unit := .lit (.bool p)
def blElem (v : Value) : Option (DataW Unit × List MemPlace) :=
  match v with
  | .bool c => some (.lit (.bool c), [])
  | _ => none
theorem blElem_inv {v : Value} {d : DataW Unit} {ps : List MemPlace} (h : blElem v = some (d, ps)) : ∃ p, v = blV p ∧ d = blD p := by
  unfold blElem at h
  split at h
  · simp only [Option.some.injEq, Prod.mk.injEq] at h
    exact ⟨_, rfl, h.1.symm⟩
  · cases h
abbrev MapW (w : World) (b c : Nat) (f : Hd → Option Bool) : Prop := MapG (ε := Bool) 42 kH HdOk blD false blElem w b c f
end Go.Proofs.YtahichjiphjapaaGreatDoor

/-
  The errors that quad answers; structs compared; the keys' handles.
-/
namespace Go.Proofs.YtahichjiphjapaaGreatDoor
set_option linter.unusedSimpArgs false
set_option linter.unusedVariables false
open Go.RowKit Go.Sort Go.Lib Go.Shelf

structure Er3 (w : World) (r n f : TypeId × Value) : Prop where
  eR : w.cell? ⟨0, 0, none⟩ = some (.iface r.1 r.2)
  eN : w.cell? ⟨2, 0, none⟩ = some (.iface n.1 n.2)
  eF : w.cell? ⟨6, 0, none⟩ = some (.iface f.1 f.2)
theorem Er3.below {w w' : World} {eR eN eF : TypeId × Value} (h : Er3 w eR eN eF) (hb : RowKit.Below w.heap.size w w') : Er3 w' eR eN eF :=
  ⟨Bc hb (cell_lt h.eR) h.eR, Bc hb (cell_lt h.eN) h.eN, Bc hb (cell_lt h.eF) h.eF⟩
theorem Er3.of {w : World} {A : Nat → Addr} (h : Errs w A) : Er3 w (187, .pointer (some (A 0))) (187, .pointer (some (A 2))) (187, .pointer (some (A 6))) :=
  ⟨h.cell 0 (by omega), h.cell 2 (by omega), h.cell 6 (by omega)⟩
theorem Er3.three {w : World} {t1 t2 t3 : TypeId} {u1 u2 u3 : Value} (hR : w.cell? ⟨0, 0, none⟩ = some (.iface t1 u1)) (hN : w.cell? ⟨2, 0, none⟩ = some (.iface t2 u2)) (hF : w.cell? ⟨6, 0, none⟩ = some (.iface t3 u3)) : Er3 w (t1, u1) (t2, u2) (t3, u3) := ⟨hR, hN, hF⟩
def errV (eR eF : TypeId × Value) (b : Bx4) : Value := if errB b = 0 then .nilIface else if errB b = 1 then .iface eR.1 eR.2 else .iface eF.1 eF.2
theorem err_cases (eR eF : TypeId × Value) (b : Bx4) : (errB b = 0 ∧ errV eR eF b = .nilIface) ∨ (errB b = 1 ∧ errV eR eF b = .iface eR.1 eR.2) ∨ (errB b = 7 ∧ errV eR eF b = .iface eF.1 eF.2) := by
  unfold errV errB
  split
  · split
    · exact .inl ⟨rfl, rfl⟩
    · exact .inr (.inl ⟨rfl, rfl⟩)
  · exact .inr (.inr ⟨rfl, rfl⟩)
theorem hd_at (x : Int) (h0 : 0 ≤ x) (h1 : x ≤ 1000) : HdOk (x, 1) := ⟨WalkArith.wf_i64 (by dsimp only; omega), (by decide : (Lit.int .i64 1).wf = true)⟩
theorem ne_of_eq {t : TypeId} {x y : Array Value} {b : Bool} {w : World} (hS : Tryz.prog.underlying t = some (.struct (Tryz.prog.fieldsOf t))) (h : Sem.run Tryz.prog (binOp .eql t (.agg x) (.agg y)) w = .ok (.bool b) w) : Sem.run Tryz.prog (binOp .neq t (.agg x) (.agg y)) w = .ok (.bool (!b)) w := by
  rw [run_eql_struct] at h
  rw [run_neq_struct]
  cases hr : (Op.equalIn 10000 t (.agg x) (.agg y)).run Tryz.prog w with
  | ok b w' =>
    rw [hr] at h
    simp only [Result.andThen_ok, Result.ok.injEq, Value.bool.injEq] at h ⊢
    obtain ⟨rfl, rfl⟩ := h
    exact ⟨rfl, rfl⟩
  | halt x w' => rw [hr] at h; simp [Result.andThen] at h
theorem eqQ_run (x y : Cl) (w : World) : Sem.run Tryz.prog (binOp .eql 87 (clV x) (clV y)) w = .ok (.bool (decide (x = y))) w := by
  obtain ⟨x1, x2, x3⟩ := x
  obtain ⟨y1, y2, y3⟩ := y
  have u3 := Tryz.underlying3
  have a3 := Tryz.isAgg3
  have z3 := Tryz.sizeOf3
  have hS : Tryz.prog.underlying 87 = some (.struct (Tryz.prog.fieldsOf 87)) := by kernel_rfl
  have hp : Tryz.prog.stoodInHeld 87 = false := by kernel_rfl
  unfold clV
  rw [run_eql_struct, show (10000 : Nat) = 9999 + 1 from rfl, run_equalIn_agg w 9999 87 _ _ hS hp]
  simp only [Program.fieldsOf, Tryz.underlying87]
  go_simp
  by_cases h1 : x1 = y1 <;> by_cases h2 : x2 = y2 <;> by_cases h3 : x3 = y3 <;> simp [h1, h2, h3]
theorem gdQ_run (op : BinOp) (a b : Operand) (xs ys : Array Value) (w : World) : Sem.run Tryz.prog (eqGuard op 87 a b (.agg xs) (.agg ys)) w = .ok () w :=
  run_eqGuard_agg w op 87 a b xs ys (by kernel_rfl)
theorem eqB_run (x y : Bx4) (w : World) : Sem.run Tryz.prog (binOp .eql 45 (bxV x) (bxV y)) w = .ok (.bool (decide (x = y))) w := by
  obtain ⟨x1, x2, x3, x4⟩ := x
  obtain ⟨y1, y2, y3, y4⟩ := y
  have u3 := Tryz.underlying3
  have a3 := Tryz.isAgg3
  have z3 := Tryz.sizeOf3
  have hS : Tryz.prog.underlying 45 = some (.struct (Tryz.prog.fieldsOf 45)) := by kernel_rfl
  have hp : Tryz.prog.stoodInHeld 45 = false := by kernel_rfl
  unfold bxV
  rw [run_eql_struct, show (10000 : Nat) = 9999 + 1 from rfl, run_equalIn_agg w 9999 45 _ _ hS hp]
  simp only [Program.fieldsOf, Tryz.underlying45]
  go_simp
  by_cases h1 : x1 = y1 <;> by_cases h2 : x2 = y2 <;> by_cases h3 : x3 = y3 <;> by_cases h4 : x4 = y4 <;> simp [h1, h2, h3, h4]
theorem gdB_run (op : BinOp) (a b : Operand) (xs ys : Array Value) (w : World) : Sem.run Tryz.prog (eqGuard op 45 a b (.agg xs) (.agg ys)) w = .ok () w :=
  run_eqGuard_agg w op 45 a b xs ys (by kernel_rfl)
theorem neQ_run (x y : Cl) (w : World) : Sem.run Tryz.prog (binOp .neq 87 (clV x) (clV y)) w = .ok (.bool (!decide (x = y))) w := ne_of_eq (by kernel_rfl) (eqQ_run x y w)
theorem neB_run (x y : Bx4) (w : World) : Sem.run Tryz.prog (binOp .neq 45 (bxV x) (bxV y)) w = .ok (.bool (!decide (x = y))) w := ne_of_eq (by kernel_rfl) (eqB_run x y w)
end Go.Proofs.YtahichjiphjapaaGreatDoor

/-
  Maps: handles leading to boxes.
-/
namespace Go.Proofs.YtahichjiphjapaaGreatDoor
set_option linter.unusedSimpArgs false
set_option linter.unusedVariables false
open Go.RowKit Go.Sort Go.Lib Go.Shelf Go.Maps

def bxD (p : Bx4) : DataW Unit := .agg [.lit (.int .i64 p.1), .lit (.int .i64 p.2.1), .lit (.int .i64 p.2.2.1), .lit (.int .i64 p.2.2.2)]
def bxElem (v : Value) : Option (DataW Unit × List MemPlace) :=
  match v with
  | .agg cs => match cs.toList with
    | [.int .i64 a, .int .i64 b, .int .i64 c, .int .i64 d] => some (.agg [.lit (.int .i64 a), .lit (.int .i64 b), .lit (.int .i64 c), .lit (.int .i64 d)], [])
    | _ => none
  | _ => none
theorem bxElem_inv {v : Value} {d : DataW Unit} {ps : List MemPlace} (h : bxElem v = some (d, ps)) : ∃ p, v = bxV p ∧ d = bxD p := by
  unfold bxElem at h
  split at h
  · rename_i cs
    split at h
    · rename_i a b c e hl
      simp only [Option.some.injEq, Prod.mk.injEq] at h
      refine ⟨(a, b, c, e), ?_, h.1.symm⟩
      unfold bxV
      rw [← hl]
    · cases h
  · cases h
abbrev MapBT : Nat := 78
theorem mptB : MpT 42 45 MapBT mH kH HdOk bxV bxD ((0, 0, 0, 0) : Bx4) bxElem where
  K := hdKeyed
  ht := Tryz.underlying78
  key x hx := keyH hx
  inv v l h := by
    obtain ⟨x, h1, h2, h3⟩ := keyH_inv h
    exact ⟨x, h1, h3, h2⟩
  inj x y hx hy h := kH_inj hx hy h
  zero w := by kernel_rfl
  rmk _ := rfl
  rinv v d ps h := bxElem_inv h
  dinj a b h := by
    simp only [bxD, DataW.agg.injEq, List.cons.injEq, DataW.lit.injEq, Lit.int.injEq, true_and, and_true] at h
    exact Prod.ext h.1 (Prod.ext h.2.1 (Prod.ext h.2.2.1 h.2.2.2))
abbrev MapX (w : World) (b c : Nat) (f : Hd → Option Bx4) : Prop := MapG (ε := Bx4) 42 kH HdOk bxD ((0, 0, 0, 0) : Bx4) bxElem w b c f
end Go.Proofs.YtahichjiphjapaaGreatDoor
