import Derived.Test.YtaehendpdfpibaaGreatDoorZ5
import Derived.Maps.RangeWalk
import Derived.Maps.Views
import Derived.Maps.OwnOps
import Derived.Maps.OwnSet
import Derived.DeepKeys5
import Derived.Test.YtaehendpdfpibaaGreatDoorZ7
import Derived.Test.YtaehendpdfpibaaGreatDoorZ4

/-
  Maps of any keys and elements by a function: what is looked up, put, deleted, counted, ranged over. Masks leading to tables; handles leading to places.
-/
namespace Go.Proofs.YtaehendpdfpibaaGreatDoor
set_option linter.unusedSimpArgs false
set_option linter.unusedVariables false
open Go.RowKit Go.Sort Go.Lib Go.Shelf Go.ChangeShapes Go.WideShapes

/-- What is to be known of a map's type: keys of κ, elements of ε. -/
structure MpT (k e t : TypeId) {κ ε : Type} (mk : κ → Value) (lit : κ → Lit) (ok : κ → Prop) (vl : ε → Value) (dt : ε → DataW Unit) (zr : ε) (R : Value → Option (DataW Unit × List MemPlace)) : Prop where
  K : Maps.Keyed Tryz.prog k
  ht : Tryz.prog.underlying t = some (.map k e)
  key : ∀ x, ok x → keyOf Tryz.prog k (mk x) = some (lit x)
  inv : ∀ v l, keyOf Tryz.prog k v = some l → ∃ x, v = mk x ∧ l = lit x ∧ ok x
  inj : ∀ x y, ok x → ok y → lit x = lit y → x = y
  zero : ∀ w, (zeroValue e).run Tryz.prog w = .ok (vl zr) w
  rmk : ∀ o, R (vl o) = some (dt o, [])
  rinv : ∀ v d ps, R v = some (d, ps) → ∃ o, v = vl o ∧ d = dt o
  dinj : ∀ a b, dt a = dt b → a = b

/-- Block b is a map of just c entries, in which each key leads where f says. -/
def MapG {κ ε : Type} (k : TypeId) (lit : κ → Lit) (ok : κ → Prop) (dt : ε → DataW Unit) (zr : ε) (R : Value → Option (DataW Unit × List MemPlace)) (w : World) (b c : Nat) (f : κ → Option ε) : Prop :=
  ∃ D : DataW Unit, w.ownsMap Tryz.prog k R b c D ∧ Maps.size D = c ∧ ∀ x, ok x → D.atKey (lit x) (dt zr) = dt ((f x).getD zr) ∧ Maps.has D (lit x) = (f x).isSome

section
variable {k e t : TypeId} {κ ε : Type} {mk : κ → Value} {lit : κ → Lit} {ok : κ → Prop} {vl : ε → Value} {dt : ε → DataW Unit} {zr : ε} {R : Value → Option (DataW Unit × List MemPlace)}
variable {w w' : World} {b c : Nat} {f : κ → Option ε}

theorem MapG.made (w : World) : MapG k lit ok dt zr R (w.alloc (.map #[] 0)) w.heap.size 0 (fun _ => none) := ⟨_, World.ownsMap_made w _ _ _, rfl, fun s _ => ⟨rfl, rfl⟩⟩
theorem MapG.congr {g : κ → Option ε} (h : MapG k lit ok dt zr R w b c f) (e : ∀ s, f s = g s) : MapG k lit ok dt zr R w b c g := by
  obtain ⟨D, h1, h2, h3⟩ := h
  exact ⟨D, h1, h2, fun s hs => by rw [← e]; exact h3 s hs⟩
theorem MapG.cnt {c' : Nat} (h : MapG k lit ok dt zr R w b c f) (e : c = c') : MapG k lit ok dt zr R w b c' f := e ▸ h
theorem MapG.lt (h : MapG k lit ok dt zr R w b c f) : b < w.heap.size := h.choose_spec.1.lt
theorem MapG.is (h : MapG k lit ok dt zr R w b c f) : ∃ es c', w.heap[b]? = some (.map es c') := by
  obtain ⟨D, ⟨es, c, hb, _⟩, _⟩ := h
  exact ⟨es, c, hb⟩
theorem MapG.blk (h : MapG k lit ok dt zr R w b c f) (q : w'.heap[b]? = w.heap[b]?) : MapG k lit ok dt zr R w' b c f := by
  obtain ⟨D, ⟨es, clock, hb, r⟩, h2⟩ := h
  exact ⟨D, ⟨es, clock, q.trans hb, r⟩, h2⟩
theorem MapG.below (h : MapG k lit ok dt zr R w b c f) (q : RowKit.Below w.heap.size w w') : MapG k lit ok dt zr R w' b c f := h.blk (q.block b h.lt)
theorem MapG.kept {M : Nat → Prop} (h : MapG k lit ok dt zr R w b c f) (q : Tch M w w') (hb : ¬ M b) : MapG k lit ok dt zr R w' b c f := h.blk (q.block b h.lt hb)
theorem shrink_own {D : DataW Unit} {n : Nat} (h : w.ownsMap Tryz.prog k R b n D) : w.ownsMap Tryz.prog k R b (Maps.size D) D := by
  obtain ⟨es, clock, hb, F, hs, hD⟩ := h
  exact ⟨es, clock, hb, F, by rw [hD]; simp [Maps.size, length_sorted], hD⟩
/-- m[x]. -/
theorem MapG.look (T : MpT k e t mk lit ok vl dt zr R) (h : MapG k lit ok dt zr R w b c f) (x : κ) (hx : ok x) : (Instr.lookup t (.map (some b)) (mk x) false).run Tryz.prog w = .ok (vl ((f x).getD zr)) w := by
  obtain ⟨D, h1, _, h3⟩ := h
  obtain ⟨v, ps, hr, hv⟩ := h1.lookup T.K T.ht (T.zero w) (T.rmk zr) (T.key x hx)
  obtain ⟨o, rfl, ho⟩ := T.rinv _ _ _ hv
  rw [(h3 x hx).1] at ho
  rw [T.dinj _ _ ho]
  exact hr
/-- m[x], and whether it is there. -/
theorem MapG.look2 (T : MpT k e t mk lit ok vl dt zr R) (h : MapG k lit ok dt zr R w b c f) (x : κ) (hx : ok x) : (Instr.lookup t (.map (some b)) (mk x) true).run Tryz.prog w = .ok (.tuple #[vl ((f x).getD zr), .bool (f x).isSome]) w := by
  obtain ⟨D, h1, _, h3⟩ := h
  obtain ⟨v, ps, hr, hv⟩ := h1.look_ok T.K T.ht (T.zero w) (T.rmk zr) (T.key x hx)
  obtain ⟨o, rfl, ho⟩ := T.rinv _ _ _ hv
  rw [(h3 x hx).1] at ho
  rw [T.dinj _ _ ho, ← (h3 x hx).2]
  exact hr
/-- len(m). -/
theorem MapG.len (T : MpT k e t mk lit ok vl dt zr R) (h : MapG k lit ok dt zr R w b c f) (ty : TypeId) : (Builtin.len_ #[t] ty #[.map (some b)]).run Tryz.prog w = .ok (.int .i64 c) w := by
  obtain ⟨D, h1, h2, _⟩ := h
  rw [← h2]
  exact h1.len T.ht ty
/-- m[x] = y. -/
theorem MapG.put [DecidableEq κ] (T : MpT k e t mk lit ok vl dt zr R) (h : MapG k lit ok dt zr R w b c f) (hc : c < 100000) (x : κ) (hx : ok x) (y : ε) :
    ∃ w', (Instr.mapUpdate t (.map (some b)) (mk x) (vl y)).run Tryz.prog w = .ok () w' ∧ MapG k lit ok dt zr R w' b (if (f x).isSome then c else c + 1) (fun z => if z = x then some y else f z) ∧ w.grownBy w' (some b) := by
  obtain ⟨D, h1, h2, h3⟩ := h
  obtain ⟨w', hr, ho, hg⟩ := h1.update T.K T.ht (by unfold maxLen; omega) (T.key x hx) (T.rmk y)
  have hs : Maps.size (D.put (lit x) (dt y)) = if (f x).isSome then c else c + 1 := by
    rw [Maps.size_put (h1.tidy T.K), (h3 x hx).2, h2]
  refine ⟨w', hr, ⟨_, hs ▸ shrink_own ho, hs, fun z hz => ?_⟩, hg⟩
  by_cases q : z = x
  · subst q
    simp only [if_true]
    exact ⟨Maps.atKey_put_same h1.isMap (T.K.key (T.key z hz)) _ _, Maps.has_put_same h1.isMap (T.K.key (T.key z hz)) _⟩
  · simp only [if_neg q]
    have hne : lit z ≠ lit x := fun q' => q (T.inj z x hz hx q')
    rw [Maps.atKey_put_other hne, Maps.has_put_other hne]
    exact h3 z hz
/-- delete(m, x). -/
theorem MapG.del [DecidableEq κ] (T : MpT k e t mk lit ok vl dt zr R) (h : MapG k lit ok dt zr R w b c f) (x : κ) (hx : ok x) (ty : TypeId) :
    ∃ w', (Builtin.delete_ #[t, k] ty #[.map (some b), mk x]).run Tryz.prog w = .ok (.tuple #[]) w' ∧ MapG k lit ok dt zr R w' b (if (f x).isSome then c - 1 else c) (fun z => if z = x then none else f z) ∧ w.grownBy w' (some b) := by
  obtain ⟨D, h1, h2, h3⟩ := h
  obtain ⟨w', hr, ho, hg⟩ := h1.drop T.K T.ht (T.key x hx) ty
  have hs : Maps.size (D.del (lit x)) = if (f x).isSome then c - 1 else c := by
    have := Maps.size_del (k := lit x) (h1.tidy T.K)
    rw [(h3 x hx).2, h2] at this
    cases q : (f x).isSome with
    | true => rw [q] at this; simp only [if_true] at this ⊢; omega
    | false => rw [q] at this; simpa using this
  refine ⟨w', hr, ⟨_, hs ▸ shrink_own ho, hs, fun z hz => ?_⟩, hg.grown⟩
  by_cases q : z = x
  · subst q
    simp only [if_true]
    exact ⟨Maps.atKey_del_same _, Maps.has_del_same⟩
  · simp only [if_neg q]
    have hne : lit z ≠ lit x := fun q' => q (T.inj z x hz hx q')
    rw [Maps.atKey_del_other hne, Maps.has_del_other hne]
    exact h3 z hz

/-! ### The range. -/
/-- The loop over the map at b under way, its iterator at r: which keys are still to come. -/
def RngG {κ ε : Type} (k : TypeId) (lit : κ → Lit) (ok : κ → Prop) (dt : ε → DataW Unit) (zr : ε) (R : Value → Option (DataW Unit × List MemPlace)) (w : World) (b r c : Nat) (f : κ → Option ε) (left : κ → Bool) (cnt : Nat) : Prop :=
  ∃ (D : DataW Unit) (lf : Lit → Bool), w.ranges Tryz.prog k R b r c D lf cnt ∧ Maps.size D = c ∧ (∀ x, ok x → D.atKey (lit x) (dt zr) = dt ((f x).getD zr) ∧ Maps.has D (lit x) = (f x).isSome) ∧ ∀ x, ok x → lf (lit x) = left x ∧ (left x = true → (f x).isSome = true)
theorem RngG.map {r cnt : Nat} {left : κ → Bool} (h : RngG k lit ok dt zr R w b r c f left cnt) : MapG k lit ok dt zr R w b c f := by
  obtain ⟨D, lf, h1, h2, h3, _⟩ := h
  exact ⟨D, h1.owns, h2, h3⟩
theorem RngG.lt {r cnt : Nat} {left : κ → Bool} (h : RngG k lit ok dt zr R w b r c f left cnt) : r < w.heap.size := h.choose_spec.choose_spec.1.lt
theorem RngG.left_eq {r cnt : Nat} {left : κ → Bool} (h : RngG k lit ok dt zr R w b r c f left cnt) : w.rangeLeft b r = cnt := h.choose_spec.choose_spec.1.left_eq
theorem RngG.ne {r cnt : Nat} {left : κ → Bool} (h : RngG k lit ok dt zr R w b r c f left cnt) : r ≠ b := h.choose_spec.choose_spec.1.ne
theorem RngG.kept {r cnt : Nat} {left : κ → Bool} (h : RngG k lit ok dt zr R w b r c f left cnt) {M : Nat → Prop} (t : Tch M w w') (hb : ¬ M b) (hr : ¬ M r) : RngG k lit ok dt zr R w' b r c f left cnt := by
  obtain ⟨D, lf, h1, h2, h3⟩ := h
  have hbl := h1.owns.lt
  have hrl := h1.lt
  obtain ⟨es, clock, since, seen, c0, e1, F, hs, hD, e2, rest⟩ := h1
  exact ⟨D, lf, ⟨es, clock, since, seen, c0, (t.block b hbl hb).trans e1, F, hs, hD, (t.block r hrl hr).trans e2, rest⟩, h2, h3⟩
/-- 'range m'. -/
theorem MapG.range (T : MpT k e t mk lit ok vl dt zr R) (h : MapG k lit ok dt zr R w b c f) : ∃ w' cnt, (Instr.range t (.map (some b))).run Tryz.prog w = .ok (.pointer (some ⟨w.heap.size, 0, none⟩)) w' ∧ RngG k lit ok dt zr R w' b w.heap.size c f (fun x => (f x).isSome) cnt ∧ w.grownBy w' none ∧ w'.heap.size = w.heap.size + 1 ∧ cnt ≤ c := by
  obtain ⟨D, h1, h2, h3⟩ := h
  obtain ⟨w', hrun, r1, r2, r3⟩ := h1.range T.K T.ht
  exact ⟨w', _, hrun, ⟨D, _, r1, h2, h3, fun x hx => ⟨(h3 x hx).2, fun q => q⟩⟩, r2, r3, h1.size_le⟩
/-- The step. -/
theorem RngG.next [DecidableEq κ] (T : MpT k e t mk lit ok vl dt zr R) {r cnt : Nat} {left : κ → Bool} (h : RngG k lit ok dt zr R w b r c f left cnt) (ty : TypeId) :
    ((∀ x, ok x → left x = false) ∧ (Instr.next (.pointer (some ⟨r, 0, none⟩)) false ty).run Tryz.prog w = .ok (.tuple #[.bool false]) w) ∨
    ∃ x y w' cnt', ok x ∧ left x = true ∧ f x = some y ∧ (Instr.next (.pointer (some ⟨r, 0, none⟩)) false ty).run Tryz.prog w = .ok (.tuple #[.bool true, mk x, vl y]) w' ∧
      RngG k lit ok dt zr R w' b r c f (fun z => left z && !decide (z = x)) cnt' ∧ cnt' < cnt ∧ w.grownBy w' (some r) ∧ w'.heap.size = w.heap.size ∧ (Instr.entry (.pointer (some ⟨r, 0, none⟩))).run Tryz.prog w' = .ok (.tuple #[mk x, vl y]) w' := by
  obtain ⟨D, lf, h1, h2, h5, h3⟩ := h
  rcases h1.next T.K ty with ⟨_, hl, hrun⟩ | ⟨key, v, kl, y, w', cnt', hkey, hlk, hv, hat, hrun, hrg, hlt, hgr, hsz, hen⟩
  · exact .inl ⟨fun x hx => by rw [← (h3 x hx).1, hl], hrun⟩
  · obtain ⟨x, rfl, rfl, hx⟩ := T.inv _ _ hkey
    obtain ⟨yd, yp⟩ := y
    obtain ⟨o, rfl, rfl⟩ := T.rinv _ _ _ hv
    have e := hat (dt zr)
    rw [(h5 x hx).1] at e
    have e2 := T.dinj _ _ e
    have hl : left x = true := by rw [← (h3 x hx).1]; exact hlk
    have hs := (h3 x hx).2 hl
    obtain ⟨o', ho⟩ := Option.isSome_iff_exists.1 hs
    rw [ho] at e2
    obtain rfl : o' = o := e2
    refine .inr ⟨x, o', w', cnt', hx, hl, ho, hrun, ⟨D, _, hrg, h2, h5, fun z hz => ⟨?_, fun q => (h3 z hz).2 (by simp only [Bool.and_eq_true] at q; exact q.1)⟩⟩, hlt, hgr, hsz, hen⟩
    show (lf (lit z) && !(lit z).sameKey (lit x)) = _
    rw [(h3 z hz).1]
    by_cases e4 : z = x
    · subst e4
      rw [WideAt.sameKey_self (T.K.key (T.key z hz))]
      simp
    · rw [Maps.sameKey_ne (fun q => e4 (T.inj _ _ hz hx q))]
      simp [e4]
end
section
variable {k e t : TypeId} {κ ε : Type} [DecidableEq κ] {mk : κ → Value} {lit : κ → Lit} {ok : κ → Prop} {vl : ε → Value} {dt : ε → DataW Unit} {zr : ε} {R : Value → Option (DataW Unit × List MemPlace)}
set_option linter.unusedSectionVars false
variable {w : World} {b c : Nat} {f : κ → Option ε} {ops : Array Oper} {rest : List Oper} {o : Oper} {a : Act} {Q : Exit → Act → World → Prop} {KK : Act → World → Prop}
theorem wpl_rangeG (T : MpT k e t mk lit ok vl dt zr R) (hg : o.guard = none) (m : Operand) (hop : o.op = Op.range t m) (hm : a.eval m = .map (some b)) (h : MapG k lit ok dt zr R w b c f)
    (hK : ∀ w' cnt, RngG k lit ok dt zr R w' b w.heap.size c f (fun x => (f x).isSome) cnt → w.grownBy w' none → w'.heap.size = w.heap.size + 1 → cnt ≤ c → wpList Tryz.prog ops Q rest (a.put o.dst (.pointer (some ⟨w.heap.size, 0, none⟩))) w') : wpList Tryz.prog ops Q (o :: rest) a w := by
  refine wpList_plain hg fun K' hK' => ?_
  obtain ⟨w', cnt, hrun, r1, r2, r3, r4⟩ := h.range T
  unfold Oper.wp
  simp [execOp, hop, hm, hrun, Result.andThen]
  exact hK' _ _ (hK w' cnt r1 r2 r3 r4)
theorem wpl_nextG (T : MpT k e t mk lit ok vl dt zr R) (hg : o.guard = none) (it : Operand) (hop : o.op = Op.next it false) {r cnt : Nat} {left : κ → Bool} (hit : a.eval it = .pointer (some ⟨r, 0, none⟩)) (h : RngG k lit ok dt zr R w b r c f left cnt)
    (hDone : (∀ x, ok x → left x = false) → wpList Tryz.prog ops Q rest (a.put o.dst (.tuple #[.bool false])) w)
    (hMore : ∀ x y w' cnt', ok x → left x = true → f x = some y → RngG k lit ok dt zr R w' b r c f (fun z => left z && !decide (z = x)) cnt' → cnt' < cnt → w.grownBy w' (some r) → w'.heap.size = w.heap.size →
      (Instr.entry (.pointer (some ⟨r, 0, none⟩))).run Tryz.prog w' = .ok (.tuple #[mk x, vl y]) w' → wpList Tryz.prog ops Q rest (a.put o.dst (.tuple #[.bool true, mk x, vl y])) w') : wpList Tryz.prog ops Q (o :: rest) a w := by
  refine wpList_plain hg fun K' hK' => ?_
  unfold Oper.wp
  rcases h.next T o.type with ⟨hl, hrun⟩ | ⟨x, y, w', cnt', h1, h2, h3, hrun, h4, h5, h6, h7, h8⟩
  · simp [execOp, hop, hit, hrun, Result.andThen]
    exact hK' _ _ (hDone hl)
  · simp [execOp, hop, hit, hrun, Result.andThen]
    exact hK' _ _ (hMore x y w' cnt' h1 h2 h3 h4 h5 h6 h7 h8)
/-- 'm[x] = y' at the operation. -/
theorem wp_putG (T : MpT k e t mk lit ok vl dt zr R) (m x v : Operand) (hop : o.op = Op.mapUpdate t m x v) (hm : a.eval m = .map (some b)) (h : MapG k lit ok dt zr R w b c f) (hc : c < 100000) (xx : κ) (hx : a.eval x = mk xx) (hxx : ok xx) (y : ε) (hv : a.eval v = vl y)
    (hK : ∀ w', MapG k lit ok dt zr R w' b (if (f xx).isSome then c else c + 1) (fun z => if z = xx then some y else f z) → w.grownBy w' (some b) → KK (a.put o.dst undef) w') : Oper.wp Tryz.prog o a w KK Q := by
  obtain ⟨w', hrun, r1, r2⟩ := h.put T hc xx hxx y
  unfold Oper.wp
  simp [execOp, hop, hm, hx, hv, hrun, Result.andThen]
  exact hK w' r1 r2
theorem wpl_putG (T : MpT k e t mk lit ok vl dt zr R) (hg : o.guard = none) (m x v : Operand) (hop : o.op = Op.mapUpdate t m x v) (hm : a.eval m = .map (some b)) (h : MapG k lit ok dt zr R w b c f) (hc : c < 100000) (xx : κ) (hx : a.eval x = mk xx) (hxx : ok xx) (y : ε) (hv : a.eval v = vl y)
    (hK : ∀ w', MapG k lit ok dt zr R w' b (if (f xx).isSome then c else c + 1) (fun z => if z = xx then some y else f z) → w.grownBy w' (some b) → wpList Tryz.prog ops Q rest (a.put o.dst undef) w') : wpList Tryz.prog ops Q (o :: rest) a w := by
  refine wpList_plain hg fun K' hK' => ?_
  obtain ⟨w', hrun, r1, r2⟩ := h.put T hc xx hxx y
  unfold Oper.wp
  simp [execOp, hop, hm, hx, hv, hrun, Result.andThen]
  exact hK' _ _ (hK w' r1 r2)
/-- 'delete(m, x)' at the operation. -/
theorem wp_delG (T : MpT k e t mk lit ok vl dt zr R) (m x : Operand) (hop : o.op = Op.call { callee := Callee.builtin Builtin.delete, args := #[m, x], argTypes := #[t, k] }) (hm : a.eval m = .map (some b)) (h : MapG k lit ok dt zr R w b c f) (xx : κ) (hx : a.eval x = mk xx) (hxx : ok xx)
    (hK : ∀ w', MapG k lit ok dt zr R w' b (if (f xx).isSome then c - 1 else c) (fun z => if z = xx then none else f z) → w.grownBy w' (some b) → KK (a.put o.dst (.tuple #[])) w') : Oper.wp Tryz.prog o a w KK Q := by
  obtain ⟨w', hrun, r1, r2⟩ := h.del T xx hxx o.type
  unfold Oper.wp
  simp [execOp, hop, resolve, invoke, builtin, hm, hx, hrun, Result.andThen]
  exact hK w' r1 r2
end

/-! ### Handles as keys. -/
theorem hdLaid : laidOutB Tryz.prog = true := by kernel_rfl
theorem hdKeyed : Maps.Keyed Tryz.prog 31 :=
  Maps.Keyed.of_law (deep_law_gate hdLaid (of_decide_eq_true (by kernel_rfl)) (of_decide_eq_true (by kernel_rfl)) (by kernel_rfl) (by kernel_rfl))
theorem hdKT : Tryz.prog.keyType 31 = true := by kernel_rfl
theorem hdCells : Tryz.prog.cellsOf 31 = 2 := by kernel_rfl
theorem intCells : Tryz.prog.cellsOf 3 = 1 := by kernel_rfl
theorem hdFuel : ∃ m, Tryz.prog.types.size = m + 1 := ⟨Tryz.prog.types.size - 1, by
  have h : 1 ≤ Tryz.prog.types.size := of_decide_eq_true (by kernel_rfl)
  omega⟩
/-- What a handle reads as, as a key. -/
def kH (h : Hd) : Lit := .string (keyBytes [.int .i64 h.1, .int .i64 h.2])
/-- A handle of numbers of int. -/
def HdOk (h : Hd) : Prop := (Lit.int .i64 h.1).wf = true ∧ (Lit.int .i64 h.2).wf = true
set_option maxRecDepth 100000 in
theorem keyLitsH (n : Nat) (a b : Value) : Tryz.prog.keyLits (n + 1) 31 [a, b] = (Tryz.prog.keyLits n 3 [a]).bind fun x => (Tryz.prog.keyLits n 3 [b]).bind fun y => some (x ++ y) := by
  conv => lhs; unfold Program.keyLits
  rw [Tryz.underlying31]
  simp [hdCells, intCells]
  cases Tryz.prog.keyLits n 3 [a] with
  | none => rfl
  | some x =>
    cases Tryz.prog.keyLits n 3 [b] with
    | none => rfl
    | some y => simp
set_option maxRecDepth 100000 in
theorem keyLitsI (m : Nat) (v : Value) : Tryz.prog.keyLits (m + 1) 3 [v] = match v with | .int q n => (if q = .i64 ∧ (Lit.int .i64 n).wf = true then some [.int .i64 n] else none) | _ => none := by
  conv => lhs; unfold Program.keyLits
  rw [Tryz.underlying3]
  cases v <;> rfl
set_option maxRecDepth 100000 in
theorem keyH {h : Hd} (hw : HdOk h) : keyOf Tryz.prog 31 (.agg #[.int .i64 h.1, .int .i64 h.2]) = some (kH h) := by
  unfold keyOf
  rw [Tryz.underlying31]
  have hf : (Value.agg #[.int .i64 h.1, .int .i64 h.2]).formed Tryz.prog 31 = true := by simp [Value.formed, Tryz.underlying31, hdCells]
  dsimp only
  rw [hdKT, hf]
  simp only [Bool.and_self, if_true, Value.cells]
  obtain ⟨m, hm⟩ := hdFuel
  rw [keyLitsH, hm, keyLitsI, keyLitsI]
  simp [hw.1, hw.2, kH]
set_option maxRecDepth 100000 in
theorem keyH_inv {v : Value} {kl : Lit} (h : keyOf Tryz.prog 31 v = some kl) : ∃ x : Hd, v = .agg #[.int .i64 x.1, .int .i64 x.2] ∧ HdOk x ∧ kl = kH x := by
  unfold keyOf at h
  rw [Tryz.underlying31] at h
  dsimp only at h
  split at h
  · rename_i hc
    simp only [Bool.and_eq_true] at hc
    have hf := hc.2
    cases v with
    | agg cs =>
      simp [Value.formed, Tryz.underlying31, hdCells] at hf
      obtain ⟨l⟩ := cs
      match l, hf with
      | [a, b], _ =>
        simp only [Value.cells] at h
        obtain ⟨m, hm⟩ := hdFuel
        rw [keyLitsH, hm, keyLitsI, keyLitsI] at h
        cases a with
        | int q1 n1 =>
          cases b with
          | int q2 n2 =>
            by_cases c1 : q1 = .i64 ∧ (Lit.int .i64 n1).wf = true
            · by_cases c2 : q2 = .i64 ∧ (Lit.int .i64 n2).wf = true
              · obtain ⟨rfl, w1⟩ := c1
                obtain ⟨rfl, w2⟩ := c2
                simp [w1, w2] at h
                subst h
                exact ⟨(n1, n2), rfl, ⟨w1, w2⟩, rfl⟩
              · simp [c1, c2] at h
            · simp [c1] at h
          | _ => simp at h
        | _ => simp at h
    | _ => simp [Value.formed, Tryz.underlying31] at hf
  · cases h
set_option maxRecDepth 100000 in
theorem kH_inj {a b : Hd} (ha : HdOk a) (hb : HdOk b) (e : kH a = kH b) : a = b := by
  have h1 := keyH ha
  rw [e] at h1
  have := hdKeyed.inj h1 (keyH hb)
  simp only [Value.agg.injEq, Array.mk.injEq, List.cons.injEq, Value.int.injEq, true_and, and_true] at this
  exact Prod.ext this.1 this.2

/-! ### Masks leading to tables. -/
theorem u64_nat {x : Int} (h : (Lit.int .u64 x).wf = true) : ∃ m : Nat, x = (m : Int) ∧ m < 18446744073709551616 := by
  simp [Lit.wf, IntKind.min, IntKind.max, IntKind.signed, IntKind.bits] at h
  exact ⟨x.toNat, by omega, by omega⟩
def mU (x : Nat) : Value := .int .u64 (x : Int)
def kU (x : Nat) : Lit := .int .u64 (x : Int)
def okU (x : Nat) : Prop := (Lit.int .u64 (x : Int)).wf = true
theorem okU_lt {x : Nat} (h : x < 18446744073709551616) : okU x := WalkArith.wf_u64 (by omega)
abbrev MapUT : Nat := 92
abbrev MapLT : Nat := 93
theorem mptU : MpT 60 96 MapUT mU kU okU ptrV ptrD none ptrElem where
  K := Maps.int_keyed Tryz.underlying60
  ht := Tryz.underlying92
  key x hx := Maps.keyOf_int_mk Tryz.underlying60 hx
  inv v l h := by
    obtain ⟨x, rfl, rfl, hx⟩ := Maps.keyOf_int_inv Tryz.underlying60 h
    obtain ⟨n, rfl, _⟩ := u64_nat hx
    exact ⟨n, rfl, rfl, hx⟩
  inj x y _ _ h := by simp [kU] at h; omega
  zero w := by kernel_rfl
  rmk := ptrElem_mk
  rinv v d ps h := ptrElem_inv h
  dinj a b h := ptrD_inj h
abbrev MapU (w : World) (b c : Nat) (f : Nat → Option Nat) : Prop := MapG (ε := Option Nat) 60 kU okU ptrD none ptrElem w b c (fun x => (f x).map some)

/-! ### Handles leading to places. -/
abbrev Plc := Option Nat × Int
def mH (h : Hd) : Value := .agg #[.int .i64 h.1, .int .i64 h.2]
def plV (p : Plc) : Value := .agg #[ptrV p.1, .int .i64 p.2]
def plD (p : Plc) : DataW Unit := .agg [ptrD p.1, .lit (.int .i64 p.2)]
def plElem (v : Value) : Option (DataW Unit × List MemPlace) :=
  match v with
  | .agg cs => match cs.toList with
    | [p, i] => match ptrElem p with
      | some (d, _) => match i with
        | .int .i64 n => some (.agg [d, .lit (.int .i64 n)], [])
        | _ => none
      | none => none
    | _ => none
  | _ => none
theorem plElem_mk (p : Plc) : plElem (plV p) = some (plD p, []) := by
  obtain ⟨o, i⟩ := p
  cases o <;> rfl
theorem plElem_inv {v : Value} {d : DataW Unit} {ps : List MemPlace} (h : plElem v = some (d, ps)) : ∃ p, v = plV p ∧ d = plD p := by
  unfold plElem at h
  split at h
  · rename_i cs
    split at h
    · rename_i p i hl
      split at h
      · rename_i d' ps' hp
        split at h
        · rename_i n
          obtain ⟨o, rfl, rfl⟩ := ptrElem_inv hp
          simp only [Option.some.injEq, Prod.mk.injEq] at h
          refine ⟨(o, n), ?_, h.1.symm⟩
          unfold plV
          rw [← hl]
        · cases h
      · cases h
    · cases h
  · cases h
theorem plD_inj {a b : Plc} (h : plD a = plD b) : a = b := by
  obtain ⟨o, i⟩ := a
  obtain ⟨o', i'⟩ := b
  simp only [plD, DataW.agg.injEq, List.cons.injEq, DataW.lit.injEq, Lit.int.injEq, true_and, and_true] at h
  rw [ptrD_inj h.1, h.2]
theorem mptL : MpT 31 99 MapLT mH kH HdOk plV plD ((none, 0) : Plc) plElem where
  K := hdKeyed
  ht := Tryz.underlying93
  key x hx := keyH hx
  inv v l h := by
    obtain ⟨x, h1, h2, h3⟩ := keyH_inv h
    exact ⟨x, h1, h3, h2⟩
  inj x y hx hy h := kH_inj hx hy h
  zero w := by kernel_rfl
  rmk := plElem_mk
  rinv v d ps h := plElem_inv h
  dinj a b h := plD_inj h
abbrev MapL (w : World) (b c : Nat) (f : Hd → Option Plc) : Prop := MapG (ε := Plc) 31 kH HdOk plD ((none, 0) : Plc) plElem w b c f
end Go.Proofs.YtaehendpdfpibaaGreatDoor

/-
  Pure: all entities as one list, rising by handle; the masks that they have; what each call of a store makes of it, and answers.
-/
namespace Go.Proofs.YtaehendpdfpibaaGreatDoor
set_option linter.unusedSimpArgs false
set_option linter.unusedVariables false
open Go.RowKit Go.Sort Go.Lib Go.Shelf

def hds (L : List En) : List Hd := L.map fun r => r.1
/-- All entities, rising by handle. -/
def RiseE (L : List En) : Prop := Rise ltH (hds L)
def fndE (L : List En) (h : Hd) : Option (List Vl) := (L.find? fun r => decide (r.1 = h)).map fun r => r.2
def hasM (L : List En) (q : Nat) : Bool := L.any fun r => decide (maskV r.2 = q)
/-- The masks that entities have, rising. -/
def mskE (L : List En) : List Nat := (List.range 1024).filter (hasM L)
def nM (L : List En) : Nat := (mskE L).length
def posE (L : List En) (h : Hd) : Nat := headLess ltH h (hds L)
def insE (L : List En) (r : En) : List En := L.take (posE L r.1) ++ r :: L.drop (posE L r.1)
def delE (L : List En) (h : Hd) : List En := L.filter fun r => !decide (r.1 = h)
def setE (L : List En) (h : Hd) (l : List Vl) : List En := L.map fun r => if r.1 = h then (h, l) else r

/-! ### Members. -/
theorem mem_insE (L : List En) (r x : En) : x ∈ insE L r ↔ x = r ∨ x ∈ L := by
  unfold insE
  conv => rhs; rw [← List.take_append_drop (posE L r.1) L]
  simp only [List.mem_append, List.mem_cons]
  constructor
  · rintro (h | h | h) <;> simp [h]
  · rintro (h | h | h) <;> simp [h]
theorem len_insE (L : List En) (r : En) : (insE L r).length = L.length + 1 := by
  unfold insE
  simp only [List.length_append, List.length_cons, List.length_take, List.length_drop]
  have : posE L r.1 ≤ L.length := by unfold posE; have := headLess_le (lt := ltH) r.1 (hds L); simpa [hds] using this
  omega
theorem mem_delE (L : List En) (h : Hd) (x : En) : x ∈ delE L h ↔ x ∈ L ∧ x.1 ≠ h := by simp [delE]
theorem rise_hds {L : List En} (hL : RiseE L) : (hds L).Nodup := rise_nodup sto_hd hL
theorem rise_one {L : List En} (hL : RiseE L) {x y : En} (hx : x ∈ L) (hy : y ∈ L) (e : x.1 = y.1) : x = y := by
  have hn := rise_hds hL
  unfold hds at hn
  induction L with
  | nil => cases hx
  | cons z r ih =>
    rw [List.map_cons, List.nodup_cons] at hn
    have hr : RiseE r := (List.pairwise_cons.1 hL).2
    rcases List.mem_cons.1 hx with qx | qx <;> rcases List.mem_cons.1 hy with qy | qy
    · rw [qx, qy]
    · exact (hn.1 (List.mem_map.2 ⟨y, qy, by rw [← e, qx]⟩)).elim
    · exact (hn.1 (List.mem_map.2 ⟨x, qx, by rw [e, qy]⟩)).elim
    · exact ih hr qx qy hn.2
theorem fndE_some {L : List En} (hL : RiseE L) {h : Hd} {l : List Vl} : fndE L h = some l ↔ (h, l) ∈ L := by
  unfold fndE
  constructor
  · intro e
    obtain ⟨r, hr, rfl⟩ := Option.map_eq_some_iff.1 e
    have h1 := List.find?_some hr
    have h2 := List.mem_of_find?_eq_some hr
    simp only [decide_eq_true_eq] at h1
    subst h1
    exact h2
  · intro hm
    cases e : L.find? (fun r => decide (r.1 = h)) with
    | none => exact absurd (List.find?_eq_none.1 e _ hm) (by simp)
    | some r =>
      have h1 := List.find?_some e
      have h2 := List.mem_of_find?_eq_some e
      simp only [decide_eq_true_eq] at h1
      rw [rise_one hL h2 hm h1]
      rfl
theorem fndE_none {L : List En} {h : Hd} : fndE L h = none ↔ ∀ r ∈ L, r.1 ≠ h := by
  unfold fndE
  rw [Option.map_eq_none_iff, List.find?_eq_none]
  simp
theorem fndE_mem {L : List En} {h : Hd} : (fndE L h).isSome = true ↔ h ∈ hds L := by
  cases e : fndE L h with
  | none =>
    have := fndE_none.1 e
    simp only [Option.isSome_none, Bool.false_eq_true, false_iff, hds, List.mem_map, not_exists, not_and]
    exact this
  | some l =>
    simp only [Option.isSome_some, true_iff]
    unfold fndE at e
    obtain ⟨r, hr, rfl⟩ := Option.map_eq_some_iff.1 e
    have h1 := List.find?_some hr
    simp only [decide_eq_true_eq] at h1
    exact List.mem_map.2 ⟨r, List.mem_of_find?_eq_some hr, h1⟩
theorem hds_insE (L : List En) (r : En) (hn : r.1 ∉ hds L) : hds (insE L r) = put ltH r.1 (hds L) := by
  rw [put_eq, if_neg (fun e => hn (List.mem_of_getElem? e))]
  simp [insE, hds, posE, List.map_take, List.map_drop]
theorem rise_insE {L : List En} (hL : RiseE L) {r : En} (hn : r.1 ∉ hds L) : RiseE (insE L r) := by
  unfold RiseE
  rw [hds_insE L r hn]
  exact rise_put sto_hd _ _ hL
theorem rise_delE {L : List En} (hL : RiseE L) (h : Hd) : RiseE (delE L h) := by
  unfold RiseE hds Rise delE at *
  rw [List.pairwise_map] at *
  exact hL.filter _
theorem hds_setE (L : List En) (h : Hd) (l : List Vl) : hds (setE L h l) = hds L := by
  unfold hds setE
  rw [List.map_map]
  refine List.map_congr_left fun r _ => ?_
  show (if r.1 = h then ((h, l) : En) else r).1 = r.1
  split
  · rename_i e; exact e.symm
  · rfl
theorem rise_setE {L : List En} (hL : RiseE L) (h : Hd) (l : List Vl) : RiseE (setE L h l) := by unfold RiseE; rw [hds_setE]; exact hL
theorem len_setE (L : List En) (h : Hd) (l : List Vl) : (setE L h l).length = L.length := by simp [setE]
theorem mem_setE {L : List En} (hL : RiseE L) {h : Hd} {l0 l : List Vl} (h0 : (h, l0) ∈ L) (x : En) : x ∈ setE L h l ↔ x = (h, l) ∨ (x ∈ L ∧ x.1 ≠ h) := by
  unfold setE
  rw [List.mem_map]
  constructor
  · rintro ⟨r, hr, rfl⟩
    by_cases e : r.1 = h
    · rw [if_pos e]; exact .inl rfl
    · rw [if_neg e]; exact .inr ⟨hr, e⟩
  · rintro (rfl | ⟨hx, e⟩)
    · exact ⟨_, h0, if_pos rfl⟩
    · exact ⟨x, hx, if_neg e⟩
theorem len_delE {L : List En} (hL : RiseE L) {h : Hd} (hm : h ∈ hds L) : (delE L h).length + 1 = L.length := by
  induction L with
  | nil => cases hm
  | cons z r ih =>
    have hr : RiseE r := (List.pairwise_cons.1 hL).2
    have hn := rise_hds hL
    unfold hds at hn
    rw [List.map_cons, List.nodup_cons] at hn
    by_cases e : z.1 = h
    · have e2 : delE r h = r := by
        unfold delE
        rw [List.filter_eq_self]
        intro x hx
        simp only [Bool.not_eq_true', decide_eq_false_iff_not]
        intro e3
        exact hn.1 (List.mem_map.2 ⟨x, hx, e3.trans e.symm⟩)
      have : delE (z :: r) h = delE r h := by simp [delE, e]
      rw [this, e2]; simp
    · have hm' : h ∈ hds r := by
        rcases List.mem_cons.1 hm with q | q
        · exact absurd q.symm e
        · exact q
      have := ih hr hm'
      have e2 : delE (z :: r) h = z :: delE r h := by simp [delE, e]
      rw [e2, List.length_cons, List.length_cons]
      omega
/-- What is put where one has been taken out is that one set. -/
theorem ins_del {L : List En} (hL : RiseE L) {h : Hd} {l0 l : List Vl} (h0 : (h, l0) ∈ L) : insE (delE L h) (h, l) = setE L h l := by
  have hn : h ∉ hds (delE L h) := fun e => by
    obtain ⟨r, hr, q⟩ := List.mem_map.1 e
    exact ((mem_delE L h r).1 hr).2 q
  have r1 := rise_insE (r := (h, l)) (rise_delE hL h) hn
  have r2 := rise_setE hL h l
  have hk : hds (insE (delE L h) (h, l)) = hds (setE L h l) := by
    refine rise_uniq sto_hd _ _ r1 r2 fun x => ?_
    unfold hds
    rw [List.mem_map, List.mem_map]
    constructor
    · rintro ⟨r, hr, rfl⟩
      rcases (mem_insE _ _ _).1 hr with e | e
      · exact ⟨r, (mem_setE hL h0 r).2 (.inl e), rfl⟩
      · exact ⟨r, (mem_setE hL h0 r).2 (.inr ((mem_delE _ _ _).1 e)), rfl⟩
    · rintro ⟨r, hr, rfl⟩
      rcases (mem_setE hL h0 r).1 hr with e | e
      · exact ⟨r, (mem_insE _ _ _).2 (.inl e), rfl⟩
      · exact ⟨r, (mem_insE _ _ _).2 (.inr ((mem_delE _ _ _).2 e)), rfl⟩
  refine List.ext_getElem (by have := congrArg List.length hk; simpa [hds] using this) fun i h1 h2 => ?_
  have hm1 : (insE (delE L h) (h, l))[i] ∈ setE L h l := by
    rcases (mem_insE _ _ _).1 (List.getElem_mem h1) with e | e
    · rw [e]; exact (mem_setE hL h0 _).2 (.inl rfl)
    · exact (mem_setE hL h0 _).2 (.inr ((mem_delE _ _ _).1 e))
  refine rise_one r2 hm1 (List.getElem_mem h2) ?_
  have e1 : (hds (insE (delE L h) (h, l)))[i]? = (hds (setE L h l))[i]? := by rw [hk]
  unfold hds at e1
  rw [List.getElem?_map, List.getElem?_map, List.getElem?_eq_getElem h1, List.getElem?_eq_getElem h2] at e1
  exact Option.some.inj e1
theorem fndE_insE {L : List En} (hL : RiseE L) {r : En} (hn : r.1 ∉ hds L) (h : Hd) : fndE (insE L r) h = if h = r.1 then some r.2 else fndE L h := by
  have hr := rise_insE hL hn
  by_cases e : h = r.1
  · rw [if_pos e, fndE_some hr, e]
    exact (mem_insE _ _ _).2 (.inl rfl)
  · rw [if_neg e]
    cases q : fndE L h with
    | some l => rw [fndE_some hr]; exact (mem_insE _ _ _).2 (.inr ((fndE_some hL).1 q))
    | none =>
      rw [fndE_none] at q ⊢
      intro x hx
      rcases (mem_insE _ _ _).1 hx with rfl | hx
      · exact fun e' => e e'.symm
      · exact q x hx
theorem fndE_delE {L : List En} (hL : RiseE L) (h0 h : Hd) : fndE (delE L h0) h = if h = h0 then none else fndE L h := by
  have hr := rise_delE hL h0
  by_cases e : h = h0
  · rw [if_pos e, fndE_none]
    intro x hx
    rw [e]
    exact ((mem_delE _ _ _).1 hx).2
  · rw [if_neg e]
    cases q : fndE L h with
    | some l => rw [fndE_some hr]; exact (mem_delE _ _ _).2 ⟨(fndE_some hL).1 q, e⟩
    | none =>
      rw [fndE_none] at q ⊢
      exact fun x hx => q x ((mem_delE _ _ _).1 hx).1
theorem fndE_setE {L : List En} (hL : RiseE L) {h0 : Hd} {l0 l : List Vl} (h1 : (h0, l0) ∈ L) (h : Hd) : fndE (setE L h0 l) h = if h = h0 then some l else fndE L h := by
  have hn : h0 ∉ hds (delE L h0) := fun e => by
    obtain ⟨r, hr, q⟩ := List.mem_map.1 e
    exact ((mem_delE L h0 r).1 hr).2 q
  rw [← ins_del hL h1, fndE_insE (rise_delE hL h0) hn, fndE_delE hL]
  by_cases e : h = h0 <;> simp [e]

/-! ### Masks. -/
theorem hasM_iff (L : List En) (q : Nat) : hasM L q = true ↔ ∃ r ∈ L, maskV r.2 = q := by simp [hasM]
theorem mem_mskE (L : List En) (q : Nat) : q ∈ mskE L ↔ q < 1024 ∧ ∃ r ∈ L, maskV r.2 = q := by
  unfold mskE
  rw [List.mem_filter, List.mem_range, hasM_iff]
theorem filter_or_len (p : Nat → Bool) (m : Nat) : ∀ n, m < n → ((List.range n).filter fun q => p q || decide (q = m)).length = ((List.range n).filter p).length + (if p m = true then 0 else 1) := by
  intro n
  induction n with
  | zero => intro h; omega
  | succ n ih =>
    intro h
    rw [List.range_succ, List.filter_append, List.filter_append, List.length_append, List.length_append]
    by_cases e : m = n
    · subst e
      have e1 : ((List.range m).filter fun q => p q || decide (q = m)) = (List.range m).filter p := by
        refine List.filter_congr fun q hq => ?_
        have : q < m := List.mem_range.1 hq
        have : ¬ q = m := by omega
        simp [this]
      rw [e1]
      cases hp : p m <;> simp [hp]
    · have := ih (by omega)
      rw [this]
      have e2 : ([n].filter fun q => p q || decide (q = m)) = [n].filter p := by
        have : ¬ n = m := fun q => e q.symm
        simp [List.filter_cons, this]
      rw [e2]
      omega
theorem hasM_congr {A B : List En} (h : ∀ x, x ∈ A ↔ x ∈ B) (q : Nat) : hasM A q = hasM B q := by
  rw [Bool.eq_iff_iff, hasM_iff, hasM_iff]
  constructor
  · rintro ⟨r, hr, e⟩; exact ⟨r, (h r).1 hr, e⟩
  · rintro ⟨r, hr, e⟩; exact ⟨r, (h r).2 hr, e⟩
theorem hasM_insE (L : List En) (r : En) (q : Nat) : hasM (insE L r) q = (hasM L q || decide (q = maskV r.2)) := by
  rw [Bool.eq_iff_iff, Bool.or_eq_true, hasM_iff, hasM_iff, decide_eq_true_eq]
  constructor
  · rintro ⟨x, hx, e⟩
    rcases (mem_insE _ _ _).1 hx with rfl | hx
    · exact .inr e.symm
    · exact .inl ⟨x, hx, e⟩
  · rintro (⟨x, hx, e⟩ | e)
    · exact ⟨x, (mem_insE _ _ _).2 (.inr hx), e⟩
    · exact ⟨r, (mem_insE _ _ _).2 (.inl rfl), e.symm⟩
theorem nM_insE (L : List En) (r : En) (hr : maskV r.2 < 1024) : nM (insE L r) = nM L + (if hasM L (maskV r.2) = true then 0 else 1) := by
  unfold nM mskE
  rw [List.filter_congr (fun q _ => hasM_insE L r q)]
  exact filter_or_len _ _ 1024 hr
/-- One that is not the only one of its mask. -/
def soleE (L : List En) (h : Hd) (q : Nat) : Bool := !hasM (delE L h) q
theorem nM_delE {L : List En} (hL : RiseE L) {h : Hd} {l : List Vl} (h0 : (h, l) ∈ L) (hl : maskV l < 1024) : nM L = nM (delE L h) + (if hasM (delE L h) (maskV l) = true then 0 else 1) := by
  have hn : h ∉ hds (delE L h) := fun e => by
    obtain ⟨r, hr, q⟩ := List.mem_map.1 e
    exact ((mem_delE L h r).1 hr).2 q
  rw [← nM_insE (delE L h) (h, l) hl, ins_del hL h0]
  unfold nM mskE
  rw [List.filter_congr (fun q _ => hasM_congr (A := L) (B := setE L h l) (fun x => ?_) q)]
  rw [mem_setE hL h0]
  constructor
  · intro hx
    by_cases e : x.1 = h
    · exact .inl (rise_one hL hx h0 e)
    · exact .inr ⟨hx, e⟩
  · rintro (rfl | hx)
    · exact h0
    · exact hx.1
theorem nM_le (L : List En) : nM L ≤ 1024 := by
  unfold nM mskE
  exact Nat.le_trans (List.length_filter_le _ _) (by simp)
theorem nM_nil : nM [] = 0 := by
  unfold nM mskE
  rw [List.filter_eq_nil_iff.2 (fun q _ => by simp [hasM])]
  rfl
/-- The handles of those of just a mask. -/
def inE (L : List En) (q : Nat) : List Hd := hds (L.filter fun r => decide (maskV r.2 = q))
theorem rise_inE {L : List En} (hL : RiseE L) (q : Nat) : Rise ltH (inE L q) := by
  unfold inE RiseE hds Rise at *
  rw [List.pairwise_map] at *
  exact hL.filter _
theorem mem_inE (L : List En) (q : Nat) (h : Hd) : h ∈ inE L q ↔ ∃ l, (h, l) ∈ L ∧ maskV l = q := by
  unfold inE hds
  rw [List.mem_map]
  constructor
  · rintro ⟨⟨a, l⟩, hr, rfl⟩
    rw [List.mem_filter, decide_eq_true_eq] at hr
    exact ⟨l, hr⟩
  · rintro ⟨l, h1, h2⟩
    exact ⟨(h, l), List.mem_filter.2 ⟨h1, by simpa using h2⟩, rfl⟩

/-- The entities of a store: handles of numbers of int, right rows, few enough. -/
structure Good (L : List En) : Prop where
  rise : RiseE L
  right : ∀ r ∈ L, RightV r.2
  hd : ∀ r ∈ L, (Lit.int .i64 r.1.1).wf = true ∧ (Lit.int .i64 r.1.2).wf = true
  len : L.length ≤ 128
  msk : nM L ≤ 32
theorem good_nil : Good [] := ⟨List.Pairwise.nil, by simp, by simp, by simp, by rw [nM_nil]; omega⟩

/-! ### What the calls answer: the error's number (1 range, 2 full, 3 none, 4 exists, 5 kind, 7 form). -/
def putEN (L : List En) (h : Hd) (l : List Vl) : Nat := if (fndE L h).isSome then 4 else if rightB l = true then (if L.length < 128 ∧ nM (insE L (h, l)) ≤ 32 then 0 else 2) else 7
def putEL (L : List En) (h : Hd) (l : List Vl) : List En := if putEN L h l = 0 then insE L (h, l) else L
def takeEN (L : List En) (h : Hd) : Nat := if (fndE L h).isSome then 0 else 3
def moveEN (L : List En) (h : Hd) (l : List Vl) : Nat := if nM (setE L h l) ≤ 32 then 0 else 2
def rowE (L : List En) (h : Hd) : List Vl := (fndE L h).getD []
def addEN (L : List En) (h : Hd) (x : Vl) : Nat := if (fndE L h).isSome then (if chk x = 0 then (if hasK (rowE L h) x.1 then 4 else moveEN L h (putV (rowE L h) x)) else chk x) else 3
def addEL (L : List En) (h : Hd) (x : Vl) : List En := if addEN L h x = 0 then setE L h (putV (rowE L h) x) else L
def remEN (L : List En) (h : Hd) (k : Int) : Nat := if (fndE L h).isSome then (if hasK (rowE L h) k then moveEN L h (dropV (rowE L h) k) else 5) else 3
def remEL (L : List En) (h : Hd) (k : Int) : List En := if remEN L h k = 0 then setE L h (dropV (rowE L h) k) else L
def setEN (L : List En) (h : Hd) (x : Vl) : Nat := if (fndE L h).isSome then (if hasK (rowE L h) x.1 then chk x else 5) else 3
def setEL (L : List En) (h : Hd) (x : Vl) : List En := if setEN L h x = 0 then setE L h (putV (rowE L h) x) else L
def getEN (L : List En) (h : Hd) (k : Int) : Nat := if (fndE L h).isSome then (if hasK (rowE L h) k then 0 else 5) else 3
def getEV (L : List En) (h : Hd) (k : Int) : Vl := if getEN L h k = 0 then fndV (rowE L h) k else (0, 0, 0)
def entE (L : List En) (h : Hd) : En := if (fndE L h).isSome then (h, rowE L h) else ((0, 0), [])
theorem rowE_of {L : List En} {h : Hd} {l : List Vl} (e : fndE L h = some l) : rowE L h = l := by unfold rowE; rw [e]; rfl

theorem Good.ins {L : List En} (hG : Good L) {h : Hd} {l : List Vl} (hh : (Lit.int .i64 h.1).wf = true ∧ (Lit.int .i64 h.2).wf = true) (hr : RightV l) (hn : h ∉ hds L) (hl : L.length < 128) (hm : nM (insE L (h, l)) ≤ 32) : Good (insE L (h, l)) where
  rise := rise_insE hG.rise hn
  right r hm := by
    rcases (mem_insE _ _ _).1 hm with rfl | e
    · exact hr
    · exact hG.right r e
  hd r hm := by
    rcases (mem_insE _ _ _).1 hm with rfl | e
    · exact hh
    · exact hG.hd r e
  len := by rw [len_insE]; omega
  msk := hm
theorem nM_del_le {L : List En} (h : Hd) : nM (delE L h) ≤ nM L := by
  have e : delE L h = delE L h := rfl
  unfold nM mskE
  have : ((List.range 1024).filter (hasM (delE L h))) = ((List.range 1024).filter (hasM L)).filter (hasM (delE L h)) := by
    rw [List.filter_filter]
    refine List.filter_congr fun q _ => ?_
    cases q1 : hasM (delE L h) q with
    | false => simp
    | true =>
      rw [hasM_iff] at q1
      obtain ⟨r, hr, e⟩ := q1
      have : hasM L q = true := (hasM_iff _ _).2 ⟨r, ((mem_delE _ _ _).1 hr).1, e⟩
      simp [this]
  rw [this]
  exact List.length_filter_le _ _
theorem Good.del {L : List En} (hG : Good L) (h : Hd) : Good (delE L h) where
  rise := rise_delE hG.rise h
  right r hm := hG.right r ((mem_delE _ _ _).1 hm).1
  hd r hm := hG.hd r ((mem_delE _ _ _).1 hm).1
  len := Nat.le_trans (List.length_filter_le _ _) hG.len
  msk := Nat.le_trans (nM_del_le h) hG.msk
theorem Good.set {L : List En} (hG : Good L) {h : Hd} {l0 l : List Vl} (h0 : (h, l0) ∈ L) (hr : RightV l) (hm : nM (setE L h l) ≤ 32) : Good (setE L h l) where
  rise := rise_setE hG.rise h l
  right r hm := by
    rcases (mem_setE hG.rise h0 r).1 hm with rfl | e
    · exact hr
    · exact hG.right r e.1
  hd r hm := by
    rcases (mem_setE hG.rise h0 r).1 hm with rfl | e
    · exact hG.hd (h, l0) h0
    · exact hG.hd r e.1
  len := by rw [len_setE]; exact hG.len
  msk := hm
theorem Good.hOk {L : List En} (hG : Good L) {r : En} (hr : r ∈ L) : maskV r.2 < 1024 := mask_lt (hG.right r hr)
end Go.Proofs.YtaehendpdfpibaaGreatDoor

/-
  A store in memory: its block, its two maps, its tables; find, Has, Len.
-/
namespace Go.Proofs.YtaehendpdfpibaaGreatDoor
set_option linter.unusedSimpArgs false
set_option linter.unusedVariables false
open Go.RowKit Go.Sort Go.Lib Go.Shelf

/-- tt: which table has each mask; pl: where each handle stands. -/
structure Lays (tt : Nat → Option (Nat × List En)) (pl : Hd → Option Plc) (L : List En) : Prop where
  rows : ∀ q pt R, tt q = some (pt, R) → R ≠ [] ∧ ∀ r ∈ R, r ∈ L ∧ maskV r.2 = q
  all : ∀ r ∈ L, ∃ pt R, tt (maskV r.2) = some (pt, R) ∧ r ∈ R
  plc : ∀ q pt R n, tt q = some (pt, R) → (hn : n < R.length) → pl R[n].1 = some (some pt, (n : Int))
  inv : ∀ h p, pl h = some p → h ∈ hds L
theorem Lays.none {tt : Nat → Option (Nat × List En)} {pl : Hd → Option Plc} {L : List En} (h : Lays tt pl L) {x : Hd} (e : fndE L x = none) : pl x = none := by
  cases q : pl x with
  | none => rfl
  | some p =>
    have := fndE_mem.2 (h.inv x p q)
    rw [e] at this
    cases this
/-- Where an entity stands. -/
theorem Lays.at {tt : Nat → Option (Nat × List En)} {pl : Hd → Option Plc} {L : List En} (h : Lays tt pl L) {x : Hd} {l : List Vl} (e : (x, l) ∈ L) :
    ∃ pt R n, tt (maskV l) = some (pt, R) ∧ ∃ hn : n < R.length, R[n] = (x, l) ∧ pl x = some (some pt, (n : Int)) := by
  obtain ⟨pt, R, h1, h2⟩ := h.all _ e
  obtain ⟨n, hn, h3⟩ := List.getElem_of_mem h2
  have := h.plc _ _ _ n h1 hn
  rw [h3] at this
  exact ⟨pt, R, n, h1, hn, h3, this⟩
theorem Lays.has {tt : Nat → Option (Nat × List En)} {pl : Hd → Option Plc} {L : List En} (h : Lays tt pl L) (hL : RiseE L) (x : Hd) : (pl x).isSome = (fndE L x).isSome := by
  cases e : fndE L x with
  | none => rw [h.none e]; rfl
  | some l =>
    obtain ⟨pt, R, n, _, _, _, q⟩ := h.at ((fndE_some hL).1 e)
    rw [q]
    rfl
/-- The tables are those of the masks that entities have. -/
theorem Lays.mask {tt : Nat → Option (Nat × List En)} {pl : Hd → Option Plc} {L : List En} (h : Lays tt pl L) (q : Nat) : (tt q).isSome = hasM L q := by
  rw [Bool.eq_iff_iff, hasM_iff]
  constructor
  · intro e
    obtain ⟨⟨pt, R⟩, hq⟩ := Option.isSome_iff_exists.1 e
    obtain ⟨h1, h2⟩ := h.rows q pt R hq
    obtain ⟨r, hr⟩ := List.exists_mem_of_ne_nil R h1
    exact ⟨r, h2 r hr⟩
  · rintro ⟨r, hr, rfl⟩
    obtain ⟨pt, R, e, _⟩ := h.all r hr
    rw [e]
    rfl

/-- The store's memory: its block, its map of tables (ct of them, by ft), its map of places (cp, by pl), the tables themselves (tt), each in blocks of its own (MT). -/
structure StoH (w : World) (M : Nat → Prop) (ps bt bp : Nat) (ft : Nat → Option Nat) (ct : Nat) (pl : Hd → Option Plc) (cp : Nat) (tt : Nat → Option (Nat × List En)) (MT : Nat → Nat → Prop) : Prop where
  head : w.heap[ps]? = some (.cells #[.map (some bt), .map (some bp)] 95 (0, 0))
  mapT : MapU w bt ct ft
  mapP : MapL w bp cp pl
  tab : ∀ q pt R, tt q = some (pt, R) → Tab w (MT q) pt q R
  no : ∀ q, tt q = none → ∀ b, ¬ MT q b
  apart : ∀ q b, MT q b → M b ∧ b ≠ ps ∧ b ≠ bt ∧ b ≠ bp ∧ ∀ q', MT q' b → q' = q
  own : M ps ∧ M bt ∧ M bp ∧ bt ≠ bp
  lt : ∀ b, M b → b < w.heap.size
def ftO (tt : Nat → Option (Nat × List En)) (q : Nat) : Option Nat := (tt q).map fun x => x.1
structure StoX (w : World) (M : Nat → Prop) (ps bt bp : Nat) (tt : Nat → Option (Nat × List En)) (pl : Hd → Option Plc) (MT : Nat → Nat → Prop) (L : List En) : Prop where
  good : Good L
  lays : Lays tt pl L
  mem : StoH w M ps bt bp (ftO tt) (nM L) pl L.length tt MT
/-- At ps is a store of the entities L; in the blocks M. -/
def StoM (w : World) (M : Nat → Prop) (ps : Nat) (L : List En) : Prop := ∃ bt bp tt pl MT, StoX w M ps bt bp tt pl MT L
abbrev psP (ps : Nat) : Value := .pointer (some ⟨ps, 0, Option.none⟩)

section
variable {w w' : World} {M X : Nat → Prop} {ps bt bp ct cp : Nat} {ft : Nat → Option Nat} {tt : Nat → Option (Nat × List En)} {pl : Hd → Option Plc} {MT : Nat → Nat → Prop} {L : List En}
theorem StoH.apart3 (h : StoH w M ps bt bp ft ct pl cp tt MT) : ps ≠ bt ∧ ps ≠ bp ∧ bt ≠ bp := by
  obtain ⟨es, c, h1⟩ := h.mapT.is
  obtain ⟨es', c', h2⟩ := h.mapP.is
  exact ⟨fun q => (by rw [← q, h.head] at h1; cases h1), fun q => (by rw [← q, h.head] at h2; cases h2), h.own.2.2.2⟩
theorem StoH.kept (h : StoH w M ps bt bp ft ct pl cp tt MT) (t : Tch X w w') (hd : ∀ b, M b → ¬ X b) : StoH w' M ps bt bp ft ct pl cp tt MT where
  head := t.blk h.head (hd _ h.own.1)
  mapT := h.mapT.kept t (hd _ h.own.2.1)
  mapP := h.mapP.kept t (hd _ h.own.2.2.1)
  tab q pt R e := (h.tab q pt R e).kept t (fun b hb => hd b (h.apart q b hb).1)
  no := h.no
  apart := h.apart
  own := h.own
  lt b hb := Nat.lt_of_lt_of_le (h.lt b hb) t.size
theorem StoH.below (h : StoH w M ps bt bp ft ct pl cp tt MT) (t : RowKit.Below w.heap.size w w') : StoH w' M ps bt bp ft ct pl cp tt MT := h.kept (X := fun _ => False) (Tch.of t) (fun _ _ e => e)
theorem StoH.mono {M' : Nat → Prop} (h : StoH w M ps bt bp ft ct pl cp tt MT) (hM : ∀ b, M b → M' b) (hl : ∀ b, M' b → b < w.heap.size) : StoH w M' ps bt bp ft ct pl cp tt MT :=
  { h with
    apart := fun q b e => ⟨hM b (h.apart q b e).1, (h.apart q b e).2⟩
    own := ⟨hM _ h.own.1, hM _ h.own.2.1, hM _ h.own.2.2.1, h.own.2.2.2⟩
    lt := hl }
/-- The map of places has changed. -/
theorem StoH.putP {cp' : Nat} {pl' : Hd → Option Plc} (h : StoH w M ps bt bp ft ct pl cp tt MT) (hg : w.grownBy w' (some bp)) (hm : MapL w' bp cp' pl') : StoH w' M ps bt bp ft ct pl' cp' tt MT := by
  have t : Tch (fun b => b = bp) w w' := tch_grown hg rfl
  have n := h.apart3
  exact ⟨t.blk h.head n.2.1, h.mapT.kept t n.2.2, hm, fun q pt R e => (h.tab q pt R e).kept t (fun b hb => (h.apart q b hb).2.2.2.1), h.no, h.apart, h.own, fun b hb => Nat.lt_of_lt_of_le (h.lt b hb) t.size⟩
/-- The map of tables has changed. -/
theorem StoH.putT {ct' : Nat} {ft' : Nat → Option Nat} (h : StoH w M ps bt bp ft ct pl cp tt MT) (hg : w.grownBy w' (some bt)) (hm : MapU w' bt ct' ft') : StoH w' M ps bt bp ft' ct' pl cp tt MT := by
  have t : Tch (fun b => b = bt) w w' := tch_grown hg rfl
  have n := h.apart3
  exact ⟨t.blk h.head n.1, hm, h.mapP.kept t (Ne.symm n.2.2), fun q pt R e => (h.tab q pt R e).kept t (fun b hb => (h.apart q b hb).2.2.1), h.no, h.apart, h.own, fun b hb => Nat.lt_of_lt_of_le (h.lt b hb) t.size⟩
/-- A table is asked. -/
theorem StoH.tabTo {q pt : Nat} {R R' : List En} (h : StoH w M ps bt bp ft ct pl cp tt MT) (hq : tt q = some (pt, R)) (hT : Tab w' (New (MT q) w w') pt q R') (ht : Tch (MT q) w w') :
    StoH w' (New M w w') ps bt bp ft ct pl cp (fun x => if x = q then some (pt, R') else tt x) (fun x => if x = q then New (MT q) w w' else MT x) := by
  have hM : ∀ b, MT q b → b ≠ ps ∧ b ≠ bt ∧ b ≠ bp := fun b e => ⟨(h.apart q b e).2.1, (h.apart q b e).2.2.1, (h.apart q b e).2.2.2.1⟩
  have key : ∀ y b, (if y = q then New (MT q) w w' else MT y) b → (w.heap.size ≤ b ∧ y = q) ∨ MT y b := fun y b e => by
    by_cases c : y = q
    · rw [if_pos c] at e
      rcases e with e | e
      · exact .inr (c ▸ e)
      · exact .inl ⟨e.1, c⟩
    · rw [if_neg c] at e
      exact .inr e
  refine ⟨ht.blk h.head (fun e => (hM _ e).1 rfl), h.mapT.kept ht (fun e => (hM _ e).2.1 rfl), h.mapP.kept ht (fun e => (hM _ e).2.2 rfl), fun x pt' R'' e => ?_, fun x e b hb => ?_, fun x b e => ?_, ⟨.inl h.own.1, .inl h.own.2.1, .inl h.own.2.2.1, h.own.2.2.2⟩, New.lt h.lt ht.size⟩
  · show Tab w' (if x = q then New (MT q) w w' else MT x) pt' x R''
    by_cases c : x = q
    · subst c
      simp only [if_true, Option.some.injEq, Prod.mk.injEq] at e
      obtain ⟨rfl, rfl⟩ := e
      rw [if_pos rfl]
      exact hT
    · rw [if_neg c] at e ⊢
      exact (h.tab x pt' R'' e).kept ht (fun b e1 e2 => c ((h.apart x b e1).2.2.2.2 q e2).symm)
  · by_cases c : x = q
    · rw [if_pos c] at e; cases e
    · rw [if_neg c] at e
      have hb' : (if x = q then New (MT q) w w' else MT x) b := hb
      rw [if_neg c] at hb'
      exact h.no x e b hb'
  · replace e : (if x = q then New (MT q) w w' else MT x) b := e
    rcases key x b e with d | d
    · have e' := e
      rw [if_pos d.2] at e'
      have h1 := h.lt _ h.own.1
      have h2 := h.lt _ h.own.2.1
      have h3 := h.lt _ h.own.2.2.1
      refine ⟨e'.imp (fun e => (h.apart q b e).1) id, fun z => by omega, fun z => by omega, fun z => by omega, fun y z => ?_⟩
      rcases key y b z with z | z
      · exact z.2.trans d.2.symm
      · have := h.lt b (h.apart y b z).1
        omega
    · refine ⟨.inl (h.apart x b d).1, (h.apart x b d).2.1, (h.apart x b d).2.2.1, (h.apart x b d).2.2.2.1, fun y z => ?_⟩
      rcases key y b z with z | z
      · have := h.lt b (h.apart x b d).1
        omega
      · exact (h.apart x b d).2.2.2.2 y z
/-- A new table. -/
theorem StoH.tabNew {q pt : Nat} {w0 : World} (h : StoH w M ps bt bp ft ct pl cp tt MT) (hM : ∀ b, M b → b < w0.heap.size) (hs : w0.heap.size ≤ w.heap.size) (hq : tt q = none) (hT : Tab w (Fresh w0 w) pt q []) :
    StoH w (New M w0 w) ps bt bp ft ct pl cp (fun x => if x = q then some (pt, []) else tt x) (fun x => if x = q then Fresh w0 w else MT x) := by
  have key : ∀ y b, (if y = q then Fresh w0 w else MT y) b → (w0.heap.size ≤ b ∧ y = q) ∨ MT y b := fun y b e => by
    by_cases c : y = q
    · rw [if_pos c] at e
      rcases e with e | e
      · exact e.elim
      · exact .inl ⟨e.1, c⟩
    · rw [if_neg c] at e
      exact .inr e
  refine ⟨h.head, h.mapT, h.mapP, fun x pt' R'' e => ?_, fun x e b hb => ?_, fun x b e => ?_, ⟨.inl h.own.1, .inl h.own.2.1, .inl h.own.2.2.1, h.own.2.2.2⟩, New.lt hM hs⟩
  · show Tab w (if x = q then Fresh w0 w else MT x) pt' x R''
    by_cases c : x = q
    · subst c
      simp only [if_true, Option.some.injEq, Prod.mk.injEq] at e
      obtain ⟨rfl, rfl⟩ := e
      rw [if_pos rfl]
      exact hT
    · rw [if_neg c] at e ⊢
      exact h.tab x pt' R'' e
  · by_cases c : x = q
    · rw [if_pos c] at e; cases e
    · rw [if_neg c] at e
      have hb' : (if x = q then Fresh w0 w else MT x) b := hb
      rw [if_neg c] at hb'
      exact h.no x e b hb'
  · replace e : (if x = q then Fresh w0 w else MT x) b := e
    rcases key x b e with d | d
    · have e' := e
      rw [if_pos d.2] at e'
      have h1 := hM _ h.own.1
      have h2 := hM _ h.own.2.1
      have h3 := hM _ h.own.2.2.1
      refine ⟨e'.elim (fun e => e.elim) (fun e => .inr e), fun z => by omega, fun z => by omega, fun z => by omega, fun y z => ?_⟩
      rcases key y b z with z | z
      · exact z.2.trans d.2.symm
      · have := hM b (h.apart y b z).1
        omega
    · refine ⟨.inl (h.apart x b d).1, (h.apart x b d).2.1, (h.apart x b d).2.2.1, (h.apart x b d).2.2.2.1, fun y z => ?_⟩
      rcases key y b z with z | z
      · have := hM b (h.apart x b d).1
        omega
      · exact (h.apart x b d).2.2.2.2 y z
/-- A table is left. -/
theorem StoH.tabGone {q : Nat} (h : StoH w M ps bt bp ft ct pl cp tt MT) : StoH w M ps bt bp ft ct pl cp (fun x => if x = q then none else tt x) (fun x => if x = q then fun _ => False else MT x) := by
  have key : ∀ y b, (if y = q then (fun _ => False) else MT y) b → y ≠ q ∧ MT y b := fun y b e => by
    by_cases c : y = q
    · rw [if_pos c] at e; exact e.elim
    · rw [if_neg c] at e; exact ⟨c, e⟩
  refine ⟨h.head, h.mapT, h.mapP, fun x pt' R'' e => ?_, fun x e b hb => ?_, fun x b e => ?_, h.own, h.lt⟩
  · show Tab w (if x = q then (fun _ => False) else MT x) pt' x R''
    by_cases c : x = q
    · rw [if_pos c] at e; cases e
    · rw [if_neg c] at e ⊢
      exact h.tab x pt' R'' e
  · obtain ⟨c, hb⟩ := key x b hb
    rw [if_neg c] at e
    exact h.no x e b hb
  · obtain ⟨c, e⟩ := key x b e
    exact ⟨(h.apart x b e).1, (h.apart x b e).2.1, (h.apart x b e).2.2.1, (h.apart x b e).2.2.2.1, fun y z => (h.apart x b e).2.2.2.2 y (key y b z).2⟩

theorem StoX.kept (h : StoX w M ps bt bp tt pl MT L) (t : Tch X w w') (hd : ∀ b, M b → ¬ X b) : StoX w' M ps bt bp tt pl MT L := ⟨h.good, h.lays, h.mem.kept t hd⟩
theorem StoX.below (h : StoX w M ps bt bp tt pl MT L) (t : RowKit.Below w.heap.size w w') : StoX w' M ps bt bp tt pl MT L := h.kept (X := fun _ => False) (Tch.of t) (fun _ _ e => e)
theorem StoX.mono {M' : Nat → Prop} (h : StoX w M ps bt bp tt pl MT L) (hM : ∀ b, M b → M' b) (hl : ∀ b, M' b → b < w.heap.size) : StoX w M' ps bt bp tt pl MT L := ⟨h.good, h.lays, h.mem.mono hM hl⟩
theorem StoX.m (h : StoX w M ps bt bp tt pl MT L) : StoM w M ps L := ⟨bt, bp, tt, pl, MT, h⟩
theorem StoM.kept (h : StoM w M ps L) (t : Tch X w w') (hd : ∀ b, M b → ¬ X b) : StoM w' M ps L := by
  obtain ⟨bt, bp, tt, pl, MT, h⟩ := h
  exact (h.kept t hd).m
theorem StoM.below (h : StoM w M ps L) (t : RowKit.Below w.heap.size w w') : StoM w' M ps L := by
  obtain ⟨bt, bp, tt, pl, MT, h⟩ := h
  exact (h.below t).m
theorem StoM.mono {M' : Nat → Prop} (h : StoM w M ps L) (hM : ∀ b, M b → M' b) (hl : ∀ b, M' b → b < w.heap.size) : StoM w M' ps L := by
  obtain ⟨bt, bp, tt, pl, MT, h⟩ := h
  exact (h.mono hM hl).m
theorem StoM.lt (h : StoM w M ps L) : ∀ b, M b → b < w.heap.size := by
  obtain ⟨bt, bp, tt, pl, MT, h⟩ := h
  exact h.mem.lt
theorem StoM.mp (h : StoM w M ps L) : M ps := by
  obtain ⟨bt, bp, tt, pl, MT, h⟩ := h
  exact h.mem.own.1
theorem StoM.good (h : StoM w M ps L) : Good L := by
  obtain ⟨bt, bp, tt, pl, MT, h⟩ := h
  exact h.good
/-- A table's place, and its rows. -/
theorem StoX.at (h : StoX w M ps bt bp tt pl MT L) {x : Hd} {l : List Vl} (e : fndE L x = some l) :
    ∃ pt R n, tt (maskV l) = some (pt, R) ∧ Tab w (MT (maskV l)) pt (maskV l) R ∧ ∃ hn : n < R.length, R[n] = (x, l) ∧ pl x = some (some pt, (n : Int)) := by
  obtain ⟨pt, R, n, h1, h2⟩ := h.lays.at ((fndE_some h.good.rise).1 e)
  exact ⟨pt, R, n, h1, h.mem.tab _ _ _ h1, h2⟩
end

/-- The errors' variables that the code reads. -/
structure Er8 (w : World) (A : Nat → Addr) : Prop where
  e7 : Er7 w A
  no : w.cell? ⟨2, 0, none⟩ = some (.iface 258 (.pointer (some (A 2))))
  ex : w.cell? ⟨3, 0, none⟩ = some (.iface 258 (.pointer (some (A 3))))
theorem Er8.below {w w' : World} {A : Nat → Addr} (h : Er8 w A) (hb : RowKit.Below w.heap.size w w') : Er8 w' A :=
  ⟨h.e7.below hb, Bc hb (cell_lt h.no) h.no, Bc hb (cell_lt h.ex) h.ex⟩

section
variable {w w' : World} {M X : Nat → Prop} {ps bt bp : Nat} {tt : Nat → Option (Nat × List En)} {pl : Hd → Option Plc} {MT : Nat → Nat → Prop} {L : List En} {A : Nat → Addr}
theorem slen_call (h : StoX w M ps bt bp tt pl MT L) : Calls Tryz.prog 54 #[psP ps] w fun e w' => e = .returned (.int .i64 L.length) ∧ w = w' := by
  obtain ⟨c0, c1, f0, f1⟩ := two_cells h.mem.head
  have hl := cell_lt c0
  have hlen := fun ty => h.mem.mapP.len mptL ty
  clear h
  go_enter Tryz.func54, Tryz.ntmps54
  go_wp2
  go_ret
  exact ⟨rfl, rfl⟩
theorem sfind_no (h : StoX w M ps bt bp tt pl MT L) (x1 x2 : Int) (hx : HdOk (x1, x2)) (hq : fndE L (x1, x2) = none) (hE : Er8 w A) :
    Calls Tryz.prog 42 #[psP ps, .agg #[.int .i64 x1, .int .i64 x2]] w fun e w' => e = .returned (.tuple #[.agg #[.pointer none, .int .i64 0], errC A 2]) ∧ RowKit.Below w.heap.size w w' := by
  have q := h.lays.none hq
  have HP := Lib.hid h.mem.mapP
  have HH := Lib.hid h.mem.head
  have HE := Lib.hid hE.no
  clear h hE hq
  have HL : Hid (∀ W, RowKit.Below w.heap.size w W → (Instr.lookup MapLT (.map (some bp)) (.agg #[.int .i64 x1, .int .i64 x2]) true).run Tryz.prog W = .ok (.tuple #[.agg #[.pointer none, .int .i64 0], .bool false]) W) := fun W hb => by
    have := (HP.out.below hb).look2 mptL (x1, x2) hx
    rw [q] at this
    exact this
  go_enter Tryz.func42, Tryz.ntmps42
  go_wp2_with fail
  have bb := Ba (Ba (Below.refl _ w) (.cells #[.int .i64 x1, .int .i64 x2] 31)) (.cells #[.pointer none, .int .i64 0] 99)
  have hlk := HL.out _ bb.drew
  have hlk2 := HL.out _ (Ba bb (.cells #[.pointer none, .int .i64 0] 99)).drew
  obtain ⟨c0, c1, f0, f1⟩ := two_cells (blk_below HH.out bb)
  have hl := cell_lt c0
  obtain ⟨d0, d1, _, _⟩ := two_cells (blk_below HH.out (Ba bb (.cells #[.pointer none, .int .i64 0] 99)))
  have hE1 := Bc bb (cell_lt HE.out) HE.out
  have hlg := cell_lt hE1
  have hE2 := Bc (Ba bb (.cells #[.pointer none, .int .i64 0] 99)) (cell_lt HE.out) HE.out
  have hlg2 := cell_lt hE2
  clear bb
  go_region
  all_goals go_wp2
  all_goals (go_region; go_wp2)
  all_goals exact bodyPost_ret (v := .tuple #[.agg #[.pointer none, .int .i64 0], .iface 258 (.pointer (some (A 2)))]) (by simp [results, Tryz.results42, go_sem, *]) rfl ⟨rfl, (by repeat (first | with_reducible exact Below.refl _ _ | with_reducible assumption | with_reducible apply Ba | with_reducible apply Bd | with_reducible apply Bn | with_reducible apply Bg | (with_reducible refine Bs ?_ (by first | (simp; done) | (simp; omega)) _) | (with_reducible refine Bt ?_ (by assumption)) | (with_reducible refine Bt ?_ (Gr.below (by assumption)))))⟩
theorem sfind_yes (h : StoX w M ps bt bp tt pl MT L) (x1 x2 : Int) (hx : HdOk (x1, x2)) {pt : Nat} {i : Int} (q : pl (x1, x2) = some (some pt, i)) :
    Calls Tryz.prog 42 #[psP ps, .agg #[.int .i64 x1, .int .i64 x2]] w fun e w' => e = .returned (.tuple #[.agg #[ptP pt, .int .i64 i], .nilIface]) ∧ RowKit.Below w.heap.size w w' := by
  have HP := Lib.hid h.mem.mapP
  have HH := Lib.hid h.mem.head
  clear h
  have HL : Hid (∀ W, RowKit.Below w.heap.size w W → (Instr.lookup MapLT (.map (some bp)) (.agg #[.int .i64 x1, .int .i64 x2]) true).run Tryz.prog W = .ok (.tuple #[.agg #[.pointer (some ⟨pt, 0, none⟩), .int .i64 i], .bool true]) W) := fun W hb => by
    have := (HP.out.below hb).look2 mptL (x1, x2) hx
    rw [q] at this
    exact this
  go_enter Tryz.func42, Tryz.ntmps42
  go_wp2_with fail
  have bb := Ba (Ba (Below.refl _ w) (.cells #[.int .i64 x1, .int .i64 x2] 31)) (.cells #[.pointer none, .int .i64 0] 99)
  have hlk := HL.out _ bb.drew
  have hlk2 := HL.out _ (Ba bb (.cells #[.pointer none, .int .i64 0] 99)).drew
  obtain ⟨c0, c1, f0, f1⟩ := two_cells (blk_below HH.out bb)
  have hl := cell_lt c0
  obtain ⟨d0, d1, _, _⟩ := two_cells (blk_below HH.out (Ba bb (.cells #[.pointer none, .int .i64 0] 99)))
  clear bb
  go_region
  all_goals go_wp2
  all_goals exact bodyPost_ret (v := .tuple #[.agg #[.pointer (some ⟨pt, 0, none⟩), .int .i64 i], .nilIface]) (by simp [results, Tryz.results42, go_sem, *]) rfl ⟨rfl, (by repeat (first | with_reducible exact Below.refl _ _ | with_reducible assumption | with_reducible apply Ba | with_reducible apply Bd | with_reducible apply Bn | with_reducible apply Bg | (with_reducible refine Bs ?_ (by first | (simp; done) | (simp; omega)) _) | (with_reducible refine Bt ?_ (by assumption)) | (with_reducible refine Bt ?_ (Gr.below (by assumption)))))⟩
end
end Go.Proofs.YtaehendpdfpibaaGreatDoor

/-
  A store's questions: Has, Get, Entity, hasRoom; Set.
-/
namespace Go.Proofs.YtaehendpdfpibaaGreatDoor
set_option linter.unusedSimpArgs false
set_option linter.unusedVariables false
open Go.RowKit Go.Sort Go.Lib Go.Shelf

section
variable {w w' : World} {M X : Nat → Prop} {ps bt bp ct cp : Nat} {ft ft' : Nat → Option Nat} {tt : Nat → Option (Nat × List En)} {pl pl' : Hd → Option Plc} {MT : Nat → Nat → Prop} {L : List En} {A : Nat → Addr}
theorem StoH.congr {ct' cp' : Nat} (h : StoH w M ps bt bp ft ct pl cp tt MT) (e1 : ∀ q, ft q = ft' q) (e2 : ct = ct') (e3 : ∀ x, pl x = pl' x) (e4 : cp = cp') : StoH w M ps bt bp ft' ct' pl' cp' tt MT :=
  { h with
    mapT := (h.mapT.congr (fun q => by rw [e1])).cnt e2
    mapP := (h.mapP.congr e3).cnt e4 }
/-- Who stands there: not, or there. -/
theorem shas_call (h : StoX w M ps bt bp tt pl MT L) (x1 x2 : Int) (hx : HdOk (x1, x2)) (hE : Er8 w A) : Calls Tryz.prog 17 #[psP ps, .agg #[.int .i64 x1, .int .i64 x2]] w fun e w' => e = .returned (.bool (fndE L (x1, x2)).isSome) ∧ RowKit.Below w.heap.size w w' := by
  cases q : fndE L (x1, x2) with
  | none =>
    have HN : Hid (∀ W, RowKit.Below w.heap.size w W → _) := fun W hb => sfind_no (h.below hb) x1 x2 hx q (hE.below hb)
    clear h hE
    unfold errC at HN
    generalize A 2 = ea at HN
    go_enter Tryz.func17, Tryz.ntmps17
    go_wp2_with fail
    refine (HN.out _ (Ba (Below.refl _ w) _)).mono ?_
    rintro e w1 ⟨rfl, hb1⟩
    go_wp2
    go_ret
    exact ⟨rfl, (by repeat (first | with_reducible exact Below.refl _ _ | with_reducible assumption | with_reducible apply Ba | with_reducible apply Bd | with_reducible apply Bn | with_reducible apply Bg | (with_reducible refine Bs ?_ (by first | (simp; done) | (simp; omega)) _) | (with_reducible refine Bt ?_ (by assumption)) | (with_reducible refine Bt ?_ (Gr.below (by assumption)))))⟩
  | some l =>
    obtain ⟨pt, R, n, h1, hT, hn, hRn, hpl⟩ := h.at q
    have HN : Hid (∀ W, RowKit.Below w.heap.size w W → _) := fun W hb => sfind_yes (h.below hb) x1 x2 hx hpl
    clear h hE
    go_enter Tryz.func17, Tryz.ntmps17
    go_wp2_with fail
    refine (HN.out _ (Ba (Below.refl _ w) _)).mono ?_
    rintro e w1 ⟨rfl, hb1⟩
    go_wp2
    go_ret
    exact ⟨rfl, (by repeat (first | with_reducible exact Below.refl _ _ | with_reducible assumption | with_reducible apply Ba | with_reducible apply Bd | with_reducible apply Bn | with_reducible apply Bg | (with_reducible refine Bs ?_ (by first | (simp; done) | (simp; omega)) _) | (with_reducible refine Bt ?_ (by assumption)) | (with_reducible refine Bt ?_ (Gr.below (by assumption)))))⟩
/-- What a table's Get gives, whatever there is. -/
theorem tget_any {q pt n : Nat} {R : List En} (hT : Tab w X pt q R) (hn : n < R.length) (k : Int) (hkw : (Lit.int .i64 k).wf = true) (hE : Er7 w A) : Calls Tryz.prog 57 #[ptP pt, .int .i64 n, .int .i64 k] w fun e w' => e = .returned (.tuple #[aggV (if hasK R[n].2 k then fndV R[n].2 k else (0, 0, 0)), errV A (if hasK R[n].2 k then 0 else 5)]) ∧ RowKit.Below w.heap.size w w' := by
  have hO := hT.ok _ (List.getElem_mem hn)
  have hh := has_iff hO k
  by_cases c : k ∈ Ks q
  · rw [decide_eq_true c] at hh
    simp only [hh, if_true]
    have := tget_yes hT n hn k c hkw
    rwa [getElem!_pos R n hn] at this
  · rw [decide_eq_false c] at hh
    simp only [hh, if_false, Bool.false_eq_true]
    exact tget_kind hT n hn k c hkw hE
set_option maxHeartbeats 2000000 in
theorem sget_call (h : StoX w M ps bt bp tt pl MT L) (x1 x2 k : Int) (hx : HdOk (x1, x2)) (hkw : (Lit.int .i64 k).wf = true) (hE : Er8 w A) : Calls Tryz.prog 14 #[psP ps, .agg #[.int .i64 x1, .int .i64 x2], .int .i64 k] w fun e w' => e = .returned (.tuple #[aggV (getEV L (x1, x2) k), errV A (getEN L (x1, x2) k)]) ∧ RowKit.Below w.heap.size w w' := by
  unfold getEV getEN
  cases q : fndE L (x1, x2) with
  | none =>
    have HN : Hid (∀ W, RowKit.Below w.heap.size w W → _) := fun W hb => sfind_no (h.below hb) x1 x2 hx q (hE.below hb)
    clear h hE
    show Calls _ _ _ _ fun e w' => e = .returned (.tuple #[.agg #[.int .i64 0, .int .i64 0, .int .i64 0], .iface 258 (.pointer (some (A 2)))]) ∧ _
    unfold errC at HN
    generalize A 2 = ea at *
    go_enter Tryz.func14, Tryz.ntmps14
    go_wp2_with fail
    refine (HN.out _ (Ba (Ba (Below.refl _ w) _) _)).mono ?_
    rintro e w1 ⟨rfl, hb1⟩
    have r1 := blk_below (show ((w.alloc (.cells #[.int .i64 x1, .int .i64 x2] 31)).alloc (.cells #[.int .i64 0, .int .i64 0, .int .i64 0] 34)).heap[w.heap.size + 1]? = some (.cells #[.int .i64 0, .int .i64 0, .int .i64 0] 34 (0, 0)) by have := heap_alloc_new (w.alloc (.cells #[.int .i64 x1, .int .i64 x2] 31)) (.cells #[.int .i64 0, .int .i64 0, .int .i64 0] 34); simpa using this) hb1
    obtain ⟨⟨r0, r1, r2⟩, r3, r4, r5⟩ := three_cells r1
    have hr := cell_lt r0
    have B1 := Lib.hid (Bt (Ba (Ba (Below.refl _ w) _) _) hb1)
    clear hb1
    go_wp2
    exact bodyPost_ret (v := .tuple #[.agg #[.int .i64 0, .int .i64 0, .int .i64 0], .iface 258 (.pointer (some ea))]) (by simp [results, Tryz.results14, go_sem, *]) rfl ⟨rfl, (by have hB := B1.out; exact (by repeat (first | with_reducible exact Below.refl _ _ | with_reducible assumption | with_reducible apply Ba | with_reducible apply Bd | with_reducible apply Bn | with_reducible apply Bg | (with_reducible refine Bs ?_ (by first | (simp; done) | (simp; omega)) _) | (with_reducible refine Bt ?_ (by assumption)) | (with_reducible refine Bt ?_ (Gr.below (by assumption))))))⟩
  | some l =>
    obtain ⟨pt, R, n, h1, hT, hn, hRn, hpl⟩ := h.at q
    have HN : Hid (∀ W, RowKit.Below w.heap.size w W → _) := fun W hb => sfind_yes (h.below hb) x1 x2 hx hpl
    have HG : Hid (∀ W, RowKit.Below w.heap.size w W → _) := fun W hb => tget_any (hT.below hb) hn k hkw (hE.e7.below hb)
    rw [rowE_of q]
    rw [hRn] at HG
    simp only [Option.isSome_some, if_true] at HG ⊢
    have e2 : (if (if hasK l k = true then 0 else 5) = 0 then fndV l k else (0, 0, 0)) = (if hasK l k = true then fndV l k else (0, 0, 0)) := by split <;> rfl
    rw [e2]
    have he : errV A (if hasK l k = true then 0 else 5) = .nilIface ∨ ∃ a, errV A (if hasK l k = true then 0 else 5) = .iface 258 (.pointer (some a)) := by
      split
      · exact .inl rfl
      · exact .inr ⟨_, rfl⟩
    clear h hE hT e2 q
    unfold aggV at *
    generalize (if hasK l k = true then fndV l k else (0, 0, 0)) = y at *
    generalize errV A (if hasK l k = true then 0 else 5) = ev at *
    obtain ⟨y1, y2, y3⟩ := y
    dsimp only at *
    go_enter Tryz.func14, Tryz.ntmps14
    go_wp2_with fail
    refine (HN.out _ (Ba (Ba (Below.refl _ w) _) _)).mono ?_
    rintro e w1 ⟨rfl, hb1⟩
    have b1 := Lib.hid (blk_below (show ((w.alloc (.cells #[.int .i64 x1, .int .i64 x2] 31)).alloc (.cells #[.int .i64 0, .int .i64 0, .int .i64 0] 34)).heap[w.heap.size + 1]? = some (.cells #[.int .i64 0, .int .i64 0, .int .i64 0] 34 (0, 0)) by have := heap_alloc_new (w.alloc (.cells #[.int .i64 x1, .int .i64 x2] 31)) (.cells #[.int .i64 0, .int .i64 0, .int .i64 0] 34); simpa using this) hb1)
    have B1 := Lib.hid (Bt (Ba (Ba (Below.refl _ w) _) _) hb1)
    have hsz : w.heap.size + 1 < w1.heap.size := (Array.getElem?_eq_some_iff.1 b1.out).1
    clear hb1
    go_wp2_with fail
    have B2 := Lib.hid (Ba B1.out (.cells #[.pointer (some ⟨pt, 0, none⟩), .int .i64 n] 99))
    have b2 := Lib.hid (blk_below b1.out (Ba (Below.refl _ w1) (.cells #[.pointer (some ⟨pt, 0, none⟩), .int .i64 n] 99)))
    refine (HG.out _ B2.out).mono ?_
    rintro e w2 ⟨rfl, hb2⟩
    obtain ⟨⟨r0, r1, r2⟩, r3, r4, r5⟩ := three_cells (blk_below b2.out hb2)
    have hr := cell_lt r0
    have B3 := Lib.hid (Bt B2.out hb2)
    clear hb2
    go_wp2
    rcases he with rfl | ⟨a, rfl⟩
    · exact bodyPost_ret (v := .tuple #[.agg #[.int .i64 y1, .int .i64 y2, .int .i64 y3], .nilIface]) (by simp [results, Tryz.results14, go_sem, *]) rfl ⟨rfl, (by have hB := B3.out; exact (by repeat (first | with_reducible exact Below.refl _ _ | with_reducible assumption | with_reducible apply Ba | with_reducible apply Bd | with_reducible apply Bn | with_reducible apply Bg | (with_reducible refine Bs ?_ (by first | (simp; done) | (simp; omega)) _) | (with_reducible refine Bt ?_ (by assumption)) | (with_reducible refine Bt ?_ (Gr.below (by assumption))))))⟩
    · exact bodyPost_ret (v := .tuple #[.agg #[.int .i64 y1, .int .i64 y2, .int .i64 y3], .iface 258 (.pointer (some a))]) (by simp [results, Tryz.results14, go_sem, *]) rfl ⟨rfl, (by have hB := B3.out; exact (by repeat (first | with_reducible exact Below.refl _ _ | with_reducible assumption | with_reducible apply Ba | with_reducible apply Bd | with_reducible apply Bn | with_reducible apply Bg | (with_reducible refine Bs ?_ (by first | (simp; done) | (simp; omega)) _) | (with_reducible refine Bt ?_ (by assumption)) | (with_reducible refine Bt ?_ (Gr.below (by assumption))))))⟩
end
end Go.Proofs.YtaehendpdfpibaaGreatDoor

/-
  A store's Entity, Set, hasRoom.
-/
namespace Go.Proofs.YtaehendpdfpibaaGreatDoor
set_option linter.unusedSimpArgs false
set_option linter.unusedVariables false
open Go.RowKit Go.Sort Go.Lib Go.Shelf

section
variable {w w' : World} {M X : Nat → Prop} {ps bt bp ct cp : Nat} {ft ft' : Nat → Option Nat} {tt : Nat → Option (Nat × List En)} {pl pl' : Hd → Option Plc} {MT : Nat → Nat → Prop} {L : List En} {A : Nat → Addr}
set_option maxHeartbeats 2000000 in
theorem sent_call (h : StoX w M ps bt bp tt pl MT L) (x1 x2 : Int) (hx : HdOk (x1, x2)) (hE : Er8 w A) (hT : TabW w) : Calls Tryz.prog 19 #[psP ps, .agg #[.int .i64 x1, .int .i64 x2]] w fun e w' =>
    ∃ v, e = .returned (.tuple #[.agg #[.int .i64 (entE L (x1, x2)).1.1, .int .i64 (entE L (x1, x2)).1.2, v], errV A (takeEN L (x1, x2))]) ∧ w'.ownsRow w.heap.size 34 3 v (entE L (x1, x2)).2.length (flat encV (entE L (x1, x2)).2) ∧ RowKit.Below w.heap.size w w' := by
  unfold entE takeEN
  cases q : fndE L (x1, x2) with
  | none =>
    have HN : Hid (∀ W, RowKit.Below w.heap.size w W → _) := fun W hb => sfind_no (h.below hb) x1 x2 hx q (hE.below hb)
    clear h hE
    show Calls _ _ _ _ fun e w' => ∃ v, e = .returned (.tuple #[.agg #[.int .i64 0, .int .i64 0, v], .iface 258 (.pointer (some (A 2)))]) ∧ w'.ownsRow w.heap.size 34 3 v 0 (flat encV []) ∧ _
    unfold errC at HN
    generalize A 2 = ea at *
    go_enter Tryz.func19, Tryz.ntmps19
    go_wp2_with fail
    refine (HN.out _ (Ba (Ba (Below.refl _ w) _) _)).mono ?_
    rintro e w1 ⟨rfl, hb1⟩
    have r1 := blk_below (show ((w.alloc (.cells #[.int .i64 x1, .int .i64 x2] 31)).alloc (.cells #[.int .i64 0, .int .i64 0, .slice none 0 0] 38)).heap[w.heap.size + 1]? = some (.cells #[.int .i64 0, .int .i64 0, .slice none 0 0] 38 (0, 0)) by have := heap_alloc_new (w.alloc (.cells #[.int .i64 x1, .int .i64 x2] 31)) (.cells #[.int .i64 0, .int .i64 0, .slice none 0 0] 38); simpa using this) hb1
    obtain ⟨⟨r0, r1, r2⟩, r3, r4, r5⟩ := three_cells r1
    have hr := cell_lt r0
    have B1 := Lib.hid (Bt (Ba (Ba (Below.refl _ w) _) _) hb1)
    clear hb1
    go_wp2
    exact bodyPost_ret (v := .tuple #[.agg #[.int .i64 0, .int .i64 0, .slice none 0 0], .iface 258 (.pointer (some ea))]) (by simp [results, Tryz.results19, go_sem, *]) rfl ⟨.slice none 0 0, rfl, World.ownsRow_nil _ _ _ _, (by have hB := B1.out; exact (by repeat (first | with_reducible exact Below.refl _ _ | with_reducible assumption | with_reducible apply Ba | with_reducible apply Bd | with_reducible apply Bn | with_reducible apply Bg | (with_reducible refine Bs ?_ (by first | (simp; done) | (simp; omega)) _) | (with_reducible refine Bt ?_ (by assumption)) | (with_reducible refine Bt ?_ (Gr.below (by assumption))))))⟩
  | some l =>
    obtain ⟨pt, R, n, h1, hTb, hn, hRn, hpl⟩ := h.at q
    have HN : Hid (∀ W, RowKit.Below w.heap.size w W → _) := fun W hb => sfind_yes (h.below hb) x1 x2 hx hpl
    have HG : Hid (∀ W, RowKit.Below w.heap.size w W → _) := fun W hb => tent_yes (hTb.below hb) n hn (hT.below hb)
    rw [rowE_of q]
    rw [getElem!_pos R n hn, hRn] at HG
    simp only [Option.isSome_some, if_true] at HG ⊢
    rw [errV_no]
    clear h hE hTb q
    go_enter Tryz.func19, Tryz.ntmps19
    go_wp2_with fail
    refine (HN.out _ (Ba (Ba (Below.refl _ w) _) _)).mono ?_
    rintro e w1 ⟨rfl, hb1⟩
    have b1 := Lib.hid (blk_below (show ((w.alloc (.cells #[.int .i64 x1, .int .i64 x2] 31)).alloc (.cells #[.int .i64 0, .int .i64 0, .slice none 0 0] 38)).heap[w.heap.size + 1]? = some (.cells #[.int .i64 0, .int .i64 0, .slice none 0 0] 38 (0, 0)) by have := heap_alloc_new (w.alloc (.cells #[.int .i64 x1, .int .i64 x2] 31)) (.cells #[.int .i64 0, .int .i64 0, .slice none 0 0] 38); simpa using this) hb1)
    have B1 := Lib.hid (Bt (Ba (Ba (Below.refl _ w) _) _) hb1)
    have hsz : w.heap.size + 1 < w1.heap.size := (Array.getElem?_eq_some_iff.1 b1.out).1
    clear hb1
    go_wp2_with fail
    have B2 := Lib.hid (Ba B1.out (.cells #[.pointer (some ⟨pt, 0, none⟩), .int .i64 n] 99))
    have b2 := Lib.hid (blk_below b1.out (Ba (Below.refl _ w1) (.cells #[.pointer (some ⟨pt, 0, none⟩), .int .i64 n] 99)))
    refine (HG.out _ B2.out).mono ?_
    rintro e w2 ⟨v, rfl, ho, hb2⟩
    have b3 := Lib.hid (blk_below b2.out hb2)
    obtain ⟨⟨r0, r1, r2⟩, r3, r4, r5⟩ := three_cells b3.out
    have hr := cell_lt r0
    have B3 := Lib.hid (Bt B2.out hb2)
    have HO := Lib.hid (row_mono ho B2.out.size)
    obtain ⟨pv, cv, rfl, _, _, _⟩ := row_val ho
    have nv : ∀ g, (Value.slice pv l.length cv).ownBlock = some g → g ≠ w.heap.size + 1 := fun g hg e => by
      have := row_base ho hg
      simp at this
      omega
    clear hb2 ho
    go_wp2
    exact bodyPost_ret (v := .tuple #[.agg #[.int .i64 x1, .int .i64 x2, .slice pv l.length cv], .nilIface]) (by simp [results, Tryz.results19, go_sem, *]) rfl ⟨_, rfl, set3_row b3.out HO.out (by decide) _ _ _, (by have hB := B3.out; exact (by repeat (first | with_reducible exact Below.refl _ _ | with_reducible assumption | with_reducible apply Ba | with_reducible apply Bd | with_reducible apply Bn | with_reducible apply Bg | (with_reducible refine Bs ?_ (by first | (simp; done) | (simp; omega)) _) | (with_reducible refine Bt ?_ (by assumption)) | (with_reducible refine Bt ?_ (Gr.below (by assumption))))))⟩

/-- What a table's Set does, whatever there is. -/
theorem tset_any {q pt n : Nat} {R : List En} (hT : Tab w X pt q R) (hn : n < R.length) (x1 x2 x3 : Int) (hkw : (Lit.int .i64 x1).wf = true) (hE : Er7 w A) : Calls Tryz.prog 95 #[ptP pt, .int .i64 n, .agg #[.int .i64 x1, .int .i64 x2, .int .i64 x3]] w fun e w' =>
    e = .returned (errV A (if hasK R[n].2 x1 then chk (x1, x2, x3) else 5)) ∧ Tab w' (New X w w') pt q (if (if hasK R[n].2 x1 then chk (x1, x2, x3) else 5) = 0 then R.set n (R[n].1, putV R[n].2 (x1, x2, x3)) else R) ∧ Tch X w w' := by
  have hO := hT.ok _ (List.getElem_mem hn)
  have hh := has_iff hO x1
  have stay : ∀ {ev : Value} {w1 : World}, RowKit.Below w.heap.size w w1 → Tab w1 (New X w w1) pt q R ∧ Tch X w w1 := fun hb => ⟨(hT.below hb).mono (fun b e => .inl e) (New.lt hT.lt hb.size), Tch.of hb⟩
  by_cases c : x1 ∈ Ks q
  · rw [decide_eq_true c] at hh
    simp only [hh, if_true]
    by_cases d : chk (x1, x2, x3) = 0
    · simp only [d, if_true, errV_no]
      exact tset_yes hT n hn x1 x2 x3 c hkw d hE
    · simp only [d, if_false]
      rw [errV_at _ _ d]
      exact (tset_chk hT n hn x1 x2 x3 c hkw d hE).mono fun e w' ⟨h1, h2⟩ => ⟨h1, stay (ev := .nilIface) h2⟩
  · rw [decide_eq_false c] at hh
    simp only [hh, if_false, Bool.false_eq_true, show ¬ (5 = 0) by decide]
    exact (tset_kind hT n hn x1 x2 x3 c hkw hE).mono fun e w' ⟨h1, h2⟩ => ⟨h1, stay (ev := .nilIface) h2⟩
end
/-- A component that is set leaves the mask. -/
theorem mask_put {l : List Vl} {x : Vl} (hl : RightV l) (hx : chk x = 0) (hh : hasK l x.1 = true) : maskV (putV l x) = maskV l := by
  have hO : EntOk (maskV l) (((0, 0), l) : En) := ent_of ((rightB_iff l).2 hl) rfl
  have hk : x.1 ∈ Ks (maskV l) := by
    have := has_iff hO x.1
    rw [show hasK (((0, 0), l) : En).2 x.1 = true from hh] at this
    exact of_decide_eq_true this.symm
  have h2 := ent_put hO hx hk
  exact (row_of_mask (putV_right hl hx) (mask_lt hl)).2 h2.1
/-- One row of a table has other components of its kinds. -/
theorem Lays.set {tt : Nat → Option (Nat × List En)} {pl : Hd → Option Plc} {L : List En} (h : Lays tt pl L) (hL : RiseE L) {x : Hd} {l l' : List Vl} {pt n : Nat} {R : List En} (h0 : (x, l) ∈ L) (hm : maskV l' = maskV l) (hq : tt (maskV l) = some (pt, R)) (hn : n < R.length) (hR : R[n] = (x, l)) :
    Lays (fun y => if y = maskV l then some (pt, R.set n (x, l')) else tt y) pl (setE L x l') := by
  have hme := mem_setE hL h0 (l := l')
  have hidx : ∀ i (hi : i < R.length), i ≠ n → R[i].1 ≠ x := fun i hi hne e => by
    have h1 := h.plc _ _ _ i hq hi
    have h2 := h.plc _ _ _ n hq hn
    rw [e] at h1
    rw [hR] at h2
    rw [h1] at h2
    simp only [Option.some.injEq, Prod.mk.injEq, true_and] at h2
    omega
  refine ⟨fun q pt' R' e => ?_, fun r hr => ?_, fun q pt' R' i e hi => ?_, fun y p e => ?_⟩
  · by_cases c : q = maskV l
    · subst c
      simp only [if_true, Option.some.injEq, Prod.mk.injEq] at e
      obtain ⟨rfl, rfl⟩ := e
      refine ⟨fun e2 => ?_, fun r hr => ?_⟩
      · have := congrArg List.length e2
        simp at this
        rw [this] at hn
        cases hn
      · obtain ⟨i, hi, e2⟩ := List.getElem_of_mem hr
        rw [List.length_set] at hi
        rw [List.getElem_set] at e2
        by_cases c2 : n = i
        · rw [if_pos c2] at e2
          subst e2
          exact ⟨(hme _).2 (.inl rfl), hm⟩
        · rw [if_neg c2] at e2
          subst e2
          have := (h.rows _ _ _ hq).2 R[i] (List.getElem_mem hi)
          exact ⟨(hme _).2 (.inr ⟨this.1, hidx i hi (fun e => c2 e.symm)⟩), this.2⟩
    · rw [if_neg c] at e
      refine ⟨(h.rows q pt' R' e).1, fun r hr => ?_⟩
      have := (h.rows q pt' R' e).2 r hr
      refine ⟨(hme r).2 (.inr ⟨this.1, fun e2 => ?_⟩), this.2⟩
      have e3 := rise_one hL this.1 h0 e2
      rw [e3] at this
      exact c this.2.symm
  · rcases (hme r).1 hr with rfl | ⟨hr, hne⟩
    · exact ⟨pt, _, by rw [if_pos hm], List.mem_iff_getElem.2 ⟨n, by simpa using hn, by simp⟩⟩
    · obtain ⟨pt', R', e, hm'⟩ := h.all r hr
      by_cases c : maskV r.2 = maskV l
      · rw [c, hq] at e
        simp only [Option.some.injEq, Prod.mk.injEq] at e
        obtain ⟨rfl, rfl⟩ := e
        obtain ⟨i, hi, e2⟩ := List.getElem_of_mem hm'
        have hin : ¬ n = i := fun e3 => by
          subst e3
          rw [hR] at e2
          exact hne (congrArg Prod.fst e2.symm)
        refine ⟨pt, _, by rw [if_pos c], List.mem_iff_getElem.2 ⟨i, by simpa using hi, ?_⟩⟩
        rw [List.getElem_set, if_neg hin, e2]
      · exact ⟨pt', R', by rw [if_neg c]; exact e, hm'⟩
  · by_cases c : q = maskV l
    · subst c
      simp only [if_true, Option.some.injEq, Prod.mk.injEq] at e
      obtain ⟨rfl, rfl⟩ := e
      rw [List.length_set] at hi
      have := h.plc _ _ _ i hq hi
      rw [List.getElem_set]
      split
      · rename_i c2
        subst c2
        rw [hR] at this
        exact this
      · exact this
    · rw [if_neg c] at e
      exact h.plc q pt' R' i e hi
  · rw [hds_setE]
    exact h.inv y p e

section
variable {w w' : World} {M X : Nat → Prop} {ps bt bp ct cp : Nat} {ft ft' : Nat → Option Nat} {tt : Nat → Option (Nat × List En)} {pl pl' : Hd → Option Plc} {MT : Nat → Nat → Prop} {L : List En} {A : Nat → Addr}
theorem setE_self {x : Hd} {l : List Vl} (hL : RiseE L) (h0 : (x, l) ∈ L) : setE L x l = L := by
  unfold setE
  refine (List.map_congr_left fun r hr => ?_).trans (List.map_id' _)
  split
  · rename_i e
    exact (rise_one hL hr h0 e).symm
  · rfl
theorem nM_same {x : Hd} {l l' : List Vl} (hL : RiseE L) (h0 : (x, l) ∈ L) (hm : maskV l' = maskV l) : nM (setE L x l') = nM L := by
  have hs : nM (setE L x l') = nM (setE L x l) := by
    unfold nM mskE
    rw [List.filter_congr (fun q _ => ?_)]
    rw [Bool.eq_iff_iff, hasM_iff, hasM_iff]
    constructor
    · rintro ⟨r, hr, e⟩
      rcases (mem_setE hL h0 r).1 hr with rfl | hr
      · exact ⟨_, (mem_setE hL h0 _).2 (.inl rfl), hm.symm.trans e⟩
      · exact ⟨r, (mem_setE hL h0 _).2 (.inr hr), e⟩
    · rintro ⟨r, hr, e⟩
      rcases (mem_setE hL h0 r).1 hr with rfl | hr
      · exact ⟨_, (mem_setE hL h0 _).2 (.inl rfl), hm.trans e⟩
      · exact ⟨r, (mem_setE hL h0 _).2 (.inr hr), e⟩
  rw [hs, setE_self hL h0]
/-- The store behind a table's call that sets one row. -/
theorem StoX.setRow (h : StoX w M ps bt bp tt pl MT L) {x : Hd} {l l' : List Vl} {pt n : Nat} {R : List En} (h0 : (x, l) ∈ L) (hr : RightV l') (hm : maskV l' = maskV l) (hq : tt (maskV l) = some (pt, R)) (hn : n < R.length) (hR : R[n] = (x, l))
    (hT : Tab w' (New (MT (maskV l)) w w') pt (maskV l) (R.set n (x, l'))) (ht : Tch (MT (maskV l)) w w') : StoM w' (New M w w') ps (setE L x l') := by
  have hL := h.good.rise
  have hN := nM_same hL h0 hm
  refine ⟨bt, bp, _, pl, _, ⟨h.good.set h0 hr (by rw [hN]; exact h.good.msk), h.lays.set hL h0 hm hq hn hR, (h.mem.tabTo hq hT ht).congr (fun q => ?_) hN.symm (fun _ => rfl) (len_setE _ _ _).symm⟩⟩
  unfold ftO
  by_cases c : q = maskV l
  · subst c; simp [hq]
  · simp [c]
set_option maxHeartbeats 2000000 in
theorem sset_call (h : StoX w M ps bt bp tt pl MT L) (x1 x2 y1 y2 y3 : Int) (hx : HdOk (x1, x2)) (hkw : (Lit.int .i64 y1).wf = true) (hE : Er8 w A) : Calls Tryz.prog 51 #[psP ps, .agg #[.int .i64 x1, .int .i64 x2], .agg #[.int .i64 y1, .int .i64 y2, .int .i64 y3]] w fun e w' =>
    e = .returned (errV A (setEN L (x1, x2) (y1, y2, y3))) ∧ StoM w' (New M w w') ps (setEL L (x1, x2) (y1, y2, y3)) ∧ Tch M w w' := by
  unfold setEL setEN
  cases q : fndE L (x1, x2) with
  | none =>
    have HN : Hid (∀ W, RowKit.Below w.heap.size w W → _) := fun W hb => sfind_no (h.below hb) x1 x2 hx q (hE.below hb)
    have HS : Hid (∀ W, RowKit.Below w.heap.size w W → StoM W (New M w W) ps L) := fun W hb => (h.below hb).m.mono (fun b e => .inl e) (New.lt h.mem.lt hb.size)
    clear h hE
    show Calls _ _ _ _ fun e w' => e = .returned (.iface 258 (.pointer (some (A 2)))) ∧ StoM w' _ ps L ∧ _
    unfold errC at HN
    generalize A 2 = ea at *
    go_enter Tryz.func51, Tryz.ntmps51
    go_wp2_with fail
    refine (HN.out _ (Ba (Ba (Below.refl _ w) _) _)).mono ?_
    rintro e w1 ⟨rfl, hb1⟩
    have B1 := Lib.hid (Bt (Ba (Ba (Below.refl _ w) _) _) hb1)
    clear hb1
    go_wp2
    go_ret
    have hB : RowKit.Below w.heap.size w (w1.alloc (.cells #[.pointer none, .int .i64 0] 99)) := Ba B1.out _
    exact ⟨rfl, HS.out _ hB, Tch.of hB⟩
  | some l =>
    obtain ⟨pt, R, n, h1, hTb, hn, hRn, hpl⟩ := h.at q
    have h0 := (fndE_some h.good.rise).1 q
    have hrow := h.good.right _ h0
    have HN : Hid (∀ W, RowKit.Below w.heap.size w W → _) := fun W hb => sfind_yes (h.below hb) x1 x2 hx hpl
    have HG : Hid (∀ W, RowKit.Below w.heap.size w W → _) := fun W hb => tset_any (hTb.below hb) hn y1 y2 y3 hkw (hE.e7.below hb)
    rw [hRn] at HG
    simp only [rowE_of q, Option.isSome_some, if_true] at HG ⊢
    have HS : Hid (∀ W W', RowKit.Below w.heap.size w W → Tab W' (New (MT (maskV l)) W W') pt (maskV l) (if (if hasK l y1 = true then chk (y1, y2, y3) else 5) = 0 then R.set n ((x1, x2), putV l (y1, y2, y3)) else R) → Tch (MT (maskV l)) W W' →
        StoM W' (New M W W') ps (if (if hasK l y1 = true then chk (y1, y2, y3) else 5) = 0 then setE L (x1, x2) (putV l (y1, y2, y3)) else L)) := fun W W' hb hT ht => by
      by_cases c : (if hasK l y1 = true then chk (y1, y2, y3) else 5) = 0
      · rw [if_pos c] at hT ⊢
        have hh : hasK l y1 = true := by
          by_cases d : hasK l y1 = true
          · exact d
          · rw [if_neg d] at c; cases c
        rw [if_pos hh] at c
        exact (h.below hb).setRow h0 (putV_right hrow c) (mask_put hrow c hh) h1 hn hRn hT ht
      · rw [if_neg c]
        rw [if_neg c] at hT
        have := (h.below hb).mem.tabTo h1 hT ht
        have e1 : (fun x => if x = maskV l then some (pt, R) else tt x) = tt := funext fun x => by
          by_cases c2 : x = maskV l
          · rw [if_pos c2, c2, h1]
          · rw [if_neg c2]
        rw [e1] at this
        exact ⟨bt, bp, tt, pl, _, h.good, h.lays, this⟩
    have he : errV A (if hasK l y1 = true then chk (y1, y2, y3) else 5) = .nilIface ∨ ∃ a, errV A (if hasK l y1 = true then chk (y1, y2, y3) else 5) = .iface 258 (.pointer (some a)) := by
      generalize (if hasK l y1 = true then chk (y1, y2, y3) else 5) = n9
      by_cases c9 : n9 = 0
      · exact .inl (by rw [c9, errV_no])
      · exact .inr ⟨_, errV_at _ _ c9⟩
    have hlt : ∀ b, MT (maskV l) b → b < w.heap.size := hTb.lt
    have hin : ∀ b, MT (maskV l) b → M b := fun b e => (h.mem.apart _ b e).1
    have hlM := h.mem.lt
    clear h hE hTb q h0 hrow
    generalize (if (if hasK l y1 = true then chk (y1, y2, y3) else 5) = 0 then R.set n ((x1, x2), putV l (y1, y2, y3)) else R) = R' at *
    generalize (if (if hasK l y1 = true then chk (y1, y2, y3) else 5) = 0 then setE L (x1, x2) (putV l (y1, y2, y3)) else L) = L' at *
    generalize errV A (if hasK l y1 = true then chk (y1, y2, y3) else 5) = ev at *
    go_enter Tryz.func51, Tryz.ntmps51
    go_wp2_with fail
    refine (HN.out _ (Ba (Ba (Below.refl _ w) _) _)).mono ?_
    rintro e w1 ⟨rfl, hb1⟩
    have B1 := Lib.hid (Bt (Ba (Ba (Below.refl _ w) _) _) hb1)
    have b1 := Lib.hid (blk_below (show ((w.alloc (.cells #[.int .i64 x1, .int .i64 x2] 31)).alloc (.cells #[.int .i64 y1, .int .i64 y2, .int .i64 y3] 34)).heap[w.heap.size + 1]? = some (.cells #[.int .i64 y1, .int .i64 y2, .int .i64 y3] 34 (0, 0)) by have := heap_alloc_new (w.alloc (.cells #[.int .i64 x1, .int .i64 x2] 31)) (.cells #[.int .i64 y1, .int .i64 y2, .int .i64 y3] 34); simpa using this) hb1)
    have hsz : w.heap.size + 1 < w1.heap.size := (Array.getElem?_eq_some_iff.1 b1.out).1
    obtain ⟨⟨r0, r1, r2⟩, r3, r4, r5⟩ := three_cells b1.out
    clear hb1
    go_wp2_with fail
    have B2 := Lib.hid (Ba B1.out (.cells #[.pointer (some ⟨pt, 0, none⟩), .int .i64 n] 99))
    refine (HG.out _ B2.out).mono ?_
    rintro e w2 ⟨rfl, hT2, ht2⟩
    have S2 := HS.out _ _ B2.out hT2 ht2
    go_wp2
    have hfin : StoM w2 (New M w w2) ps L' := S2.mono (fun b e => e.imp id (fun e => ⟨Nat.le_trans B2.out.size e.1, e.2⟩)) (New.lt hlM (Nat.le_trans B2.out.size ht2.size))
    have hfin2 : Tch M w w2 := (Tch.of B2.out : Tch M w _).more (ht2.mono hin)
    rcases he with rfl | ⟨a, rfl⟩
    · go_ret
      exact ⟨rfl, hfin, hfin2⟩
    · go_ret
      exact ⟨rfl, hfin, hfin2⟩
end
end Go.Proofs.YtaehendpdfpibaaGreatDoor

/-
  A store's hasRoom, New.
-/
namespace Go.Proofs.YtaehendpdfpibaaGreatDoor
set_option linter.unusedSimpArgs false
set_option linter.unusedVariables false
open Go.RowKit Go.Sort Go.Lib Go.Shelf

section
variable {w w' : World} {M X : Nat → Prop} {ps bt bp ct cp : Nat} {ft ft' : Nat → Option Nat} {tt : Nat → Option (Nat × List En)} {pl pl' : Hd → Option Plc} {MT : Nat → Nat → Prop} {L : List En} {A : Nat → Addr}
theorem sroom_call (h : StoH w M ps bt bp ft ct pl cp tt MT) (q : Nat) (hq : q < 1024) (g : Int) (hg : g = 0 ∨ g = 1) (hc : ct ≤ 1024) : Calls Tryz.prog 72 #[psP ps, .int .u64 q, .int .i64 g] w fun e w' => e = .returned (.bool ((ft q).isSome || decide ((ct : Int) - g < 32))) ∧ w = w' := by
  obtain ⟨c0, c1, f0, f1⟩ := two_cells h.head
  have hl := cell_lt c0
  have hlen := fun ty => h.mapT.len mptU ty
  have hlk := h.mapT.look mptU q (okU_lt (by omega))
  have hg0 : 0 ≤ g ∧ g ≤ 1 := by omega
  clear h hg
  unfold mU at hlk
  cases e : ft q with
  | none =>
    rw [e] at hlk
    replace hlk : (Instr.lookup MapUT (.map (some bt)) (.int .u64 (q : Int)) false).run Tryz.prog w = .ok (.pointer none) w := hlk
    go_enter Tryz.func72, Tryz.ntmps72
    go_wp2
    go_ret
    exact ⟨by simp, rfl⟩
  | some pt =>
    rw [e] at hlk
    replace hlk : (Instr.lookup MapUT (.map (some bt)) (.int .u64 (q : Int)) false).run Tryz.prog w = .ok (.pointer (some ⟨pt, 0, none⟩)) w := hlk
    go_enter Tryz.func72, Tryz.ntmps72
    go_wp2
    go_ret
    exact ⟨by simp, rfl⟩
theorem snew_call (w : World) : Calls Tryz.prog 9 #[] w fun e w' => ∃ ps, e = .returned (psP ps) ∧ StoM w' (Fresh w w') ps [] ∧ RowKit.Below w.heap.size w w' := by
  have hmm := @run_makeMap Tryz.prog
  go_enter Tryz.func9, Tryz.ntmps9
  go_wp2
  clear hmm
  go_ret
  have b1 := Ba (Below.refl _ w) (.map #[] 0)
  have b2 := Ba (Below.refl _ (w.alloc (.map #[] 0))) (.map #[] 0)
  have b3 := Ba (Below.refl _ ((w.alloc (.map #[] 0)).alloc (.map #[] 0))) (.cells #[.map (some w.heap.size), .map (some (w.heap.size + 1))] 95)
  refine ⟨_, rfl, ⟨w.heap.size, w.heap.size + 1, fun _ => none, fun _ => none, fun _ _ => False, good_nil, ⟨by simp, by simp, by simp, by simp⟩, ?_⟩, (b1.trans (b2.mono (by simp))).trans (b3.mono (by simp; omega))⟩
  have h1 : MapU (w.alloc (.map #[] 0)) w.heap.size 0 (ftO fun _ => none) := MapG.made w
  have h2 : MapL ((w.alloc (.map #[] 0)).alloc (.map #[] 0)) (w.alloc (.map #[] 0)).heap.size 0 (fun _ => none) := MapG.made _
  have h2' : MapL ((w.alloc (.map #[] 0)).alloc (.map #[] 0)) (w.heap.size + 1) 0 (fun _ => none) := by simpa using h2
  exact ⟨by have := heap_alloc_new ((w.alloc (.map #[] 0)).alloc (.map #[] 0)) (.cells #[.map (some w.heap.size), .map (some (w.heap.size + 1))] 95); simpa using this,
    ((h1.below b2).below b3).cnt (by rw [nM_nil]), h2'.below b3, fun q pt R e => by simp at e, fun q e b hb => hb, fun q b e => e.elim, ⟨.inr ⟨by omega, by simp⟩, .inr ⟨Nat.le_refl _, by simp; omega⟩, .inr ⟨by omega, by simp⟩, by omega⟩, fun b e => e.elim (fun e => e.elim) (fun e => e.2)⟩
end
end Go.Proofs.YtaehendpdfpibaaGreatDoor

/-
  A store's lay: an entity goes into the table of its mask.
-/
namespace Go.Proofs.YtaehendpdfpibaaGreatDoor
set_option linter.unusedSimpArgs false
set_option linter.unusedVariables false
open Go.RowKit Go.Sort Go.Lib Go.Shelf

theorem nodup_len {α : Type} [DecidableEq α] : ∀ (a b : List α), a.Nodup → (∀ x ∈ a, x ∈ b) → a.length ≤ b.length
  | [], b, _, _ => Nat.zero_le _
  | x :: r, b, hn, hs => by
    obtain ⟨h1, h2⟩ := List.nodup_cons.1 hn
    have hx := hs x (by simp)
    have := nodup_len r (b.erase x) h2 (fun y hy => (List.mem_erase_of_ne (fun e => h1 (by rw [← e]; exact hy))).2 (hs y (List.mem_cons_of_mem _ hy)))
    rw [List.length_erase_of_mem hx] at this
    have hb : 0 < b.length := List.length_pos_of_mem hx
    simp only [List.length_cons]
    omega
theorem Lays.inj {tt : Nat → Option (Nat × List En)} {pl : Hd → Option Plc} {L : List En} (h : Lays tt pl L) {q pt : Nat} {R : List En} (hq : tt q = some (pt, R)) {i j : Nat} (hi : i < R.length) (hj : j < R.length) (e : R[i].1 = R[j].1) : i = j := by
  have h1 := h.plc _ _ _ i hq hi
  have h2 := h.plc _ _ _ j hq hj
  rw [e, h2] at h1
  simp only [Option.some.injEq, Prod.mk.injEq, true_and] at h1
  omega
theorem Lays.nodup {tt : Nat → Option (Nat × List En)} {pl : Hd → Option Plc} {L : List En} (h : Lays tt pl L) {q pt : Nat} {R : List En} (hq : tt q = some (pt, R)) : (hds R).Nodup := by
  unfold hds
  rw [List.nodup_iff_pairwise_ne, List.pairwise_iff_getElem]
  intro i j hi hj hij e
  rw [List.length_map] at hi hj
  rw [List.getElem_map, List.getElem_map] at e
  have := h.inj hq hi hj e
  omega
theorem Lays.rowLen {tt : Nat → Option (Nat × List En)} {pl : Hd → Option Plc} {L : List En} (h : Lays tt pl L) {q pt : Nat} {R : List En} (hq : tt q = some (pt, R)) : R.length ≤ L.length := by
  have := nodup_len (hds R) (hds L) (h.nodup hq) (fun x hx => by
    obtain ⟨r, hr, rfl⟩ := List.mem_map.1 hx
    exact List.mem_map_of_mem ((h.rows _ _ _ hq).2 r hr).1)
  simpa [hds] using this
/-- An entity more. -/
theorem Lays.add {tt : Nat → Option (Nat × List En)} {pl : Hd → Option Plc} {L : List En} (h : Lays tt pl L) {x : Hd} {l : List Vl} {pt : Nat} {R : List En} (hx : x ∉ hds L) (hq : tt (maskV l) = some (pt, R) ∨ (tt (maskV l) = Option.none ∧ R = [])) :
    Lays (fun y => if y = maskV l then some (pt, R ++ [(x, l)]) else tt y) (fun z => if z = x then some (some pt, (R.length : Int)) else pl z) (insE L (x, l)) := by
  have hme := mem_insE L (x, l)
  have hR : ∀ r ∈ R, r ∈ L ∧ maskV r.2 = maskV l := fun r hr => by
    rcases hq with e | ⟨_, e⟩
    · exact (h.rows _ _ _ e).2 r hr
    · subst e; cases hr
  have hpl : ∀ i (hi : i < R.length), pl R[i].1 = some (some pt, (i : Int)) := fun i hi => by
    rcases hq with e | ⟨_, e⟩
    · exact h.plc _ _ _ i e hi
    · subst e; cases hi
  refine ⟨fun q pt' R' e => ?_, fun r hr => ?_, fun q pt' R' i e hi => ?_, fun y p e => ?_⟩
  · by_cases c : q = maskV l
    · rw [if_pos c] at e
      simp only [Option.some.injEq, Prod.mk.injEq] at e
      obtain ⟨rfl, rfl⟩ := e
      refine ⟨by simp, fun r hr => ?_⟩
      rcases List.mem_append.1 hr with hr | hr
      · exact ⟨(hme r).2 (.inr (hR r hr).1), by rw [(hR r hr).2, c]⟩
      · obtain rfl := List.mem_singleton.1 hr
        exact ⟨(hme _).2 (.inl rfl), c.symm⟩
    · rw [if_neg c] at e
      exact ⟨(h.rows q pt' R' e).1, fun r hr => ⟨(hme r).2 (.inr ((h.rows q pt' R' e).2 r hr).1), ((h.rows q pt' R' e).2 r hr).2⟩⟩
  · rcases (hme r).1 hr with rfl | hr
    · exact ⟨pt, _, if_pos rfl, by simp⟩
    · obtain ⟨pt', R', e, hm⟩ := h.all r hr
      by_cases c : maskV r.2 = maskV l
      · rcases hq with e2 | ⟨e2, _⟩
        · rw [c, e2] at e
          simp only [Option.some.injEq, Prod.mk.injEq] at e
          obtain ⟨rfl, rfl⟩ := e
          exact ⟨pt, _, if_pos c, List.mem_append_left _ hm⟩
        · rw [c, e2] at e; cases e
      · exact ⟨pt', R', by rw [if_neg c]; exact e, hm⟩
  · by_cases c : q = maskV l
    · rw [if_pos c] at e
      simp only [Option.some.injEq, Prod.mk.injEq] at e
      obtain ⟨rfl, rfl⟩ := e
      by_cases c2 : i < R.length
      · rw [List.getElem_append_left c2]
        have hne : R[i].1 ≠ x := fun e2 => hx (e2 ▸ List.mem_map_of_mem (hR _ (List.getElem_mem c2)).1)
        rw [if_neg hne]
        exact hpl i c2
      · have : i = R.length := by simp at hi; omega
        subst this
        rw [List.getElem_append_right (Nat.le_refl _)]
        simp
    · rw [if_neg c] at e
      have hne : R'[i].1 ≠ x := fun e2 => hx (e2 ▸ List.mem_map_of_mem ((h.rows q pt' R' e).2 _ (List.getElem_mem hi)).1)
      rw [if_neg hne]
      exact h.plc q pt' R' i e hi
  · rw [hds_insE L (x, l) hx, mem_put]
    by_cases c : y = x
    · exact .inl c
    · rw [if_neg c] at e
      exact .inr (h.inv y p e)

/-- What the errors' variables and the table of bits read, whatever the blocks M come to hold. -/
structure Env (M : Nat → Prop) (w : World) (A : Nat → Addr) : Prop where
  er : ∀ W, Tch M w W → Er8 W A
  bits : ∀ W, Tch M w W → TabW W
theorem Env.step {M : Nat → Prop} {w w' : World} {A : Nat → Addr} (h : Env M w A) (t : Tch M w w') : Env (New M w w') w' A := ⟨fun W k => h.er W (t.trans k), fun W k => h.bits W (t.trans k)⟩
theorem Env.below {M : Nat → Prop} {w w' : World} {A : Nat → Addr} (h : Env M w A) (t : RowKit.Below w.heap.size w w') : Env M w' A := ⟨fun W k => h.er W ((Tch.of t : Tch M w w').more k), fun W k => h.bits W ((Tch.of t : Tch M w w').more k)⟩
theorem Env.of {M : Nat → Prop} {w0 w : World} {A : Nat → Addr} (hE : Er8 w0 A) (hT : TabW w0) (hb : RowKit.Below w0.heap.size w0 w) (hM : ∀ b, M b → w0.heap.size ≤ b) : Env M w A :=
  ⟨fun W k => hE.below (hb.trans (k.below hM hb.size)), fun W k => hT.below (hb.trans (k.below hM hb.size))⟩

section
variable {w w' : World} {M X : Nat → Prop} {ps bt bp ct cp : Nat} {ft ft' : Nat → Option Nat} {tt : Nat → Option (Nat × List En)} {pl pl' : Hd → Option Plc} {MT : Nat → Nat → Prop} {L : List En} {A : Nat → Addr}
/-- lay into a table that is there. -/
theorem slay_old (h : StoX w M ps bt bp tt pl MT L) (x1 x2 : Int) (hx : HdOk (x1, x2)) (l : List Vl) (v : Value) {N' : Nat → Prop} (hv : SlN N' encV w v l) (hN : ∀ b, N' b → b < w.heap.size ∧ ¬ M b) (hnx : (x1, x2) ∉ hds L) (hr : RightV l) (hlen : L.length < 128) (hnm : nM (insE L ((x1, x2), l)) ≤ 32)
    (hV : Env M w A) {pt : Nat} {R : List En} (hq : tt (maskV l) = some (pt, R)) :
    Calls Tryz.prog 73 #[psP ps, .int .u64 (maskV l : Nat), .agg #[.int .i64 x1, .int .i64 x2, v]] w fun e w' => e = .returned (.tuple #[]) ∧ StoM w' (New M w w') ps (insE L ((x1, x2), l)) ∧ Tch M w w' := by
  have hRl : R.length < 128 := Nat.lt_of_le_of_lt (h.lays.rowLen hq) hlen
  have hml := mask_lt hr
  have hll : l.length ≤ 100000 := by
    have := ent_len (ent_of (h := (x1, x2)) ((rightB_iff l).2 hr) rfl)
    have h2 := Ks_len (maskV l)
    simp at this
    omega
  have HH := Lib.hid h.mem
  have HL : Hid (∀ W, RowKit.Below w.heap.size w W → (Instr.lookup MapUT (.map (some bt)) (.int .u64 (maskV l : Nat)) false).run Tryz.prog W = .ok (.pointer (some ⟨pt, 0, none⟩)) W) := fun W hb => by
    have := (h.mem.mapT.below hb).look mptU (maskV l) (okU_lt (by omega))
    unfold ftO mU at this
    rw [hq] at this
    exact this
  obtain ⟨pv, cv, hve, hc1, hc2, hc3⟩ := hv
  have HA : Hid (∀ W, RowKit.Below w.heap.size w W → Calls Tryz.prog 118 #[ptP pt, .agg #[.int .i64 x1, .int .i64 x2], v] W fun e w' => e = .returned (.tuple #[.int .i64 R.length, .nilIface]) ∧ Tab w' (New (MT (maskV l)) W w') pt (maskV l) (R ++ [((x1, x2), l)]) ∧ Tch (MT (maskV l)) W w') := fun W hb => by
    refine tadd_yes (h.mem.tab _ _ _ hq |>.below hb) x1 x2 l v ((SlN.below ⟨pv, cv, hve, hc1, hc2, hc3⟩ hb).mono fun b e => ⟨Nat.lt_of_lt_of_le (hN b e).1 hb.size, fun e2 => (hN b e).2 (h.mem.apart _ b e2).1⟩) hll ((rightB_iff l).2 hr) rfl hRl (hV.er W (Tch.of hb)).e7
  have HF : Hid (∀ w1 w2 w3 : World, RowKit.Below w.heap.size w w1 → Tab w2 (New (MT (maskV l)) w1 w2) pt (maskV l) (R ++ [((x1, x2), l)]) → Tch (MT (maskV l)) w1 w2 → RowKit.Below w2.heap.size w2 w3 → ∃ w4, (Instr.mapUpdate MapLT (.map (some bp)) (.agg #[.int .i64 x1, .int .i64 x2]) (.agg #[.pointer (some ⟨pt, 0, none⟩), .int .i64 R.length])).run Tryz.prog w3 = .ok () w4 ∧ StoM w4 (New M w w4) ps (insE L ((x1, x2), l)) ∧ Tch M w w4) := fun w1 w2 w3 hb1 hT ht hb3 => by
    have m2 := (h.mem.below hb1).tabTo hq hT ht
    have m3 := m2.below hb3
    obtain ⟨w4, hrun, hm4, hg4⟩ := m3.mapP.put mptL (by omega) (x1, x2) hx (some pt, (R.length : Int))
    have m4 := m3.putP hg4 hm4
    have hpx : pl (x1, x2) = none := by
      cases e : pl (x1, x2) with
      | none => rfl
      | some p => exact absurd (h.lays.inv _ _ e) hnx
    have hs4 := hg4.size
    refine ⟨w4, hrun, ⟨bt, bp, _, _, _, h.good.ins hx hr hnx hlen hnm, h.lays.add hnx (.inl hq), (m4.congr (fun q => ?_) ?_ (fun _ => rfl) ?_).mono (fun b e => e.imp id (fun e => ⟨Nat.le_trans hb1.size e.1, by have := hb3.size; omega⟩)) (New.lt h.mem.lt (by have := hb1.size; have := ht.size; have := hb3.size; omega))⟩, ?_⟩
    · unfold ftO
      by_cases c : q = maskV l
      · subst c; simp [hq]
      · simp [c]
    · have e9 := nM_insE L ((x1, x2), l) (mask_lt hr)
      rw [if_pos (show hasM L (maskV l) = true by rw [← h.lays.mask, hq]; rfl)] at e9
      rw [e9, Nat.add_zero]
    · rw [hpx, len_insE]; rfl
    · refine (((Tch.of hb1 : Tch M w w1).more (ht.mono fun b e => (h.mem.apart _ b e).1)).more (Tch.of hb3)).more (tch_grown hg4 h.mem.own.2.2.1)
  subst hve
  have hRb : (R.length : Int) < 128 := by omega
  obtain ⟨c0, c1, f0, f1⟩ := two_cells (h.mem.below (Ba (Below.refl _ w) (.cells #[.int .i64 x1, .int .i64 x2, .slice pv l.length cv] 38))).head
  have hl := cell_lt c0
  have hlk := HL.out _ (Ba (Below.refl _ w) (.cells #[.int .i64 x1, .int .i64 x2, .slice pv l.length cv] 38))
  clear h hV hN hnx hr hlen hnm hll hRl hml hc3 HL
  generalize insE L ((x1, x2), l) = L' at *
  generalize hm : maskV l = q at *
  clear hm
  go_enter Tryz.func73, Tryz.ntmps73
  go_wp2_with fail
  have B0 := Lib.hid (Ba (Below.refl _ w) (.cells #[.int .i64 x1, .int .i64 x2, .slice pv l.length cv] 38))
  refine (HA.out _ B0.out).mono ?_
  rintro e w2 ⟨rfl, hT, ht⟩
  have m2 := (HH.out.below B0.out).tabTo hq hT ht
  have x2 := ht.blk (heap_alloc_new w (.cells #[.int .i64 x1, .int .i64 x2, .slice pv l.length cv] 38)) (fun e => absurd (HH.out.lt _ (HH.out.apart _ _ e).1) (Nat.lt_irrefl _))
  obtain ⟨⟨b0, b1, b2⟩, _, _, _⟩ := three_cells x2
  have hb := cell_lt b0
  obtain ⟨d0, d1, _, _⟩ := two_cells m2.head
  have hd := cell_lt d0
  obtain ⟨w4, hrun, HS, HT⟩ := HF.out _ w2 w2.drew B0.out hT ht (Below.refl _ _).drew
  have HS' := Lib.hid HS
  have HT' := Lib.hid HT
  clear HS HT m2 x2 hT ht HA HF hlk c0 c1 f0 f1 hl HH B0
  go_wp2_with fail
  go_region
  go_wp2
  first | go_end0 | refine bodyPost_ret (results_none rfl _ _ _) rfl ?_
  exact ⟨rfl, HS'.out, HT'.out⟩
set_option maxRecDepth 100000 in
set_option maxHeartbeats 1000000 in
/-- lay into a new table. -/
theorem slay_new (h : StoX w M ps bt bp tt pl MT L) (x1 x2 : Int) (hx : HdOk (x1, x2)) (l : List Vl) (v : Value) {N' : Nat → Prop} (hv : SlN N' encV w v l) (hN : ∀ b, N' b → b < w.heap.size ∧ ¬ M b) (hnx : (x1, x2) ∉ hds L) (hr : RightV l) (hlen : L.length < 128) (hnm : nM (insE L ((x1, x2), l)) ≤ 32)
    (hV : Env M w A) (hq : tt (maskV l) = Option.none) :
    Calls Tryz.prog 73 #[psP ps, .int .u64 (maskV l : Nat), .agg #[.int .i64 x1, .int .i64 x2, v]] w fun e w' => e = .returned (.tuple #[]) ∧ StoM w' (New M w w') ps (insE L ((x1, x2), l)) ∧ Tch M w w' := by
  have hml := mask_lt hr
  have hll : l.length ≤ 100000 := by
    have := ent_len (ent_of (h := (x1, x2)) ((rightB_iff l).2 hr) rfl)
    have h2 := Ks_len (maskV l)
    simp at this
    omega
  have HH := Lib.hid h.mem
  have HL : Hid (∀ W, RowKit.Below w.heap.size w W → (Instr.lookup MapUT (.map (some bt)) (.int .u64 (maskV l : Nat)) false).run Tryz.prog W = .ok (.pointer none) W) := fun W hb => by
    have := (h.mem.mapT.below hb).look mptU (maskV l) (okU_lt (by omega))
    unfold ftO mU at this
    rw [hq] at this
    exact this
  obtain ⟨pv, cv, hve, hc1, hc2, hc3⟩ := hv
  have HNw : Hid (∀ W, RowKit.Below w.heap.size w W → Calls Tryz.prog 117 #[.int .u64 (maskV l : Nat)] W fun e w' => ∃ pt, e = .returned (.tuple #[ptP pt, .nilIface]) ∧ Tab w' (Fresh W w') pt (maskV l) [] ∧ RowKit.Below W.heap.size W w') := fun W hb => tnew_yes _ hml W (hV.bits W (Tch.of hb))
  -- the table is put into the map
  have HP : Hid (∀ (w0 w1 : World) (pt : Nat), RowKit.Below w.heap.size w w0 → RowKit.Below w0.heap.size w0 w1 → Tab w1 (Fresh w0 w1) pt (maskV l) [] → ∃ w2, (Instr.mapUpdate MapUT (.map (some bt)) (.int .u64 (maskV l : Nat)) (.pointer (some ⟨pt, 0, none⟩))).run Tryz.prog w1 = .ok () w2 ∧ w1.grownBy w2 (some bt) ∧
      StoH w2 (New M w0 w1) ps bt bp (fun y => if y = maskV l then some pt else ftO tt y) (nM L + 1) pl L.length (fun x => if x = maskV l then some (pt, []) else tt x) (fun x => if x = maskV l then Fresh w0 w1 else MT x)) := fun w0 w1 pt hb0 hb1 hT => by
    have m1 := (h.mem.below (hb0.trans (hb1.mono hb0.size))).tabNew (w0 := w0) (q := maskV l) (fun b e => Nat.lt_of_lt_of_le (h.mem.lt b e) hb0.size) hb1.size hq hT
    obtain ⟨w2, hrun, hm2, hg2⟩ := m1.mapT.put mptU (by have := nM_le L; omega) (maskV l) (okU_lt (by omega)) (some pt)
    have hf : ftO tt (maskV l) = Option.none := by unfold ftO; rw [hq]; rfl
    refine ⟨w2, hrun, hg2, m1.putT hg2 ((hm2.congr fun y => ?_).cnt (by rw [hf]; rfl))⟩
    by_cases c : y = maskV l
    · simp [c]
    · simp [c]
  have HA : Hid (∀ (w0 w1 w2 : World) (pt : Nat), RowKit.Below w.heap.size w w0 → RowKit.Below w0.heap.size w0 w1 → w1.grownBy w2 (some bt) → Tab w2 (Fresh w0 w1) pt (maskV l) [] → Calls Tryz.prog 118 #[ptP pt, .agg #[.int .i64 x1, .int .i64 x2], v] w2 fun e w' => e = .returned (.tuple #[.int .i64 0, .nilIface]) ∧ Tab w' (New (Fresh w0 w1) w2 w') pt (maskV l) [((x1, x2), l)] ∧ Tch (Fresh w0 w1) w2 w') := fun w0 w1 w2 pt hb0 hb1 hg hT => by
    have hsl : SlN N' encV w2 v l := (SlN.below (SlN.below ⟨pv, cv, hve, hc1, hc2, hc3⟩ hb0) hb1).kept (tch_grown (M := fun b => b = bt) hg rfl) (fun b e e2 => (hN b e).2 (e2 ▸ h.mem.own.2.1))
    have hs : w.heap.size ≤ w2.heap.size := by have := hb0.size; have := hb1.size; have := hg.size; omega
    have hE2 : Er7 w2 A := (hV.er w2 ((Tch.of (hb0.trans (hb1.mono hb0.size)) : Tch M w w1).more (tch_grown hg h.mem.own.2.1))).e7
    exact tadd_yes hT x1 x2 l v (hsl.mono fun b e => ⟨Nat.lt_of_lt_of_le (hN b e).1 hs, fun e2 => by
      rcases e2 with e2 | e2
      · exact e2
      · have := (hN b e).1; have := hb0.size; omega⟩) hll ((rightB_iff l).2 hr) rfl (by simp) hE2
  have HF : Hid (∀ (w0 w1 w2 w3 w4 : World) (pt : Nat) (ft1 : Nat → Option Nat) (tt1 : Nat → Option (Nat × List En)) (MT1 : Nat → Nat → Prop), MT1 (maskV l) = Fresh w0 w1 → (∀ y, tt1 y = if y = maskV l then some (pt, []) else tt y) → (∀ y, ft1 y = if y = maskV l then some pt else ftO tt y) →
      RowKit.Below w.heap.size w w0 → RowKit.Below w0.heap.size w0 w1 → w1.grownBy w2 (some bt) → StoH w2 (New M w0 w1) ps bt bp ft1 (nM L + 1) pl L.length tt1 MT1 →
      Tab w3 (New (Fresh w0 w1) w2 w3) pt (maskV l) [((x1, x2), l)] → Tch (Fresh w0 w1) w2 w3 → RowKit.Below w3.heap.size w3 w4 → ∃ w5, (Instr.mapUpdate MapLT (.map (some bp)) (.agg #[.int .i64 x1, .int .i64 x2]) (.agg #[.pointer (some ⟨pt, 0, none⟩), .int .i64 0])).run Tryz.prog w4 = .ok () w5 ∧ StoM w5 (New M w w5) ps (insE L ((x1, x2), l)) ∧ Tch M w w5) := fun w0 w1 w2 w3 w4 pt ft1 tt1 MT1 eM eT eF hb0 hb1 hg m2 hT ht hb4 => by
    have m3 := m2.tabTo (q := maskV l) (pt := pt) (R := []) (by rw [eT, if_pos rfl]) (by rw [eM]; exact hT) (by rw [eM]; exact ht)
    have m4 := m3.below hb4
    obtain ⟨w5, hrun, hm5, hg5⟩ := m4.mapP.put mptL (by omega) (x1, x2) hx (some pt, (0 : Int))
    have m5 := m4.putP hg5 hm5
    have hpx : pl (x1, x2) = Option.none := by
      cases e : pl (x1, x2) with
      | none => rfl
      | some p => exact absurd (h.lays.inv _ _ e) hnx
    have hs := hg5.size
    have hs2 := hg.size
    have s0 := hb0.size
    have s1 := hb1.size
    have s3 := ht.size
    have s4 := hb4.size
    have eTT : (fun x => if x = maskV l then some (pt, [((x1, x2), l)]) else tt1 x) = (fun y => if y = maskV l then some (pt, [] ++ [((x1, x2), l)]) else tt y) := funext fun y => by
      by_cases c : y = maskV l
      · rw [if_pos c, if_pos c]; rfl
      · rw [if_neg c, if_neg c, eT, if_neg c]
    rw [eTT] at m5
    have e9 := nM_insE L ((x1, x2), l) (mask_lt hr)
    have hh : ¬ hasM L (maskV l) = true := by rw [← h.lays.mask, hq]; simp
    rw [if_neg hh] at e9
    have m6 := m5.congr (ft' := ftO (fun y => if y = maskV l then some (pt, [] ++ [((x1, x2), l)]) else tt y)) (ct' := nM (insE L ((x1, x2), l))) (pl' := fun z => if z = (x1, x2) then some (some pt, (([] : List En).length : Int)) else pl z) (cp' := (insE L ((x1, x2), l)).length)
      (fun y => by
        rw [eF]
        unfold ftO
        by_cases c : y = maskV l
        · simp [c]
        · simp [c]) e9.symm (fun _ => rfl) (by rw [hpx, len_insE]; rfl)
    refine ⟨w5, hrun, ⟨bt, bp, _, _, _, h.good.ins hx hr hnx hlen hnm, h.lays.add (pt := pt) (R := []) hnx (.inr ⟨hq, rfl⟩), m6.mono (fun b e => ?_) (New.lt h.mem.lt (by omega))⟩, ?_⟩
    · rcases e with (e | e) | e
      · exact .inl e
      · exact .inr ⟨by omega, by omega⟩
      · exact .inr ⟨by omega, by omega⟩
    · have t1 : Tch M w w2 := (Tch.of (hb0.trans (hb1.mono hb0.size)) : Tch M w w1).more (tch_grown hg h.mem.own.2.1)
      have t2 : Tch M w w3 := ⟨ht.os.trans t1.os, ht.tape.trans t1.tape, ht.output.trans t1.output, by omega, fun b h1 h2 => (ht.block b (by omega) (fun e => by
        rcases e with e | e
        · exact e
        · omega)).trans (t1.block b h1 h2)⟩
      exact (t2.more (Tch.of hb4)).more (tch_grown hg5 h.mem.own.2.2.1)
  subst hve
  obtain ⟨c0, c1, f0, f1⟩ := two_cells (h.mem.below (Ba (Below.refl _ w) (.cells #[.int .i64 x1, .int .i64 x2, .slice pv l.length cv] 38))).head
  have hl := cell_lt c0
  have hlk := HL.out _ (Ba (Below.refl _ w) (.cells #[.int .i64 x1, .int .i64 x2, .slice pv l.length cv] 38))
  clear h hV hN hnx hr hlen hnm hll hml hc3 HL hq
  generalize insE L ((x1, x2), l) = L' at *
  generalize hm : maskV l = q at *
  clear hm
  go_enter Tryz.func73, Tryz.ntmps73
  go_wp2_with fail
  have B0 := Lib.hid (Ba (Below.refl _ w) (.cells #[.int .i64 x1, .int .i64 x2, .slice pv l.length cv] 38))
  refine (HNw.out _ B0.out).mono ?_
  rintro e w1 ⟨pt, rfl, hT1, hb1⟩
  obtain ⟨w2, hrun2, hg2, m2⟩ := HP.out _ w1 pt B0.out hb1 hT1
  have x1b := blk_below (heap_alloc_new w (.cells #[.int .i64 x1, .int .i64 x2, .slice pv l.length cv] 38)) hb1
  obtain ⟨d0, d1, _, _⟩ := two_cells (blk_below (blk_below HH.out.head B0.out) hb1)
  have hd := cell_lt d0
  have HB1 := Lib.hid hb1
  have HG2 := Lib.hid hg2
  have HM2 := Lib.hid m2
  have HX1 := Lib.hid x1b
  have hbt := HH.out.lt _ HH.out.own.2.1
  have x2b := Lib.hid (grown_blk HX1.out hg2 (Nat.ne_of_gt hbt))
  obtain ⟨⟨b0, b1, b2⟩, _, _, _⟩ := three_cells x2b.out
  have hb := cell_lt b0
  clear m2 hb1 hg2 hT1 x1b c0 c1 f0 f1 hl hlk HP HNw hbt
  go_wp2_with fail
  refine (HA.out _ w1 w2 pt B0.out HB1.out HG2.out ?tb).mono ?_
  case tb => have := HM2.out.tab q pt [] (if_pos rfl); rwa [if_pos rfl] at this
  rintro e w3 ⟨rfl, hT3, ht3⟩
  have hs0 : w.heap.size < (w.alloc (.cells #[.int .i64 x1, .int .i64 x2, .slice pv l.length cv] 38)).heap.size := by simp
  have x3b := ht3.blk x2b.out (fun e => by
    rcases e with e | e
    · exact e
    · omega)
  obtain ⟨⟨e0, e1, e2⟩, _, _, _⟩ := three_cells x3b
  have he := cell_lt e0
  have hps := HH.out.lt _ HH.out.own.1
  obtain ⟨g0, g1, _, _⟩ := two_cells (ht3.blk HM2.out.head (fun e => by
    rcases e with e | e
    · exact e
    · omega))
  have hgs := cell_lt g0
  obtain ⟨w5, hrun, HS, HT⟩ := HF.out _ w1 w2 w3 w3.drew pt _ _ _ (if_pos rfl) (fun _ => rfl) (fun _ => rfl) B0.out HB1.out HG2.out HM2.out hT3 ht3 (Below.refl _ _).drew
  have HS' := Lib.hid HS
  have HT' := Lib.hid HT
  clear HS HT hT3 ht3 HA HF HM2 HX1 HG2 HB1 B0 HH x2b x3b b0 b1 b2 d0 d1 hd hb hps hs0 hrun2
  go_wp2_with fail
  go_region
  go_wp2
  first | go_end0 | refine bodyPost_ret (results_none rfl _ _ _) rfl ?_
  exact ⟨rfl, HS'.out, HT'.out⟩
theorem slay_call (h : StoX w M ps bt bp tt pl MT L) (x1 x2 : Int) (hx : HdOk (x1, x2)) (l : List Vl) (v : Value) {N' : Nat → Prop} (hv : SlN N' encV w v l) (hN : ∀ b, N' b → b < w.heap.size ∧ ¬ M b) (hnx : (x1, x2) ∉ hds L) (hr : RightV l) (hlen : L.length < 128) (hnm : nM (insE L ((x1, x2), l)) ≤ 32) (hV : Env M w A) :
    Calls Tryz.prog 73 #[psP ps, .int .u64 (maskV l : Nat), .agg #[.int .i64 x1, .int .i64 x2, v]] w fun e w' => e = .returned (.tuple #[]) ∧ StoM w' (New M w w') ps (insE L ((x1, x2), l)) ∧ Tch M w w' := by
  cases q : tt (maskV l) with
  | none => exact slay_new h x1 x2 hx l v hv hN hnx hr hlen hnm hV q
  | some p => exact slay_old h x1 x2 hx l v hv hN hnx hr hlen hnm hV q
end
end Go.Proofs.YtaehendpdfpibaaGreatDoor
