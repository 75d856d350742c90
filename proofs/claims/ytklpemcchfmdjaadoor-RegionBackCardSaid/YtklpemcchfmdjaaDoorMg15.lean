/-
  Maps of any keys and elements by a function (stage 10's text); numbers leading to yes and no, and to numbers.
-/
import Derived.Test.YtklpemcchfmdjaaDoorOp15
import Derived.Maps.RangeWalk
import Derived.Maps.Views
import Derived.Maps.OwnOps
import Derived.Maps.OwnSet
namespace Go.Proofs.YtklpemcchfmdjaaDoor
set_option linter.unusedSimpArgs false
set_option linter.unusedVariables false
open Go.RowKit Go.Sort Go.Lib Go.Shelf

/-- What is to be known of a map's type: keys of κ, elements of ε. -/
structure MpT (k e t : TypeId) {κ ε : Type} (mk : κ → Value) (lit : κ → Lit) (ok : κ → Prop) (vl : ε → Value) (dt : ε → DataW Unit) (zr : ε) (R : Value → Option (DataW Unit × List MemPlace)) : Prop where
  K : Maps.Keyed Tryd.prog k
  ht : Tryd.prog.underlying t = some (.map k e)
  key : ∀ x, ok x → keyOf Tryd.prog k (mk x) = some (lit x)
  inv : ∀ v l, keyOf Tryd.prog k v = some l → ∃ x, v = mk x ∧ l = lit x ∧ ok x
  inj : ∀ x y, ok x → ok y → lit x = lit y → x = y
  zero : ∀ w, (zeroValue e).run Tryd.prog w = .ok (vl zr) w
  rmk : ∀ o, R (vl o) = some (dt o, [])
  rinv : ∀ v d ps, R v = some (d, ps) → ∃ o, v = vl o ∧ d = dt o
  dinj : ∀ a b, dt a = dt b → a = b

/-- Block b is a map of just c entries, in which each key leads where f says. -/
def MapG {κ ε : Type} (k : TypeId) (lit : κ → Lit) (ok : κ → Prop) (dt : ε → DataW Unit) (zr : ε) (R : Value → Option (DataW Unit × List MemPlace)) (w : World) (b c : Nat) (f : κ → Option ε) : Prop :=
  ∃ D : DataW Unit, w.ownsMap Tryd.prog k R b c D ∧ Maps.size D = c ∧ ∀ x, ok x → D.atKey (lit x) (dt zr) = dt ((f x).getD zr) ∧ Maps.has D (lit x) = (f x).isSome

section
variable {k e t : TypeId} {κ ε : Type} {mk : κ → Value} {lit : κ → Lit} {ok : κ → Prop} {vl : ε → Value} {dt : ε → DataW Unit} {zr : ε} {R : Value → Option (DataW Unit × List MemPlace)}
variable {w w' : World} {b c : Nat} {f : κ → Option ε}

theorem MapG.made (w : World) : MapG k lit ok dt zr R (w.alloc (.map #[] 0)) w.heap.size 0 (fun _ => none) := ⟨_, World.ownsMap_made w _ _ _, rfl, fun s _ => ⟨rfl, rfl⟩⟩
theorem MapG.congr {g : κ → Option ε} (h : MapG k lit ok dt zr R w b c f) (e : ∀ s, f s = g s) : MapG k lit ok dt zr R w b c g := by
  obtain ⟨D, h1, h2, h3⟩ := h
  exact ⟨D, h1, h2, fun s hs => by rw [← e]; exact h3 s hs⟩
theorem MapG.cnt {c' : Nat} (h : MapG k lit ok dt zr R w b c f) (e : c = c') : MapG k lit ok dt zr R w b c' f := e ▸ h
theorem MapG.lt (h : MapG k lit ok dt zr R w b c f) : b < w.heap.size := h.choose_spec.1.lt
theorem MapG.is (h : MapG k lit ok dt zr R w b c f) : ∃ es c', w.heap[b]? = some (.map es c') := by
  obtain ⟨D, ⟨es, c, hb, _⟩, _⟩ := h
  exact ⟨es, c, hb⟩
theorem MapG.blk (h : MapG k lit ok dt zr R w b c f) (q : w'.heap[b]? = w.heap[b]?) : MapG k lit ok dt zr R w' b c f := by
  obtain ⟨D, ⟨es, clock, hb, r⟩, h2⟩ := h
  exact ⟨D, ⟨es, clock, q.trans hb, r⟩, h2⟩
theorem MapG.below (h : MapG k lit ok dt zr R w b c f) (q : RowKit.Below w.heap.size w w') : MapG k lit ok dt zr R w' b c f := h.blk (q.block b h.lt)
theorem MapG.kept {M : Nat → Prop} (h : MapG k lit ok dt zr R w b c f) (q : Tch M w w') (hb : ¬ M b) : MapG k lit ok dt zr R w' b c f := h.blk (q.block b h.lt hb)
theorem shrink_own {D : DataW Unit} {n : Nat} (h : w.ownsMap Tryd.prog k R b n D) : w.ownsMap Tryd.prog k R b (Maps.size D) D := by
  obtain ⟨es, clock, hb, F, hs, hD⟩ := h
  exact ⟨es, clock, hb, F, by rw [hD]; simp [Maps.size, length_sorted], hD⟩
/-- m[x]. -/
theorem MapG.look (T : MpT k e t mk lit ok vl dt zr R) (h : MapG k lit ok dt zr R w b c f) (x : κ) (hx : ok x) : (Instr.lookup t (.map (some b)) (mk x) false).run Tryd.prog w = .ok (vl ((f x).getD zr)) w := by
  obtain ⟨D, h1, _, h3⟩ := h
  obtain ⟨v, ps, hr, hv⟩ := h1.lookup T.K T.ht (T.zero w) (T.rmk zr) (T.key x hx)
  obtain ⟨o, rfl, ho⟩ := T.rinv _ _ _ hv
  rw [(h3 x hx).1] at ho
  rw [T.dinj _ _ ho]
  exact hr
/-- m[x], and whether it is there. -/
theorem MapG.look2 (T : MpT k e t mk lit ok vl dt zr R) (h : MapG k lit ok dt zr R w b c f) (x : κ) (hx : ok x) : (Instr.lookup t (.map (some b)) (mk x) true).run Tryd.prog w = .ok (.tuple #[vl ((f x).getD zr), .bool (f x).isSome]) w := by
  obtain ⟨D, h1, _, h3⟩ := h
  obtain ⟨v, ps, hr, hv⟩ := h1.look_ok T.K T.ht (T.zero w) (T.rmk zr) (T.key x hx)
  obtain ⟨o, rfl, ho⟩ := T.rinv _ _ _ hv
  rw [(h3 x hx).1] at ho
  rw [T.dinj _ _ ho, ← (h3 x hx).2]
  exact hr
/-- len(m). -/
theorem MapG.len (T : MpT k e t mk lit ok vl dt zr R) (h : MapG k lit ok dt zr R w b c f) (ty : TypeId) : (Builtin.len_ #[t] ty #[.map (some b)]).run Tryd.prog w = .ok (.int .i64 c) w := by
  obtain ⟨D, h1, h2, _⟩ := h
  rw [← h2]
  exact h1.len T.ht ty
/-- m[x] = y. -/
theorem MapG.put [DecidableEq κ] (T : MpT k e t mk lit ok vl dt zr R) (h : MapG k lit ok dt zr R w b c f) (hc : c < 100000) (x : κ) (hx : ok x) (y : ε) :
    ∃ w', (Instr.mapUpdate t (.map (some b)) (mk x) (vl y)).run Tryd.prog w = .ok () w' ∧ MapG k lit ok dt zr R w' b (if (f x).isSome then c else c + 1) (fun z => if z = x then some y else f z) ∧ w.grownBy w' (some b) := by
  obtain ⟨D, h1, h2, h3⟩ := h
  obtain ⟨w', hr, ho, hg⟩ := h1.update T.K T.ht (by unfold maxLen; omega) (T.key x hx) (T.rmk y)
  have hs : Maps.size (D.put (lit x) (dt y)) = if (f x).isSome then c else c + 1 := by
    rw [Maps.size_put (h1.tidy T.K), (h3 x hx).2, h2]
  refine ⟨w', hr, ⟨_, hs ▸ shrink_own ho, hs, fun z hz => ?_⟩, hg⟩
  by_cases q : z = x
  · subst q
    simp only [if_true]
    exact ⟨Maps.atKey_put_same h1.isMap (T.K.key (T.key z hz)) _ _, Maps.has_put_same h1.isMap (T.K.key (T.key z hz)) _⟩
  · simp only [if_neg q]
    have hne : lit z ≠ lit x := fun q' => q (T.inj z x hz hx q')
    rw [Maps.atKey_put_other hne, Maps.has_put_other hne]
    exact h3 z hz
/-- delete(m, x). -/
theorem MapG.del [DecidableEq κ] (T : MpT k e t mk lit ok vl dt zr R) (h : MapG k lit ok dt zr R w b c f) (x : κ) (hx : ok x) (ty : TypeId) :
    ∃ w', (Builtin.delete_ #[t, k] ty #[.map (some b), mk x]).run Tryd.prog w = .ok (.tuple #[]) w' ∧ MapG k lit ok dt zr R w' b (if (f x).isSome then c - 1 else c) (fun z => if z = x then none else f z) ∧ w.grownBy w' (some b) := by
  obtain ⟨D, h1, h2, h3⟩ := h
  obtain ⟨w', hr, ho, hg⟩ := h1.drop T.K T.ht (T.key x hx) ty
  have hs : Maps.size (D.del (lit x)) = if (f x).isSome then c - 1 else c := by
    have := Maps.size_del (k := lit x) (h1.tidy T.K)
    rw [(h3 x hx).2, h2] at this
    cases q : (f x).isSome with
    | true => rw [q] at this; simp only [if_true] at this ⊢; omega
    | false => rw [q] at this; simpa using this
  refine ⟨w', hr, ⟨_, hs ▸ shrink_own ho, hs, fun z hz => ?_⟩, hg.grown⟩
  by_cases q : z = x
  · subst q
    simp only [if_true]
    exact ⟨Maps.atKey_del_same _, Maps.has_del_same⟩
  · simp only [if_neg q]
    have hne : lit z ≠ lit x := fun q' => q (T.inj z x hz hx q')
    rw [Maps.atKey_del_other hne, Maps.has_del_other hne]
    exact h3 z hz

/-! ### The range. -/
/-- The loop over the map at b under way, its iterator at r: which keys are still to come. -/
def RngG {κ ε : Type} (k : TypeId) (lit : κ → Lit) (ok : κ → Prop) (dt : ε → DataW Unit) (zr : ε) (R : Value → Option (DataW Unit × List MemPlace)) (w : World) (b r c : Nat) (f : κ → Option ε) (left : κ → Bool) (cnt : Nat) : Prop :=
  ∃ (D : DataW Unit) (lf : Lit → Bool), w.ranges Tryd.prog k R b r c D lf cnt ∧ Maps.size D = c ∧ (∀ x, ok x → D.atKey (lit x) (dt zr) = dt ((f x).getD zr) ∧ Maps.has D (lit x) = (f x).isSome) ∧ ∀ x, ok x → lf (lit x) = left x ∧ (left x = true → (f x).isSome = true)
theorem RngG.map {r cnt : Nat} {left : κ → Bool} (h : RngG k lit ok dt zr R w b r c f left cnt) : MapG k lit ok dt zr R w b c f := by
  obtain ⟨D, lf, h1, h2, h3, _⟩ := h
  exact ⟨D, h1.owns, h2, h3⟩
theorem RngG.lt {r cnt : Nat} {left : κ → Bool} (h : RngG k lit ok dt zr R w b r c f left cnt) : r < w.heap.size := h.choose_spec.choose_spec.1.lt
theorem RngG.left_eq {r cnt : Nat} {left : κ → Bool} (h : RngG k lit ok dt zr R w b r c f left cnt) : w.rangeLeft b r = cnt := h.choose_spec.choose_spec.1.left_eq
theorem RngG.ne {r cnt : Nat} {left : κ → Bool} (h : RngG k lit ok dt zr R w b r c f left cnt) : r ≠ b := h.choose_spec.choose_spec.1.ne
theorem RngG.kept {r cnt : Nat} {left : κ → Bool} (h : RngG k lit ok dt zr R w b r c f left cnt) {M : Nat → Prop} (t : Tch M w w') (hb : ¬ M b) (hr : ¬ M r) : RngG k lit ok dt zr R w' b r c f left cnt := by
  obtain ⟨D, lf, h1, h2, h3⟩ := h
  have hbl := h1.owns.lt
  have hrl := h1.lt
  obtain ⟨es, clock, since, seen, c0, e1, F, hs, hD, e2, rest⟩ := h1
  exact ⟨D, lf, ⟨es, clock, since, seen, c0, (t.block b hbl hb).trans e1, F, hs, hD, (t.block r hrl hr).trans e2, rest⟩, h2, h3⟩
/-- 'range m'. -/
theorem MapG.range (T : MpT k e t mk lit ok vl dt zr R) (h : MapG k lit ok dt zr R w b c f) : ∃ w' cnt, (Instr.range t (.map (some b))).run Tryd.prog w = .ok (.pointer (some ⟨w.heap.size, 0, none⟩)) w' ∧ RngG k lit ok dt zr R w' b w.heap.size c f (fun x => (f x).isSome) cnt ∧ w.grownBy w' none ∧ w'.heap.size = w.heap.size + 1 ∧ cnt ≤ c := by
  obtain ⟨D, h1, h2, h3⟩ := h
  obtain ⟨w', hrun, r1, r2, r3⟩ := h1.range T.K T.ht
  exact ⟨w', _, hrun, ⟨D, _, r1, h2, h3, fun x hx => ⟨(h3 x hx).2, fun q => q⟩⟩, r2, r3, h1.size_le⟩
/-- The step. -/
theorem RngG.next [DecidableEq κ] (T : MpT k e t mk lit ok vl dt zr R) {r cnt : Nat} {left : κ → Bool} (h : RngG k lit ok dt zr R w b r c f left cnt) (ty : TypeId) :
    ((∀ x, ok x → left x = false) ∧ (Instr.next (.pointer (some ⟨r, 0, none⟩)) false ty).run Tryd.prog w = .ok (.tuple #[.bool false]) w) ∨
    ∃ x y w' cnt', ok x ∧ left x = true ∧ f x = some y ∧ (Instr.next (.pointer (some ⟨r, 0, none⟩)) false ty).run Tryd.prog w = .ok (.tuple #[.bool true, mk x, vl y]) w' ∧
      RngG k lit ok dt zr R w' b r c f (fun z => left z && !decide (z = x)) cnt' ∧ cnt' < cnt ∧ w.grownBy w' (some r) ∧ w'.heap.size = w.heap.size ∧ (Instr.entry (.pointer (some ⟨r, 0, none⟩))).run Tryd.prog w' = .ok (.tuple #[mk x, vl y]) w' := by
  obtain ⟨D, lf, h1, h2, h5, h3⟩ := h
  rcases h1.next T.K ty with ⟨_, hl, hrun⟩ | ⟨key, v, kl, y, w', cnt', hkey, hlk, hv, hat, hrun, hrg, hlt, hgr, hsz, hen⟩
  · exact .inl ⟨fun x hx => by rw [← (h3 x hx).1, hl], hrun⟩
  · obtain ⟨x, rfl, rfl, hx⟩ := T.inv _ _ hkey
    obtain ⟨yd, yp⟩ := y
    obtain ⟨o, rfl, rfl⟩ := T.rinv _ _ _ hv
    have e := hat (dt zr)
    rw [(h5 x hx).1] at e
    have e2 := T.dinj _ _ e
    have hl : left x = true := by rw [← (h3 x hx).1]; exact hlk
    have hs := (h3 x hx).2 hl
    obtain ⟨o', ho⟩ := Option.isSome_iff_exists.1 hs
    rw [ho] at e2
    obtain rfl : o' = o := e2
    refine .inr ⟨x, o', w', cnt', hx, hl, ho, hrun, ⟨D, _, hrg, h2, h5, fun z hz => ⟨?_, fun q => (h3 z hz).2 (by simp only [Bool.and_eq_true] at q; exact q.1)⟩⟩, hlt, hgr, hsz, hen⟩
    show (lf (lit z) && !(lit z).sameKey (lit x)) = _
    rw [(h3 z hz).1]
    by_cases e4 : z = x
    · subst e4
      rw [WideAt.sameKey_self (T.K.key (T.key z hz))]
      simp
    · rw [Maps.sameKey_ne (fun q => e4 (T.inj _ _ hz hx q))]
      simp [e4]
end
section
variable {k e t : TypeId} {κ ε : Type} [DecidableEq κ] {mk : κ → Value} {lit : κ → Lit} {ok : κ → Prop} {vl : ε → Value} {dt : ε → DataW Unit} {zr : ε} {R : Value → Option (DataW Unit × List MemPlace)}
set_option linter.unusedSectionVars false
variable {w : World} {b c : Nat} {f : κ → Option ε} {ops : Array Oper} {rest : List Oper} {o : Oper} {a : Act} {Q : Exit → Act → World → Prop} {KK : Act → World → Prop}
theorem wpl_rangeG (T : MpT k e t mk lit ok vl dt zr R) (hg : o.guard = none) (m : Operand) (hop : o.op = Op.range t m) (hm : a.eval m = .map (some b)) (h : MapG k lit ok dt zr R w b c f)
    (hK : ∀ w' cnt, RngG k lit ok dt zr R w' b w.heap.size c f (fun x => (f x).isSome) cnt → w.grownBy w' none → w'.heap.size = w.heap.size + 1 → cnt ≤ c → wpList Tryd.prog ops Q rest (a.put o.dst (.pointer (some ⟨w.heap.size, 0, none⟩))) w') : wpList Tryd.prog ops Q (o :: rest) a w := by
  refine wpList_plain hg fun K' hK' => ?_
  obtain ⟨w', cnt, hrun, r1, r2, r3, r4⟩ := h.range T
  unfold Oper.wp
  simp [execOp, hop, hm, hrun, Result.andThen]
  exact hK' _ _ (hK w' cnt r1 r2 r3 r4)
theorem wpl_nextG (T : MpT k e t mk lit ok vl dt zr R) (hg : o.guard = none) (it : Operand) (hop : o.op = Op.next it false) {r cnt : Nat} {left : κ → Bool} (hit : a.eval it = .pointer (some ⟨r, 0, none⟩)) (h : RngG k lit ok dt zr R w b r c f left cnt)
    (hDone : (∀ x, ok x → left x = false) → wpList Tryd.prog ops Q rest (a.put o.dst (.tuple #[.bool false])) w)
    (hMore : ∀ x y w' cnt', ok x → left x = true → f x = some y → RngG k lit ok dt zr R w' b r c f (fun z => left z && !decide (z = x)) cnt' → cnt' < cnt → w.grownBy w' (some r) → w'.heap.size = w.heap.size →
      (Instr.entry (.pointer (some ⟨r, 0, none⟩))).run Tryd.prog w' = .ok (.tuple #[mk x, vl y]) w' → wpList Tryd.prog ops Q rest (a.put o.dst (.tuple #[.bool true, mk x, vl y])) w') : wpList Tryd.prog ops Q (o :: rest) a w := by
  refine wpList_plain hg fun K' hK' => ?_
  unfold Oper.wp
  rcases h.next T o.type with ⟨hl, hrun⟩ | ⟨x, y, w', cnt', h1, h2, h3, hrun, h4, h5, h6, h7, h8⟩
  · simp [execOp, hop, hit, hrun, Result.andThen]
    exact hK' _ _ (hDone hl)
  · simp [execOp, hop, hit, hrun, Result.andThen]
    exact hK' _ _ (hMore x y w' cnt' h1 h2 h3 h4 h5 h6 h7 h8)
/-- 'm[x] = y' at the operation. -/
theorem wp_putG (T : MpT k e t mk lit ok vl dt zr R) (m x v : Operand) (hop : o.op = Op.mapUpdate t m x v) (hm : a.eval m = .map (some b)) (h : MapG k lit ok dt zr R w b c f) (hc : c < 100000) (xx : κ) (hx : a.eval x = mk xx) (hxx : ok xx) (y : ε) (hv : a.eval v = vl y)
    (hK : ∀ w', MapG k lit ok dt zr R w' b (if (f xx).isSome then c else c + 1) (fun z => if z = xx then some y else f z) → w.grownBy w' (some b) → KK (a.put o.dst undef) w') : Oper.wp Tryd.prog o a w KK Q := by
  obtain ⟨w', hrun, r1, r2⟩ := h.put T hc xx hxx y
  unfold Oper.wp
  simp [execOp, hop, hm, hx, hv, hrun, Result.andThen]
  exact hK w' r1 r2
theorem wpl_putG (T : MpT k e t mk lit ok vl dt zr R) (hg : o.guard = none) (m x v : Operand) (hop : o.op = Op.mapUpdate t m x v) (hm : a.eval m = .map (some b)) (h : MapG k lit ok dt zr R w b c f) (hc : c < 100000) (xx : κ) (hx : a.eval x = mk xx) (hxx : ok xx) (y : ε) (hv : a.eval v = vl y)
    (hK : ∀ w', MapG k lit ok dt zr R w' b (if (f xx).isSome then c else c + 1) (fun z => if z = xx then some y else f z) → w.grownBy w' (some b) → wpList Tryd.prog ops Q rest (a.put o.dst undef) w') : wpList Tryd.prog ops Q (o :: rest) a w := by
  refine wpList_plain hg fun K' hK' => ?_
  obtain ⟨w', hrun, r1, r2⟩ := h.put T hc xx hxx y
  unfold Oper.wp
  simp [execOp, hop, hm, hx, hv, hrun, Result.andThen]
  exact hK' _ _ (hK w' r1 r2)
end

def kI (x : Int) : Lit := .int .i64 x
def okI (x : Int) : Prop := (Lit.int .i64 x).wf = true
theorem okI_of {x : Int} (h1 : -9223372036854775808 ≤ x) (h2 : x ≤ 9223372036854775807) : okI x := WalkArith.wf_i64 (by omega)
def iV (x : Int) : Value := .int .i64 x
def bV (b : Bool) : Value := .bool b
def bD (b : Bool) : DataW Unit := .lit (.bool b)
def bElem (v : Value) : Option (DataW Unit × List MemPlace) :=
  match v with
  | .bool b => some (.lit (.bool b), [])
  | _ => none
theorem bElem_inv {v : Value} {d : DataW Unit} {ps : List MemPlace} (h : bElem v = some (d, ps)) : ∃ n, v = bV n ∧ d = bD n := by
  unfold bElem at h
  split at h
  · rename_i n
    simp only [Option.some.injEq, Prod.mk.injEq] at h
    exact ⟨n, rfl, h.1.symm⟩
  · cases h
def nD (n : Int) : DataW Unit := .lit (.int .i64 n)
def nElem (v : Value) : Option (DataW Unit × List MemPlace) :=
  match v with
  | .int .i64 n => some (.lit (.int .i64 n), [])
  | _ => none
theorem nElem_inv {v : Value} {d : DataW Unit} {ps : List MemPlace} (h : nElem v = some (d, ps)) : ∃ n, v = iV n ∧ d = nD n := by
  unfold nElem at h
  split at h
  · rename_i n
    simp only [Option.some.injEq, Prod.mk.injEq] at h
    exact ⟨n, rfl, h.1.symm⟩
  · cases h
abbrev MapIBT : Nat := 50
abbrev MapIIT : Nat := 65
theorem mptIB : MpT 3 4 MapIBT iV kI okI bV bD false bElem where
  K := Maps.int_keyed Tryd.underlying3
  ht := Tryd.underlying50
  key x hx := Maps.keyOf_int_mk Tryd.underlying3 hx
  inv v l h := by
    obtain ⟨x, rfl, rfl, hx⟩ := Maps.keyOf_int_inv Tryd.underlying3 h
    exact ⟨x, rfl, rfl, hx⟩
  inj x y _ _ h := by simpa [kI] using h
  zero w := by kernel_rfl
  rmk _ := rfl
  rinv v d ps h := bElem_inv h
  dinj a b h := by simpa [bD] using h
theorem mptII : MpT 3 3 MapIIT iV kI okI iV nD (0 : Int) nElem where
  K := Maps.int_keyed Tryd.underlying3
  ht := Tryd.underlying65
  key x hx := Maps.keyOf_int_mk Tryd.underlying3 hx
  inv v l h := by
    obtain ⟨x, rfl, rfl, hx⟩ := Maps.keyOf_int_inv Tryd.underlying3 h
    exact ⟨x, rfl, rfl, hx⟩
  inj x y _ _ h := by simpa [kI] using h
  zero w := by kernel_rfl
  rmk _ := rfl
  rinv v d ps h := nElem_inv h
  dinj a b h := by simpa [nD] using h
abbrev MapIB (w : World) (b c : Nat) (f : Int → Option Bool) : Prop := MapG (ε := Bool) 3 kI okI bD false bElem w b c f
abbrev MapII (w : World) (b c : Nat) (f : Int → Option Int) : Prop := MapG (ε := Int) 3 kI okI nD (0 : Int) nElem w b c f
end Go.Proofs.YtklpemcchfmdjaaDoor
