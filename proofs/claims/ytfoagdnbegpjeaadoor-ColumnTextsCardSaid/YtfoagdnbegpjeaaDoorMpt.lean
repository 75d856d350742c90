/-
  Maps keyed by texts, of numbers: how often each text is there; what Take leaves of that.
-/
import Derived.Test.YtfoagdnbegpjeaaDoorCm
import Derived.Test.YtfoagdnbegpjeaaDoorEnc
import Derived.Maps.RangeWalk
import Derived.Maps.Views
import Derived.Maps.OwnOps
import Derived.Maps.OwnSet
import Derived.StringKeys
import Derived.DeepKeys5
namespace Go.Proofs.YtfoagdnbegpjeaaDoor
set_option linter.unusedSimpArgs false
set_option linter.unusedVariables false
open Go.RowKit Go.Sort Go.Lib Go.Shelf Go.ChangeShapes Go.WideShapes

/-! ### How often a text stands in a list. -/
def cnt (s : ByteArray) : List ByteArray → Int
  | [] => 0
  | x :: r => (if x = s then 1 else 0) + cnt s r
theorem cnt_append (s : ByteArray) : ∀ a b : List ByteArray, cnt s (a ++ b) = cnt s a + cnt s b
  | [], b => by simp [cnt]
  | x :: r, b => by simp only [List.cons_append, cnt, cnt_append s r b]; omega
theorem cnt_one (s x : ByteArray) : cnt s [x] = if x = s then 1 else 0 := by simp [cnt]
theorem cnt_le (s : ByteArray) : ∀ l : List ByteArray, 0 ≤ cnt s l ∧ cnt s l ≤ l.length
  | [] => by simp [cnt]
  | x :: r => by
    have := cnt_le s r
    simp only [cnt, List.length_cons]
    split <;> omega
theorem cnt_set (s z : ByteArray) : ∀ (l : List ByteArray) (n : Nat), n < l.length → cnt s (l.set n z) + (if l[n]! = s then 1 else 0) = cnt s l + (if z = s then 1 else 0)
  | [], n, h => absurd h (Nat.not_lt_zero n)
  | x :: r, 0, _ => by
    simp only [List.set_cons_zero, cnt]
    have : (x :: r)[0]! = x := rfl
    rw [this]
    omega
  | x :: r, n + 1, h => by
    have ih := cnt_set s z r n (by simpa using h)
    simp only [List.set_cons_succ, cnt]
    have : (x :: r)[n + 1]! = r[n]! := by simp
    rw [this]
    omega
theorem cnt_take_succ (s : ByteArray) (l : List ByteArray) (k : Nat) (h : k < l.length) : cnt s (l.take (k + 1)) = cnt s (l.take k) + (if l[k]! = s then 1 else 0) := by
  rw [List.take_succ_eq_append_getElem h, cnt_append, cnt_one, getElem!_pos l k h]
theorem cnt_drop (s : ByteArray) (l : List ByteArray) (k : Nat) (h : k < l.length) : cnt s (l.drop k) = (if l[k]! = s then 1 else 0) + cnt s (l.drop (k + 1)) := by
  rw [List.drop_eq_getElem_cons h, cnt, getElem!_pos l k h]
theorem cnt_takeC (s : ByteArray) (L : List ByteArray) (n : Nat) (h : n < L.length) : cnt s L = cnt s (takeC L n) + (if L[n]! = s then 1 else 0) := by
  obtain ⟨q, hq⟩ : ∃ q, L.length = q + 1 := ⟨L.length - 1, by omega⟩
  have e1 : cnt s L = cnt s (L.take q) + (if L[q]! = s then 1 else 0) := by
    rw [← cnt_take_succ s L q (by omega), ← hq, List.take_length]
  unfold takeC
  rw [hq, Nat.add_sub_cancel]
  by_cases hn : n = q
  · subst hn
    rw [List.take_set_of_le (Nat.le_refl _)]
    exact e1
  · have hl : n < (L.take q).length := by simp; omega
    have e2 := cnt_set s L[q]! (L.take q) n hl
    rw [List.take_set]
    have e3 : (L.take q)[n]! = L[n]! := by
      rw [getElem!_pos (L.take q) n hl, getElem!_pos L n h, List.getElem_take]
    rw [e3] at e2
    omega
theorem takeC_mem {L : List ByteArray} {n : Nat} (h : n < L.length) {p : ByteArray → Prop} (hp : ∀ s ∈ L, p s) : ∀ s ∈ takeC L n, p s := fun s hs => by
  unfold takeC at hs
  have h1 := List.mem_of_mem_take hs
  rcases List.mem_or_eq_of_mem_set h1 with h2 | h2
  · exact hp s h2
  · rw [h2, getElem!_pos L _ (by omega)]
    exact hp _ (List.getElem_mem _)

/-! ### The map. -/
theorem strKeyed : Maps.Keyed Tryd.prog 9 := Maps.string_keyed Tryd.underlying9
theorem mapU : Tryd.prog.underlying 53 = some (.map 9 3) := Tryd.underlying53
theorem zeroI (w : World) : (zeroValue 3).run Tryd.prog w = .ok (.int .i64 0) w := by kernel_rfl
/-- What a text reads as, as a key. -/
def sk (s : ByteArray) : Lit := .string s.data.toList
theorem keyT {s : ByteArray} (h : s.size ≤ maxLen) : keyOf Tryd.prog 9 (.string s) = some (sk s) := WideMaps.keyOf_string_mk Tryd.underlying9 h
theorem keyT_inv {v : Value} {kl : Lit} (h : keyOf Tryd.prog 9 v = some kl) : ∃ s, v = .string s ∧ s.size ≤ maxLen ∧ kl = sk s := by
  obtain ⟨s, h1, h2, h3⟩ := WideMaps.string_of_keyOf Tryd.underlying9 h
  exact ⟨s, h1, h3, h2⟩
theorem sk_inj {a b : ByteArray} (h : sk a = sk b) : a = b := by
  unfold sk at h
  simp only [Lit.string.injEq] at h
  obtain ⟨⟨la⟩⟩ := a
  obtain ⟨⟨lb⟩⟩ := b
  simp only at h
  rw [h]

/-- Block b is a map of at most n entries, in which each text reads as f says. -/
def MapT (w : World) (b n : Nat) (f : ByteArray → Int) : Prop :=
  ∃ D : DataW Unit, w.ownsMap Tryd.prog 9 (plainElem Tryd.prog 3) b n D ∧ ∀ s, D.atKey (sk s) (.lit (.int .i64 0)) = .lit (.int .i64 (f s))
section
variable {w w' : World} {b n : Nat} {f : ByteArray → Int}
theorem MapT.made (w : World) : MapT (w.alloc (.map #[] 0)) w.heap.size 0 (fun _ => 0) := ⟨_, World.ownsMap_made w _ _ _, fun s => rfl⟩
theorem MapT.congr {g : ByteArray → Int} (h : MapT w b n f) (e : ∀ s, f s = g s) : MapT w b n g := by
  obtain ⟨D, h1, h2⟩ := h
  exact ⟨D, h1, fun s => by rw [h2, e]⟩
theorem MapT.mono {m : Nat} (h : MapT w b n f) (hm : n ≤ m) : MapT w b m f := by
  obtain ⟨D, h1, h2⟩ := h
  exact ⟨D, h1.mono hm, h2⟩
theorem MapT.lt (h : MapT w b n f) : b < w.heap.size := h.choose_spec.1.lt
theorem MapT.is (h : MapT w b n f) : ∃ es c, w.heap[b]? = some (.map es c) := by
  obtain ⟨D, ⟨es, c, hb, _⟩, _⟩ := h
  exact ⟨es, c, hb⟩
theorem MapT.blk (h : MapT w b n f) (k : ∀ es c, w.heap[b]? = some (.map es c) → w'.heap[b]? = some (.map es c)) : MapT w' b n f := by
  obtain ⟨D, ⟨es, clock, hb, r⟩, h2⟩ := h
  exact ⟨D, ⟨es, clock, k _ _ hb, r⟩, h2⟩
theorem MapT.below (h : MapT w b n f) (k : RowKit.Below w.heap.size w w') : MapT w' b n f := h.blk fun _ _ e => blk_below e k
theorem MapT.kx {et T base : Nat} (h : MapT w b n f) (k : Kx et T base w w') : MapT w' b n f := h.blk fun _ _ e => k.map e
/-- Behind a store. -/
theorem MapT.put {D : DataW Unit} {s : ByteArray} {c : Int} (h0 : w.ownsMap Tryd.prog 9 (plainElem Tryd.prog 3) b n D) (h1 : ∀ s, D.atKey (sk s) (.lit (.int .i64 0)) = .lit (.int .i64 (f s))) (hs : s.size ≤ maxLen)
    (h : w'.ownsMap Tryd.prog 9 (plainElem Tryd.prog 3) b (n + 1) (D.put (sk s) (.lit (.int .i64 c)))) : MapT w' b (n + 1) (fun t => if s = t then c else f t) := by
  refine ⟨_, h, fun t => ?_⟩
  dsimp only
  by_cases e : s = t
  · subst e
    rw [if_pos rfl]
    exact Maps.atKey_put_same h0.isMap (strKeyed.key (keyT hs)) _ _
  · rw [if_neg e, Maps.atKey_put_other (fun q => e (sk_inj q).symm), h1]
/-- Blocks of cells behind a change of the map. -/
theorem MapT.cells (h : MapT w b n f) {b2 : Nat} {c : Array Value} {t : Nat} {f2 : Nat × Nat} (hb : w.heap[b2]? = some (.cells c t f2)) (hg : w.grownBy w' (some b)) : w'.heap[b2]? = some (.cells c t f2) :=
  (hg.block b2 (Array.getElem?_eq_some_iff.1 hb).1 (fun e => by
    obtain ⟨es, cl, hm⟩ := h.is
    rw [Option.some.inj e, hm] at hb
    cases hb)).trans hb
theorem MapT.row (h : MapT w b n f) {b0 et k m : Nat} {v : Value} {xs : List Value} (hr : w.ownsRow b0 et k v m xs) (hg : w.grownBy w' (some b)) : w'.ownsRow b0 et k v m xs :=
  row_keep hr (fun g e => by
    obtain ⟨c, hc⟩ := row_type hr e
    exact (h.cells hc hg).trans hc.symm)
theorem MapT.col {α : Type} {enc : α → List Value} {et k T base pa : Nat} {L : List α} {m : Int} (h : MapT w b n f) (hx : ColX enc et k T base w pa L m) (hg : w.grownBy w' (some b)) : ColX enc et k T base w' pa L m := by
  obtain ⟨M, ⟨v, c1, c2, c3⟩, h2, h3⟩ := hx
  refine ⟨M, ⟨v, h.cells c1 hg, c2, h.row c3.1 hg, c3.2⟩, fun q hq => ⟨(h2 q hq).1, Nat.lt_of_lt_of_le (h2 q hq).2.1 hg.size, ?_⟩, Nat.le_trans h3 hg.size⟩
  obtain ⟨cs, t, f2, e1, e2⟩ := (h2 q hq).2.2
  exact ⟨cs, t, f2, h.cells e1 hg, e2⟩
theorem bel_map {a : World} (h : RowKit.Below a.heap.size a w) (hg : w.grownBy w' (some b)) (hb : a.heap.size ≤ b) : RowKit.Below a.heap.size a w' :=
  ⟨hg.os.trans h.os, hg.tape.trans h.tape, hg.output.trans h.output, Nat.le_trans h.size hg.size, fun k hk => (hg.block k (Nat.lt_of_lt_of_le hk h.size) (by simp; omega)).trans (h.block k hk)⟩
theorem grown_below (h : w.grownBy w' none) : RowKit.Below w.heap.size w w' := ⟨h.os, h.tape, h.output, h.size, fun k hk => h.block k hk (by simp)⟩
theorem bel_iter {wc : World} (h : RowKit.Below wc.heap.size wc w) (hg : w.grownBy w' (some wc.heap.size)) : RowKit.Below wc.heap.size wc w' :=
  ⟨hg.os.trans h.os, hg.tape.trans h.tape, hg.output.trans h.output, Nat.le_trans h.size hg.size, fun k hk => (hg.block k (Nat.lt_of_lt_of_le hk h.size) (by simp; omega)).trans (h.block k hk)⟩
theorem invT (key : Value) (kl : Lit) (h : keyOf Tryd.prog 9 key = some kl) : ∃ x, key = Value.string x := by
  obtain ⟨s, e, _⟩ := keyT_inv h
  exact ⟨s, e⟩
theorem invI (v : Value) (y : DataW Unit × List MemPlace) (h : plainElem Tryd.prog 3 v = some y) : ∃ c, v = Value.int .i64 c := by
  obtain ⟨c, e, _⟩ := plainElem_int_inv Tryd.underlying3 h
  exact ⟨c, e⟩
theorem range_zero {D : DataW Unit} (h0 : ∀ s, D.atKey (sk s) (.lit (.int .i64 0)) = .lit (.int .i64 0)) {x : ByteArray} {kl : Lit} {c : Int} {yp : DataW Unit × List MemPlace} (hkey : keyOf Tryd.prog 9 (.string x) = some kl) (hy : plainElem Tryd.prog 3 (.int .i64 c) = some yp) (hat : ∀ zd, D.atKey kl zd = yp.1) : c = 0 := by
  obtain ⟨s, _, _, rfl⟩ := keyT_inv hkey
  obtain ⟨a, e, rfl, _⟩ := plainElem_int_inv Tryd.underlying3 hy
  have h1 := hat (.lit (.int .i64 0))
  rw [h0] at h1
  simp only [DataW.lit.injEq, Lit.int.injEq, true_and] at h1
  simp only [Value.int.injEq, true_and] at e
  omega
theorem wfI {c : Int} (h : -1000 ≤ c) (h2 : c ≤ 1000) : (Lit.int .i64 c).wf = true := WalkArith.wf_i64 (by omega)
end
end Go.Proofs.YtfoagdnbegpjeaaDoor
