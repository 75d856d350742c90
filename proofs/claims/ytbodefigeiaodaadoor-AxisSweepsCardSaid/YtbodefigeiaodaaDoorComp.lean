/-
  slices.Compact at handles and at pairs: of runs of equal ones one each.
-/
import Derived.Test.YtbodefigeiaodaaDoorFb
import Derived.Lib.SlicesCompact
import Derived.Lib.SliceRun
import Derived.Sort.WalkB12
import Derived.Shelf.RegionOpenPlain
namespace Go.Proofs.YtbodefigeiaodaaDoor
set_option linter.unusedSimpArgs false
set_option linter.unusedVariables false
open Go.RowKit Go.Sort Go.Lib Go.Shelf

theorem ne_and {a b c d : Int} (h : ¬ ((a, b) : Hd) = (c, d)) : (decide (a = c) && decide (b = d)) = false := by
  rw [← Bool.decide_and]
  exact decide_eq_false fun e => h (by rw [e.1, e.2])

/-- Two cells at a handle's place, stored: the row with it. -/
theorem set2 {w : World} {b off : Nat} {d : Array Hd} (h : HoldsK encH 2 w b off d) {i : Nat} (hi : i < d.size) (x : Hd) : HoldsK encH 2 ((w.setCell ⟨b, off + i * 2, none⟩ (.int .i64 x.1)).setCell ⟨b, off + i * 2 + 1, none⟩ (.int .i64 x.2)) b off (d.setIfInBounds i x) :=
  hkSet h lenH hi x
theorem at2 {w : World} {b off : Nat} {d : Array Hd} (h : HoldsK encH 2 w b off d) {i : Nat} (hi : i < d.size) :
    (w.cell? ⟨b, off + i * 2, none⟩ = some (.int .i64 d[i]!.1) ∧ w.cell? ⟨b, off + i * 2 + 1, none⟩ = some (.int .i64 d[i]!.2)) ∧ w.frozen? ⟨b, off + i * 2, none⟩ = false ∧ w.frozen? ⟨b, off + i * 2 + 1, none⟩ = false := by
  have c0 := Go.Sort.HoldsK.cell h hi (show 0 < 2 by omega)
  have c1 := Go.Sort.HoldsK.cell h hi (show 1 < 2 by omega)
  exact ⟨⟨c0.1, c1.1⟩, c0.2, c1.2⟩

/-- A run of stores of one element, over and over: zero values from place i on. -/
theorem HoldsK.lay {α : Type} [Inhabited α] {enc : α → List Value} {k : Nat} (hk : ∀ x, (enc x).length = k) {w : World} {b off : Nat} {d : Array α} (h : HoldsK enc k w b off d) (z : α) : ∀ (m i : Nat), i + m ≤ d.size → ∃ d' : Array α, d'.size = d.size ∧ (∀ j, j < i → d'[j]! = d[j]!) ∧ HoldsK enc k (w.setCells b (off + i * k) (flat enc (List.replicate m z))) b off d' := by
  intro m i hm
  induction m generalizing w d i with
  | zero => exact ⟨d, rfl, fun _ _ => rfl, h⟩
  | succ m ih =>
    have h1 := hkSet h hk (show i < d.size by omega) z
    obtain ⟨d', hs, hlow, hH⟩ := ih h1 (i + 1) (by simp; omega)
    refine ⟨d', by rw [hs]; simp, fun j hj => by rw [hlow j (by omega), getElem!_set_other d i j z (by omega)], ?_⟩
    have e : flat enc (List.replicate (m + 1) z) = enc z ++ flat enc (List.replicate m z) := by simp [flat, List.replicate_succ]
    rw [e]
    have app : ∀ (xs ys : List Value) (W : World) (o : Nat), W.setCells b o (xs ++ ys) = (W.setCells b o xs).setCells b (o + xs.length) ys := by
      intro xs
      induction xs with
      | nil => intro ys W o; rfl
      | cons x xs ihx =>
        intro ys W o
        simp only [List.cons_append, World.setCells, List.length_cons]
        rw [ihx]
        congr 1
        omega
    rw [app, hk, show off + i * k + k = off + (i + 1) * k by rw [Nat.add_mul]; omega]
    exact hH
theorem Below.setCells {B : Nat} {a w : World} (h : RowKit.Below B a w) {b : Nat} (hb : B ≤ b) : ∀ (vs : List Value) (o : Nat), RowKit.Below B a (w.setCells b o vs) := by
  intro vs
  induction vs generalizing w with
  | nil => intro o; exact h
  | cons v r ih => intro o; exact ih (h.setCell (p := ⟨b, o, none⟩) hb v) (o + 1)

theorem zero_flat {α : Type} [Inhabited α] {enc : α → List Value} {k : Nat} (hk : ∀ x, (enc x).length = k) (k0 : 0 < k) (z : α) (n : Nat) : (Builtin.zeroCells (enc z).toArray n).toList = flat enc (List.replicate n z) := by
  apply List.ext_getElem?
  intro j
  have hs : (enc z).toArray.size = k := by simp [hk]
  by_cases hj : j < n * k
  · have hq : j / k < n := Nat.div_lt_of_lt_mul (by rw [Nat.mul_comm]; exact hj)
    have hm : j % k < k := Nat.mod_lt _ k0
    have e : j / k * k + j % k = j := by rw [Nat.mul_comm]; exact Nat.div_add_mod j k
    have g := flat_get hk (List.replicate n z) (j / k) (j % k) (by simpa using hq) hm
    have gz : (List.replicate n z)[j / k]! = z := by rw [getElem!_pos _ _ (by simpa using hq)]; simp
    rw [e, gz] at g
    rw [g]
    simp only [Builtin.zeroCells, hs, Array.toList_map, Array.toList_range, List.getElem?_map]
    rw [List.getElem?_range hj]
    simp only [Option.map_some]
    have hm' : j % k < (enc z).toArray.size := by rw [hs]; exact hm
    rw [getElem!_pos (enc z).toArray (j % k) hm', List.getElem?_eq_getElem (l := enc z) (by rw [hk]; exact hm)]
    simp
  · rw [List.getElem?_eq_none (by simp [Builtin.zeroCells, hs]; omega), List.getElem?_eq_none (by rw [flat_len hk]; simp; omega)]

/-- 'clear(s[i:])' at elements of k cells. -/
theorem clear_run {α : Type} [Inhabited α] {enc : α → List Value} {k : Nat} (hk : ∀ x, (enc x).length = k) (k0 : 0 < k) (h1 : ∀ x, ∀ v ∈ enc x, v.oneCell' = true) (P : Program) {t e : TypeId} {zv : Value} (z : α) (ht : P.underlying t = some (.slice e)) (hv : ∀ w, (zeroValue e).run P w = .ok zv w) (hz : zv.cells = (enc z).toArray)
    {w : World} {b off : Nat} {d : Array α} (h : HoldsK enc k w b off d) (i : Nat) (hi : i < d.size) (c : Nat) (ty : TypeId) :
    (Builtin.clear_ #[t] ty #[.slice (some ⟨b, off + i * k, none⟩) (d.size - i) c]).run P w = .ok (.tuple #[]) (w.setCells b (off + i * k) (flat enc (List.replicate (d.size - i) z))) := by
  have hb : i * k + (d.size - i) * k = d.size * k := by rw [← Nat.add_mul]; congr 1; omega
  have hst := stores_of_holds (W := w) (blk := b) (off := off) (F := flatK enc k d) P h (i * k) (flat enc (List.replicate (d.size - i) z)) (by rw [flat_len hk, size_flatK]; simp; omega) (flat_one h1 _)
  obtain ⟨m, hm⟩ : ∃ m, d.size - i = m + 1 := ⟨d.size - i - 1, by omega⟩
  rw [hm] at hst ⊢
  simp only [Builtin.clear_]
  simp [run_underlying ht, hv, hz, zero_flat hk k0, hst]

end Go.Proofs.YtbodefigeiaodaaDoor
