/-
  slices.Insert of one component: at the end; in place; onto a new row.
-/
import Derived.Test.YtbmclbajhgabgaaDoorVb
import Derived.Shelf.Spec.SlicesInsertGrow
namespace Go.Proofs.YtbmclbajhgabgaaDoor
set_option linter.unusedSimpArgs false
set_option linter.unusedVariables false
open Go.RowKit Go.Sort Go.Lib Go.Shelf

/-- 'copy(dst, src)' over elements of k cells. -/
theorem run_copy_cellsK {P : Program} (k : Nat) (w : World) (dT sT ty elem : TypeId) (b o dLen dCap : Nat) (a : Addr) (sLen sCap : Nat) (cs : List Value)
    (hu : P.underlying dT = some (.slice elem)) (hs : (P.info? elem).map (·.size) = some k) (hn : cs.length = Nat.min sLen dLen * k)
    (hsrc : ∀ j v, cs[j]? = some v → w.cell? (a.add j) = some v) (hc : ∀ j, j < cs.length → (w.cell? ⟨b, o + j, none⟩).isSome = true) (hf : ∀ j, j < cs.length → w.frozen? ⟨b, o + j, none⟩ = false) (h1 : ∀ v ∈ cs, v.oneCell' = true) :
    (Builtin.copy_ #[dT, sT] ty #[.slice (some ⟨b, o, none⟩) dLen dCap, .slice (some a) sLen sCap]).run P w = .ok (goInt (Nat.min sLen dLen)) (w.setCells b o cs) := by
  have hl := run_loadCells_list (P := P) w a cs hsrc
  have hst := run_storeCells_cells (P := P) b o cs 0 w (by simpa using hc) (by simpa using hf) h1
  cases hq : P.info? elem with
  | none => simp [hq] at hs
  | some i =>
    have hi : i.size = k := by simpa [hq] using hs
    rw [hn] at hl
    simp [Builtin.copy_, run_underlying hu, Builtin.lenOf, Builtin.firstCells, sizeOf, typeInfo, hq, hi, hl, hst]

section
variable {α : Type} {enc : α → List Value} {k : Nat}
/-- A row out of its block's cells. -/
theorem row_of_cells (hk : ∀ x, (enc x).length = k) {w : World} {base et g cap : Nat} {cur : Array Value} (L : List α) (hg : w.heap[g]? = some (.cells cur et (0, 0))) (hb : base ≤ g) (hs : cur.size = cap * k) (hc : L.length ≤ cap) (hm : cap ≤ maxLen)
    (h : ∀ j u, (flat enc L)[j]? = some u → w.cell? ⟨g, j, none⟩ = some u) : w.ownsRow base et k (.slice (some ⟨g, 0, none⟩) L.length cap) L.length (flat enc L) := by
  refine ⟨flat_len hk L, .inr ⟨g, cap, cur, rfl, hb, hg, hc, hm, hs, ?_⟩⟩
  apply List.ext_getElem?
  intro j
  have hle : L.length * k ≤ cap * k := Nat.mul_le_mul_right k hc
  rw [List.getElem?_take]
  split
  · rename_i hj
    have hj' : j < (flat enc L).length := by rw [flat_len hk]; exact hj
    have := h j _ (List.getElem?_eq_getElem hj')
    rw [List.getElem?_eq_getElem hj', ← this]
    simp [World.cell?, hg]
  · rename_i hj
    rw [List.getElem?_eq_none (by rw [flat_len hk]; omega)]
/-- The cells behind both copies. -/
theorem insert_cells (hk : ∀ x, (enc x).length = k) {w : World} {g i : Nat} {l : List α} (x : α) (hi : i ≤ l.length) (hold : ∀ j u, (flat enc (l.take i))[j]? = some u → w.cell? ⟨g, j, none⟩ = some u)
    (hsome : ∀ j, j < (l.length + 1) * k → (w.cell? ⟨g, j, none⟩).isSome = true) :
    ∀ j u, (flat enc (l.take i ++ [x] ++ l.drop i))[j]? = some u → ((w.setCells g ((i + 1) * k) (flat enc (l.drop i))).setCells g (i * k) (flat enc [x])).cell? ⟨g, j, none⟩ = some u ∧ ((w.setCells g (i * k) (flat enc [x])).setCells g ((i + 1) * k) (flat enc (l.drop i))).cell? ⟨g, j, none⟩ = some u := by
  intro j u hu
  have e1 : (flat enc (l.take i)).length = i * k := by rw [flat_len hk, List.length_take]; congr 1; omega
  have e2 : (flat enc [x]).length = k := by rw [flat_len hk]; simp
  have e3 : (flat enc (l.drop i)).length = (l.length - i) * k := by rw [flat_len hk, List.length_drop]
  have e4 : (i + 1) * k = i * k + k := by rw [Nat.add_mul, Nat.one_mul]
  have e5 : (l.length + 1) * k = i * k + k + (l.length - i) * k := by rw [← e4, ← Nat.add_mul]; congr 1; omega
  rw [flat_append, flat_append] at hu
  have hs1 : ∀ t, t < (flat enc (l.drop i)).length → (w.cell? ⟨g, (i + 1) * k + t, none⟩).isSome = true := fun t ht => hsome _ (by omega)
  have hs2 : ∀ t, t < (flat enc [x]).length → (w.cell? ⟨g, i * k + t, none⟩).isSome = true := fun t ht => hsome _ (by omega)
  rcases Nat.lt_or_ge j (i * k) with h1 | h1
  · rw [List.getElem?_append_left (by simp; omega), List.getElem?_append_left (by omega)] at hu
    constructor
    · rw [World.cell?_setCells_out _ _ _ _ _ (fun _ _ => .inl h1), World.cell?_setCells_out _ _ _ _ _ (fun _ _ => .inl (by show j < _; omega))]
      exact hold j u hu
    · rw [World.cell?_setCells_out _ _ _ _ _ (fun _ _ => .inl (by show j < _; omega)), World.cell?_setCells_out _ _ _ _ _ (fun _ _ => .inl h1)]
      exact hold j u hu
  · rcases Nat.lt_or_ge j (i * k + k) with h2 | h2
    · rw [List.getElem?_append_left (by simp; omega), List.getElem?_append_right (by omega), e1] at hu
      obtain ⟨ht, rfl⟩ := List.getElem?_eq_some_iff.1 hu
      constructor
      · have := World.cell?_setCells_in g (flat enc [x]) (i * k) (w.setCells g ((i + 1) * k) (flat enc (l.drop i))) (fun t ht => isSome_setCells g _ _ _ hs1 _ (hs2 t ht)) (j - i * k) ht
        rwa [show i * k + (j - i * k) = j by omega] at this
      · rw [World.cell?_setCells_out _ _ _ _ _ (fun _ _ => .inl (by show j < _; omega))]
        have := World.cell?_setCells_in g (flat enc [x]) (i * k) w hs2 (j - i * k) ht
        rwa [show i * k + (j - i * k) = j by omega] at this
    · rw [List.getElem?_append_right (by simp; omega)] at hu
      rw [List.length_append, e1, e2] at hu
      obtain ⟨ht, rfl⟩ := List.getElem?_eq_some_iff.1 hu
      constructor
      · rw [World.cell?_setCells_out _ _ _ _ _ (fun _ _ => .inr (by show _ ≤ j; omega))]
        have := World.cell?_setCells_in g (flat enc (l.drop i)) ((i + 1) * k) w hs1 (j - (i * k + k)) ht
        rwa [show (i + 1) * k + (j - (i * k + k)) = j by omega] at this
      · have := World.cell?_setCells_in g (flat enc (l.drop i)) ((i + 1) * k) (w.setCells g (i * k) (flat enc [x])) (fun t ht => isSome_setCells g _ _ _ hs2 _ (hs1 t ht)) (j - (i * k + k)) ht
        rwa [show (i + 1) * k + (j - (i * k + k)) = j by omega] at this
end

theorem infoV : (Tryd.prog.info? 23).map (·.size) = some 3 := by
  obtain ⟨i, hi, _, hs, _⟩ := apV.hi
  rw [hi]
  simp [hs]
theorem overlaps_apart (w : World) (g vb o lb cb : Nat) (hne : vb ≠ g) (cs : Array Value) (t : Nat) (hvb : w.heap[vb]? = some (.cells cs t (0, 0))) (cur : Array Value) (t2 : Nat) (hg : w.heap[g]? = some (.cells cur t2 (0, 0))) (hs : cur.size ≠ 0) (la ca : Nat) :
    (callFunc 64 #[.slice (some ⟨vb, 0, none⟩) la ca, .slice (some ⟨g, o, none⟩) lb cb]).run Tryd.prog w = .ok (.value (.bool false)) w := by
  rw [run_callFunc_extern Tryd.func64 (by kernel_rfl) (by kernel_rfl) (by kernel_rfl) (e := Extern.SlicesOverlaps.overlaps #[31, 31] #[4]) (by kernel_rfl),
    Lib.run_overlaps_apart w 31 4 23 Tryd.underlying31 3 Tryd.sizeOf23 ⟨vb, 0, none⟩ ⟨g, o, none⟩ la ca lb cb hne t t2 cs.size cur.size (by simp [World.shape?, hvb]) (by simp [World.shape?, hg]) hs (by simp [World.frozen?, hvb]) (by simp [World.frozen?, hvb])]
  rfl

set_option maxHeartbeats 2000000 in
set_option maxRecDepth 100000 in
/-- At the end. -/
theorem insert_end (l : List Vl) (x : Vl) (base : Nat) (v vx : Value) (w : World) (hown : w.ownsRow base 23 3 v l.length (flat encV l)) (hX : Sl encV w vx [x]) (hlen : l.length ≤ 1000) (hbase : base ≤ w.heap.size) :
    Calls Tryd.prog 50 #[v, .int .i64 l.length, vx] w fun e w' => ∃ v', e = .returned v' ∧ w'.ownsRow base 23 3 v' (l.length + 1) (flat encV (l ++ [x])) ∧ RowKit.Below base w w' := by
  have e1 : (l ++ [x]).length = l.length + 1 := by simp
  have E1 := Lib.hid e1
  clear e1
  obtain ⟨p, c, rfl, hc, hcm, _⟩ := row_val hown
  have hc63 : c ≤ 9223372036854775807 := by unfold maxLen at hcm; omega
  have hg : ∀ g, (Value.slice p l.length c).ownBlock = some g → base ≤ g := fun g h => by
    rcases hown.2 with ⟨e, _⟩ | ⟨g', cap, cur, e, hb, _⟩
    · rw [e] at h; cases h
    · rw [e] at h; simp only [Value.ownBlock, Option.some.injEq] at h; omega
  obtain ⟨px, cx, rfl, hcx, hcxm, _⟩ := id hX
  have HO := Lib.hid hown
  have HX := Lib.hid hX
  clear hown hX hcm hcxm
  cases p with
  | none =>
    go_enter Tryd.func50, Tryd.ntmps50
    go_wp2_with (at_builtin; refine wpl_app2 apV rfl _ _ rfl base (by rfl) (by rfl) HO.out rfl HX.out (by simp; omega) hbase ?_; intro v' w' hw1 hw2 hw3 hw4)
    go_ret
    exact ⟨v', rfl, by first | exact E1.out ▸ hw1 | exact hw1, ⟨hw2.os, hw2.tape, hw2.output, hw2.size, fun j hj => hw2.block j (by omega) (fun e => by have := hg j e.symm; omega)⟩⟩
  | some ad =>
    obtain ⟨ab, ao, asp⟩ := ad
    go_enter Tryd.func50, Tryd.ntmps50
    go_wp2_with (at_builtin; refine wpl_app2 apV rfl _ _ rfl base (by rfl) (by rfl) HO.out rfl HX.out (by simp; omega) hbase ?_; intro v' w' hw1 hw2 hw3 hw4)
    all_goals (go_ret; exact ⟨v', rfl, by first | exact E1.out ▸ hw1 | exact hw1, ⟨hw2.os, hw2.tape, hw2.output, hw2.size, fun j hj => hw2.block j (by omega) (fun e => by have := hg j e.symm; omega)⟩⟩)
end Go.Proofs.YtbmclbajhgabgaaDoor
