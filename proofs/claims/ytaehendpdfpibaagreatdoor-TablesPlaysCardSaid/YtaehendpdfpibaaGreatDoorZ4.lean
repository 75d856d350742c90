import Derived.Test.YtaehendpdfpibaaGreatDoorZ3
import Derived.Shelf.Spec.SlicesInsertGrow
import Derived.Test.YtaehendpdfpibaaGreatDoorZ2
import Derived.Test.YtaehendpdfpibaaGreatDoorZ1
import Derived.Test.YtaehendpdfpibaaGreatDoorZ0
import Derived.Lib.TrailingZeros

/-
  slices.Insert of one component: at the end; in place; onto a new row.
-/
namespace Go.Proofs.YtaehendpdfpibaaGreatDoor
set_option linter.unusedSimpArgs false
set_option linter.unusedVariables false
open Go.RowKit Go.Sort Go.Lib Go.Shelf

/-- 'copy(dst, src)' over elements of k cells. -/
theorem run_copy_cellsK {P : Program} (k : Nat) (w : World) (dT sT ty elem : TypeId) (b o dLen dCap : Nat) (a : Addr) (sLen sCap : Nat) (cs : List Value)
    (hu : P.underlying dT = some (.slice elem)) (hs : (P.info? elem).map (·.size) = some k) (hn : cs.length = Nat.min sLen dLen * k)
    (hsrc : ∀ j v, cs[j]? = some v → w.cell? (a.add j) = some v) (hc : ∀ j, j < cs.length → (w.cell? ⟨b, o + j, none⟩).isSome = true) (hf : ∀ j, j < cs.length → w.frozen? ⟨b, o + j, none⟩ = false) (h1 : ∀ v ∈ cs, v.oneCell' = true) :
    (Builtin.copy_ #[dT, sT] ty #[.slice (some ⟨b, o, none⟩) dLen dCap, .slice (some a) sLen sCap]).run P w = .ok (goInt (Nat.min sLen dLen)) (w.setCells b o cs) := by
  have hl := run_loadCells_list (P := P) w a cs hsrc
  have hst := run_storeCells_cells (P := P) b o cs 0 w (by simpa using hc) (by simpa using hf) h1
  cases hq : P.info? elem with
  | none => simp [hq] at hs
  | some i =>
    have hi : i.size = k := by simpa [hq] using hs
    rw [hn] at hl
    simp [Builtin.copy_, run_underlying hu, Builtin.lenOf, Builtin.firstCells, sizeOf, typeInfo, hq, hi, hl, hst]

section
variable {α : Type} {enc : α → List Value} {k : Nat}
/-- A row out of its block's cells. -/
theorem row_of_cells (hk : ∀ x, (enc x).length = k) {w : World} {base et g cap : Nat} {cur : Array Value} (L : List α) (hg : w.heap[g]? = some (.cells cur et (0, 0))) (hb : base ≤ g) (hs : cur.size = cap * k) (hc : L.length ≤ cap) (hm : cap ≤ maxLen)
    (h : ∀ j u, (flat enc L)[j]? = some u → w.cell? ⟨g, j, none⟩ = some u) : w.ownsRow base et k (.slice (some ⟨g, 0, none⟩) L.length cap) L.length (flat enc L) := by
  refine ⟨flat_len hk L, .inr ⟨g, cap, cur, rfl, hb, hg, hc, hm, hs, ?_⟩⟩
  apply List.ext_getElem?
  intro j
  have hle : L.length * k ≤ cap * k := Nat.mul_le_mul_right k hc
  rw [List.getElem?_take]
  split
  · rename_i hj
    have hj' : j < (flat enc L).length := by rw [flat_len hk]; exact hj
    have := h j _ (List.getElem?_eq_getElem hj')
    rw [List.getElem?_eq_getElem hj', ← this]
    simp [World.cell?, hg]
  · rename_i hj
    rw [List.getElem?_eq_none (by rw [flat_len hk]; omega)]
/-- The cells behind both copies. -/
theorem insert_cells (hk : ∀ x, (enc x).length = k) {w : World} {g i : Nat} {l : List α} (x : α) (hi : i ≤ l.length) (hold : ∀ j u, (flat enc (l.take i))[j]? = some u → w.cell? ⟨g, j, none⟩ = some u)
    (hsome : ∀ j, j < (l.length + 1) * k → (w.cell? ⟨g, j, none⟩).isSome = true) :
    ∀ j u, (flat enc (l.take i ++ [x] ++ l.drop i))[j]? = some u → ((w.setCells g ((i + 1) * k) (flat enc (l.drop i))).setCells g (i * k) (flat enc [x])).cell? ⟨g, j, none⟩ = some u ∧ ((w.setCells g (i * k) (flat enc [x])).setCells g ((i + 1) * k) (flat enc (l.drop i))).cell? ⟨g, j, none⟩ = some u := by
  intro j u hu
  have e1 : (flat enc (l.take i)).length = i * k := by rw [flat_len hk, List.length_take]; congr 1; omega
  have e2 : (flat enc [x]).length = k := by rw [flat_len hk]; simp
  have e3 : (flat enc (l.drop i)).length = (l.length - i) * k := by rw [flat_len hk, List.length_drop]
  have e4 : (i + 1) * k = i * k + k := by rw [Nat.add_mul, Nat.one_mul]
  have e5 : (l.length + 1) * k = i * k + k + (l.length - i) * k := by rw [← e4, ← Nat.add_mul]; congr 1; omega
  rw [flat_append, flat_append] at hu
  have hs1 : ∀ t, t < (flat enc (l.drop i)).length → (w.cell? ⟨g, (i + 1) * k + t, none⟩).isSome = true := fun t ht => hsome _ (by omega)
  have hs2 : ∀ t, t < (flat enc [x]).length → (w.cell? ⟨g, i * k + t, none⟩).isSome = true := fun t ht => hsome _ (by omega)
  rcases Nat.lt_or_ge j (i * k) with h1 | h1
  · rw [List.getElem?_append_left (by simp; omega), List.getElem?_append_left (by omega)] at hu
    constructor
    · rw [World.cell?_setCells_out _ _ _ _ _ (fun _ _ => .inl h1), World.cell?_setCells_out _ _ _ _ _ (fun _ _ => .inl (by show j < _; omega))]
      exact hold j u hu
    · rw [World.cell?_setCells_out _ _ _ _ _ (fun _ _ => .inl (by show j < _; omega)), World.cell?_setCells_out _ _ _ _ _ (fun _ _ => .inl h1)]
      exact hold j u hu
  · rcases Nat.lt_or_ge j (i * k + k) with h2 | h2
    · rw [List.getElem?_append_left (by simp; omega), List.getElem?_append_right (by omega), e1] at hu
      obtain ⟨ht, rfl⟩ := List.getElem?_eq_some_iff.1 hu
      constructor
      · have := World.cell?_setCells_in g (flat enc [x]) (i * k) (w.setCells g ((i + 1) * k) (flat enc (l.drop i))) (fun t ht => isSome_setCells g _ _ _ hs1 _ (hs2 t ht)) (j - i * k) ht
        rwa [show i * k + (j - i * k) = j by omega] at this
      · rw [World.cell?_setCells_out _ _ _ _ _ (fun _ _ => .inl (by show j < _; omega))]
        have := World.cell?_setCells_in g (flat enc [x]) (i * k) w hs2 (j - i * k) ht
        rwa [show i * k + (j - i * k) = j by omega] at this
    · rw [List.getElem?_append_right (by simp; omega)] at hu
      rw [List.length_append, e1, e2] at hu
      obtain ⟨ht, rfl⟩ := List.getElem?_eq_some_iff.1 hu
      constructor
      · rw [World.cell?_setCells_out _ _ _ _ _ (fun _ _ => .inr (by show _ ≤ j; omega))]
        have := World.cell?_setCells_in g (flat enc (l.drop i)) ((i + 1) * k) w hs1 (j - (i * k + k)) ht
        rwa [show (i + 1) * k + (j - (i * k + k)) = j by omega] at this
      · have := World.cell?_setCells_in g (flat enc (l.drop i)) ((i + 1) * k) (w.setCells g (i * k) (flat enc [x])) (fun t ht => isSome_setCells g _ _ _ hs2 _ (hs1 t ht)) (j - (i * k + k)) ht
        rwa [show (i + 1) * k + (j - (i * k + k)) = j by omega] at this
end

theorem infoV : (Tryz.prog.info? 34).map (·.size) = some 3 := by
  obtain ⟨i, hi, _, hs, _⟩ := apV.hi
  rw [hi]
  simp [hs]
theorem overlaps_apart (w : World) (g vb o lb cb : Nat) (hne : vb ≠ g) (cs : Array Value) (t : Nat) (hvb : w.heap[vb]? = some (.cells cs t (0, 0))) (cur : Array Value) (t2 : Nat) (hg : w.heap[g]? = some (.cells cur t2 (0, 0))) (hs : cur.size ≠ 0) (la ca : Nat) :
    (callFunc 156 #[.slice (some ⟨vb, 0, none⟩) la ca, .slice (some ⟨g, o, none⟩) lb cb]).run Tryz.prog w = .ok (.value (.bool false)) w := by
  rw [run_callFunc_extern Tryz.func156 (by kernel_rfl) (by kernel_rfl) (by kernel_rfl) (e := Extern.SlicesOverlaps.overlaps #[32, 32] #[4]) (by kernel_rfl),
    Lib.run_overlaps_apart w 32 4 34 Tryz.underlying32 3 Tryz.sizeOf34 ⟨vb, 0, none⟩ ⟨g, o, none⟩ la ca lb cb hne t t2 cs.size cur.size (by simp [World.shape?, hvb]) (by simp [World.shape?, hg]) hs (by simp [World.frozen?, hvb]) (by simp [World.frozen?, hvb])]
  rfl

set_option maxHeartbeats 2000000 in
set_option maxRecDepth 100000 in
/-- At the end. -/
theorem insert_end (l : List Vl) (x : Vl) (base : Nat) (v vx : Value) (w : World) (hown : w.ownsRow base 34 3 v l.length (flat encV l)) (hX : Sl encV w vx [x]) (hlen : l.length ≤ 1000) (hbase : base ≤ w.heap.size) :
    Calls Tryz.prog 124 #[v, .int .i64 l.length, vx] w fun e w' => ∃ v', e = .returned v' ∧ w'.ownsRow base 34 3 v' (l.length + 1) (flat encV (l ++ [x])) ∧ RowKit.Below base w w' := by
  have e1 : (l ++ [x]).length = l.length + 1 := by simp
  have E1 := Lib.hid e1
  clear e1
  obtain ⟨p, c, rfl, hc, hcm, _⟩ := row_val hown
  have hc63 : c ≤ 9223372036854775807 := by unfold maxLen at hcm; omega
  have hg : ∀ g, (Value.slice p l.length c).ownBlock = some g → base ≤ g := fun g h => by
    rcases hown.2 with ⟨e, _⟩ | ⟨g', cap, cur, e, hb, _⟩
    · rw [e] at h; cases h
    · rw [e] at h; simp only [Value.ownBlock, Option.some.injEq] at h; omega
  obtain ⟨px, cx, rfl, hcx, hcxm, _⟩ := id hX
  have HO := Lib.hid hown
  have HX := Lib.hid hX
  clear hown hX hcm hcxm
  cases p with
  | none =>
    go_enter Tryz.func124, Tryz.ntmps124
    go_wp2_with (at_builtin; refine wpl_app2 apV rfl _ _ rfl base (by rfl) (by rfl) HO.out rfl HX.out (by simp; omega) hbase ?_; intro v' w' hw1 hw2 hw3 hw4)
    go_ret
    exact ⟨v', rfl, by first | exact E1.out ▸ hw1 | exact hw1, ⟨hw2.os, hw2.tape, hw2.output, hw2.size, fun j hj => hw2.block j (by omega) (fun e => by have := hg j e.symm; omega)⟩⟩
  | some ad =>
    obtain ⟨ab, ao, asp⟩ := ad
    go_enter Tryz.func124, Tryz.ntmps124
    go_wp2_with (at_builtin; refine wpl_app2 apV rfl _ _ rfl base (by rfl) (by rfl) HO.out rfl HX.out (by simp; omega) hbase ?_; intro v' w' hw1 hw2 hw3 hw4)
    all_goals (go_ret; exact ⟨v', rfl, by first | exact E1.out ▸ hw1 | exact hw1, ⟨hw2.os, hw2.tape, hw2.output, hw2.size, fun j hj => hw2.block j (by omega) (fun e => by have := hg j e.symm; omega)⟩⟩)
end Go.Proofs.YtaehendpdfpibaaGreatDoor

/-
  slices.Insert of one component: in place; onto a new row; all roads.
-/
namespace Go.Proofs.YtaehendpdfpibaaGreatDoor
set_option linter.unusedSimpArgs false
set_option linter.unusedVariables false
open Go.RowKit Go.Sort Go.Lib Go.Shelf

set_option maxHeartbeats 4000000 in
set_option maxRecDepth 100000 in
/-- In place: there is room. -/
theorem insert_shift (l : List Vl) (i : Nat) (hi : i < l.length) (x : Vl) (g c vb : Nat) (cur : Array Value) (w : World) (hg : w.heap[g]? = some (.cells cur 34 (0, 0))) (hcs : cur.size = c * 3) (hroom : l.length + 1 ≤ c) (hc63 : c ≤ 9223372036854775807)
    (hcells : ∀ j u, (flat encV l)[j]? = some u → w.cell? ⟨g, j, none⟩ = some u) (hne : vb ≠ g) (hvb : w.heap[vb]? = some (.cells #[.int .i64 x.1, .int .i64 x.2.1, .int .i64 x.2.2] 34 (0, 0))) :
    Calls Tryz.prog 124 #[.slice (some ⟨g, 0, none⟩) l.length c, .int .i64 i, .slice (some ⟨vb, 0, none⟩) 1 1] w fun e w' =>
      e = .returned (.slice (some ⟨g, 0, none⟩) (l.length + 1) c) ∧ w' = (w.drew.setCells g ((i + 1) * 3) (flat encV (l.drop i))).setCells g (i * 3) (flat encV [x]) := by
  obtain ⟨n, hn⟩ : ∃ n, n = l.length := ⟨_, rfl⟩
  rw [← hn] at hi hroom ⊢
  have hz2 : ¬ ((i : Int) = (n : Int)) := by omega
  have mixed : Tryz.prog.follows .mixedOrders = true := by kernel_rfl
  have hov : ∀ o lb cb, (callFunc 156 #[.slice (some ⟨vb, 0, none⟩) 1 1, .slice (some ⟨g, o, none⟩) lb cb]).run Tryz.prog w = .ok (.value (.bool false)) w := fun o lb cb => overlaps_apart w g vb o lb cb hne _ _ hvb _ _ hg (by omega) 1 1
  have e3 : (flat encV (l.drop i)).length = (n - i) * 3 := by rw [flat_len lenV, List.length_drop, hn]
  have hall : ∀ j, j < c * 3 → (w.cell? ⟨g, j, none⟩).isSome = true := fun j hj => by simp [World.cell?, hg, hcs, hj]
  have hfz : ∀ j, w.frozen? ⟨g, j, none⟩ = false := fun j => by simp [World.frozen?, hg]
  have hb1 : (0 : Int) ≤ (i : Int) + 1 := by omega
  have hb3 : (i : Int) ≤ (n : Int) + 1 := by omega
  have hb5 : (i : Int) + 1 ≤ (n : Int) + 1 := by omega
  have hw1 : IntKind.i64.wrap ((i : Int) + 1) = (i : Int) + 1 := by rw [IntKind.wrap_i64]; omega
  have htn : ((i : Int) + 1).toNat = i + 1 := by omega
  have hb2 : ¬ (c = i + 1) := by omega
  have hb4 : ¬ (c = i) := by omega
  have hcp1 : ∀ ty dc sc, (Builtin.copy_ #[32, 32] ty #[.slice (some ⟨g, (i + 1) * 3, none⟩) (n - i) dc, .slice (some ⟨g, i * 3, none⟩) (n + 1 - i) sc]).run Tryz.prog w.drew = .ok (goInt (Nat.min (n + 1 - i) (n - i))) (w.drew.setCells g ((i + 1) * 3) (flat encV (l.drop i))) := fun ty dc sc =>
    run_copy_cellsK 3 w.drew _ _ ty 34 g ((i + 1) * 3) (n - i) dc ⟨g, i * 3, none⟩ (n + 1 - i) sc (flat encV (l.drop i)) Tryz.underlying32 infoV (by rw [e3]; congr 1; simp only [Nat.min_def]; split <;> omega)
      (fun j v hj => by
        rw [Addr.add_lit]
        rw [← flat_drop lenV, List.getElem?_drop] at hj
        exact hcells _ v hj)
      (fun j hj => hall _ (by omega)) (fun j hj => hfz _) (fun v hv => flat_one oneV _ v hv)
  obtain ⟨W1, hW1⟩ : ∃ W1, W1 = w.drew.setCells g ((i + 1) * 3) (flat encV (l.drop i)) := ⟨_, rfl⟩
  have hsp1 : ∀ k, k < c * 3 → (W1.cell? ⟨g, k, none⟩).isSome = true := fun k hk => by
    rw [hW1]
    exact isSome_setCells g (flat encV (l.drop i)) ((i + 1) * 3) w.drew (fun j hj => hall ((i + 1) * 3 + j) (by omega)) k (hall k hk)
  have hx1 : (flat encV [x]).length = 3 := by rw [flat_len lenV]; simp
  have hcp2 : ∀ (W : World), (∀ y, W.cell? y = W1.cell? y) → (∀ y, W.frozen? y = W1.frozen? y) → ∀ ty dc, (Builtin.copy_ #[32, 32] ty #[.slice (some ⟨g, i * 3, none⟩) (n + 1 - i) dc, .slice (some ⟨vb, 0, none⟩) 1 1]).run Tryz.prog W = .ok (goInt (Nat.min 1 (n + 1 - i))) (W.setCells g (i * 3) (flat encV [x])) := fun W hWc hWf ty dc =>
    run_copy_cellsK 3 W _ _ ty 34 g (i * 3) (n + 1 - i) dc ⟨vb, 0, none⟩ 1 1 (flat encV [x]) Tryz.underlying32 infoV (by rw [hx1]; simp only [Nat.min_def]; split <;> omega)
      (fun j v hj => by
        rw [Addr.add_lit, hWc, hW1, World.cell?_setCells_out g _ _ _ _ (fun h _ => absurd h hne)]
        have hj3 : j < 3 := by rw [← hx1]; exact (List.getElem?_eq_some_iff.1 hj).1
        simp only [Nat.zero_add]
        rw [World.cell?_drew]
        match j, hj3 with
        | 0, _ => simp [flat, encV] at hj; simp [World.cell?, hvb, hj]
        | 1, _ => simp [flat, encV] at hj; simp [World.cell?, hvb, hj]
        | 2, _ => simp [flat, encV] at hj; simp [World.cell?, hvb, hj])
      (fun j hj => by have hj3 : j < 3 := hx1 ▸ hj; rw [hWc]; exact hsp1 _ (by omega)) (fun j hj => by rw [hWf, hW1, World.frozen?_setCells]; exact hfz _) (fun v hv => flat_one oneV _ v hv)
  rw [← hW1] at hcp1 ⊢
  clear hall hfz hsp1 hcells hg hvb hcs e3 hn
  go_enter Tryz.func124, Tryz.ntmps124
  go_wp2_with (simp only [hov])
  go_region_law_o (refine step_copy_runI rfl _ _ 32 32 rfl (.slice (some ⟨g, (i + 1) * 3, none⟩) (n - i) (c - (i + 1))) (.slice (some ⟨g, i * 3, none⟩) (n + 1 - i) (c - i)) (by simp [Act.eval, Act.put]) (by simp [Act.eval, Act.put]) (hcp1 3 (c - (i + 1)) (c - i)) ?_)
  go_wp2_with (at_builtin; refine wpList_copy_runI _ rfl _ _ 32 32 rfl _ _ rfl rfl (hcp2 _ (fun _ => rfl) (fun _ => rfl) _ _) ?_)
  go_ret
  exact ⟨rfl, by rw [hW1]⟩

set_option maxHeartbeats 4000000 in
set_option maxRecDepth 100000 in
/-- Onto a new row: there is no room. -/
theorem insert_grow (l : List Vl) (i : Nat) (hi : i < l.length) (x : Vl) (g c vb : Nat) (w : World) (hgw : g < w.heap.size) (hnc : l.length ≤ c) (hroom : c < l.length + 1) (hlen : l.length ≤ 1000)
    (hcells : ∀ j u, (flat encV l)[j]? = some u → w.cell? ⟨g, j, none⟩ = some u) (hvb : w.heap[vb]? = some (.cells #[.int .i64 x.1, .int .i64 x.2.1, .int .i64 x.2.2] 34 (0, 0))) :
    Calls Tryz.prog 124 #[.slice (some ⟨g, 0, none⟩) l.length c, .int .i64 i, .slice (some ⟨vb, 0, none⟩) 1 1] w fun e w' =>
      ∃ (ROW : Array Value) (G : Nat), e = .returned (.slice (some ⟨w.heap.size, 0, none⟩) (l.length + 1) G) ∧ l.length + 1 ≤ G ∧ G ≤ maxLen ∧ ROW.size = G * 3 ∧ (∀ (j : Nat) (u : Value), (flat encV (l.take i))[j]? = some u → ROW[j]? = some u) ∧
        w' = (((w.alloc (.cells ROW 34)).drew.setCells w.heap.size (i * 3) (flat encV [x])).drew).setCells w.heap.size ((i + 1) * 3) (flat encV (l.drop i)) := by
  obtain ⟨n, hn⟩ : ∃ n, n = l.length := ⟨_, rfl⟩
  rw [← hn] at hi hnc hroom hlen ⊢
  have mixed : Tryz.prog.follows .mixedOrders = true := by kernel_rfl
  obtain ⟨i0, hi0, hz0, hzs, hzb⟩ := apV.hi
  have hz2 : ¬ ((i : Int) = (n : Int)) := by omega
  have hz3 : (c : Int) < (n : Int) + 1 := by omega
  have hvw : vb < w.heap.size := (Array.getElem?_eq_some_iff.1 hvb).1
  have hkk : (n : Int) + 1 - (i : Int) = ((n + 1 - i : Nat) : Int) := by omega
  have hik : i + (n + 1 - i) = n + 1 := by omega
  have e0 : (flat encV (l.take i)).length = i * 3 := by rw [flat_len lenV, List.length_take]; congr 1; omega
  have e3 : (flat encV (l.drop i)).length = (n - i) * 3 := by rw [flat_len lenV, List.length_drop, hn]
  have hx1 : (flat encV [x]).length = 3 := by rw [flat_len lenV]; simp
  have hold : (Builtin.firstCells i0.size i (.slice (some ⟨g, 0, none⟩) i c)).run Tryz.prog w.drew = .ok (flat encV (l.take i)).toArray w.drew := by
    rw [hzs]
    exact run_firstCells_some w.drew 3 i ⟨g, 0, none⟩ i c (flat encV (l.take i)) e0 (fun j v hj => by
      rw [Addr.add_lit]
      rw [← flat_take lenV, List.getElem?_take] at hj
      split at hj
      · rw [Nat.zero_add]; exact hcells j v hj
      · cases hj)
  obtain ⟨G, hG⟩ : ∃ G, G = grownCap w (n + 1) c 34 := ⟨_, rfl⟩
  obtain ⟨ROW, hROW⟩ : ∃ ROW : Array Value, ROW = (flat encV (l.take i)).toArray ++ Builtin.zeroCells (Value.agg #[.int .i64 0, .int .i64 0, .int .i64 0]).cells (n + 1 - i) ++ Builtin.zeroCells (Value.agg #[.int .i64 0, .int .i64 0, .int .i64 0]).cells (G - (n + 1)) := ⟨_, rfl⟩
  have hrz : ∀ ty, (Builtin.append_ #[32, 3] ty #[.slice (some ⟨g, 0, none⟩) i c, .int .i64 ((n : Int) + 1 - (i : Int))]).run Tryz.prog w = .ok (.slice (some ⟨w.heap.size, 0, none⟩) (n + 1) G) (w.drew.alloc (.cells ROW 34)) := fun ty => by
    have h := Lib.run_append_grow_zeros w 32 3 ty 34 i0 _ .i64 .i64 Tryz.underlying32 Tryz.underlying3 hi0 hz0 (some ⟨g, 0, none⟩) i c (flat encV (l.take i)) hold (n + 1 - i) (by omega) (by omega) (by omega) (by omega) (by rw [hzb]; omega) (by rw [hzb, hik]; exact growslice_fits hroom (by omega))
    rw [hik] at h
    rw [hkk, hROW, hG]
    exact h
  have hGn : n + 1 ≤ G := by rw [hG]; exact grownCap_ge w _ _ _
  have hGm : G ≤ maxLen := by rw [hG]; exact grownCap_le_maxLen w (n + 1) c 34 (by unfold maxLen; omega)
  have hG63 : G ≤ 9223372036854775807 := by unfold maxLen at hGm; omega
  have hzc : (Value.agg #[.int .i64 0, .int .i64 0, .int .i64 0]).cells.size = 3 := by decide
  have hRl : ROW.size = G * 3 := by
    rw [hROW]
    simp only [Array.size_append, List.size_toArray, e0, Builtin.zeroCells, Array.size_map, Array.size_range, hzc]
    omega
  have hRt : ∀ j u, (flat encV (l.take i))[j]? = some u → ROW[j]? = some u := fun j u hj => by
    have hlt := (List.getElem?_eq_some_iff.1 hj).1
    rw [hROW, Array.append_assoc, Array.getElem?_append_left (by simpa using hlt)]
    simpa using hj
  obtain ⟨W1, hW1⟩ : ∃ W1, W1 = w.drew.alloc (.cells ROW 34) := ⟨_, rfl⟩
  rw [← hW1] at hrz
  have hN : ∀ j, j < G * 3 → (W1.cell? ⟨w.heap.size, j, none⟩).isSome = true := fun j hj => by
    rw [hW1, World.cell?_alloc_at (w := w.drew) ROW _ w.heap.size j rfl, Array.getElem?_eq_getElem (by omega)]; rfl
  have hNf : ∀ j, W1.frozen? ⟨w.heap.size, j, none⟩ = false := fun j => by rw [hW1]; exact World.frozen?_alloc_at (w := w.drew) ROW _ w.heap.size j rfl
  have hOb : ∀ j v, w.cell? ⟨g, j, none⟩ = some v → W1.cell? ⟨g, j, none⟩ = some v := fun j v h => by rw [hW1, World.cell?_alloc_past (w := w.drew) _ g j hgw]; exact h
  have hOv : ∀ j v, (flat encV [x])[j]? = some v → W1.cell? ⟨vb, j, none⟩ = some v := fun j v hj => by
    rw [hW1, World.cell?_alloc_past (w := w.drew) _ vb j hvw, World.cell?_drew]
    have hj3 : j < 3 := hx1 ▸ (List.getElem?_eq_some_iff.1 hj).1
    match j, hj3 with
    | 0, _ => simp [flat, encV] at hj; simp [World.cell?, hvb, hj]
    | 1, _ => simp [flat, encV] at hj; simp [World.cell?, hvb, hj]
    | 2, _ => simp [flat, encV] at hj; simp [World.cell?, hvb, hj]
  have hcpA : ∀ (W : World), (∀ y, W.cell? y = W1.cell? y) → (∀ y, W.frozen? y = W1.frozen? y) → ∀ ty dc, (Builtin.copy_ #[32, 32] ty #[.slice (some ⟨w.heap.size, i * 3, none⟩) (n + 1 - i) dc, .slice (some ⟨vb, 0, none⟩) 1 1]).run Tryz.prog W = .ok (goInt (Nat.min 1 (n + 1 - i))) (W.setCells w.heap.size (i * 3) (flat encV [x])) := fun W hWc hWf ty dc =>
    run_copy_cellsK 3 W _ _ ty 34 w.heap.size (i * 3) (n + 1 - i) dc ⟨vb, 0, none⟩ 1 1 (flat encV [x]) Tryz.underlying32 infoV (by rw [hx1]; simp only [Nat.min_def]; split <;> omega)
      (fun j v hj => by rw [Addr.add_lit, hWc, Nat.zero_add]; exact hOv j v hj)
      (fun j hj => by have hj3 : j < 3 := hx1 ▸ hj; rw [hWc]; exact hN _ (by omega)) (fun j hj => by rw [hWf]; exact hNf _) (fun v hv => flat_one oneV _ v hv)
  have hGi : ¬ (G = i) := by omega
  have hGim : ¬ (G = i + 1) := by omega
  have hci : ¬ (c = i) := by omega
  have hbN : g ≠ w.heap.size := by omega
  have hcpB : ∀ (W : World), (∀ y, W.cell? y = (W1.setCells w.heap.size (i * 3) (flat encV [x])).cell? y) → (∀ y, W.frozen? y = W1.frozen? y) → ∀ ty dc sc, (Builtin.copy_ #[32, 32] ty #[.slice (some ⟨w.heap.size, (i + 1) * 3, none⟩) (n - i) dc, .slice (some ⟨g, i * 3, none⟩) (n - i) sc]).run Tryz.prog W = .ok (goInt (Nat.min (n - i) (n - i))) (W.setCells w.heap.size ((i + 1) * 3) (flat encV (l.drop i))) := fun W hWc hWf ty dc sc =>
    run_copy_cellsK 3 W _ _ ty 34 w.heap.size ((i + 1) * 3) (n - i) dc ⟨g, i * 3, none⟩ (n - i) sc (flat encV (l.drop i)) Tryz.underlying32 infoV (by rw [e3]; congr 1; simp only [Nat.min_def]; split <;> omega)
      (fun j v hj => by
        rw [Addr.add_lit, hWc, World.cell?_setCells_out _ _ _ _ _ (fun h _ => absurd h hbN)]
        rw [← flat_drop lenV, List.getElem?_drop] at hj
        exact hOb _ v (hcells _ v hj))
      (fun j hj => by rw [hWc]; exact isSome_setCells w.heap.size (flat encV [x]) (i * 3) W1 (fun t ht => by have ht3 : t < 3 := hx1 ▸ ht; exact hN (i * 3 + t) (by omega)) ((i + 1) * 3 + j) (hN ((i + 1) * 3 + j) (by rw [e3] at hj; omega)))
      (fun j hj => by rw [hWf]; exact hNf _) (fun v hv => flat_one oneV _ v hv)
  subst hW1
  have hE1 : ∀ x, ((w.alloc (.cells ROW 34)).drew).cell? x = (w.drew.alloc (.cells ROW 34)).cell? x := fun x => rfl
  have hE2 : ∀ x, ((w.alloc (.cells ROW 34)).drew).frozen? x = (w.drew.alloc (.cells ROW 34)).frozen? x := fun x => rfl
  have hF1 : ∀ y, (((w.alloc (.cells ROW 34)).drew.setCells w.heap.size (i * 3) (flat encV [x])).drew).cell? y = ((w.drew.alloc (.cells ROW 34)).setCells w.heap.size (i * 3) (flat encV [x])).cell? y := fun y => rfl
  have hF2 : ∀ y, (((w.alloc (.cells ROW 34)).drew.setCells w.heap.size (i * 3) (flat encV [x])).drew).frozen? y = (w.drew.alloc (.cells ROW 34)).frozen? y := fun y => by
    rw [show (((w.alloc (.cells ROW 34)).drew.setCells w.heap.size (i * 3) (flat encV [x])).drew).frozen? y = ((w.alloc (.cells ROW 34)).drew.setCells w.heap.size (i * 3) (flat encV [x])).frozen? y from rfl, World.frozen?_setCells]
    rfl
  have hw1 : IntKind.i64.wrap ((i : Int) + 1) = (i : Int) + 1 := by rw [IntKind.wrap_i64]; omega
  have hb1 : (0 : Int) ≤ (i : Int) + 1 := by omega
  have hb5 : (i : Int) + 1 ≤ (n : Int) + 1 := by omega
  have hb6 : (i : Int) ≤ (n : Int) + 1 := by omega
  have hin : i ≤ n := by omega
  have htn : ((i : Int) + 1).toNat = i + 1 := by omega
  have hb3 : (i : Int) ≤ (n : Int) := by omega
  have HRES := Lib.hid (show n + 1 ≤ G ∧ G ≤ maxLen ∧ ROW.size = G * 3 ∧ (∀ (j : Nat) (u : Value), (flat encV (l.take i))[j]? = some u → ROW[j]? = some u) from ⟨hGn, hGm, hRl, hRt⟩)
  clear hkk hik hold hROW hG hRl hRt hN hNf hOb hOv hn hcells e0 e3 hx1 hGm hzc hvb hi0 hz0 hzs hzb
  go_enter Tryz.func124, Tryz.ntmps124
  go_wp2_with (first
    | (at_builtin; refine Lib.wpList_append_run _ rfl _ _ _ _ rfl _ _ rfl rfl _ _ (hrz _) ?_)
    | (at_builtin; refine wpList_copy_runI _ rfl _ _ 32 32 rfl _ _ rfl rfl (hcpA _ hE1 hE2 _ _) ?_))
  go_region_law_o (refine step_copy_runI rfl _ _ 32 32 rfl (.slice (some ⟨w.heap.size, (i + 1) * 3, none⟩) (n - i) (G - (i + 1))) (.slice (some ⟨g, i * 3, none⟩) (n - i) (c - i)) (by simp [Act.eval, Act.put]) (by simp [Act.eval, Act.put]) (hcpB _ hF1 hF2 3 (G - (i + 1)) (c - i)) ?_)
  go_wp2
  go_ret
  exact ⟨ROW, G, rfl, HRES.out.1, HRES.out.2.1, HRES.out.2.2.1, HRES.out.2.2.2, rfl⟩

theorem sets_drew (b : Nat) (vs : List Value) (o : Nat) (w : World) : (w.setCells b o vs).drew = w.drew.setCells b o vs := drew_setCells b vs o w

set_option maxHeartbeats 1000000 in
/-- ALL ROADS. -/
theorem insertV_call (l : List Vl) (i : Nat) (hi : i ≤ l.length) (x : Vl) (base : Nat) (v : Value) (vb : Nat) (w : World) (hown : w.ownsRow base 34 3 v l.length (flat encV l)) (hvb : w.heap[vb]? = some (.cells #[.int .i64 x.1, .int .i64 x.2.1, .int .i64 x.2.2] 34 (0, 0)))
    (hne : ∀ g, v.ownBlock = some g → g ≠ vb) (hlen : l.length ≤ 1000) (hbase : base ≤ w.heap.size) :
    Calls Tryz.prog 124 #[v, .int .i64 i, .slice (some ⟨vb, 0, none⟩) 1 1] w fun e w' => ∃ v', e = .returned v' ∧ w'.ownsRow base 34 3 v' (l.length + 1) (flat encV (l.take i ++ [x] ++ l.drop i)) ∧ RowKit.Below base w w' := by
  rcases Nat.eq_or_lt_of_le hi with rfl | hi
  · rw [List.take_length, List.drop_length, List.append_nil]
    refine insert_end l x base v _ w hown ⟨_, 1, rfl, Nat.le_refl _, by unfold maxLen; omega, fun _ => ⟨vb, 0, rfl, (Array.getElem?_eq_some_iff.1 hvb).1, fun j u hu => ?_⟩⟩ hlen hbase
    have hx1 : (flat encV [x]).length = 3 := by rw [flat_len lenV]; simp
    have hj3 : j < 3 := hx1 ▸ (List.getElem?_eq_some_iff.1 hu).1
    match j, hj3 with
    | 0, _ => simp [flat, encV] at hu; simp [World.cell?, hvb, hu]
    | 1, _ => simp [flat, encV] at hu; simp [World.cell?, hvb, hu]
    | 2, _ => simp [flat, encV] at hu; simp [World.cell?, hvb, hu]
  · have hcells : ∀ g cap, v = .slice (some ⟨g, 0, none⟩) l.length cap → ∀ j u, (flat encV l)[j]? = some u → w.cell? ⟨g, j, none⟩ = some u := fun g cap e j u hu => by
      subst e
      have := cellsI hown j u hu
      rwa [Nat.zero_add] at this
    rcases hown.2 with ⟨_, h0⟩ | ⟨g, c, cur, rfl, hb, hg, hc, hm, hs, _⟩
    · omega
    have hcl := hcells g c rfl
    have hlt : (l.take i ++ [x] ++ l.drop i).length = l.length + 1 := by simp; omega
    by_cases hroom : l.length + 1 ≤ c
    · refine (insert_shift l i hi x g c vb cur w hg hs hroom (by unfold maxLen at hm; omega) hcl (hne g rfl).symm hvb).mono ?_
      rintro e w' ⟨rfl, rfl⟩
      refine ⟨_, rfl, ?_, Below.setCells (Below.setCells (Below.refl base w).drew hb _ _) hb _ _⟩
      obtain ⟨cur', hg', hs'⟩ := (Shp.sets g g (flat encV (l.drop i)) ((i + 1) * 3) w.drew).trans (Shp.sets g g (flat encV [x]) (i * 3) _) cur 34 (0, 0) hg
      have := row_of_cells lenV (base := base) (l.take i ++ [x] ++ l.drop i) hg' hb (by rw [hs', hs]) (by rw [hlt]; exact hroom) hm (fun j u hu => (insert_cells lenV (w := w.drew) x (by omega) (fun j u hj => by
        rw [← flat_take lenV, List.getElem?_take] at hj
        split at hj
        · exact hcl j u hj
        · cases hj) (fun j hj => by
          show (w.cell? _).isSome = true
          have hj2 : j < cur.size := by rw [hs]; omega
          simp [World.cell?, hg, hj2]) j u hu).1)
      rwa [hlt] at this
    · refine (insert_grow l i hi x g c vb w (Array.getElem?_eq_some_iff.1 hg).1 hc (by omega) hlen hcl hvb).mono ?_
      rintro e w' ⟨ROW, G, rfl, hG1, hG2, hG3, hG4, rfl⟩
      have hb2 : base ≤ w.heap.size := hbase
      refine ⟨_, rfl, ?_, ?_⟩
      · rw [sets_drew]
        obtain ⟨cur', hg', hs'⟩ := (Shp.sets w.heap.size w.heap.size (flat encV [x]) (i * 3) (w.alloc (.cells ROW 34)).drew.drew).trans (Shp.sets w.heap.size w.heap.size (flat encV (l.drop i)) ((i + 1) * 3) _) ROW 34 (0, 0) (show (w.heap.push (.cells ROW 34))[w.heap.size]? = some _ from Array.getElem?_push_size)
        have := row_of_cells lenV (base := base) (l.take i ++ [x] ++ l.drop i) hg' hb2 (by rw [hs', hG3]) (by rw [hlt]; exact hG1) hG2 (fun j u hu => (insert_cells lenV (w := (w.alloc (.cells ROW 34)).drew.drew) x (by omega) (fun j u hj => by
          show ((w.alloc (.cells ROW 34)).cell? _) = _
          rw [World.cell?_alloc_at (w := w) ROW _ w.heap.size j rfl]
          exact hG4 j u hj) (fun j hj => by
          show ((w.alloc (.cells ROW 34)).cell? _).isSome = true
          rw [World.cell?_alloc_at (w := w) ROW _ w.heap.size j rfl, Array.getElem?_eq_getElem (by omega)]; rfl) j u hu).2)
        rwa [hlt] at this
      · refine Below.setCells ?_ hb2 _ _
        have h0 : RowKit.Below base w (w.alloc (.cells ROW 34)).drew := ((Below.refl base w).alloc hb2 _).drew
        exact (Below.setCells h0 hb2 _ _).drew
end Go.Proofs.YtaehendpdfpibaaGreatDoor

/-
  Row and Right of the program.
-/
namespace Go.Proofs.YtaehendpdfpibaaGreatDoor
set_option linter.unusedSimpArgs false
set_option linter.unusedVariables false
open Go.RowKit Go.Sort Go.Lib Go.Shelf

theorem rightB_parts (l : List Vl) : rightB l = (decide (RiseK l) && !l.any wrongB) := by
  unfold rightB wrongB
  congr 1
  rw [List.not_any_eq_all_not]
  congr 1
  funext x
  simp
set_option maxHeartbeats 1000000 in
theorem right_call (l : List Vl) (v : Value) (A : Nat → Addr) (w : World) (hl : Sl encV w v l) (hE : Er w A) : Calls Tryz.prog 71 #[v] w fun e w' => e = .returned (.bool (rightB l)) ∧ Gr w w' := by
  rw [rightB_parts]
  have HL := Lib.hid hl
  have FR := Lib.hid (rising_call l v w hl)
  have FC : Hid (∀ W, RowKit.Below w.heap.size w W → Calls Tryz.prog 115 #[v, .func (.func 116) #[] #[]] W fun e w' => e = .returned (.bool (l.any wrongB)) ∧ Gr W w') := fun W h => containsV_call wrongB l v W (fun W2 h2 a b c => wrong_any (a, b, c) A W2 ((hE.below h).below h2)) (hl.below h)
  generalize decide (RiseK l) = p at *
  generalize l.any wrongB = q at *
  clear hl hE
  cases p
  · go_enter Tryz.func71, Tryz.ntmps71
    go_wp2_with fail
    refine FR.out.mono ?_
    rintro e w1 ⟨rfl, hg1⟩
    go_wp2
    go_ret
    exact ⟨rfl, (by repeat (first | with_reducible exact Gr.refl _ | with_reducible assumption | with_reducible apply Gr.alloc | with_reducible apply Gr.drewN | with_reducible apply Gr.drew | with_reducible apply Gr.grow | (with_reducible refine Gr.trans ?_ (by assumption))))⟩
  · cases q
    all_goals
      go_enter Tryz.func71, Tryz.ntmps71
      go_wp2_with fail
      refine FR.out.mono ?_
      rintro e w1 ⟨rfl, hg1⟩
      go_wp2_with fail
      refine (FC.out w1 hg1.below).mono ?_
      rintro e w2 ⟨rfl, hg2⟩
      go_wp2
      go_ret
      exact ⟨rfl, (by repeat (first | with_reducible exact Gr.refl _ | with_reducible assumption | with_reducible apply Gr.alloc | with_reducible apply Gr.drewN | with_reducible apply Gr.drew | with_reducible apply Gr.grow | (with_reducible refine Gr.trans ?_ (by assumption))))⟩

theorem perm_sorted {l : List Vl} {d' : Array Vl} (hp : PermIn 0 l.toArray.size l.toArray d') (hs : SortedIn ltK 0 l.toArray.size d') : d'.toList.Perm l ∧ d'.toList.Pairwise (fun x y => x.1 ≤ y.1) := by
  obtain ⟨hsz, _, hperm⟩ := hp
  have e1 : d'.extract 0 l.toArray.size = d' := by rw [← hsz]; exact Array.extract_size
  have e2 : l.toArray.extract 0 l.toArray.size = l.toArray := Array.extract_size
  rw [e1, e2] at hperm
  refine ⟨by simpa using hperm, List.pairwise_iff_getElem.2 fun i j hi hj hij => ?_⟩
  have hi' : i < d'.size := by simpa using hi
  have hj' : j < d'.size := by simpa using hj
  have := hs i j (Nat.zero_le _) hij (by omega)
  rw [getElem!_pos d' i hi', getElem!_pos d' j hj'] at this
  simp only [ltK, decide_eq_false_iff_not] at this
  simp only [Array.getElem_toList]
  omega

end Go.Proofs.YtaehendpdfpibaaGreatDoor

/-
  Drop and Put of the program.
-/
namespace Go.Proofs.YtaehendpdfpibaaGreatDoor
set_option linter.unusedSimpArgs false
set_option linter.unusedVariables false
open Go.RowKit Go.Sort Go.Lib Go.Shelf

section
variable {α : Type} [Inhabited α] {enc : α → List Value} {k : Nat}
theorem holds_prefix (hk : ∀ x, (enc x).length = k) {w : World} {b o : Nat} {d : Array α} {L : List α} (h : HoldsK enc k w b o d) (hl : L.length ≤ d.size) (hg : ∀ j, j < L.length → L[j]? = some d[j]!) : HoldsK enc k w b o L.toArray := fun j hj => by
  have hj' : j < L.length * k := by simpa using hj
  have k0 : 0 < k := by
    rcases Nat.eq_zero_or_pos k with e | e
    · subst e; simp at hj'
    · exact e
  have hq : j / k < L.length := Nat.div_lt_of_lt_mul (by rw [Nat.mul_comm]; exact hj')
  have hjd : j < d.size * k := Nat.lt_of_lt_of_le hj' (Nat.mul_le_mul_right k hl)
  have := h j (by simpa using hjd)
  rw [get_flatK _ _ _ j hjd] at this
  rw [get_flatK _ _ _ j (by simpa using hj'), arr_get]
  have e : L[j / k]! = d[j / k]! := by
    have := hg (j / k) hq
    rw [List.getElem?_eq_getElem hq] at this
    rw [getElem!_pos L (j / k) hq]
    exact Option.some.inj this
  rw [e]
  exact this
end
set_option maxHeartbeats 1000000 in
theorem delete_nil (cv : Value) (w : World) : Calls Tryz.prog 137 #[.slice none 0 0, .func (.func 139) #[] #[cv]] w fun e w' => e = .returned (.slice none 0 0) ∧ w' = w := by
  have HI : Hid (∀ W, Calls Tryz.prog 150 #[.slice none 0 0, .func (.func 139) #[] #[cv]] W fun e w' => e = .returned (.int .i64 (-1)) ∧ w' = W) := fun W => by
    go_enter Tryz.func150, Tryz.ntmps150
    go_wp2
    refine wp_loop_rounds 1 ?_
    rw [rounds_succ]
    go_wp2
    go_ret
    exact ⟨rfl, rfl⟩
  go_enter Tryz.func137, Tryz.ntmps137
  go_wp2_with fail
  refine (HI.out _).mono ?_
  rintro e w1 ⟨rfl, rfl⟩
  go_wp2
  go_ret
  exact ⟨rfl, rfl⟩

set_option maxHeartbeats 1000000 in
set_option maxRecDepth 100000 in
theorem drop_call (l : List Vl) (v : Value) (k : Int) (w : World) (hl : Sl encV w v l) (hlen : l.length ≤ 100000) :
    Calls Tryz.prog 93 #[v, .int .i64 k] w fun e w' => ∃ v', e = .returned v' ∧ w'.ownsRow (w.heap.size + 1) 34 3 v' (dropV l k).length (flat encV (dropV l k)) ∧ RowKit.Below w.heap.size w w' := by
  have HS := Lib.hid (hl.below (Ba (Below.refl _ w) (.cells #[.int .i64 k] 3)))
  clear hl
  go_enter Tryz.func93, Tryz.ntmps93
  go_wp2_with fail
  refine (cloneV_call l v _ HS.out hlen).mono ?_
  rintro e w1 ⟨v1, rfl, _, ho1, hb1⟩
  have hk1 : w1.cell? ⟨w.heap.size, 0, none⟩ = some (.int .i64 k) := Bc hb1 (by simp) (by simp)
  have hs1 : w.heap.size + 1 ≤ w1.heap.size := by have := hb1.size; simpa using this
  have hB0 : RowKit.Below w.heap.size w w1 := Bt (Ba (Below.refl _ w) _) hb1
  have hsz : (w.alloc (.cells #[.int .i64 k] 3)).heap.size = w.heap.size + 1 := by simp
  rw [hsz] at ho1
  have HP : PredD (w.heap.size + 1) w1 (.pointer (some ⟨w.heap.size, 0, none⟩)) (fun x => x.1 == k) := fun W hW a b c => drop1_any (a, b, c) k ⟨w.heap.size, 0, none⟩ W ((hW.cell (p := ⟨w.heap.size, 0, none⟩) (by simp)).trans hk1) rfl
  rcases ho1.2 with ⟨rfl, h0⟩ | ⟨g, cap, cur, rfl, hb, hg, hc, hm, hs, _⟩
  · have hl0 : l = [] := List.length_eq_zero_iff.1 h0
    have HB := Lib.hid hB0
    clear ho1 hb1 hk1 hs1 hB0 hsz HP HS h0
    subst hl0
    go_wp2_with fail
    refine (delete_nil _ w1).mono ?_
    rintro e w2 ⟨rfl, rfl⟩
    go_wp2
    go_ret
    exact ⟨_, rfl, ⟨by simp [dropV, flat], .inl ⟨rfl, rfl⟩⟩, HB.out⟩
  · have hgl : g < w1.heap.size := (Array.getElem?_eq_some_iff.1 hg).1
    have hH : HoldsK encV 3 w1 g 0 l.toArray := holds_of_flat lenV fun j u hu => ⟨cellsI ho1 j u hu, by rw [Nat.zero_add]; simp [World.frozen?, hg]⟩
    have hD := Lib.hid (deleteVD_call (w.heap.size + 1) w1 (.pointer (some ⟨w.heap.size, 0, none⟩)) (fun x => x.1 == k) HP g cap l.toArray w1 hH hgl hb (Below.refl _ _) (by simp; omega) (by simp; exact hc) (by unfold maxLen at hm; omega))
    have HB := Lib.hid hB0
    have HG := Lib.hid (show w1.heap[g]? = some (.cells cur 34 (0, 0)) ∧ cur.size = cap * 3 ∧ l.length ≤ cap ∧ cap ≤ maxLen ∧ w.heap.size + 1 ≤ g from ⟨hg, hs, hc, hm, hb⟩)
    have hsl : l.toArray.size = l.length := by simp
    rw [hsl] at hD
    clear ho1 hb1 hk1 hs1 hB0 hsz HP HS hH hg hb hc hm hs hsl hgl
    go_wp2_with fail
    refine hD.out.mono ?_
    rintro e w2 ⟨rfl, ⟨d', hds, hlow, hH2⟩, hsz2, hb2, hshp⟩
    have HLOW := Lib.hid hlow
    have HH2 := Lib.hid hH2
    have HX := Lib.hid (show w1.heap.size ≤ w2.heap.size ∧ RowKit.Below (w.heap.size + 1) w1 w2 ∧ Shp g w1 w2 ∧ d'.size = l.toArray.size from ⟨hsz2, hb2, hshp, hds⟩)
    clear hlow hH2 hsz2 hb2 hshp hds
    go_wp2
    go_ret
    obtain ⟨hg, hs, hc, hm, hb⟩ := HG.out
    obtain ⟨hsz2, hb2, hshp, hds⟩ := HX.out
    have e0 : (l.toArray.toList.filter fun x => !((fun x : Vl => x.1 == k) x)) = dropV l k := rfl
    have hlow := HLOW.out
    rw [e0] at hlow ⊢
    have hle : (dropV l k).length ≤ l.length := List.length_filter_le _ _
    obtain ⟨cur', hg', hs'⟩ := hshp cur _ _ hg
    have hH3 := holds_prefix lenV HH2.out (L := dropV l k) (by rw [hds]; simpa using hle) hlow
    have hrow := row_of_cells lenV (base := w.heap.size + 1) (dropV l k) hg' hb (by rw [hs', hs]) (by omega) hm (fun j u hu => by
      have := (flat_of_holds lenV hH3 j u hu).1
      rwa [Nat.zero_add] at this)
    exact ⟨_, rfl, hrow, HB.out.trans (hb2.mono (Nat.le_succ _))⟩

set_option maxHeartbeats 1000000 in
set_option maxRecDepth 100000 in
theorem put_own (l : List Vl) (v : Value) (x1 x2 x3 : Int) (w : World) (hl : Sl encV w v l) (hr : RiseK l) (hlen : l.length ≤ 1000) :
    Calls Tryz.prog 78 #[v, .agg #[.int .i64 x1, .int .i64 x2, .int .i64 x3]] w fun e w' => (∃ v', e = .returned v' ∧ w'.ownsRow w.heap.size 34 3 v' (putV l (x1, x2, x3)).length (flat encV (putV l (x1, x2, x3)))) ∧ RowKit.Below w.heap.size w w' := by
  have HS := Lib.hid (hl.below (Ba (Below.refl _ w) (.cells #[.int .i64 x1, .int .i64 x2, .int .i64 x3] 34)))
  have hrd : RiseK (dropV l x1) := rkFilter _ hr
  have hld : (dropV l x1).length ≤ 1000 := Nat.le_trans (List.length_filter_le _ _) hlen
  obtain ⟨D, hD⟩ : ∃ D, D = dropV l x1 := ⟨_, rfl⟩
  have hput : putV l (x1, x2, x3) = D.take (lessK x1 D) ++ [(x1, x2, x3)] ++ D.drop (lessK x1 D) := by subst hD; rfl
  have HD := Lib.hid (drop_call l v x1 (w.alloc (.cells #[.int .i64 x1, .int .i64 x2, .int .i64 x3] 34)) HS.out (by omega))
  rw [hput]
  rw [← hD] at hrd hld HD
  obtain ⟨n, hn⟩ : ∃ n, n = lessK x1 D := ⟨_, rfl⟩
  have hnl : n ≤ D.length := by rw [hn]; exact lessK_le _ _
  rw [← hn]
  have HR := Lib.hid hrd
  have HN := Lib.hid hn
  clear hl hr hD hput hrd hn
  go_enter Tryz.func78, Tryz.ntmps78
  go_wp2_with fail
  refine HD.out.mono ?_
  rintro e w1 ⟨v1, rfl, ho1, hb1⟩
  have c0 : w1.cell? ⟨w.heap.size, 0, none⟩ = some (.int .i64 x1) := Bc hb1 (by simp) (by simp)
  have c1 : w1.cell? ⟨w.heap.size, 1, none⟩ = some (.int .i64 x2) := Bc hb1 (by simp) (by simp)
  have c2 : w1.cell? ⟨w.heap.size, 2, none⟩ = some (.int .i64 x3) := Bc hb1 (by simp) (by simp)
  have hl1 : w.heap.size < w1.heap.size := by have := hb1.size; simp at this; omega
  have HB1 := Lib.hid (Bt (Ba (Below.refl _ w) _) hb1)
  have HO1 := Lib.hid ho1
  have HS1 := Lib.hid (row_sl lenV ho1 rfl)
  clear ho1 hb1 HD
  go_wp2_with fail
  refine (searchV_call D v1 x1 x2 x3 w1 HS1.out HR.out (by omega)).mono ?_
  rintro e w2 ⟨⟨b, rfl⟩, hg2⟩
  rw [← HN.out]
  have b2 := hg2.below
  have d0 : w2.cell? ⟨w.heap.size, 0, none⟩ = some (.int .i64 x1) := Bc b2 hl1 c0
  have d1 : w2.cell? ⟨w.heap.size, 1, none⟩ = some (.int .i64 x2) := Bc b2 hl1 c1
  have d2 : w2.cell? ⟨w.heap.size, 2, none⟩ = some (.int .i64 x3) := Bc b2 hl1 c2
  have HB2 := Lib.hid (Bt HB1.out b2)
  have HO2 := Lib.hid (show w2.ownsRow ((w.alloc (.cells #[.int .i64 x1, .int .i64 x2, .int .i64 x3] 34)).heap.size + 1) 34 3 v1 D.length (flat encV D) from row_keep HO1.out (fun g hg => b2.block g (row_lt HO1.out hg)))
  have HO3 := Lib.hid (show (w2.alloc (.cells #[.int .i64 x1, .int .i64 x2, .int .i64 x3] 34)).ownsRow w.heap.size 34 3 v1 D.length (flat encV D) from row_keep (by
      have := HO2.out
      refine ⟨this.1, ?_⟩
      rcases this.2 with h | ⟨g, cap, cur, e, hb, r⟩
      · exact .inl h
      · exact .inr ⟨g, cap, cur, e, by simp at hb; omega, r⟩) (fun g hg => (Ba (Below.refl _ w2) (.cells #[.int .i64 x1, .int .i64 x2, .int .i64 x3] 34)).block g (row_lt HO2.out hg)))
  have HNE := Lib.hid (fun g (hg : v1.ownBlock = some g) => show g ≠ w2.heap.size from by have := row_lt HO2.out hg; omega)
  clear c0 c1 c2 b2
  go_wp2_with fail
  refine (insertV_call D n hnl (x1, x2, x3) w.heap.size v1 w2.heap.size _ HO3.out (show (w2.heap.push _)[w2.heap.size]? = some _ from Array.getElem?_push_size) HNE.out hld (by have := HB2.out.size; simp; omega)).mono ?_
  rintro e w3 ⟨v3, rfl, ho3, hb3⟩
  have HO4 := Lib.hid ho3
  have HB3 := Lib.hid (((HB2.out).alloc HB2.out.size (.cells #[.int .i64 x1, .int .i64 x2, .int .i64 x3] 34)).trans hb3)
  clear ho3 hb3
  go_wp2
  go_ret
  have e9 : (D.take n ++ [(x1, x2, x3)] ++ D.drop n).length = D.length + 1 := by simp; omega
  exact ⟨⟨v3, rfl, by rw [e9]; exact HO4.out⟩, HB3.out⟩
theorem put_call (l : List Vl) (v : Value) (x1 x2 x3 : Int) (w : World) (hl : Sl encV w v l) (hr : RiseK l) (hlen : l.length ≤ 1000) :
    Calls Tryz.prog 78 #[v, .agg #[.int .i64 x1, .int .i64 x2, .int .i64 x3]] w fun e w' => (∃ v', e = .returned v' ∧ Sl encV w' v' (putV l (x1, x2, x3))) ∧ RowKit.Below w.heap.size w w' :=
  (put_own l v x1 x2 x3 w hl hr hlen).mono fun e w' ⟨⟨v', h1, h2⟩, h3⟩ => ⟨⟨v', h1, row_sl lenV h2 rfl⟩, h3⟩
end Go.Proofs.YtaehendpdfpibaaGreatDoor

/-
  The reference's Same, Drop.
-/
namespace Go.Proofs.YtaehendpdfpibaaGreatDoor
set_option linter.unusedSimpArgs false
set_option linter.unusedVariables false
open Go.RowKit Go.Sort Go.Lib Go.Shelf

theorem eqV_run (x1 x2 x3 y1 y2 y3 : Int) (w : World) : Sem.run Tryz.prog (binOp .eql 34 (.agg #[.int .i64 x1, .int .i64 x2, .int .i64 x3]) (.agg #[.int .i64 y1, .int .i64 y2, .int .i64 y3])) w = .ok (.bool (decide ((x1, x2, x3) = (y1, y2, y3)))) w := by
  have u3 := Tryz.underlying3
  have a3 := Tryz.isAgg3
  have z3 := Tryz.sizeOf3
  have hS : Tryz.prog.underlying 34 = some (.struct (Tryz.prog.fieldsOf 34)) := by kernel_rfl
  have hp : Tryz.prog.stoodInHeld 34 = false := by kernel_rfl
  rw [run_eql_struct, show (10000 : Nat) = 9999 + 1 from rfl, run_equalIn_agg w 9999 34 _ _ hS hp]
  simp only [Program.fieldsOf, Tryz.underlying34]
  go_simp
  by_cases h1 : x1 = y1 <;> by_cases h2 : x2 = y2 <;> by_cases h3 : x3 = y3 <;> simp [h1, h2, h3]
theorem neV_run (x1 x2 x3 y1 y2 y3 : Int) (w : World) : Sem.run Tryz.prog (binOp .neq 34 (.agg #[.int .i64 x1, .int .i64 x2, .int .i64 x3]) (.agg #[.int .i64 y1, .int .i64 y2, .int .i64 y3])) w = .ok (.bool (!decide ((x1, x2, x3) = (y1, y2, y3)))) w := by
  have h := eqV_run x1 x2 x3 y1 y2 y3 w
  rw [run_eql_struct] at h
  rw [run_neq_struct]
  cases hr : (Op.equalIn 10000 34 (.agg #[.int .i64 x1, .int .i64 x2, .int .i64 x3]) (.agg #[.int .i64 y1, .int .i64 y2, .int .i64 y3])).run Tryz.prog w with
  | ok b w' =>
    rw [hr] at h
    simp only [Result.andThen_ok, Result.ok.injEq, Value.bool.injEq] at h ⊢
    obtain ⟨rfl, rfl⟩ := h
    exact ⟨rfl, rfl⟩
  | halt x w' => rw [hr] at h; simp [Result.andThen] at h
theorem gdV_run (op : BinOp) (a b : Operand) (xs ys : Array Value) (w : World) : Sem.run Tryz.prog (eqGuard op 34 a b (.agg xs) (.agg ys)) w = .ok () w :=
  run_eqGuard_agg w op 34 a b xs ys (by kernel_rfl)

theorem ext_get {la lb : List Vl} (h : la.length = lb.length) (hh : ∀ j, j < la.length → la[j]! = lb[j]!) : la = lb := by
  apply List.ext_getElem h
  intro j h1 h2
  have := hh j h1
  rwa [getElem!_pos la j h1, getElem!_pos lb j h2] at this

set_option maxHeartbeats 2000000 in
set_option maxRecDepth 100000 in
theorem same_call (la lb : List Vl) (va vb : Value) (w : World) (ha : Sl encV w va la) (hb : Sl encV w vb lb) : Calls Tryz.prog 45 #[va, vb] w fun e w' => e = .returned (.bool (decide (la = lb))) ∧ Gr w w' := by
  obtain ⟨p, cap, rfl, hl1, hl2, hl3⟩ := ha
  obtain ⟨p', cap', rfl, hm1, hm2, hm3⟩ := hb
  have HL := Lib.hid hl3
  have HM := Lib.hid hm3
  have hbig : la.length ≤ 9223372036854775807 := by unfold maxLen at hl2; omega
  clear hl3 hl2 hm3 hm2
  obtain ⟨B, hB⟩ : ∃ B, B = decide (la = lb) := ⟨_, rfl⟩
  rw [← hB]
  have HB := Lib.hid hB
  clear hB
  have ne1 := neV_run
  have gd1 := gdV_run
  by_cases hlen : la.length = lb.length
  · rw [← hlen]
    have HN := Lib.hid hlen
    obtain ⟨n, HN0⟩ : ∃ n, Hid (n = la.length) := ⟨_, rfl⟩
    rw [show la.length = n from HN0.out.symm] at hbig ⊢
    clear hlen
    go_enter Tryz.func45, Tryz.ntmps45
    go_wp2
    go_loopg [13] n (fun gk s13 wr => ∃ i : Nat, s13 = .int .i64 i ∧ i ≤ n ∧ n - i ≤ gk ∧ Gr w wr ∧ Hid (∀ j, j < i → la[j]! = lb[j]!))
    case atStart => exact ⟨0, rfl, Nat.zero_le _, by omega, Gr.refl _, fun j hj => absurd hj (Nat.not_lt_zero _)⟩
    case round =>
      obtain ⟨i, rfl, hi, hgk, hg, I⟩ := hrel
      have HG := Lib.hid hg
      by_cases hin : i < n
      · obtain ⟨g, o, rfl, hg1, hg2⟩ := HL.out (by have := HN0.out; omega)
        obtain ⟨g', o', rfl, hg1', hg2'⟩ := HM.out (by have := HN0.out; have := HN.out; omega)
        have hia : i < la.length := by have := HN0.out; omega
        have hib : i < lb.length := by have := HN0.out; have := HN.out; omega
        obtain ⟨c1, c2, c3⟩ := atV hg2 hia
        obtain ⟨c1', c2', c3'⟩ := atV hg2' hib
        have d1 : wr.cell? ⟨g, o + i * 3, none⟩ = _ := Bc HG.out.below hg1 c1
        have d2 : wr.cell? ⟨g, o + i * 3 + 1, none⟩ = _ := Bc HG.out.below hg1 c2
        have d3 : wr.cell? ⟨g, o + i * 3 + 2, none⟩ = _ := Bc HG.out.below hg1 c3
        have f1 : wr.cell? ⟨g', o' + i * 3, none⟩ = _ := Bc HG.out.below hg1' c1'
        have f2 : wr.cell? ⟨g', o' + i * 3 + 1, none⟩ = _ := Bc HG.out.below hg1' c2'
        have f3 : wr.cell? ⟨g', o' + i * 3 + 2, none⟩ = _ := Bc HG.out.below hg1' c3'
        have hgw : g < wr.heap.size := Bl HG.out.below hg1
        have hgw' : g' < wr.heap.size := Bl HG.out.below hg1'
        generalize hx : la[i]! = x at *
        generalize hy : lb[i]! = y at *
        have X := Lib.hid hx
        have Y := Lib.hid hy
        obtain ⟨x1, x2, x3⟩ := x
        obtain ⟨y1, y2, y3⟩ := y
        dsimp only at d1 d2 d3 f1 f2 f3
        clear hg2 c1 c2 c3 hx hg2' c1' c2' c3' hy hg hia hib
        by_cases hxy : ((x1, x2, x3) : Vl) = (y1, y2, y3)
        · simp only [Prod.mk.injEq] at hxy
          obtain ⟨rfl, rfl, rfl⟩ := hxy
          go_wp2_with fail
          go_region
          go_wp2
          go_roundg (n - (i + 1))
          case measure => omega
          case rel =>
            refine ⟨i + 1, by go_num, by omega, Nat.le_refl _, HG.out.drewN, (show Hid _ from fun j hj => ?_)⟩
            by_cases e : j = i
            · subst e; rw [X.out, Y.out]
            · exact I.out j (by omega)
        · have hd : decide (((x1, x2, x3) : Vl) = (y1, y2, y3)) = false := decide_eq_false hxy
          have hd2 : (decide (x1 = y1) && (decide (x2 = y2) && decide (x3 = y3))) = false := by rw [← Bool.decide_and, ← Bool.decide_and]; exact decide_eq_false fun e => hxy (by rw [e.1, e.2.1, e.2.2])
          have E := Lib.hid (show B = false by
            rw [HB.out]
            refine decide_eq_false fun e => hxy ?_
            rw [← X.out, ← Y.out, e])
          clear hxy
          go_wp2_with fail
          go_region
          go_wp2
          go_ret
          exact ⟨by rw [E.out]; rfl, HG.out.drewN⟩
      · have E := Lib.hid (show B = true by
          rw [HB.out]
          refine decide_eq_true (ext_get HN.out fun j hj => I.out j (by have := HN0.out; omega)))
        clear hg
        go_wp2
        go_ret
        exact ⟨by rw [E.out]; rfl, HG.out⟩
  · have E := Lib.hid (show B = false by rw [HB.out]; exact decide_eq_false fun e => hlen (by rw [e]))
    have hne : ((la.length : Int) == (lb.length : Int)) = false := beq_eq_false_iff_ne.2 (by omega)
    have hne2 : ((la.length : Int) != (lb.length : Int)) = true := by rw [bne, hne]; rfl
    go_enter Tryz.func45, Tryz.ntmps45
    go_wp2
    go_ret
    exact ⟨by rw [E.out]; rfl, (by repeat (first | with_reducible exact Gr.refl _ | with_reducible assumption | with_reducible apply Gr.alloc | with_reducible apply Gr.drewN | with_reducible apply Gr.drew | with_reducible apply Gr.grow | (with_reducible refine Gr.trans ?_ (by assumption))))⟩

theorem dropV_step {l : List Vl} {i : Nat} (h : i < l.length) (k : Int) : dropV (l.take (i + 1)) k = if l[i]!.1 = k then dropV (l.take i) k else dropV (l.take i) k ++ [l[i]!] := by
  rw [take_snoc l h]
  generalize l[i]! = y
  unfold dropV
  rw [List.filter_append]
  split
  · rename_i e; simp [e]
  · rename_i e; simp [e]

set_option maxHeartbeats 2000000 in
set_option maxRecDepth 100000 in
theorem rdrop_call (l : List Vl) (v : Value) (k : Int) (w : World) (hl : Sl encV w v l) (hlen : l.length ≤ 100000) :
    Calls Tryz.prog 94 #[v, .int .i64 k] w fun e w' => ∃ v', e = .returned v' ∧ w'.ownsRow w.heap.size 34 3 v' (dropV l k).length (flat encV (dropV l k)) ∧ RowKit.Below w.heap.size w w' := by
  obtain ⟨p, cap, rfl, hl1, hl2, hl3⟩ := hl
  have HL := Lib.hid hl3
  have hbig : l.length ≤ 9223372036854775807 := by omega
  clear hl3 hl2
  have O0 := Lib.hid (show (w.alloc (.cells #[] 34)).ownsRow w.heap.size 34 3 (.slice (some ⟨w.heap.size, 0, none⟩) 0 0) ([] : List Vl).length (flat encV []) from World.ownsRow_made _ #[] 0 (Nat.le_refl _) (Nat.zero_le _) (by simp))
  have B0 := Lib.hid (Ba (Below.refl _ w) (.cells #[] 34))
  go_enter Tryz.func94, Tryz.ntmps94
  go_wp2
  go_loopg [5, 11] l.length (fun gk s5 s11 wr => ∃ (i : Nat) (L : List Vl), s11 = .int .i64 i ∧ i ≤ l.length ∧ l.length - i ≤ gk ∧ RowKit.Below w.heap.size w wr ∧ wr.ownsRow w.heap.size 34 3 s5 L.length (flat encV L) ∧ L.length ≤ i ∧ Hid (L = dropV (l.take i) k))
  case atStart => exact ⟨0, [], rfl, Nat.zero_le _, by omega, B0.out, O0.out, Nat.le_refl _, rfl⟩
  case round =>
    obtain ⟨i, L, rfl, hi, hgk, hb, hown, hLl, I⟩ := hrel
    have HB := Lib.hid hb
    have HO := Lib.hid hown
    obtain ⟨pr, cr, rfl, _, _, _⟩ := row_val hown
    by_cases hin : i < l.length
    · obtain ⟨g, o, rfl, hg1, hg2⟩ := HL.out (by omega)
      obtain ⟨c1, c2, c3⟩ := atV hg2 hin
      have d1 : wr.cell? ⟨g, o + i * 3, none⟩ = _ := Bc HB.out hg1 c1
      have d2 : wr.cell? ⟨g, o + i * 3 + 1, none⟩ = _ := Bc HB.out hg1 c2
      have d3 : wr.cell? ⟨g, o + i * 3 + 2, none⟩ = _ := Bc HB.out hg1 c3
      have hgw : g < wr.heap.size := Bl HB.out hg1
      have ST := Lib.hid (dropV_step hin k)
      generalize hx : l[i]! = x at *
      obtain ⟨x1, x2, x3⟩ := x
      dsimp only at d1 d2 d3
      clear hg2 c1 c2 c3 hx hb hown
      have BA := Lib.hid (Ba (Ba (Below.refl _ wr) (.cells #[.int .i64 x1, .int .i64 x2, .int .i64 x3] 34)) (.cells #[.int .i64 x1, .int .i64 x2, .int .i64 x3] 34))
      by_cases hk : x1 = k
      · have hne : (x1 == k) = true := beq_iff_eq.2 hk
        have hne2 : (x1 != k) = false := by rw [bne, hne]; rfl
        have HK := Lib.hid hk
        clear hk
        go_wp2
        go_roundg (l.length - (i + 1))
        case measure => omega
        case rel => exact ⟨i + 1, L, by go_num, by omega, Nat.le_refl _, Ba HB.out _, row_keep HO.out (fun g hg => (Ba (Below.refl _ wr) (.cells #[.int .i64 x1, .int .i64 x2, .int .i64 x3] 34)).block g (row_lt HO.out hg)), by omega, (show Hid _ from by rw [ST.out, if_pos HK.out]; exact I.out)⟩
      · have hne : (x1 == k) = false := beq_eq_false_iff_ne.2 hk
        have hne2 : (x1 != k) = true := by rw [bne, hne]; rfl
        have HK := Lib.hid hk
        have O2 := Lib.hid (row_keep HO.out (fun g hg => BA.out.block g (row_lt HO.out hg)))
        have S2 := Lib.hid (sl_lit (enc := encV) (w := wr.alloc (.cells #[.int .i64 x1, .int .i64 x2, .int .i64 x3] 34)) (cs := #[.int .i64 x1, .int .i64 x2, .int .i64 x3]) (t := 34) (b := wr.heap.size + 1) [(x1, x2, x3)] (by simp) rfl (by unfold maxLen; simp))
        have LE := Lib.hid (show w.heap.size ≤ ((wr.alloc (.cells #[.int .i64 x1, .int .i64 x2, .int .i64 x3] 34)).alloc (.cells #[.int .i64 x1, .int .i64 x2, .int .i64 x3] 34)).heap.size from by have := HB.out.size; simp; omega)
        clear hk
        go_wp2_with (at_builtin; refine wpl_app apV rfl _ _ rfl w.heap.size (by rfl) (by rfl) O2.out rfl S2.out (by simp; omega) LE.out ?_; intro v1 w1 hown1 hgrow1 hnil1)
        have hb1 := grownB (Bt HB.out BA.out) O2.out hgrow1
        have eL : L.length + [((x1, x2, x3) : Vl)].length = (L ++ [(x1, x2, x3)]).length := by simp
        rw [eL] at hown1
        clear hgrow1 hnil1 eL
        go_roundg (l.length - (i + 1))
        case measure => omega
        case rel => exact ⟨i + 1, L ++ [(x1, x2, x3)], by go_num, by omega, Nat.le_refl _, hb1, hown1, by simp; omega, (show Hid _ from by show _ = _; rw [ST.out, if_neg HK.out, ← I.out])⟩
    · have hii : i = l.length := by omega
      have I2 := I.out
      rw [hii, List.take_length] at I2
      have E := Lib.hid I2
      clear I2 hb hown
      go_wp2
      go_ret
      exact ⟨_, rfl, by rw [← E.out]; exact HO.out, HB.out⟩
end Go.Proofs.YtaehendpdfpibaaGreatDoor

/-
  The reference's Row and Right.
-/
namespace Go.Proofs.YtaehendpdfpibaaGreatDoor
set_option linter.unusedSimpArgs false
set_option linter.unusedVariables false
open Go.RowKit Go.Sort Go.Lib Go.Shelf

theorem ofKind_step {l : List Vl} {i : Nat} (h : i < l.length) (k : Nat) : ofKind k (l.take (i + 1)) = if l[i]!.1 = (k : Int) then ofKind k (l.take i) ++ [l[i]!] else ofKind k (l.take i) := by
  rw [take_snoc l h]
  generalize l[i]! = y
  unfold ofKind
  rw [List.filter_append]
  split
  · rename_i e; simp [e]
  · rename_i e; simp [e]

set_option maxHeartbeats 4000000 in
set_option maxRecDepth 100000 in
theorem rrow_call (l : List Vl) (v : Value) (w : World) (hl : Sl encV w v l) (hlen : l.length ≤ 100000) :
    Calls Tryz.prog 134 #[v] w fun e w' => (∃ v', e = .returned (.tuple #[v', .int .i64 (rowN l : Nat)]) ∧ Sl encV w' v' (rowL l)) ∧ RowKit.Below w.heap.size w w' := by
  obtain ⟨p, cap, rfl, hl1, hl2, hl3⟩ := hl
  have HL := Lib.hid hl3
  have hbig : l.length ≤ 9223372036854775807 := by omega
  clear hl3 hl2
  go_enter Tryz.func134, Tryz.ntmps134
  go_wp2
  go_loopg [14] l.length (fun gk s14 wr => ∃ i : Nat, s14 = .int .i64 i ∧ i ≤ l.length ∧ l.length - i ≤ gk ∧ Gr w wr ∧ Hid (∀ j, j < i → chk l[j]! = 0))
  case atStart => exact ⟨0, rfl, Nat.zero_le _, by omega, Gr.refl _, fun j hj => absurd hj (Nat.not_lt_zero _)⟩
  case round =>
    obtain ⟨i, rfl, hi, hgk, hg, I⟩ := hrel
    have HG := Lib.hid hg
    by_cases hin : i < l.length
    · obtain ⟨g, o, rfl, hg1, hg2⟩ := HL.out (by omega)
      obtain ⟨c1, c2, c3⟩ := atV hg2 hin
      have d1 : wr.cell? ⟨g, o + i * 3, none⟩ = some (.int .i64 l[i]!.1) := Bc HG.out.below hg1 c1
      have d2 : wr.cell? ⟨g, o + i * 3 + 1, none⟩ = some (.int .i64 l[i]!.2.1) := Bc HG.out.below hg1 c2
      have d3 : wr.cell? ⟨g, o + i * 3 + 2, none⟩ = some (.int .i64 l[i]!.2.2) := Bc HG.out.below hg1 c3
      have hgw : g < wr.heap.size := Bl HG.out.below hg1
      have HF := Lib.hid (fun (h : chk l[i]! ≠ 0) => show firstE l = chk l[i]! from firstE_at (i := i) (by rw [getElem!_pos l i hin, List.getElem?_eq_getElem hin]) h (fun y hy => by
        obtain ⟨j, hj, rfl⟩ := List.getElem_of_mem hy
        have hj' : j < i := by rw [List.length_take] at hj; omega
        have := I.out j hj'
        rw [getElem!_pos l j (by omega)] at this
        rwa [List.getElem_take]))
      generalize hx : l[i]! = x at *
      have X := Lib.hid hx
      obtain ⟨x1, x2, x3⟩ := x
      dsimp only at d1 d2 d3
      have FC : Hid (∀ W, Calls Tryz.prog 88 #[.agg #[.int .i64 x1, .int .i64 x2, .int .i64 x3]] W fun e w' => e = .returned (.int .i64 (chk (x1, x2, x3) : Nat)) ∧ Gr W w') := fun W => rcheck_any (x1, x2, x3) W
      clear hg2 c1 c2 c3 hx hg
      by_cases hk : chk (x1, x2, x3) = 0
      · rw [hk] at FC
        have HK := Lib.hid hk
        clear hk HF
        go_wp2_with (go_at_call 88; refine (FC.out _).mono ?_; rintro e w1 ⟨rfl, hg1⟩)
        go_roundg (l.length - (i + 1))
        case measure => omega
        case rel =>
          refine ⟨i + 1, by go_num, by omega, Nat.le_refl _, HG.out.trans ((Gr.alloc (Gr.refl wr) _).trans hg1), (show Hid _ from fun j hj => ?_)⟩
          by_cases e : j = i
          · subst e; rw [X.out]; exact HK.out
          · exact I.out j (by omega)
      · have hf := HF.out hk
        have hrn : rowN l = chk (x1, x2, x3) := by unfold rowN; rw [hf, if_pos hk]
        have E := Lib.hid (show rowN l = chk (x1, x2, x3) ∧ rowL l = [] from ⟨hrn, by unfold rowL; rw [hrn, if_neg hk]⟩)
        generalize chk (x1, x2, x3) = cn at *
        have hcn : ((cn : Int) != 0) = true := by simp; omega
        have hcn2 : ((cn : Int) == 0) = false := beq_eq_false_iff_ne.2 (by omega)
        clear hf hrn hk HF
        go_wp2_with (go_at_call 88; refine (FC.out _).mono ?_; rintro e w1 ⟨rfl, hg1⟩)
        go_ret2
        refine ⟨⟨.slice none 0 0, by rw [E.out.1]; rfl, by rw [E.out.2]; exact Sl.nil _ _ (Nat.zero_le _)⟩, ?_⟩
        exact (HG.out.trans ((Gr.alloc (Gr.refl wr) _).trans hg1)).below
    · have hf : firstE l = 0 := (firstE_zero l).2 fun x hx => by
        obtain ⟨j, hj, rfl⟩ := List.getElem_of_mem hx
        have := I.out j (by omega)
        rwa [getElem!_pos l j hj] at this
      have HF := Lib.hid hf
      have B0 := Lib.hid (Ba HG.out.below (.cells #[] 34))
      have O0 := Lib.hid (show (wr.alloc (.cells #[] 34)).ownsRow w.heap.size 34 3 (.slice (some ⟨wr.heap.size, 0, none⟩) 0 0) ([] : List Vl).length (flat encV []) from World.ownsRow_made _ #[] 0 HG.out.below.size (Nat.zero_le _) (by simp))
      clear hf hg I
      obtain ⟨M0, hM0⟩ : ∃ M0, M0 = wr := ⟨_, rfl⟩
      subst hM0
      go_wp2
      go_loopg [7, 8] 10 (fun gk s7 s8 wo => ∃ (k : Nat) (L : List Vl), s8 = .int .i64 k ∧ k ≤ 10 ∧ 10 - k ≤ gk ∧ RowKit.Below w.heap.size w wo ∧ wo.ownsRow w.heap.size 34 3 s7 L.length (flat encV L) ∧ L.length ≤ k ∧ Hid (L = rowTo k l) ∧ Hid (∀ j, j < k → (ofKind j l).length ≤ 1))
      case atStart => exact ⟨0, [], rfl, by omega, by omega, B0.out, O0.out, Nat.le_refl _, rfl, fun j hj => absurd hj (Nat.not_lt_zero _)⟩
      case round =>
        obtain ⟨k, L, rfl, hk, hgk2, hb, hown, hLl, I1, I2⟩ := hrel
        have HB := Lib.hid hb
        have HO := Lib.hid hown
        obtain ⟨pr, cr, rfl, _, _, _⟩ := row_val hown
        clear hb hown
        obtain ⟨M1, hM1⟩ : ∃ M1, M1 = wr := ⟨_, rfl⟩
        subst hM1
        by_cases hk10 : k < 10
        · have hme := Nat.lt_of_lt_of_le (show 10 - (k + 1) < 10 - k by omega) hgk2
          have hkw : ((k : Int) < 10) := by omega
          have B1 := Lib.hid HB.out
          go_wp2
          go_loopg [7, 9, 31] l.length (fun gk s7 s9 s31 wi => ∃ (i : Nat) (M N : List Vl), s31 = .int .i64 i ∧ s9 = .int .i64 M.length ∧ i ≤ l.length ∧ l.length - i ≤ gk ∧ RowKit.Below w.heap.size w wi ∧ wi.ownsRow w.heap.size 34 3 s7 N.length (flat encV N) ∧ M.length ≤ i ∧ Hid (N = L ++ M) ∧ Hid (M = ofKind k (l.take i)))
          case atStart => exact ⟨0, [], L, rfl, rfl, Nat.zero_le _, by omega, HB.out, HO.out, Nat.le_refl _, (show Hid _ from by show _ = _; rw [List.append_nil]), (show Hid _ from by show _ = _; simp [ofKind])⟩
          case round =>
            obtain ⟨i, M, N, rfl, rfl, hi, hgk3, hb, hown, hMl, NE, I3⟩ := hrel
            have HBi := Lib.hid hb
            have HOi := Lib.hid hown
            obtain ⟨pi, ci, ev, _, _, _⟩ := row_val hown
            subst ev
            obtain ⟨m, hm⟩ : ∃ m, m = M.length := ⟨_, rfl⟩
            rw [← hm] at hMl ⊢
            have HM := Lib.hid hm
            clear hm
            by_cases hin : i < l.length
            · obtain ⟨g, o, rfl, hg1, hg2⟩ := HL.out (by omega)
              obtain ⟨c1, c2, c3⟩ := atV hg2 hin
              have d1 : wr.cell? ⟨g, o + i * 3, none⟩ = _ := Bc HBi.out hg1 c1
              have d2 : wr.cell? ⟨g, o + i * 3 + 1, none⟩ = _ := Bc HBi.out hg1 c2
              have d3 : wr.cell? ⟨g, o + i * 3 + 2, none⟩ = _ := Bc HBi.out hg1 c3
              have hgw : g < wr.heap.size := Bl HBi.out hg1
              have ST := Lib.hid (ofKind_step hin k)
              generalize hx : l[i]! = x at *
              obtain ⟨x1, x2, x3⟩ := x
              dsimp only at d1 d2 d3
              clear hg2 c1 c2 c3 hx hb hown
              have BA := Lib.hid (Ba (Ba (Below.refl _ wr) (.cells #[.int .i64 x1, .int .i64 x2, .int .i64 x3] 34)) (.cells #[.int .i64 x1, .int .i64 x2, .int .i64 x3] 34))
              by_cases hk : x1 = (k : Int)
              · have hne : (x1 == (k : Int)) = true := beq_iff_eq.2 hk
                have HK := Lib.hid hk
                have O2 := Lib.hid (row_keep HOi.out (fun g hg => BA.out.block g (row_lt HOi.out hg)))
                have S2 := Lib.hid (sl_lit (enc := encV) (w := wr.alloc (.cells #[.int .i64 x1, .int .i64 x2, .int .i64 x3] 34)) (cs := #[.int .i64 x1, .int .i64 x2, .int .i64 x3]) (t := 34) (b := wr.heap.size + 1) [(x1, x2, x3)] (by simp) rfl (by unfold maxLen; simp))
                have LE := Lib.hid (show w.heap.size ≤ ((wr.alloc (.cells #[.int .i64 x1, .int .i64 x2, .int .i64 x3] 34)).alloc (.cells #[.int .i64 x1, .int .i64 x2, .int .i64 x3] 34)).heap.size from by have := HBi.out.size; simp; omega)
                have LN := Lib.hid (show N.length + [((x1, x2, x3) : Vl)].length ≤ 1000000 from by have := HM.out; have h := congrArg List.length NE.out; rw [List.length_append] at h; simp; omega)
                clear hk
                go_wp2_with (at_builtin; refine wpl_app apV rfl _ _ rfl w.heap.size (by rfl) (by rfl) O2.out (by first | rfl | simp) S2.out LN.out LE.out ?_; intro v1 w1 hown1 hgrow1 hnil1)
                have hb1 := grownB (Bt HBi.out BA.out) O2.out hgrow1
                have eL : N.length + [((x1, x2, x3) : Vl)].length = (N ++ [(x1, x2, x3)]).length := by simp
                rw [eL] at hown1
                clear hgrow1 hnil1 eL
                go_roundg (l.length - (i + 1))
                case measure => omega
                case rel => exact ⟨i + 1, M ++ [(x1, x2, x3)], N ++ [(x1, x2, x3)], by go_num, by have := HM.out; rw [List.length_append]; subst this; go_num, by omega, Nat.le_refl _, hb1, hown1, by have := HM.out; simp; omega, (show Hid _ from by show _ = _; rw [NE.out, List.append_assoc]), (show Hid _ from by show _ = _; rw [ST.out, if_pos HK.out, ← I3.out])⟩
              · have hne : (x1 == (k : Int)) = false := beq_eq_false_iff_ne.2 hk
                have HK := Lib.hid hk
                clear hk
                go_wp2
                go_roundg (l.length - (i + 1))
                case measure => omega
                case rel => exact ⟨i + 1, M, N, by go_num, by rw [HM.out], by omega, Nat.le_refl _, Ba HBi.out _, row_keep HOi.out (fun g hg => (Ba (Below.refl _ wr) (.cells #[.int .i64 x1, .int .i64 x2, .int .i64 x3] 34)).block g (row_lt HOi.out hg)), by have := HM.out; omega, NE, (show Hid _ from by show _ = _; rw [ST.out, if_neg HK.out]; exact I3.out)⟩
            · have hii : i = l.length := by omega
              have hM : M = ofKind k l := by have := I3.out; rwa [hii, List.take_length] at this
              have HMK := Lib.hid hM
              clear hM hb hown I3
              by_cases hm1 : 1 < m
              · have hm1i : (1 : Int) < (m : Int) := by omega
                have hdup : dupB l = true := by
                  unfold dupB
                  rw [List.any_eq_true]
                  exact ⟨k, List.mem_range.2 hk10, decide_eq_true (by rw [← HMK.out, ← HM.out]; exact hm1)⟩
                have hn : rowN l = 4 := by unfold rowN; rw [HF.out, hdup]; rfl
                have E := Lib.hid (show rowN l = 4 ∧ rowL l = [] from ⟨hn, by unfold rowL; rw [hn]; rfl⟩)
                clear hdup hn
                go_wp2
                go_ret2
                exact ⟨⟨.slice none 0 0, by rw [E.out.1]; rfl, by rw [E.out.2]; exact Sl.nil _ _ (Nat.zero_le _)⟩, HBi.out⟩
              · have hm1i : ¬ (1 : Int) < (m : Int) := by omega
                go_wp2
                go_roundg (10 - (k + 1))
                case measure => exact hme
                case rel => exact ⟨k + 1, N, by go_num, by omega, Nat.le_refl _, HBi.out, HOi.out, by have := HM.out; have h := congrArg List.length NE.out; rw [List.length_append] at h; omega, (show Hid _ from by show _ = _; rw [rowTo_succ, ← I1.out, ← HMK.out]; exact NE.out), (show Hid _ from fun j hj => by
                  by_cases e : j = k
                  · subst e; rw [← HMK.out, ← HM.out]; omega
                  · exact I2.out j (by omega))⟩
        · have hk10' : k = 10 := by omega
          have hdup : dupB l = false := (dup_no l).2 fun j hj => I2.out j (by omega)
          have hn : rowN l = 0 := by unfold rowN; rw [HF.out, hdup]; rfl
          have E := Lib.hid (show rowN l = 0 ∧ rowL l = L from ⟨hn, by unfold rowL; rw [if_pos hn, I1.out, hk10']⟩)
          have hkw : ¬ ((k : Int) < 10) := by omega
          clear hdup hn
          go_wp2
          go_ret2
          exact ⟨⟨_, by rw [E.out.1]; rfl, by rw [E.out.2]; exact row_sl lenV HO.out rfl⟩, HB.out⟩

set_option maxHeartbeats 1000000 in
theorem rright_call (l : List Vl) (v : Value) (w : World) (hl : Sl encV w v l) (hlen : l.length ≤ 100000) : Calls Tryz.prog 86 #[v] w fun e w' => e = .returned (.bool (rightB l)) ∧ RowKit.Below w.heap.size w w' := by
  rw [← rightB_ref]
  have HL := Lib.hid hl
  have FR := Lib.hid (rrow_call l v w hl hlen)
  generalize hn : rowN l = n at *
  have HN := Lib.hid hn
  clear hl hn
  by_cases h0 : n = 0
  · subst h0
    generalize hq : decide (l = rowL l) = q
    have HQ := Lib.hid hq
    clear hq
    go_enter Tryz.func86, Tryz.ntmps86
    go_wp2_with fail
    refine FR.out.mono ?_
    rintro e w1 ⟨⟨v1, rfl, hs1⟩, hb1⟩
    have FS := Lib.hid (same_call l (rowL l) v v1 w1 (HL.out.below hb1) hs1)
    rw [HQ.out] at FS
    obtain ⟨p, cap, rfl, _, _, _⟩ := hs1
    go_wp2_with fail
    refine FS.out.mono ?_
    rintro e w2 ⟨rfl, hg2⟩
    go_wp2
    go_ret
    exact ⟨by simp, Bt hb1 hg2.below⟩
  · have hne : ((n : Int) == 0) = false := beq_eq_false_iff_ne.2 (by omega)
    have hne2 : (n == 0) = false := beq_eq_false_iff_ne.2 h0
    rw [hne2, Bool.false_and]
    clear h0
    go_enter Tryz.func86, Tryz.ntmps86
    go_wp2_with fail
    refine FR.out.mono ?_
    rintro e w1 ⟨⟨v1, rfl, hs1⟩, hb1⟩
    obtain ⟨p, cap, rfl, _, _, _⟩ := hs1
    go_wp2
    go_ret
    exact ⟨rfl, hb1⟩
end Go.Proofs.YtaehendpdfpibaaGreatDoor

/-
  Mask of the program and of the reference.
-/
namespace Go.Proofs.YtaehendpdfpibaaGreatDoor
set_option linter.unusedSimpArgs false
set_option linter.unusedVariables false
open Go.RowKit Go.Sort Go.Lib Go.Shelf

def kindsV (l : List Vl) : List Int := l.map fun x => x.1
theorem kindsV_step {l : List Vl} {i : Nat} (h : i < l.length) : kindsV (l.take (i + 1)) = kindsV (l.take i) ++ [l[i]!.1] := by
  rw [take_snoc l h]
  simp [kindsV]
theorem kindsV_all {l : List Vl} (hr : ∀ x ∈ l, chk x = 0) : (kindsV l).all kindB = true := by
  rw [List.all_eq_true]
  intro k hk
  obtain ⟨x, hx, rfl⟩ := List.mem_map.1 hk
  exact chk_kind (hr x hx)

set_option maxHeartbeats 2000000 in
set_option maxRecDepth 100000 in
theorem mask_call (l : List Vl) (v : Value) (a : Addr) (w : World) (hl : Sl encV w v l) (hr : ∀ x ∈ l, chk x = 0) (hE : ErrK w a) (hlen : l.length ≤ 100000) :
    Calls Tryz.prog 66 #[v] w fun e w' => e = .returned (.int .u64 (maskV l : Nat)) ∧ RowKit.Below w.heap.size w w' := by
  obtain ⟨p, cap, rfl, hl1, hl2, hl3⟩ := hl
  have HL := Lib.hid hl3
  have HE := Lib.hid hE
  have hbig : l.length ≤ 9223372036854775807 := by omega
  have HK := Lib.hid (kindsV_all hr)
  obtain ⟨m, hm⟩ : ∃ m, m = maskV l := ⟨_, rfl⟩
  rw [← hm]
  have HM := Lib.hid (show m = foldN true 0 (kindsV l) from hm)
  clear hl3 hl2 hr hE hm
  go_enter Tryz.func66, Tryz.ntmps66
  go_wp2
  go_loopg [3, 10] l.length (fun gk s3 s10 wr => ∃ (i : Nat) (K : List Int), s10 = .int .i64 i ∧ i ≤ l.length ∧ l.length - i ≤ gk ∧ RowKit.Below w.heap.size w wr ∧ wr.ownsRow w.heap.size 3 1 s3 K.length (flat encI K) ∧ K.length ≤ i ∧ Hid (K = kindsV (l.take i)))
  case atStart => exact ⟨0, [], rfl, Nat.zero_le _, by omega, Below.refl _ _, World.ownsRow_nil _ _ _ _, Nat.le_refl _, rfl⟩
  case round =>
    obtain ⟨i, K, rfl, hi, hgk, hb, hown, hKl, I⟩ := hrel
    have HB := Lib.hid hb
    have HO := Lib.hid hown
    obtain ⟨pr, cr, rfl, _, _, _⟩ := row_val hown
    by_cases hin : i < l.length
    · obtain ⟨g, o, rfl, hg1, hg2⟩ := HL.out (by omega)
      obtain ⟨c1, c2, c3⟩ := atV hg2 hin
      have d1 : wr.cell? ⟨g, o + i * 3, none⟩ = _ := Bc HB.out hg1 c1
      have d2 : wr.cell? ⟨g, o + i * 3 + 1, none⟩ = _ := Bc HB.out hg1 c2
      have d3 : wr.cell? ⟨g, o + i * 3 + 2, none⟩ = _ := Bc HB.out hg1 c3
      have hgw : g < wr.heap.size := Bl HB.out hg1
      have ST := Lib.hid (kindsV_step hin)
      generalize hx : l[i]! = x at *
      obtain ⟨x1, x2, x3⟩ := x
      dsimp only at d1 d2 d3
      clear hg2 c1 c2 c3 hx hb hown
      have BA := Lib.hid (Ba (Ba (Below.refl _ wr) (.cells #[.int .i64 x1, .int .i64 x2, .int .i64 x3] 34)) (.cells #[.int .i64 x1] 3))
      have O2 := Lib.hid (row_keep HO.out (fun g hg => BA.out.block g (row_lt HO.out hg)))
      have S2 := Lib.hid (sl_lit (enc := encI) (w := wr.alloc (.cells #[.int .i64 x1, .int .i64 x2, .int .i64 x3] 34)) (cs := #[.int .i64 x1]) (t := 3) (b := wr.heap.size + 1) [x1] (by simp) rfl (by unfold maxLen; simp))
      have LE := Lib.hid (show w.heap.size ≤ ((wr.alloc (.cells #[.int .i64 x1, .int .i64 x2, .int .i64 x3] 34)).alloc (.cells #[.int .i64 x1] 3)).heap.size from by have := HB.out.size; simp; omega)
      go_wp2_with (at_builtin; refine wpl_app apI rfl _ _ rfl w.heap.size (by rfl) (by rfl) O2.out rfl S2.out (by simp; omega) LE.out ?_; intro v1 w1 hown1 hgrow1 hnil1)
      have hb1 := grownB (Bt HB.out BA.out) O2.out hgrow1
      have eL : K.length + [x1].length = (K ++ [x1]).length := by simp
      rw [eL] at hown1
      clear hgrow1 hnil1 eL
      go_roundg (l.length - (i + 1))
      case measure => omega
      case rel => exact ⟨i + 1, K ++ [x1], by go_num, by omega, Nat.le_refl _, hb1, hown1, by simp; omega, (show Hid _ from by show _ = _; rw [ST.out, ← I.out])⟩
    · have hii : i = l.length := by omega
      have hK : K = kindsV l := by have := I.out; rwa [hii, List.take_length] at this
      have C := Lib.hid (of_call K _ a wr (row_sl lenI HO.out rfl) (HE.out.below HB.out))
      have em : foldN true 0 K = m := by rw [hK, ← HM.out]
      rw [resK_yes (by rw [hK]; exact HK.out), em] at C
      clear em
      clear hK hb hown
      go_wp2_with fail
      refine C.out.mono ?_
      rintro e w1 ⟨rfl, hg1⟩
      go_wp2
      go_ret
      exact ⟨rfl, Bt HB.out hg1.below⟩

set_option maxHeartbeats 2000000 in
set_option maxRecDepth 100000 in
theorem rmask_call (l : List Vl) (v : Value) (w : World) (hl : Sl encV w v l) (hr : ∀ x ∈ l, chk x = 0) (hlen : l.length ≤ 100000) :
    Calls Tryz.prog 96 #[v] w fun e w' => e = .returned (.int .u64 (maskV l : Nat)) ∧ RowKit.Below w.heap.size w w' := by
  obtain ⟨p, cap, rfl, hl1, hl2, hl3⟩ := hl
  have HL := Lib.hid hl3
  have hbig : l.length ≤ 9223372036854775807 := by omega
  have HR := Lib.hid hr
  obtain ⟨m, hm⟩ : ∃ m, m = maskV l := ⟨_, rfl⟩
  rw [← hm]
  have HM := Lib.hid (show m = foldN true 0 (kindsV l) from hm)
  clear hl3 hl2 hr hm
  go_enter Tryz.func96, Tryz.ntmps96
  go_wp2
  go_loopg [3, 8] l.length (fun gk s3 s8 wr => ∃ (i n : Nat), s8 = .int .i64 i ∧ s3 = .int .u64 n ∧ i ≤ l.length ∧ l.length - i ≤ gk ∧ Gr w wr ∧ Hid (n = foldN true 0 (kindsV (l.take i))))
  case atStart => exact ⟨0, 0, rfl, rfl, Nat.zero_le _, by omega, Gr.refl _, rfl⟩
  case round =>
    obtain ⟨i, n, rfl, rfl, hi, hgk, hg, I⟩ := hrel
    have HG := Lib.hid hg
    by_cases hin : i < l.length
    · obtain ⟨g, o, rfl, hg1, hg2⟩ := HL.out (by omega)
      obtain ⟨c1, c2, c3⟩ := atV hg2 hin
      have d1 : wr.cell? ⟨g, o + i * 3, none⟩ = some (.int .i64 l[i]!.1) := Bc HG.out.below hg1 c1
      have d2 : wr.cell? ⟨g, o + i * 3 + 1, none⟩ = some (.int .i64 l[i]!.2.1) := Bc HG.out.below hg1 c2
      have d3 : wr.cell? ⟨g, o + i * 3 + 2, none⟩ = some (.int .i64 l[i]!.2.2) := Bc HG.out.below hg1 c3
      have hgw : g < wr.heap.size := Bl HG.out.below hg1
      have ST := Lib.hid (kindsV_step hin)
      have hkx : kindB l[i]!.1 = true := chk_kind (HR.out _ (by rw [getElem!_pos l i hin]; exact List.getElem_mem hin))
      have hlt : n < 18446744073709551616 := by
        rw [I.out]
        refine foldN_lt true 0 _ (by decide) fun k hk => ?_
        obtain ⟨y, hy, rfl⟩ := List.mem_map.1 hk
        exact chk_kind (HR.out y (List.mem_of_mem_take hy))
      generalize hx : l[i]! = x at *
      obtain ⟨x1, x2, x3⟩ := x
      dsimp only at d1 d2 d3 hkx ST
      have hb := (kindB_iff x1).1 hkx
      obtain ⟨k, rfl⟩ : ∃ k : Nat, x1 = k := ⟨x1.toNat, by omega⟩
      have hk : k < 64 := by omega
      have hw : IntKind.u64.wrap (2 ^ k) = ((2 ^ k : Nat) : Int) := by
        have h := pow64 hk
        have e : ((2 ^ k : Nat) : Int) = (2 : Int) ^ k := by rw [Int.natCast_pow]; rfl
        rw [IntKind.wrap_u64, ← e]
        generalize 2 ^ k = q at *
        omega
      have hor := u64_or_nat n (2 ^ k) hlt (pow64 hk)
      have hor2 : bits .or .u64 (n : Int) ((2 : Int) ^ k) = ((n ||| 2 ^ k : Nat) : Int) := by rw [← hor, Int.natCast_pow]; rfl
      have HOR := Lib.hid hor2
      have HOP := Lib.hid (show n ||| 2 ^ k = opN true n k from rfl)
      clear hg2 c1 c2 c3 hx hg hkx hb hlt
      go_wp2
      go_roundg (l.length - (i + 1))
      case measure => omega
      case rel => exact ⟨i + 1, n ||| 2 ^ k, by go_num, by first | rfl | rw [HOR.out], by omega, Nat.le_refl _, HG.out.alloc _, (show Hid _ from by show _ = _; rw [ST.out, foldN_snoc, ← I.out]; rfl)⟩
    · have hii : i = l.length := by omega
      have hK : n = m := by have := I.out; rw [hii, List.take_length] at this; rw [this, HM.out]
      clear hg
      subst hK
      go_wp2
      go_ret
      exact ⟨rfl, HG.out.below⟩
end Go.Proofs.YtaehendpdfpibaaGreatDoor

/-
  Right and Kinds of a mask; the kinds of a row of its mask.
-/
namespace Go.Proofs.YtaehendpdfpibaaGreatDoor
set_option linter.unusedSimpArgs false
set_option linter.unusedVariables false
open Go.RowKit Go.Sort Go.Lib Go.Shelf

theorem mright_any (a : Nat) (w : World) : Calls Tryz.prog 151 #[.int .u64 a] w fun e w' => e = .returned (.bool (decide (a < 1024))) ∧ w = w' := by
  go_enter Tryz.func151, Tryz.ntmps151
  go_wp2_with (go_at_call 113; refine (bit_any 10 (by decide) _).mono ?_; rintro e w1 ⟨rfl, rfl⟩)
  go_ret
  exact ⟨ret_bool (by rw [Bool.eq_iff_iff]; simp; omega), rfl⟩
/-- bits.TrailingZeros64's table, as its initialiser lays it. -/
def TabW (w : World) : Prop := ∀ j, j < 64 → w.cell? ⟨10, j, none⟩ = some (.int .u8 ((Lib.deBruijn64tab.getD j 0 : Nat) : Int))
theorem TabW.below {w w' : World} (h : TabW w) (hb : RowKit.Below w.heap.size w w') : TabW w' := fun j hj => Bc hb (cell_lt (h j hj)) (h j hj)

set_option maxHeartbeats 1000000 in
theorem tz_any (x : Nat) (h0 : x ≠ 0) (hx : x < 18446744073709551616) (w : World) (hT : TabW w) : Calls Tryz.prog 142 #[.int .u64 x] w fun e w' => e = .returned (.int .i64 (Lib.ctz 64 x : Nat)) ∧ w = w' := by
  obtain ⟨hlow, hk⟩ := Lib.lowest_bit 64 x h0 (by omega)
  obtain ⟨hi, htab⟩ := Lib.deBruijn64_at _ hk
  generalize Lib.ctz 64 x = k at *
  obtain ⟨a, ha⟩ : ∃ a, a = 2 ^ k := ⟨_, rfl⟩
  rw [← ha] at hlow hi htab
  obtain ⟨q, hq⟩ : ∃ q, q = a * 285870213051353865 % 18446744073709551616 := ⟨_, rfl⟩
  rw [← hq] at hi htab
  obtain ⟨i, hI⟩ : ∃ i, i = q / 288230376151711744 := ⟨_, rfl⟩
  rw [← hI] at hi htab
  have hcell := hT i hi
  rw [htab] at hcell
  have n1 : IntKind.u64.wrap (-(x : Int)) = ((18446744073709551616 - x : Nat) : Int) := by rw [IntKind.wrap_u64]; omega
  have n2 := andN x (18446744073709551616 - x) (x : Int) ((18446744073709551616 - x : Nat) : Int) rfl rfl hx (by omega)
  rw [hlow] at n2
  have n3 : IntKind.u64.wrap ((a : Int) * 285870213051353865) = (q : Int) := by rw [IntKind.wrap_u64, hq]; omega
  have n4 : (q : Int) / 288230376151711744 = (i : Int) := by rw [hI]; omega
  have hz : ((x : Int) == 0) = false := by simp; omega
  obtain ⟨y, hy⟩ : ∃ y, y = 18446744073709551616 - x := ⟨_, rfl⟩
  rw [← hy] at n1 n2
  clear hlow hq hI ha htab hT hy h0
  go_enter Tryz.func142, Tryz.ntmps142
  go_wp2
  go_ret
  exact ⟨rfl, rfl⟩

theorem kinds_len (f : Nat → Bool) : (kindsOf f).length ≤ 64 := by
  unfold kindsOf bitsOf
  rw [List.length_map]
  exact Nat.le_trans (List.length_filter_le _ _) (by simp)
theorem kindsOf_step {x : Nat} (h0 : x ≠ 0) (h : x < 18446744073709551616) : kindsOf (fun i => x.testBit i) = ((Lib.ctz 64 x : Nat) : Int) :: kindsOf (fun i => (x &&& (x - 1)).testBit i) := by
  unfold kindsOf
  rw [bits_step h0 h]
  rfl
theorem kindsOf_zero : kindsOf (fun i => (0 : Nat).testBit i) = [] := by
  unfold kindsOf
  rw [bitsOf_none (fun i _ => Nat.zero_testBit i)]
  rfl

set_option maxHeartbeats 2000000 in
set_option maxRecDepth 100000 in
theorem mkinds_call (m : Nat) (hm : m < 18446744073709551616) (w : World) (hT : TabW w) :
    Calls Tryz.prog 102 #[.int .u64 m] w fun e w' => ∃ v', e = .returned v' ∧ w'.ownsRow w.heap.size 3 1 v' (kindsOf fun i => m.testBit i).length (flat encI (kindsOf fun i => m.testBit i)) ∧ RowKit.Below w.heap.size w w' := by
  have HT := Lib.hid hT
  have HM := Lib.hid hm
  obtain ⟨K, hK⟩ : ∃ K, K = kindsOf fun i => m.testBit i := ⟨_, rfl⟩
  have KL := Lib.hid (show K.length ≤ 64 by rw [hK]; exact kinds_len _)
  have HK := Lib.hid hK
  rw [← hK]
  clear hT hm hK
  go_enter Tryz.func102, Tryz.ntmps102
  go_wp2
  go_loopw [3, 4] (fun v i wr => ∃ x : Nat, x < 18446744073709551616 ∧ i = .int .u64 x ∧ RowKit.Below w.heap.size w wr ∧ ∃ L, L ++ kindsOf (fun i => x.testBit i) = K ∧ wr.ownsRow w.heap.size 3 1 v L.length (flat encI L)) (fun _ i _ => (kindsOf fun j => (intOf i).toNat.testBit j).length)
  case atStart => exact ⟨m, HM.out, rfl, (by repeat (first | with_reducible exact Below.refl _ _ | with_reducible assumption | with_reducible apply Ba | with_reducible apply Bd | with_reducible apply Bn | with_reducible apply Bg | (with_reducible refine Bs ?_ (by first | (simp; done) | (simp; omega)) _) | (with_reducible refine Bt ?_ (by assumption)) | (with_reducible refine Bt ?_ (Gr.below (by assumption))))), [], by rw [HK.out]; rfl, World.ownsRow_nil _ _ _ _⟩
  case round =>
    obtain ⟨x, hx, rfl, hb, L, hL, ho⟩ := hrel
    by_cases h0 : x = 0
    · subst h0
      rw [kindsOf_zero, List.append_nil] at hL
      subst hL
      have HO := Lib.hid ho
      have HB := Lib.hid hb
      clear ho hb
      go_wp2
      go_ret
      exact ⟨_, rfl, HO.out, HB.out⟩
    · have hz : ((x : Int) != 0) = true := by simp; omega
      have n1 : IntKind.u64.wrap ((x : Int) - 1) = ((x - 1 : Nat) : Int) := by rw [IntKind.wrap_u64]; omega
      have n2 := andN x (x - 1) (x : Int) ((x - 1 : Nat) : Int) rfl rfl hx (by omega)
      have hst := kindsOf_step h0 hx
      have hyl : x &&& (x - 1) < 18446744073709551616 := Nat.lt_of_le_of_lt Nat.and_le_left hx
      obtain ⟨y, hy⟩ : ∃ y, y = x &&& (x - 1) := ⟨_, rfl⟩
      obtain ⟨z, hz1⟩ : ∃ z, z = x - 1 := ⟨_, rfl⟩
      obtain ⟨k, hk⟩ : ∃ k, k = Lib.ctz 64 x := ⟨_, rfl⟩
      rw [← hy] at n2 hst hyl
      rw [← hz1] at n1 n2
      have tz : Hid (∀ W, TabW W → Calls Tryz.prog 142 #[.int .u64 x] W fun e w' => e = .returned (.int .i64 (k : Nat)) ∧ W = w') := fun W hW => by rw [hk]; exact tz_any x h0 hx W hW
      rw [← hk] at hst
      have HS := Lib.hid hst
      have HL := Lib.hid hL
      have HB := Lib.hid (Ba hb (.cells #[.int .i64 (k : Int)] 3))
      have HTW := Lib.hid (HT.out.below hb)
      have HO := Lib.hid (ho.alloc (.cells #[.int .i64 (k : Int)] 3))
      have S3 := Lib.hid (sl_lit (enc := encI) (w := wr) (cs := #[.int .i64 (k : Int)]) (t := 3) (b := wr.heap.size) [(k : Int)] rfl rfl (by unfold maxLen; simp))
      have HLL := Lib.hid (show L.length ≤ 64 by have := congrArg List.length hL; have := KL.out; simp at *; omega)
      have HY := Lib.hid hyl
      clear hy hz1 hk hst hL hb ho hyl h0
      go_wp2_with (first | (go_at_call 142; refine (tz.out _ HTW.out).mono ?_; rintro e w1 ⟨rfl, rfl⟩) | (at_builtin; refine wpl_app apI rfl _ _ rfl w.heap.size (by rfl) (by rfl) HO.out rfl S3.out (by have := HLL.out; simp; omega) HB.out.size ?_; intro v7 w7 hown1 hgrow1 hnil1))
      have b4 := grownB HB.out HO.out hgrow1
      go_roundw
      case measure => simp [intOf]; rw [HS.out]; simp
      case rel => exact ⟨y, HY.out, rfl, b4, L ++ [(k : Int)], by rw [← HL.out, HS.out]; simp, by rw [List.length_append]; exact hown1⟩
theorem kinds_pair (f : Nat → Bool) : (kindsOf f).Pairwise (· < ·) := by
  unfold kindsOf bitsOf
  rw [List.pairwise_map]
  exact (List.Pairwise.filter _ List.pairwise_lt_range).imp fun h => by show Int.ofNat _ < Int.ofNat _; simp only [Int.ofNat_eq_natCast]; omega
theorem foldF_or : ∀ (l : List Int) (f : Nat → Bool), (∀ k ∈ l, kindB k = true) → ∀ i, foldF true f l i = (f i || decide ((i : Int) ∈ l))
  | [], f, _, i => by simp [foldF]
  | k :: r, f, hk, i => by
    have h0 := (kindB_iff k).1 (hk k (by simp))
    have ih := foldF_or r (putF true f k.toNat) (fun x hx => hk x (by simp [hx])) i
    show foldF true (putF true f k.toNat) r i = _
    rw [ih]
    unfold putF
    by_cases h : i = k.toNat
    · rw [if_pos h]
      have : (i : Int) = k := by omega
      simp [this]
    · rw [if_neg h]
      have : ¬ (i : Int) = k := by omega
      simp [this]
theorem order_bits {m : Nat} {l : List Int} (hm : m < 18446744073709551616) (hk : ∀ k ∈ l, kindB k = true) (i : Nat) : (foldN true m l).testBit i = (m.testBit i || decide ((i : Int) ∈ l)) := by
  rw [(fold_both true l m (fun i => m.testBit i) hm (fun _ => rfl) hk).2 i, foldF_or l _ hk i]
theorem kinds_right {q : Nat} (hq : q < 1024) : (kindsOf fun i => q.testBit i).all kindB = true := by
  rw [List.all_eq_true]
  intro k hk
  unfold kindsOf at hk
  obtain ⟨i, hi, rfl⟩ := List.mem_map.1 hk
  have h1 := ((mem_bitsOf _ i).1 hi).2
  rw [kindB_iff]
  rcases Nat.lt_or_ge i 10 with h | h
  · exact ⟨Int.natCast_nonneg i, by show (i : Int) < 10; omega⟩
  · have h2 : q < 2 ^ i := Nat.lt_of_lt_of_le hq (by
      have : 2 ^ 10 ≤ 2 ^ i := Nat.pow_le_pow_right (by decide) h
      omega)
    rw [Nat.testBit_lt_two_pow h2] at h1
    cases h1
theorem mem_kindsOf (f : Nat → Bool) (i : Nat) : (i : Int) ∈ kindsOf f ↔ i < 64 ∧ f i = true := by
  unfold kindsOf
  rw [← mem_bitsOf, List.mem_map]
  constructor
  · rintro ⟨j, hj, e⟩
    have : j = i := Int.ofNat.inj e
    exact this ▸ hj
  · exact fun h => ⟨i, h, rfl⟩
theorem back_is {q : Nat} (hq : q < 1024) : foldN true 0 (kindsOf fun i => q.testBit i) = q := by
  have hk : ∀ k ∈ kindsOf fun i => q.testBit i, kindB k = true := fun k h => List.all_eq_true.1 (kinds_right hq) k h
  refine tb_ext (foldN_lt true 0 _ (by decide) hk) (by omega) fun i hi => ?_
  rw [order_bits (by decide) hk, Nat.zero_testBit, Bool.false_or]
  cases h : q.testBit i
  · exact decide_eq_false fun hm => by rw [((mem_kindsOf _ i).1 hm).2] at h; cases h
  · exact decide_eq_true ((mem_kindsOf _ i).2 ⟨hi, h⟩)


/-- The kinds of a mask, rising. -/
def Ks (q : Nat) : List Int := kindsOf fun i => q.testBit i
theorem rise_int {a b : List Int} (ha : a.Pairwise (· < ·)) (hb : b.Pairwise (· < ·)) (h : ∀ x, x ∈ a ↔ x ∈ b) : a = b := by
  have f : ∀ l : List Int, (l.map fun k => ((k, 0, 0) : Vl)).map (fun x => x.1) = l := fun l => by
    rw [List.map_map]; exact List.map_id' l
  have e : (a.map fun k => ((k, 0, 0) : Vl)) = b.map fun k => (k, 0, 0) := rise_ext _ _ (List.pairwise_map.2 ha) (List.pairwise_map.2 hb) (fun x => by
    simp only [List.mem_map]
    constructor
    · rintro ⟨k, hk, rfl⟩; exact ⟨k, (h k).1 hk, rfl⟩
    · rintro ⟨k, hk, rfl⟩; exact ⟨k, (h k).2 hk, rfl⟩)
  rw [← f a, e, f]
theorem Ks_kind {q : Nat} (hq : q < 1024) : ∀ k ∈ Ks q, kindB k = true := fun k hk => List.all_eq_true.1 (kinds_right hq) k hk
theorem Ks_len (q : Nat) : (Ks q).length ≤ 64 := kinds_len _
theorem Ks_rise (q : Nat) : (Ks q).Pairwise (· < ·) := kinds_pair _
theorem kinds_mem {l : List Int} (hl : ∀ k ∈ l, kindB k = true) (k : Int) : k ∈ Ks (foldN true 0 l) ↔ k ∈ l := by
  constructor
  · intro h
    unfold Ks kindsOf at h
    obtain ⟨i, hi, rfl⟩ := List.mem_map.1 h
    have h1 := (mem_bitsOf _ i).1 hi
    have h2 := order_bits (m := 0) (l := l) (by decide) hl i
    rw [h1.2, Nat.zero_testBit, Bool.false_or] at h2
    exact of_decide_eq_true h2.symm
  · intro h
    have hk := (kindB_iff k).1 (hl k h)
    obtain ⟨i, rfl⟩ : ∃ i : Nat, k = i := ⟨k.toNat, by omega⟩
    refine (mem_kindsOf _ i).2 ⟨by omega, ?_⟩
    rw [order_bits (m := 0) (l := l) (by decide) hl i, Nat.zero_testBit, Bool.false_or]
    exact decide_eq_true h
/-- A right row is of the mask just where its kinds are the mask's. -/
theorem row_of_mask {l : List Vl} {q : Nat} (h : RightV l) (hq : q < 1024) : maskV l = q ↔ l.map (fun x => x.1) = Ks q := by
  have hl : ∀ k ∈ l.map (fun x => x.1), kindB k = true := fun k hk => by
    obtain ⟨x, hx, rfl⟩ := List.mem_map.1 hk
    exact chk_kind (h.2 x hx)
  constructor
  · intro e
    have e2 : q = foldN true 0 (l.map fun x => x.1) := e.symm
    refine rise_int (List.pairwise_map.2 h.1) (Ks_rise q) fun k => ?_
    rw [e2]
    exact (kinds_mem hl k).symm
  · intro e
    unfold maskV
    rw [e]
    exact back_is hq
theorem mask_lt {l : List Vl} (h : RightV l) : maskV l < 1024 := by
  have hl : ∀ k ∈ l.map (fun x => x.1), kindB k = true := fun k hk => by
    obtain ⟨x, hx, rfl⟩ := List.mem_map.1 hk
    exact chk_kind (h.2 x hx)
  refine Nat.lt_of_not_le fun hge => ?_
  obtain ⟨i, hi, hb⟩ := Nat.exists_ge_and_testBit_of_ge_two_pow (n := 10) (x := maskV l) (by simpa using hge)
  have hlt := foldN_lt true 0 (l.map fun x => x.1) (by decide) hl
  have hi64 : i < 64 := by
    refine Nat.lt_of_not_le fun h64 => ?_
    have : maskV l < 2 ^ i := Nat.lt_of_lt_of_le hlt (Nat.le_trans (show 18446744073709551616 ≤ 2 ^ 64 by decide) (Nat.pow_le_pow_right (by decide) h64))
    rw [Nat.testBit_lt_two_pow this] at hb
    cases hb
  have hm : (i : Int) ∈ Ks (maskV l) := (mem_kindsOf _ i).2 ⟨hi64, hb⟩
  have := (kindB_iff _).1 (hl _ ((kinds_mem hl i).1 hm))
  omega
end Go.Proofs.YtaehendpdfpibaaGreatDoor

/-
  Columns of handles (two cells) and of components (three): cells of rows, stores of whole things; what a call leaves alone.
-/
namespace Go.Proofs.YtaehendpdfpibaaGreatDoor
set_option linter.unusedSimpArgs false
set_option linter.unusedVariables false
open Go.RowKit Go.Sort Go.Lib Go.Shelf

theorem apH : Ap encH 64 31 2 (.agg #[.int .i64 0, .int .i64 0]) 16 :=
  ⟨Tryz.underlying64, info_parts (by kernel_rfl), by decide, by decide, by decide, lenH, oneH⟩
def aggH (x : Hd) : Value := .agg #[.int .i64 x.1, .int .i64 x.2]

/-- What Take of place n leaves: the last thing takes its place. -/
def takeC {α : Type} [Inhabited α] (L : List α) (n : Nat) : List α := (L.set n L[L.length - 1]!).take (L.length - 1)
theorem takeC_len {α : Type} [Inhabited α] (L : List α) (n : Nat) : (takeC L n).length = L.length - 1 := by simp [takeC]
theorem takeC_eq {α : Type} [Inhabited α] (L : List α) (n q : Nat) (x : α) (hq : L.length = q + 1) : ((L.set n L[q]!).set q x).take q = takeC L n := by
  unfold takeC
  rw [hq, Nat.add_sub_cancel, List.take_set_of_le (Nat.le_refl _)]
theorem takeC_get {α : Type} [Inhabited α] (L : List α) (n k : Nat) (hk : k < L.length - 1) : (takeC L n)[k]! = if k = n then L[L.length - 1]! else L[k]! := by
  unfold takeC
  rw [getElem!_pos _ _ (by simp; omega), List.getElem_take, List.getElem_set]
  by_cases h : n = k
  · rw [if_pos h, if_pos h.symm]
  · rw [if_neg h, if_neg (fun e => h e.symm), getElem!_pos L k (by omega)]
theorem takeC_map {α β : Type} [Inhabited α] [Inhabited β] (f : α → β) (L : List α) (n : Nat) (hn : n < L.length) : takeC (L.map f) n = (takeC L n).map f := by
  unfold takeC
  rw [List.length_map, List.map_take, List.map_set]
  congr 2
  rw [getElem!_pos (L.map f) _ (by simp; omega), getElem!_pos L _ (by omega), List.getElem_map]

section
variable {M R : Nat → Prop} {w w' : World}
theorem Tch.fresh (h : Tch M w w') {p : Addr} (hp : w.heap.size ≤ p.block) (u : Value) : Tch M w (w'.setCell p u) :=
  ⟨h.os, h.tape, h.output, by simpa using h.size, fun k hk hn => (heap_setCell_other w' p k u (by omega)).trans (h.block k hk hn)⟩
theorem Tch.alloc (h : Tch M w w') (o : Obj) : Tch M w (w'.alloc o) := h.more (Tch.of (Ba (Below.refl _ _) o))
theorem Tch.drew (h : Tch M w w') : Tch M w w'.drew := ⟨h.os, h.tape, h.output, h.size, h.block⟩
theorem Tch.bel (h : Tch M w w') {w2 : World} (hb : RowKit.Below w'.heap.size w' w2) : Tch M w w2 := h.more (Tch.of hb)
/-- The block b behind a change elsewhere. -/
theorem Tch.blk (h : Tch M w w') {b : Nat} {o : Obj} (hb : w.heap[b]? = some o) (hn : ¬ M b) : w'.heap[b]? = some o := (h.block b (Array.getElem?_eq_some_iff.1 hb).1 hn).trans hb
theorem three_cells {pa : Nat} {a b c : Value} {t : Nat} (h : w.heap[pa]? = some (.cells #[a, b, c] t (0, 0))) : (w.cell? ⟨pa, 0, none⟩ = some a ∧ w.cell? ⟨pa, 1, none⟩ = some b ∧ w.cell? ⟨pa, 2, none⟩ = some c) ∧ w.frozen? ⟨pa, 0, none⟩ = false ∧ w.frozen? ⟨pa, 1, none⟩ = false ∧ w.frozen? ⟨pa, 2, none⟩ = false := by
  simp [World.cell?, World.frozen?, h]
end

section
variable {α : Type} [Inhabited α] {enc : α → List Value} {et k T pa : Nat} {L : List α} {m : Int} {M : Nat → Prop} {w : World}
theorem row_cellsK (hk : ∀ x, (enc x).length = k) {base g n cap : Nat} {l : List α} (h : w.ownsRow base et k (.slice (some ⟨g, 0, none⟩) n cap) n (flat enc l)) {i : Nat} (hi : i < l.length) : ∀ c u, (enc l[i]!)[c]? = some u → w.cell? ⟨g, i * k + c, none⟩ = some u := fun c u hu => by
  have hc : c < k := by have := (List.getElem?_eq_some_iff.1 hu).1; rwa [hk] at this
  have := cellsI h (i * k + c) u ((flat_get hk l i c hi hc).trans hu)
  rwa [Nat.zero_add] at this
omit [Inhabited α] in
theorem flat_setc (hk : ∀ x, (enc x).length = k) (c : Nat) (hc : c < k) (x : α) (u : Value) : ∀ (L : List α) (n : Nat) (h : n < L.length), enc x = (enc L[n]).set c u → (flat enc L).set (n * k + c) u = flat enc (L.set n x)
  | [], _, h, _ => absurd h (Nat.not_lt_zero _)
  | y :: r, 0, _, hx => by
    simp only [List.getElem_cons_zero] at hx
    simp only [flat, List.flatMap_cons, Nat.zero_mul, Nat.zero_add, List.set_cons_zero]
    rw [List.set_append_left _ _ (by rw [hk]; exact hc), hx]
  | y :: r, n + 1, h, hx => by
    simp only [List.getElem_cons_succ] at hx
    have ih := flat_setc hk c hc x u r n (by simpa using h) hx
    simp only [flat, List.flatMap_cons, List.set_cons_succ] at ih ⊢
    rw [List.set_append_right _ _ (by rw [hk, Nat.add_mul]; omega), hk, show (n + 1) * k + c - k = n * k + c by rw [Nat.add_mul]; omega, ih]
omit [Inhabited α] in
/-- Among its own two blocks. -/
theorem ColIs.tight {v : Value} (h : ColIs enc et k T w M pa v L m) : ColIs enc et k T w (fun b => b = pa ∨ v.ownBlock = some b) pa v L m ∧ ∀ b, (b = pa ∨ v.ownBlock = some b) → M b :=
  ⟨⟨h.1, .inl rfl, h.2.2.1, fun g hg => .inr hg⟩, fun b e => e.elim (fun e => e ▸ h.2.1) (h.2.2.2 b)⟩
end

section
variable {α : Type} {enc : α → List Value} {et k T pa : Nat} {L : List α} {m : Int} {R : Nat → Prop} {w w0 : World} {v : Value}
/-- A store into a block that is none of the column's. -/
theorem ColIs.far (h : ColIs enc et k T w R pa v L m) {p : Addr} (hb : ¬ R p.block) (u : Value) : ColIs enc et k T (w.setCell p u) R pa v L m :=
  h.kept (M := fun b => b = p.block) (Tch.set (M := fun b => b = p.block) w rfl u) (fun b e1 e2 => hb (e2 ▸ e1))
theorem ColIs.far2 (h : ColIs enc et k T w R pa v L m) (b : Nat) (hb : ¬ R b) (u1 u2 : Value) : ColIs enc et k T ((w.setCell ⟨b, 0, none⟩ u1).setCell ⟨b, 1, none⟩ u2) R pa v L m := (h.far (p := ⟨b, 0, none⟩) hb u1).far (p := ⟨b, 1, none⟩) hb u2
theorem ColIs.far3 (h : ColIs enc et k T w R pa v L m) (b : Nat) (hb : ¬ R b) (u1 u2 u3 : Value) : ColIs enc et k T (((w.setCell ⟨b, 0, none⟩ u1).setCell ⟨b, 1, none⟩ u2).setCell ⟨b, 2, none⟩ u3) R pa v L m := (h.far2 b hb u1 u2).far (p := ⟨b, 2, none⟩) hb u3
theorem Tch.fresh2 (h : Tch R w0 w) {b : Nat} (hb : w0.heap.size ≤ b) (u1 u2 : Value) : Tch R w0 ((w.setCell ⟨b, 0, none⟩ u1).setCell ⟨b, 1, none⟩ u2) := (h.fresh (p := ⟨b, 0, none⟩) hb u1).fresh (p := ⟨b, 1, none⟩) hb u2
theorem Tch.fresh3 (h : Tch R w0 w) {b : Nat} (hb : w0.heap.size ≤ b) (u1 u2 u3 : Value) : Tch R w0 (((w.setCell ⟨b, 0, none⟩ u1).setCell ⟨b, 1, none⟩ u2).setCell ⟨b, 2, none⟩ u3) := (h.fresh2 hb u1 u2).fresh (p := ⟨b, 2, none⟩) hb u3
end

section
variable {w w' : World} {b0 et k n : Nat} {v : Value} {xs : List Value}
theorem row_base (h : w.ownsRow b0 et k v n xs) {g : Nat} (hg : v.ownBlock = some g) : b0 ≤ g := by
  rcases h.2 with ⟨rfl, _⟩ | ⟨g', cap, cur, rfl, hb, hh, _⟩
  · simp [Value.ownBlock] at hg
  · simp only [Value.ownBlock, Option.some.injEq] at hg
    subst hg
    exact hb
/-- A block of another type behind an append onto a row of the call's own. -/
theorem grown_far (h : w.ownsRow b0 et k v n xs) (hg : w.grownBy w' v.ownBlock) {b : Nat} {c : Array Value} {t : Nat} {f : Nat × Nat} (hb : w.heap[b]? = some (.cells c t f)) (ht : t ≠ et) : w'.heap[b]? = some (.cells c t f) :=
  (hg.block b (Array.getElem?_eq_some_iff.1 hb).1 (fun e => by
    obtain ⟨c2, hc⟩ := row_type h e.symm
    exact type_apart hb hc ht rfl)).trans hb
/-- A row of another type behind it. -/
theorem grown_row (h : w.ownsRow b0 et k v n xs) (hg : w.grownBy w' v.ownBlock) {b1 et' k' n' : Nat} {v' : Value} {xs' : List Value} (hr : w.ownsRow b1 et' k' v' n' xs') (ht : et' ≠ et) : w'.ownsRow b1 et' k' v' n' xs' :=
  row_keep hr (fun g e => by
    obtain ⟨c2, hc⟩ := row_type hr e
    exact (grown_far h hg hc ht).trans hc.symm)
/-- A row behind a store into a block of another type. -/
theorem set_row {b : Nat} {c : Array Value} {t : Nat} {f : Nat × Nat} (hb : w.heap[b]? = some (.cells c t f)) (hr : w.ownsRow b0 et k v n xs) (ht : et ≠ t) (o : Nat) (u : Value) : (w.setCell ⟨b, o, none⟩ u).ownsRow b0 et k v n xs :=
  row_keep hr (fun g e => by
    obtain ⟨c2, hc⟩ := row_type hr e
    exact heap_setCell_other w ⟨b, o, none⟩ g u (type_apart hc hb ht))
end

theorem set3_row {w : World} {b0 et k n : Nat} {v : Value} {xs : List Value} {b : Nat} {c : Array Value} {t : Nat} {f : Nat × Nat} (hb : w.heap[b]? = some (.cells c t f)) (hr : w.ownsRow b0 et k v n xs) (ht : et ≠ t) (u1 u2 u3 : Value) : (((w.setCell ⟨b, 0, none⟩ u1).setCell ⟨b, 1, none⟩ u2).setCell ⟨b, 2, none⟩ u3).ownsRow b0 et k v n xs :=
  row_keep hr (fun g e => by
    obtain ⟨c2, hc⟩ := row_type hr e
    have hne := type_apart hc hb ht
    exact (heap_setCell_other _ ⟨b, 2, none⟩ g u3 hne).trans ((heap_setCell_other _ ⟨b, 1, none⟩ g u2 hne).trans (heap_setCell_other _ ⟨b, 0, none⟩ g u1 hne)))

/-- A row of components in an own row: its cells. -/
theorem rowV {w : World} {base g n cap : Nat} {l : List Vl} (h : w.ownsRow base 34 3 (.slice (some ⟨g, 0, none⟩) n cap) n (flat encV l)) {i : Nat} (hi : i < l.length) :
    (w.cell? ⟨g, i * 3, none⟩ = some (.int .i64 l[i]!.1) ∧ w.cell? ⟨g, i * 3 + 1, none⟩ = some (.int .i64 l[i]!.2.1) ∧ w.cell? ⟨g, i * 3 + 2, none⟩ = some (.int .i64 l[i]!.2.2)) ∧ w.frozen? ⟨g, i * 3, none⟩ = false ∧ w.frozen? ⟨g, i * 3 + 1, none⟩ = false ∧ w.frozen? ⟨g, i * 3 + 2, none⟩ = false :=
  ⟨⟨row_cellsK lenV h hi 0 _ rfl, row_cellsK lenV h hi 1 _ rfl, row_cellsK lenV h hi 2 _ rfl⟩, h.frozenAt _, h.frozenAt _, h.frozenAt _⟩
theorem rowH {w : World} {base g n cap : Nat} {l : List Hd} (h : w.ownsRow base 31 2 (.slice (some ⟨g, 0, none⟩) n cap) n (flat encH l)) {i : Nat} (hi : i < l.length) :
    (w.cell? ⟨g, i * 2, none⟩ = some (.int .i64 l[i]!.1) ∧ w.cell? ⟨g, i * 2 + 1, none⟩ = some (.int .i64 l[i]!.2)) ∧ w.frozen? ⟨g, i * 2, none⟩ = false ∧ w.frozen? ⟨g, i * 2 + 1, none⟩ = false :=
  ⟨⟨row_cellsK lenH h hi 0 _ rfl, row_cellsK lenH h hi 1 _ rfl⟩, h.frozenAt _, h.frozenAt _⟩

section
variable {T pa : Nat} {m : Int} {M : Nat → Prop} {w : World}
/-- A whole component is stored. -/
theorem colV_put {L : List Vl} (hT : T ≠ 34) {g ln cs : Nat} (h : ColIs encV 34 3 T w M pa (.slice (some ⟨g, 0, none⟩) ln cs) L m) (n : Nat) (hn : n < L.length) (x1 x2 x3 : Int) :
    ColIs encV 34 3 T (((w.setCell ⟨g, n * 3, none⟩ (.int .i64 x1)).setCell ⟨g, n * 3 + 1, none⟩ (.int .i64 x2)).setCell ⟨g, n * 3 + 2, none⟩ (.int .i64 x3)) M pa (.slice (some ⟨g, 0, none⟩) ln cs) (L.set n (x1, x2, x3)) m ∧
      Tch M w (((w.setCell ⟨g, n * 3, none⟩ (.int .i64 x1)).setCell ⟨g, n * 3 + 1, none⟩ (.int .i64 x2)).setCell ⟨g, n * 3 + 2, none⟩ (.int .i64 x3)) := by
  obtain ⟨k1, t1⟩ := h.cell hT (n * 3) (.int .i64 x1) (flat_setc lenV 0 (by decide) (x1, L[n].2.1, L[n].2.2) (.int .i64 x1) L n hn rfl) (List.length_set ..)
  obtain ⟨k2, t2⟩ := k1.cell hT (n * 3 + 1) (.int .i64 x2) (flat_setc lenV 1 (by decide) (x1, x2, L[n].2.2) (.int .i64 x2) _ n (by simpa using hn) (by simp [encV])) (List.length_set ..)
  obtain ⟨k3, t3⟩ := k2.cell hT (n * 3 + 2) (.int .i64 x3) (flat_setc lenV 2 (by decide) (x1, x2, x3) (.int .i64 x3) _ n (by simpa using hn) (by simp [encV])) (List.length_set ..)
  rw [List.set_set, List.set_set] at k3
  exact ⟨k3, (t1.more t2).more t3⟩
/-- A whole handle is stored. -/
theorem colH_put {L : List Hd} (hT : T ≠ 31) {g ln cs : Nat} (h : ColIs encH 31 2 T w M pa (.slice (some ⟨g, 0, none⟩) ln cs) L m) (n : Nat) (hn : n < L.length) (x1 x2 : Int) :
    ColIs encH 31 2 T ((w.setCell ⟨g, n * 2, none⟩ (.int .i64 x1)).setCell ⟨g, n * 2 + 1, none⟩ (.int .i64 x2)) M pa (.slice (some ⟨g, 0, none⟩) ln cs) (L.set n (x1, x2)) m ∧
      Tch M w ((w.setCell ⟨g, n * 2, none⟩ (.int .i64 x1)).setCell ⟨g, n * 2 + 1, none⟩ (.int .i64 x2)) := by
  obtain ⟨k1, t1⟩ := h.cell hT (n * 2) (.int .i64 x1) (flat_setc lenH 0 (by decide) (x1, L[n].2) (.int .i64 x1) L n hn rfl) (List.length_set ..)
  obtain ⟨k2, t2⟩ := k1.cell hT (n * 2 + 1) (.int .i64 x2) (flat_setc lenH 1 (by decide) (x1, x2) (.int .i64 x2) _ n (by simpa using hn) (by simp [encH])) (List.length_set ..)
  rw [List.set_set] at k2
  exact ⟨k2, t1.more t2⟩
end
end Go.Proofs.YtaehendpdfpibaaGreatDoor
