/-
  slices.Insert of one component: in place; onto a new row; all roads.
-/
import Derived.Test.YtbmclbajhgabgaaDoorVi
namespace Go.Proofs.YtbmclbajhgabgaaDoor
set_option linter.unusedSimpArgs false
set_option linter.unusedVariables false
open Go.RowKit Go.Sort Go.Lib Go.Shelf

set_option maxHeartbeats 4000000 in
set_option maxRecDepth 100000 in
/-- In place: there is room. -/
theorem insert_shift (l : List Vl) (i : Nat) (hi : i < l.length) (x : Vl) (g c vb : Nat) (cur : Array Value) (w : World) (hg : w.heap[g]? = some (.cells cur 23 (0, 0))) (hcs : cur.size = c * 3) (hroom : l.length + 1 ≤ c) (hc63 : c ≤ 9223372036854775807)
    (hcells : ∀ j u, (flat encV l)[j]? = some u → w.cell? ⟨g, j, none⟩ = some u) (hne : vb ≠ g) (hvb : w.heap[vb]? = some (.cells #[.int .i64 x.1, .int .i64 x.2.1, .int .i64 x.2.2] 23 (0, 0))) :
    Calls Tryd.prog 50 #[.slice (some ⟨g, 0, none⟩) l.length c, .int .i64 i, .slice (some ⟨vb, 0, none⟩) 1 1] w fun e w' =>
      e = .returned (.slice (some ⟨g, 0, none⟩) (l.length + 1) c) ∧ w' = (w.drew.setCells g ((i + 1) * 3) (flat encV (l.drop i))).setCells g (i * 3) (flat encV [x]) := by
  obtain ⟨n, hn⟩ : ∃ n, n = l.length := ⟨_, rfl⟩
  rw [← hn] at hi hroom ⊢
  have hz2 : ¬ ((i : Int) = (n : Int)) := by omega
  have mixed : Tryd.prog.follows .mixedOrders = true := by kernel_rfl
  have hov : ∀ o lb cb, (callFunc 64 #[.slice (some ⟨vb, 0, none⟩) 1 1, .slice (some ⟨g, o, none⟩) lb cb]).run Tryd.prog w = .ok (.value (.bool false)) w := fun o lb cb => overlaps_apart w g vb o lb cb hne _ _ hvb _ _ hg (by omega) 1 1
  have e3 : (flat encV (l.drop i)).length = (n - i) * 3 := by rw [flat_len lenV, List.length_drop, hn]
  have hall : ∀ j, j < c * 3 → (w.cell? ⟨g, j, none⟩).isSome = true := fun j hj => by simp [World.cell?, hg, hcs, hj]
  have hfz : ∀ j, w.frozen? ⟨g, j, none⟩ = false := fun j => by simp [World.frozen?, hg]
  have hb1 : (0 : Int) ≤ (i : Int) + 1 := by omega
  have hb3 : (i : Int) ≤ (n : Int) + 1 := by omega
  have hb5 : (i : Int) + 1 ≤ (n : Int) + 1 := by omega
  have hw1 : IntKind.i64.wrap ((i : Int) + 1) = (i : Int) + 1 := by rw [IntKind.wrap_i64]; omega
  have htn : ((i : Int) + 1).toNat = i + 1 := by omega
  have hb2 : ¬ (c = i + 1) := by omega
  have hb4 : ¬ (c = i) := by omega
  have hcp1 : ∀ ty dc sc, (Builtin.copy_ #[31, 31] ty #[.slice (some ⟨g, (i + 1) * 3, none⟩) (n - i) dc, .slice (some ⟨g, i * 3, none⟩) (n + 1 - i) sc]).run Tryd.prog w.drew = .ok (goInt (Nat.min (n + 1 - i) (n - i))) (w.drew.setCells g ((i + 1) * 3) (flat encV (l.drop i))) := fun ty dc sc =>
    run_copy_cellsK 3 w.drew _ _ ty 23 g ((i + 1) * 3) (n - i) dc ⟨g, i * 3, none⟩ (n + 1 - i) sc (flat encV (l.drop i)) Tryd.underlying31 infoV (by rw [e3]; congr 1; simp only [Nat.min_def]; split <;> omega)
      (fun j v hj => by
        rw [Addr.add_lit]
        rw [← flat_drop lenV, List.getElem?_drop] at hj
        exact hcells _ v hj)
      (fun j hj => hall _ (by omega)) (fun j hj => hfz _) (fun v hv => flat_one oneV _ v hv)
  obtain ⟨W1, hW1⟩ : ∃ W1, W1 = w.drew.setCells g ((i + 1) * 3) (flat encV (l.drop i)) := ⟨_, rfl⟩
  have hsp1 : ∀ k, k < c * 3 → (W1.cell? ⟨g, k, none⟩).isSome = true := fun k hk => by
    rw [hW1]
    exact isSome_setCells g (flat encV (l.drop i)) ((i + 1) * 3) w.drew (fun j hj => hall ((i + 1) * 3 + j) (by omega)) k (hall k hk)
  have hx1 : (flat encV [x]).length = 3 := by rw [flat_len lenV]; simp
  have hcp2 : ∀ (W : World), (∀ y, W.cell? y = W1.cell? y) → (∀ y, W.frozen? y = W1.frozen? y) → ∀ ty dc, (Builtin.copy_ #[31, 31] ty #[.slice (some ⟨g, i * 3, none⟩) (n + 1 - i) dc, .slice (some ⟨vb, 0, none⟩) 1 1]).run Tryd.prog W = .ok (goInt (Nat.min 1 (n + 1 - i))) (W.setCells g (i * 3) (flat encV [x])) := fun W hWc hWf ty dc =>
    run_copy_cellsK 3 W _ _ ty 23 g (i * 3) (n + 1 - i) dc ⟨vb, 0, none⟩ 1 1 (flat encV [x]) Tryd.underlying31 infoV (by rw [hx1]; simp only [Nat.min_def]; split <;> omega)
      (fun j v hj => by
        rw [Addr.add_lit, hWc, hW1, World.cell?_setCells_out g _ _ _ _ (fun h _ => absurd h hne)]
        have hj3 : j < 3 := by rw [← hx1]; exact (List.getElem?_eq_some_iff.1 hj).1
        simp only [Nat.zero_add]
        rw [World.cell?_drew]
        match j, hj3 with
        | 0, _ => simp [flat, encV] at hj; simp [World.cell?, hvb, hj]
        | 1, _ => simp [flat, encV] at hj; simp [World.cell?, hvb, hj]
        | 2, _ => simp [flat, encV] at hj; simp [World.cell?, hvb, hj])
      (fun j hj => by have hj3 : j < 3 := hx1 ▸ hj; rw [hWc]; exact hsp1 _ (by omega)) (fun j hj => by rw [hWf, hW1, World.frozen?_setCells]; exact hfz _) (fun v hv => flat_one oneV _ v hv)
  rw [← hW1] at hcp1 ⊢
  clear hall hfz hsp1 hcells hg hvb hcs e3 hn
  go_enter Tryd.func50, Tryd.ntmps50
  go_wp2_with (simp only [hov])
  go_region_law_o (refine step_copy_runI rfl _ _ 31 31 rfl (.slice (some ⟨g, (i + 1) * 3, none⟩) (n - i) (c - (i + 1))) (.slice (some ⟨g, i * 3, none⟩) (n + 1 - i) (c - i)) (by simp [Act.eval, Act.put]) (by simp [Act.eval, Act.put]) (hcp1 3 (c - (i + 1)) (c - i)) ?_)
  go_wp2_with (at_builtin; refine wpList_copy_runI _ rfl _ _ 31 31 rfl _ _ rfl rfl (hcp2 _ (fun _ => rfl) (fun _ => rfl) _ _) ?_)
  go_ret
  exact ⟨rfl, by rw [hW1]⟩

set_option maxHeartbeats 4000000 in
set_option maxRecDepth 100000 in
/-- Onto a new row: there is no room. -/
theorem insert_grow (l : List Vl) (i : Nat) (hi : i < l.length) (x : Vl) (g c vb : Nat) (w : World) (hgw : g < w.heap.size) (hnc : l.length ≤ c) (hroom : c < l.length + 1) (hlen : l.length ≤ 1000)
    (hcells : ∀ j u, (flat encV l)[j]? = some u → w.cell? ⟨g, j, none⟩ = some u) (hvb : w.heap[vb]? = some (.cells #[.int .i64 x.1, .int .i64 x.2.1, .int .i64 x.2.2] 23 (0, 0))) :
    Calls Tryd.prog 50 #[.slice (some ⟨g, 0, none⟩) l.length c, .int .i64 i, .slice (some ⟨vb, 0, none⟩) 1 1] w fun e w' =>
      ∃ (ROW : Array Value) (G : Nat), e = .returned (.slice (some ⟨w.heap.size, 0, none⟩) (l.length + 1) G) ∧ l.length + 1 ≤ G ∧ G ≤ maxLen ∧ ROW.size = G * 3 ∧ (∀ (j : Nat) (u : Value), (flat encV (l.take i))[j]? = some u → ROW[j]? = some u) ∧
        w' = (((w.alloc (.cells ROW 23)).drew.setCells w.heap.size (i * 3) (flat encV [x])).drew).setCells w.heap.size ((i + 1) * 3) (flat encV (l.drop i)) := by
  obtain ⟨n, hn⟩ : ∃ n, n = l.length := ⟨_, rfl⟩
  rw [← hn] at hi hnc hroom hlen ⊢
  have mixed : Tryd.prog.follows .mixedOrders = true := by kernel_rfl
  obtain ⟨i0, hi0, hz0, hzs, hzb⟩ := apV.hi
  have hz2 : ¬ ((i : Int) = (n : Int)) := by omega
  have hz3 : (c : Int) < (n : Int) + 1 := by omega
  have hvw : vb < w.heap.size := (Array.getElem?_eq_some_iff.1 hvb).1
  have hkk : (n : Int) + 1 - (i : Int) = ((n + 1 - i : Nat) : Int) := by omega
  have hik : i + (n + 1 - i) = n + 1 := by omega
  have e0 : (flat encV (l.take i)).length = i * 3 := by rw [flat_len lenV, List.length_take]; congr 1; omega
  have e3 : (flat encV (l.drop i)).length = (n - i) * 3 := by rw [flat_len lenV, List.length_drop, hn]
  have hx1 : (flat encV [x]).length = 3 := by rw [flat_len lenV]; simp
  have hold : (Builtin.firstCells i0.size i (.slice (some ⟨g, 0, none⟩) i c)).run Tryd.prog w.drew = .ok (flat encV (l.take i)).toArray w.drew := by
    rw [hzs]
    exact run_firstCells_some w.drew 3 i ⟨g, 0, none⟩ i c (flat encV (l.take i)) e0 (fun j v hj => by
      rw [Addr.add_lit]
      rw [← flat_take lenV, List.getElem?_take] at hj
      split at hj
      · rw [Nat.zero_add]; exact hcells j v hj
      · cases hj)
  obtain ⟨G, hG⟩ : ∃ G, G = grownCap w (n + 1) c 23 := ⟨_, rfl⟩
  obtain ⟨ROW, hROW⟩ : ∃ ROW : Array Value, ROW = (flat encV (l.take i)).toArray ++ Builtin.zeroCells (Value.agg #[.int .i64 0, .int .i64 0, .int .i64 0]).cells (n + 1 - i) ++ Builtin.zeroCells (Value.agg #[.int .i64 0, .int .i64 0, .int .i64 0]).cells (G - (n + 1)) := ⟨_, rfl⟩
  have hrz : ∀ ty, (Builtin.append_ #[31, 3] ty #[.slice (some ⟨g, 0, none⟩) i c, .int .i64 ((n : Int) + 1 - (i : Int))]).run Tryd.prog w = .ok (.slice (some ⟨w.heap.size, 0, none⟩) (n + 1) G) (w.drew.alloc (.cells ROW 23)) := fun ty => by
    have h := Lib.run_append_grow_zeros w 31 3 ty 23 i0 _ .i64 .i64 Tryd.underlying31 Tryd.underlying3 hi0 hz0 (some ⟨g, 0, none⟩) i c (flat encV (l.take i)) hold (n + 1 - i) (by omega) (by omega) (by omega) (by omega) (by rw [hzb]; omega) (by rw [hzb, hik]; exact growslice_fits hroom (by omega))
    rw [hik] at h
    rw [hkk, hROW, hG]
    exact h
  have hGn : n + 1 ≤ G := by rw [hG]; exact grownCap_ge w _ _ _
  have hGm : G ≤ maxLen := by rw [hG]; exact grownCap_le_maxLen w (n + 1) c 23 (by unfold maxLen; omega)
  have hG63 : G ≤ 9223372036854775807 := by unfold maxLen at hGm; omega
  have hzc : (Value.agg #[.int .i64 0, .int .i64 0, .int .i64 0]).cells.size = 3 := by decide
  have hRl : ROW.size = G * 3 := by
    rw [hROW]
    simp only [Array.size_append, List.size_toArray, e0, Builtin.zeroCells, Array.size_map, Array.size_range, hzc]
    omega
  have hRt : ∀ j u, (flat encV (l.take i))[j]? = some u → ROW[j]? = some u := fun j u hj => by
    have hlt := (List.getElem?_eq_some_iff.1 hj).1
    rw [hROW, Array.append_assoc, Array.getElem?_append_left (by simpa using hlt)]
    simpa using hj
  obtain ⟨W1, hW1⟩ : ∃ W1, W1 = w.drew.alloc (.cells ROW 23) := ⟨_, rfl⟩
  rw [← hW1] at hrz
  have hN : ∀ j, j < G * 3 → (W1.cell? ⟨w.heap.size, j, none⟩).isSome = true := fun j hj => by
    rw [hW1, World.cell?_alloc_at (w := w.drew) ROW _ w.heap.size j rfl, Array.getElem?_eq_getElem (by omega)]; rfl
  have hNf : ∀ j, W1.frozen? ⟨w.heap.size, j, none⟩ = false := fun j => by rw [hW1]; exact World.frozen?_alloc_at (w := w.drew) ROW _ w.heap.size j rfl
  have hOb : ∀ j v, w.cell? ⟨g, j, none⟩ = some v → W1.cell? ⟨g, j, none⟩ = some v := fun j v h => by rw [hW1, World.cell?_alloc_past (w := w.drew) _ g j hgw]; exact h
  have hOv : ∀ j v, (flat encV [x])[j]? = some v → W1.cell? ⟨vb, j, none⟩ = some v := fun j v hj => by
    rw [hW1, World.cell?_alloc_past (w := w.drew) _ vb j hvw, World.cell?_drew]
    have hj3 : j < 3 := hx1 ▸ (List.getElem?_eq_some_iff.1 hj).1
    match j, hj3 with
    | 0, _ => simp [flat, encV] at hj; simp [World.cell?, hvb, hj]
    | 1, _ => simp [flat, encV] at hj; simp [World.cell?, hvb, hj]
    | 2, _ => simp [flat, encV] at hj; simp [World.cell?, hvb, hj]
  have hcpA : ∀ (W : World), (∀ y, W.cell? y = W1.cell? y) → (∀ y, W.frozen? y = W1.frozen? y) → ∀ ty dc, (Builtin.copy_ #[31, 31] ty #[.slice (some ⟨w.heap.size, i * 3, none⟩) (n + 1 - i) dc, .slice (some ⟨vb, 0, none⟩) 1 1]).run Tryd.prog W = .ok (goInt (Nat.min 1 (n + 1 - i))) (W.setCells w.heap.size (i * 3) (flat encV [x])) := fun W hWc hWf ty dc =>
    run_copy_cellsK 3 W _ _ ty 23 w.heap.size (i * 3) (n + 1 - i) dc ⟨vb, 0, none⟩ 1 1 (flat encV [x]) Tryd.underlying31 infoV (by rw [hx1]; simp only [Nat.min_def]; split <;> omega)
      (fun j v hj => by rw [Addr.add_lit, hWc, Nat.zero_add]; exact hOv j v hj)
      (fun j hj => by have hj3 : j < 3 := hx1 ▸ hj; rw [hWc]; exact hN _ (by omega)) (fun j hj => by rw [hWf]; exact hNf _) (fun v hv => flat_one oneV _ v hv)
  have hGi : ¬ (G = i) := by omega
  have hGim : ¬ (G = i + 1) := by omega
  have hci : ¬ (c = i) := by omega
  have hbN : g ≠ w.heap.size := by omega
  have hcpB : ∀ (W : World), (∀ y, W.cell? y = (W1.setCells w.heap.size (i * 3) (flat encV [x])).cell? y) → (∀ y, W.frozen? y = W1.frozen? y) → ∀ ty dc sc, (Builtin.copy_ #[31, 31] ty #[.slice (some ⟨w.heap.size, (i + 1) * 3, none⟩) (n - i) dc, .slice (some ⟨g, i * 3, none⟩) (n - i) sc]).run Tryd.prog W = .ok (goInt (Nat.min (n - i) (n - i))) (W.setCells w.heap.size ((i + 1) * 3) (flat encV (l.drop i))) := fun W hWc hWf ty dc sc =>
    run_copy_cellsK 3 W _ _ ty 23 w.heap.size ((i + 1) * 3) (n - i) dc ⟨g, i * 3, none⟩ (n - i) sc (flat encV (l.drop i)) Tryd.underlying31 infoV (by rw [e3]; congr 1; simp only [Nat.min_def]; split <;> omega)
      (fun j v hj => by
        rw [Addr.add_lit, hWc, World.cell?_setCells_out _ _ _ _ _ (fun h _ => absurd h hbN)]
        rw [← flat_drop lenV, List.getElem?_drop] at hj
        exact hOb _ v (hcells _ v hj))
      (fun j hj => by rw [hWc]; exact isSome_setCells w.heap.size (flat encV [x]) (i * 3) W1 (fun t ht => by have ht3 : t < 3 := hx1 ▸ ht; exact hN (i * 3 + t) (by omega)) ((i + 1) * 3 + j) (hN ((i + 1) * 3 + j) (by rw [e3] at hj; omega)))
      (fun j hj => by rw [hWf]; exact hNf _) (fun v hv => flat_one oneV _ v hv)
  subst hW1
  have hE1 : ∀ x, ((w.alloc (.cells ROW 23)).drew).cell? x = (w.drew.alloc (.cells ROW 23)).cell? x := fun x => rfl
  have hE2 : ∀ x, ((w.alloc (.cells ROW 23)).drew).frozen? x = (w.drew.alloc (.cells ROW 23)).frozen? x := fun x => rfl
  have hF1 : ∀ y, (((w.alloc (.cells ROW 23)).drew.setCells w.heap.size (i * 3) (flat encV [x])).drew).cell? y = ((w.drew.alloc (.cells ROW 23)).setCells w.heap.size (i * 3) (flat encV [x])).cell? y := fun y => rfl
  have hF2 : ∀ y, (((w.alloc (.cells ROW 23)).drew.setCells w.heap.size (i * 3) (flat encV [x])).drew).frozen? y = (w.drew.alloc (.cells ROW 23)).frozen? y := fun y => by
    rw [show (((w.alloc (.cells ROW 23)).drew.setCells w.heap.size (i * 3) (flat encV [x])).drew).frozen? y = ((w.alloc (.cells ROW 23)).drew.setCells w.heap.size (i * 3) (flat encV [x])).frozen? y from rfl, World.frozen?_setCells]
    rfl
  have hw1 : IntKind.i64.wrap ((i : Int) + 1) = (i : Int) + 1 := by rw [IntKind.wrap_i64]; omega
  have hb1 : (0 : Int) ≤ (i : Int) + 1 := by omega
  have hb5 : (i : Int) + 1 ≤ (n : Int) + 1 := by omega
  have hb6 : (i : Int) ≤ (n : Int) + 1 := by omega
  have hin : i ≤ n := by omega
  have htn : ((i : Int) + 1).toNat = i + 1 := by omega
  have hb3 : (i : Int) ≤ (n : Int) := by omega
  have HRES := Lib.hid (show n + 1 ≤ G ∧ G ≤ maxLen ∧ ROW.size = G * 3 ∧ (∀ (j : Nat) (u : Value), (flat encV (l.take i))[j]? = some u → ROW[j]? = some u) from ⟨hGn, hGm, hRl, hRt⟩)
  clear hkk hik hold hROW hG hRl hRt hN hNf hOb hOv hn hcells e0 e3 hx1 hGm hzc hvb hi0 hz0 hzs hzb
  go_enter Tryd.func50, Tryd.ntmps50
  go_wp2_with (first
    | (at_builtin; refine Lib.wpList_append_run _ rfl _ _ _ _ rfl _ _ rfl rfl _ _ (hrz _) ?_)
    | (at_builtin; refine wpList_copy_runI _ rfl _ _ 31 31 rfl _ _ rfl rfl (hcpA _ hE1 hE2 _ _) ?_))
  go_region_law_o (refine step_copy_runI rfl _ _ 31 31 rfl (.slice (some ⟨w.heap.size, (i + 1) * 3, none⟩) (n - i) (G - (i + 1))) (.slice (some ⟨g, i * 3, none⟩) (n - i) (c - i)) (by simp [Act.eval, Act.put]) (by simp [Act.eval, Act.put]) (hcpB _ hF1 hF2 3 (G - (i + 1)) (c - i)) ?_)
  go_wp2
  go_ret
  exact ⟨ROW, G, rfl, HRES.out.1, HRES.out.2.1, HRES.out.2.2.1, HRES.out.2.2.2, rfl⟩

theorem sets_drew (b : Nat) (vs : List Value) (o : Nat) (w : World) : (w.setCells b o vs).drew = w.drew.setCells b o vs := drew_setCells b vs o w

set_option maxHeartbeats 1000000 in
/-- ALL ROADS. -/
theorem insertV_call (l : List Vl) (i : Nat) (hi : i ≤ l.length) (x : Vl) (base : Nat) (v : Value) (vb : Nat) (w : World) (hown : w.ownsRow base 23 3 v l.length (flat encV l)) (hvb : w.heap[vb]? = some (.cells #[.int .i64 x.1, .int .i64 x.2.1, .int .i64 x.2.2] 23 (0, 0)))
    (hne : ∀ g, v.ownBlock = some g → g ≠ vb) (hlen : l.length ≤ 1000) (hbase : base ≤ w.heap.size) :
    Calls Tryd.prog 50 #[v, .int .i64 i, .slice (some ⟨vb, 0, none⟩) 1 1] w fun e w' => ∃ v', e = .returned v' ∧ w'.ownsRow base 23 3 v' (l.length + 1) (flat encV (l.take i ++ [x] ++ l.drop i)) ∧ RowKit.Below base w w' := by
  rcases Nat.eq_or_lt_of_le hi with rfl | hi
  · rw [List.take_length, List.drop_length, List.append_nil]
    refine insert_end l x base v _ w hown ⟨_, 1, rfl, Nat.le_refl _, by unfold maxLen; omega, fun _ => ⟨vb, 0, rfl, (Array.getElem?_eq_some_iff.1 hvb).1, fun j u hu => ?_⟩⟩ hlen hbase
    have hx1 : (flat encV [x]).length = 3 := by rw [flat_len lenV]; simp
    have hj3 : j < 3 := hx1 ▸ (List.getElem?_eq_some_iff.1 hu).1
    match j, hj3 with
    | 0, _ => simp [flat, encV] at hu; simp [World.cell?, hvb, hu]
    | 1, _ => simp [flat, encV] at hu; simp [World.cell?, hvb, hu]
    | 2, _ => simp [flat, encV] at hu; simp [World.cell?, hvb, hu]
  · have hcells : ∀ g cap, v = .slice (some ⟨g, 0, none⟩) l.length cap → ∀ j u, (flat encV l)[j]? = some u → w.cell? ⟨g, j, none⟩ = some u := fun g cap e j u hu => by
      subst e
      have := cellsI hown j u hu
      rwa [Nat.zero_add] at this
    rcases hown.2 with ⟨_, h0⟩ | ⟨g, c, cur, rfl, hb, hg, hc, hm, hs, _⟩
    · omega
    have hcl := hcells g c rfl
    have hlt : (l.take i ++ [x] ++ l.drop i).length = l.length + 1 := by simp; omega
    by_cases hroom : l.length + 1 ≤ c
    · refine (insert_shift l i hi x g c vb cur w hg hs hroom (by unfold maxLen at hm; omega) hcl (hne g rfl).symm hvb).mono ?_
      rintro e w' ⟨rfl, rfl⟩
      refine ⟨_, rfl, ?_, Below.setCells (Below.setCells (Below.refl base w).drew hb _ _) hb _ _⟩
      obtain ⟨cur', hg', hs'⟩ := (Shp.sets g g (flat encV (l.drop i)) ((i + 1) * 3) w.drew).trans (Shp.sets g g (flat encV [x]) (i * 3) _) cur 23 (0, 0) hg
      have := row_of_cells lenV (base := base) (l.take i ++ [x] ++ l.drop i) hg' hb (by rw [hs', hs]) (by rw [hlt]; exact hroom) hm (fun j u hu => (insert_cells lenV (w := w.drew) x (by omega) (fun j u hj => by
        rw [← flat_take lenV, List.getElem?_take] at hj
        split at hj
        · exact hcl j u hj
        · cases hj) (fun j hj => by
          show (w.cell? _).isSome = true
          have hj2 : j < cur.size := by rw [hs]; omega
          simp [World.cell?, hg, hj2]) j u hu).1)
      rwa [hlt] at this
    · refine (insert_grow l i hi x g c vb w (Array.getElem?_eq_some_iff.1 hg).1 hc (by omega) hlen hcl hvb).mono ?_
      rintro e w' ⟨ROW, G, rfl, hG1, hG2, hG3, hG4, rfl⟩
      have hb2 : base ≤ w.heap.size := hbase
      refine ⟨_, rfl, ?_, ?_⟩
      · rw [sets_drew]
        obtain ⟨cur', hg', hs'⟩ := (Shp.sets w.heap.size w.heap.size (flat encV [x]) (i * 3) (w.alloc (.cells ROW 23)).drew.drew).trans (Shp.sets w.heap.size w.heap.size (flat encV (l.drop i)) ((i + 1) * 3) _) ROW 23 (0, 0) (show (w.heap.push (.cells ROW 23))[w.heap.size]? = some _ from Array.getElem?_push_size)
        have := row_of_cells lenV (base := base) (l.take i ++ [x] ++ l.drop i) hg' hb2 (by rw [hs', hG3]) (by rw [hlt]; exact hG1) hG2 (fun j u hu => (insert_cells lenV (w := (w.alloc (.cells ROW 23)).drew.drew) x (by omega) (fun j u hj => by
          show ((w.alloc (.cells ROW 23)).cell? _) = _
          rw [World.cell?_alloc_at (w := w) ROW _ w.heap.size j rfl]
          exact hG4 j u hj) (fun j hj => by
          show ((w.alloc (.cells ROW 23)).cell? _).isSome = true
          rw [World.cell?_alloc_at (w := w) ROW _ w.heap.size j rfl, Array.getElem?_eq_getElem (by omega)]; rfl) j u hu).2)
        rwa [hlt] at this
      · refine Below.setCells ?_ hb2 _ _
        have h0 : RowKit.Below base w (w.alloc (.cells ROW 23)).drew := ((Below.refl base w).alloc hb2 _).drew
        exact (Below.setCells h0 hb2 _ _).drew
end Go.Proofs.YtbmclbajhgabgaaDoor
