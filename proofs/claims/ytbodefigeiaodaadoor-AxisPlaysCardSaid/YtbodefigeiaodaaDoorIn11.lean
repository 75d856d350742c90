/-
  slices.Insert of one end: at the end; in place; onto a new row; all roads.
-/
import Derived.Test.YtbodefigeiaodaaDoorAx11
import Derived.Test.YtbodefigeiaodaaDoorCompP
import Derived.Shelf.Spec.SlicesInsertGrow
namespace Go.Proofs.YtbodefigeiaodaaDoor
set_option linter.unusedSimpArgs false
set_option linter.unusedVariables false
open Go.RowKit Go.Sort Go.Lib Go.Shelf

def Shp (g : Nat) (w w' : World) : Prop := ∀ cur et fr, w.heap[g]? = some (.cells cur et fr) → ∃ cur', w'.heap[g]? = some (.cells cur' et fr) ∧ cur'.size = cur.size
theorem Shp.refl (g : Nat) (w : World) : Shp g w w := fun cur _ _ h => ⟨cur, h, rfl⟩
theorem Shp.trans {g : Nat} {a b c : World} (h : Shp g a b) (k : Shp g b c) : Shp g a c := fun cur et fr hc => by
  obtain ⟨c1, h1, e1⟩ := h cur et fr hc
  obtain ⟨c2, h2, e2⟩ := k c1 et fr h1
  exact ⟨c2, h2, e2.trans e1⟩
theorem Shp.below {g : Nat} {w w' : World} (h : RowKit.Below w.heap.size w w') (hg : g < w.heap.size) : Shp g w w' := fun cur _ _ hc => ⟨cur, (h.block g hg).trans hc, rfl⟩
theorem Shp.set (g : Nat) (w : World) (p : Addr) (u : Value) : Shp g w (w.setCell p u) := fun cur et fr hc => by
  by_cases e : g = p.block
  · subst e
    refine ⟨if p.spot.isSome then cur else cur.setIfInBounds p.off u, ?_, ?_⟩
    · simp [World.setCell, Array.getElem?_modify, hc]
    · split <;> simp
  · exact ⟨cur, (heap_setCell_other w p g u e).trans hc, rfl⟩
theorem Shp.sets (g b : Nat) : ∀ (vs : List Value) (o : Nat) (w : World), Shp g w (w.setCells b o vs)
  | [], _, w => Shp.refl g w
  | v :: r, o, w => (Shp.set g w ⟨b, o, none⟩ v).trans (Shp.sets g b r (o + 1) _)

/-- 'copy(dst, src)' over elements of k cells. -/
theorem run_copy_cellsK {P : Program} (k : Nat) (w : World) (dT sT ty elem : TypeId) (b o dLen dCap : Nat) (a : Addr) (sLen sCap : Nat) (cs : List Value)
    (hu : P.underlying dT = some (.slice elem)) (hs : (P.info? elem).map (·.size) = some k) (hn : cs.length = Nat.min sLen dLen * k)
    (hsrc : ∀ j v, cs[j]? = some v → w.cell? (a.add j) = some v) (hc : ∀ j, j < cs.length → (w.cell? ⟨b, o + j, none⟩).isSome = true) (hf : ∀ j, j < cs.length → w.frozen? ⟨b, o + j, none⟩ = false) (h1 : ∀ v ∈ cs, v.oneCell' = true) :
    (Builtin.copy_ #[dT, sT] ty #[.slice (some ⟨b, o, none⟩) dLen dCap, .slice (some a) sLen sCap]).run P w = .ok (goInt (Nat.min sLen dLen)) (w.setCells b o cs) := by
  have hl := run_loadCells_list (P := P) w a cs hsrc
  have hst := run_storeCells_cells (P := P) b o cs 0 w (by simpa using hc) (by simpa using hf) h1
  cases hq : P.info? elem with
  | none => simp [hq] at hs
  | some i =>
    have hi : i.size = k := by simpa [hq] using hs
    rw [hn] at hl
    simp [Builtin.copy_, run_underlying hu, Builtin.lenOf, Builtin.firstCells, sizeOf, typeInfo, hq, hi, hl, hst]

section
variable {α : Type} {enc : α → List Value} {k : Nat}
/-- A row out of its block's cells. -/
theorem row_of_cells (hk : ∀ x, (enc x).length = k) {w : World} {base et g cap : Nat} {cur : Array Value} (L : List α) (hg : w.heap[g]? = some (.cells cur et (0, 0))) (hb : base ≤ g) (hs : cur.size = cap * k) (hc : L.length ≤ cap) (hm : cap ≤ maxLen)
    (h : ∀ j u, (flat enc L)[j]? = some u → w.cell? ⟨g, j, none⟩ = some u) : w.ownsRow base et k (.slice (some ⟨g, 0, none⟩) L.length cap) L.length (flat enc L) := by
  refine ⟨flat_len hk L, .inr ⟨g, cap, cur, rfl, hb, hg, hc, hm, hs, ?_⟩⟩
  apply List.ext_getElem?
  intro j
  have hle : L.length * k ≤ cap * k := Nat.mul_le_mul_right k hc
  rw [List.getElem?_take]
  split
  · rename_i hj
    have hj' : j < (flat enc L).length := by rw [flat_len hk]; exact hj
    have := h j _ (List.getElem?_eq_getElem hj')
    rw [List.getElem?_eq_getElem hj', ← this]
    simp [World.cell?, hg]
  · rename_i hj
    rw [List.getElem?_eq_none (by rw [flat_len hk]; omega)]
/-- The cells behind both copies. -/
theorem insert_cells (hk : ∀ x, (enc x).length = k) {w : World} {g i : Nat} {l : List α} (x : α) (hi : i ≤ l.length) (hold : ∀ j u, (flat enc (l.take i))[j]? = some u → w.cell? ⟨g, j, none⟩ = some u)
    (hsome : ∀ j, j < (l.length + 1) * k → (w.cell? ⟨g, j, none⟩).isSome = true) :
    ∀ j u, (flat enc (l.take i ++ [x] ++ l.drop i))[j]? = some u → ((w.setCells g ((i + 1) * k) (flat enc (l.drop i))).setCells g (i * k) (flat enc [x])).cell? ⟨g, j, none⟩ = some u ∧ ((w.setCells g (i * k) (flat enc [x])).setCells g ((i + 1) * k) (flat enc (l.drop i))).cell? ⟨g, j, none⟩ = some u := by
  intro j u hu
  have e1 : (flat enc (l.take i)).length = i * k := by rw [flat_len hk, List.length_take]; congr 1; omega
  have e2 : (flat enc [x]).length = k := by rw [flat_len hk]; simp
  have e3 : (flat enc (l.drop i)).length = (l.length - i) * k := by rw [flat_len hk, List.length_drop]
  have e4 : (i + 1) * k = i * k + k := by rw [Nat.add_mul, Nat.one_mul]
  have e5 : (l.length + 1) * k = i * k + k + (l.length - i) * k := by rw [← e4, ← Nat.add_mul]; congr 1; omega
  rw [flat_append, flat_append] at hu
  have hs1 : ∀ t, t < (flat enc (l.drop i)).length → (w.cell? ⟨g, (i + 1) * k + t, none⟩).isSome = true := fun t ht => hsome _ (by omega)
  have hs2 : ∀ t, t < (flat enc [x]).length → (w.cell? ⟨g, i * k + t, none⟩).isSome = true := fun t ht => hsome _ (by omega)
  rcases Nat.lt_or_ge j (i * k) with h1 | h1
  · rw [List.getElem?_append_left (by simp; omega), List.getElem?_append_left (by omega)] at hu
    constructor
    · rw [World.cell?_setCells_out _ _ _ _ _ (fun _ _ => .inl h1), World.cell?_setCells_out _ _ _ _ _ (fun _ _ => .inl (by show j < _; omega))]
      exact hold j u hu
    · rw [World.cell?_setCells_out _ _ _ _ _ (fun _ _ => .inl (by show j < _; omega)), World.cell?_setCells_out _ _ _ _ _ (fun _ _ => .inl h1)]
      exact hold j u hu
  · rcases Nat.lt_or_ge j (i * k + k) with h2 | h2
    · rw [List.getElem?_append_left (by simp; omega), List.getElem?_append_right (by omega), e1] at hu
      obtain ⟨ht, rfl⟩ := List.getElem?_eq_some_iff.1 hu
      constructor
      · have := World.cell?_setCells_in g (flat enc [x]) (i * k) (w.setCells g ((i + 1) * k) (flat enc (l.drop i))) (fun t ht => isSome_setCells g _ _ _ hs1 _ (hs2 t ht)) (j - i * k) ht
        rwa [show i * k + (j - i * k) = j by omega] at this
      · rw [World.cell?_setCells_out _ _ _ _ _ (fun _ _ => .inl (by show j < _; omega))]
        have := World.cell?_setCells_in g (flat enc [x]) (i * k) w hs2 (j - i * k) ht
        rwa [show i * k + (j - i * k) = j by omega] at this
    · rw [List.getElem?_append_right (by simp; omega)] at hu
      rw [List.length_append, e1, e2] at hu
      obtain ⟨ht, rfl⟩ := List.getElem?_eq_some_iff.1 hu
      constructor
      · rw [World.cell?_setCells_out _ _ _ _ _ (fun _ _ => .inr (by show _ ≤ j; omega))]
        have := World.cell?_setCells_in g (flat enc (l.drop i)) ((i + 1) * k) w hs1 (j - (i * k + k)) ht
        rwa [show (i + 1) * k + (j - (i * k + k)) = j by omega] at this
      · have := World.cell?_setCells_in g (flat enc (l.drop i)) ((i + 1) * k) (w.setCells g (i * k) (flat enc [x])) (fun t ht => isSome_setCells g _ _ _ hs2 _ (hs1 t ht)) (j - (i * k + k)) ht
        rwa [show (i + 1) * k + (j - (i * k + k)) = j by omega] at this
end

theorem infoE : (Tryd.prog.info? 55).map (·.size) = some 4 := by
  obtain ⟨i, hi, _, hs, _⟩ := apE.hi
  rw [hi]
  simp [hs]
theorem overlaps_apart (w : World) (g vb o lb cb : Nat) (hne : vb ≠ g) (cs : Array Value) (t : Nat) (hvb : w.heap[vb]? = some (.cells cs t (0, 0))) (cur : Array Value) (t2 : Nat) (hg : w.heap[g]? = some (.cells cur t2 (0, 0))) (hs : cur.size ≠ 0) (la ca : Nat) :
    (callFunc 55 #[.slice (some ⟨vb, 0, none⟩) la ca, .slice (some ⟨g, o, none⟩) lb cb]).run Tryd.prog w = .ok (.value (.bool false)) w := by
  rw [run_callFunc_extern Tryd.func55 (by kernel_rfl) (by kernel_rfl) (by kernel_rfl) (e := Extern.SlicesOverlaps.overlaps #[44, 44] #[4]) (by kernel_rfl),
    Lib.run_overlaps_apart w 44 4 55 Tryd.underlying44 4 Tryd.sizeOf55 ⟨vb, 0, none⟩ ⟨g, o, none⟩ la ca lb cb hne t t2 cs.size cur.size (by simp [World.shape?, hvb]) (by simp [World.shape?, hg]) hs (by simp [World.frozen?, hvb]) (by simp [World.frozen?, hvb])]
  rfl

set_option maxHeartbeats 2000000 in
set_option maxRecDepth 100000 in
/-- At the end. -/
theorem insert_end {M : Nat → Prop} {v : Value} (hM : ∀ g, v.ownBlock = some g → M g) (l : List En) (x : En) (vx : Value) (w : World) (hown : w.ownsRow 0 55 4 v l.length (flat encE l)) (hX : Sl encE w vx [x]) (hlen : l.length ≤ 1000) :
    Calls Tryd.prog 37 #[v, .int .i64 l.length, vx] w fun e w' => ∃ v', e = .returned v' ∧ RowAt encE 55 4 w' (New M w w') v' (l ++ [x]) ∧ Tch M w w' := by
  have e1 : (l ++ [x]).length = l.length + 1 := by simp
  have E1 := Lib.hid e1
  clear e1
  obtain ⟨p, c, rfl, hc, hcm, _⟩ := row_val hown
  have hc63 : c ≤ 9223372036854775807 := by unfold maxLen at hcm; omega
  obtain ⟨px, cx, rfl, hcx, hcxm, _⟩ := id hX
  have HO := Lib.hid hown
  have HM := Lib.hid hM
  have HX := Lib.hid hX
  clear hown hX hcm hcxm hM
  cases p with
  | none =>
    go_enter Tryd.func37, Tryd.ntmps37
    go_wp2_with (at_builtin; refine wpl_app2 apE rfl _ _ rfl 0 (by rfl) (by rfl) HO.out rfl HX.out (by simp; omega) (Nat.zero_le _) ?_; intro v' w' hw1 hw2 hw3 hw4)
    go_ret
    exact ⟨v', rfl, row_grown HM.out (by first | exact hw1 | (rw [E1.out]; exact hw1) | exact E1.out ▸ hw1) hw2 hw3⟩
  | some ad =>
    obtain ⟨ab, ao, asp⟩ := ad
    go_enter Tryd.func37, Tryd.ntmps37
    go_wp2_with (at_builtin; refine wpl_app2 apE rfl _ _ rfl 0 (by rfl) (by rfl) HO.out rfl HX.out (by simp; omega) (Nat.zero_le _) ?_; intro v' w' hw1 hw2 hw3 hw4)
    all_goals (go_ret; exact ⟨v', rfl, row_grown HM.out (by first | exact hw1 | (rw [E1.out]; exact hw1) | exact E1.out ▸ hw1) hw2 hw3⟩)
set_option maxHeartbeats 4000000 in
set_option maxRecDepth 100000 in
/-- In place: there is room. -/
theorem insert_shift (l : List En) (i : Nat) (hi : i < l.length) (x : En) (g c vb : Nat) (cur : Array Value) (w : World) (hg : w.heap[g]? = some (.cells cur 55 (0, 0))) (hcs : cur.size = c * 4) (hroom : l.length + 1 ≤ c) (hc63 : c ≤ 9223372036854775807)
    (hcells : ∀ j u, (flat encE l)[j]? = some u → w.cell? ⟨g, j, none⟩ = some u) (hne : vb ≠ g) (hvb : w.heap[vb]? = some (.cells #[.int .i64 x.1, .bool x.2.1, .int .i64 x.2.2.1, .int .i64 x.2.2.2] 55 (0, 0))) :
    Calls Tryd.prog 37 #[.slice (some ⟨g, 0, none⟩) l.length c, .int .i64 i, .slice (some ⟨vb, 0, none⟩) 1 1] w fun e w' =>
      e = .returned (.slice (some ⟨g, 0, none⟩) (l.length + 1) c) ∧ w' = (w.drew.setCells g ((i + 1) * 4) (flat encE (l.drop i))).setCells g (i * 4) (flat encE [x]) := by
  obtain ⟨n, hn⟩ : ∃ n, n = l.length := ⟨_, rfl⟩
  rw [← hn] at hi hroom ⊢
  have hz2 : ¬ ((i : Int) = (n : Int)) := by omega
  have mixed : Tryd.prog.follows .mixedOrders = true := by kernel_rfl
  have hov : ∀ o lb cb, (callFunc 55 #[.slice (some ⟨vb, 0, none⟩) 1 1, .slice (some ⟨g, o, none⟩) lb cb]).run Tryd.prog w = .ok (.value (.bool false)) w := fun o lb cb => overlaps_apart w g vb o lb cb hne _ _ hvb _ _ hg (by omega) 1 1
  have e3 : (flat encE (l.drop i)).length = (n - i) * 4 := by rw [flat_len lenE, List.length_drop, hn]
  have hall : ∀ j, j < c * 4 → (w.cell? ⟨g, j, none⟩).isSome = true := fun j hj => by simp [World.cell?, hg, hcs, hj]
  have hfz : ∀ j, w.frozen? ⟨g, j, none⟩ = false := fun j => by simp [World.frozen?, hg]
  have hb1 : (0 : Int) ≤ (i : Int) + 1 := by omega
  have hb3 : (i : Int) ≤ (n : Int) + 1 := by omega
  have hb5 : (i : Int) + 1 ≤ (n : Int) + 1 := by omega
  have hw1 : IntKind.i64.wrap ((i : Int) + 1) = (i : Int) + 1 := by rw [IntKind.wrap_i64]; omega
  have htn : ((i : Int) + 1).toNat = i + 1 := by omega
  have hb2 : ¬ (c = i + 1) := by omega
  have hb4 : ¬ (c = i) := by omega
  have hcp1 : ∀ ty dc sc, (Builtin.copy_ #[44, 44] ty #[.slice (some ⟨g, (i + 1) * 4, none⟩) (n - i) dc, .slice (some ⟨g, i * 4, none⟩) (n + 1 - i) sc]).run Tryd.prog w.drew = .ok (goInt (Nat.min (n + 1 - i) (n - i))) (w.drew.setCells g ((i + 1) * 4) (flat encE (l.drop i))) := fun ty dc sc =>
    run_copy_cellsK 4 w.drew _ _ ty 55 g ((i + 1) * 4) (n - i) dc ⟨g, i * 4, none⟩ (n + 1 - i) sc (flat encE (l.drop i)) Tryd.underlying44 infoE (by rw [e3]; congr 1; simp only [Nat.min_def]; split <;> omega)
      (fun j v hj => by
        rw [Addr.add_lit]
        rw [← flat_drop lenE, List.getElem?_drop] at hj
        exact hcells _ v hj)
      (fun j hj => hall _ (by omega)) (fun j hj => hfz _) (fun v hv => flat_one oneE _ v hv)
  obtain ⟨W1, hW1⟩ : ∃ W1, W1 = w.drew.setCells g ((i + 1) * 4) (flat encE (l.drop i)) := ⟨_, rfl⟩
  have hsp1 : ∀ k, k < c * 4 → (W1.cell? ⟨g, k, none⟩).isSome = true := fun k hk => by
    rw [hW1]
    exact isSome_setCells g (flat encE (l.drop i)) ((i + 1) * 4) w.drew (fun j hj => hall ((i + 1) * 4 + j) (by omega)) k (hall k hk)
  have hx1 : (flat encE [x]).length = 4 := by rw [flat_len lenE]; simp
  have hcp2 : ∀ (W : World), (∀ y, W.cell? y = W1.cell? y) → (∀ y, W.frozen? y = W1.frozen? y) → ∀ ty dc, (Builtin.copy_ #[44, 44] ty #[.slice (some ⟨g, i * 4, none⟩) (n + 1 - i) dc, .slice (some ⟨vb, 0, none⟩) 1 1]).run Tryd.prog W = .ok (goInt (Nat.min 1 (n + 1 - i))) (W.setCells g (i * 4) (flat encE [x])) := fun W hWc hWf ty dc =>
    run_copy_cellsK 4 W _ _ ty 55 g (i * 4) (n + 1 - i) dc ⟨vb, 0, none⟩ 1 1 (flat encE [x]) Tryd.underlying44 infoE (by rw [hx1]; simp only [Nat.min_def]; split <;> omega)
      (fun j v hj => by
        rw [Addr.add_lit, hWc, hW1, World.cell?_setCells_out g _ _ _ _ (fun h _ => absurd h hne)]
        have hj3 : j < 4 := by rw [← hx1]; exact (List.getElem?_eq_some_iff.1 hj).1
        simp only [Nat.zero_add]
        rw [World.cell?_drew]
        match j, hj3 with
        | 0, _ => simp [flat, encE] at hj; simp [World.cell?, hvb, hj]
        | 1, _ => simp [flat, encE] at hj; simp [World.cell?, hvb, hj]
        | 2, _ => simp [flat, encE] at hj; simp [World.cell?, hvb, hj]
        | 3, _ => simp [flat, encE] at hj; simp [World.cell?, hvb, hj])
      (fun j hj => by have hj3 : j < 4 := hx1 ▸ hj; rw [hWc]; exact hsp1 _ (by omega)) (fun j hj => by rw [hWf, hW1, World.frozen?_setCells]; exact hfz _) (fun v hv => flat_one oneE _ v hv)
  rw [← hW1] at hcp1 ⊢
  clear hall hfz hsp1 hcells hg hvb hcs e3 hn
  go_enter Tryd.func37, Tryd.ntmps37
  go_wp2_with (simp only [hov])
  go_region_law_o (refine step_copy_runI rfl _ _ 44 44 rfl (.slice (some ⟨g, (i + 1) * 4, none⟩) (n - i) (c - (i + 1))) (.slice (some ⟨g, i * 4, none⟩) (n + 1 - i) (c - i)) (by simp [Act.eval, Act.put]) (by simp [Act.eval, Act.put]) (hcp1 3 (c - (i + 1)) (c - i)) ?_)
  go_wp2_with (at_builtin; refine wpList_copy_runI _ rfl _ _ 44 44 rfl _ _ rfl rfl (hcp2 _ (fun _ => rfl) (fun _ => rfl) _ _) ?_)
  go_ret
  exact ⟨rfl, by rw [hW1]⟩

set_option maxHeartbeats 4000000 in
set_option maxRecDepth 100000 in
/-- Onto a new row: there is no room. -/
theorem insert_grow (l : List En) (i : Nat) (hi : i < l.length) (x : En) (g c vb : Nat) (w : World) (hgw : g < w.heap.size) (hnc : l.length ≤ c) (hroom : c < l.length + 1) (hlen : l.length ≤ 1000)
    (hcells : ∀ j u, (flat encE l)[j]? = some u → w.cell? ⟨g, j, none⟩ = some u) (hvb : w.heap[vb]? = some (.cells #[.int .i64 x.1, .bool x.2.1, .int .i64 x.2.2.1, .int .i64 x.2.2.2] 55 (0, 0))) :
    Calls Tryd.prog 37 #[.slice (some ⟨g, 0, none⟩) l.length c, .int .i64 i, .slice (some ⟨vb, 0, none⟩) 1 1] w fun e w' =>
      ∃ (ROW : Array Value) (G : Nat), e = .returned (.slice (some ⟨w.heap.size, 0, none⟩) (l.length + 1) G) ∧ l.length + 1 ≤ G ∧ G ≤ maxLen ∧ ROW.size = G * 4 ∧ (∀ (j : Nat) (u : Value), (flat encE (l.take i))[j]? = some u → ROW[j]? = some u) ∧
        w' = (((w.alloc (.cells ROW 55)).drew.setCells w.heap.size (i * 4) (flat encE [x])).drew).setCells w.heap.size ((i + 1) * 4) (flat encE (l.drop i)) := by
  obtain ⟨n, hn⟩ : ∃ n, n = l.length := ⟨_, rfl⟩
  rw [← hn] at hi hnc hroom hlen ⊢
  have mixed : Tryd.prog.follows .mixedOrders = true := by kernel_rfl
  obtain ⟨i0, hi0, hz0, hzs, hzb⟩ := apE.hi
  have hz2 : ¬ ((i : Int) = (n : Int)) := by omega
  have hz3 : (c : Int) < (n : Int) + 1 := by omega
  have hvw : vb < w.heap.size := (Array.getElem?_eq_some_iff.1 hvb).1
  have hkk : (n : Int) + 1 - (i : Int) = ((n + 1 - i : Nat) : Int) := by omega
  have hik : i + (n + 1 - i) = n + 1 := by omega
  have e0 : (flat encE (l.take i)).length = i * 4 := by rw [flat_len lenE, List.length_take]; congr 1; omega
  have e3 : (flat encE (l.drop i)).length = (n - i) * 4 := by rw [flat_len lenE, List.length_drop, hn]
  have hx1 : (flat encE [x]).length = 4 := by rw [flat_len lenE]; simp
  have hold : (Builtin.firstCells i0.size i (.slice (some ⟨g, 0, none⟩) i c)).run Tryd.prog w.drew = .ok (flat encE (l.take i)).toArray w.drew := by
    rw [hzs]
    exact run_firstCells_some w.drew 4 i ⟨g, 0, none⟩ i c (flat encE (l.take i)) e0 (fun j v hj => by
      rw [Addr.add_lit]
      rw [← flat_take lenE, List.getElem?_take] at hj
      split at hj
      · rw [Nat.zero_add]; exact hcells j v hj
      · cases hj)
  obtain ⟨G, hG⟩ : ∃ G, G = grownCap w (n + 1) c 55 := ⟨_, rfl⟩
  obtain ⟨ROW, hROW⟩ : ∃ ROW : Array Value, ROW = (flat encE (l.take i)).toArray ++ Builtin.zeroCells (Value.agg #[.int .i64 0, .bool false, .int .i64 0, .int .i64 0]).cells (n + 1 - i) ++ Builtin.zeroCells (Value.agg #[.int .i64 0, .bool false, .int .i64 0, .int .i64 0]).cells (G - (n + 1)) := ⟨_, rfl⟩
  have hrz : ∀ ty, (Builtin.append_ #[44, 3] ty #[.slice (some ⟨g, 0, none⟩) i c, .int .i64 ((n : Int) + 1 - (i : Int))]).run Tryd.prog w = .ok (.slice (some ⟨w.heap.size, 0, none⟩) (n + 1) G) (w.drew.alloc (.cells ROW 55)) := fun ty => by
    have h := Lib.run_append_grow_zeros w 44 3 ty 55 i0 _ .i64 .i64 Tryd.underlying44 Tryd.underlying3 hi0 hz0 (some ⟨g, 0, none⟩) i c (flat encE (l.take i)) hold (n + 1 - i) (by omega) (by omega) (by omega) (by omega) (by rw [hzb]; omega) (by rw [hzb, hik]; exact growslice_fits hroom (by omega))
    rw [hik] at h
    rw [hkk, hROW, hG]
    exact h
  have hGn : n + 1 ≤ G := by rw [hG]; exact grownCap_ge w _ _ _
  have hGm : G ≤ maxLen := by rw [hG]; exact grownCap_le_maxLen w (n + 1) c 55 (by unfold maxLen; omega)
  have hG63 : G ≤ 9223372036854775807 := by unfold maxLen at hGm; omega
  have hzc : (Value.agg #[.int .i64 0, .bool false, .int .i64 0, .int .i64 0]).cells.size = 4 := by decide
  have hRl : ROW.size = G * 4 := by
    rw [hROW]
    simp only [Array.size_append, List.size_toArray, e0, Builtin.zeroCells, Array.size_map, Array.size_range, hzc]
    omega
  have hRt : ∀ j u, (flat encE (l.take i))[j]? = some u → ROW[j]? = some u := fun j u hj => by
    have hlt := (List.getElem?_eq_some_iff.1 hj).1
    rw [hROW, Array.append_assoc, Array.getElem?_append_left (by simpa using hlt)]
    simpa using hj
  obtain ⟨W1, hW1⟩ : ∃ W1, W1 = w.drew.alloc (.cells ROW 55) := ⟨_, rfl⟩
  rw [← hW1] at hrz
  have hN : ∀ j, j < G * 4 → (W1.cell? ⟨w.heap.size, j, none⟩).isSome = true := fun j hj => by
    rw [hW1, World.cell?_alloc_at (w := w.drew) ROW _ w.heap.size j rfl, Array.getElem?_eq_getElem (by omega)]; rfl
  have hNf : ∀ j, W1.frozen? ⟨w.heap.size, j, none⟩ = false := fun j => by rw [hW1]; exact World.frozen?_alloc_at (w := w.drew) ROW _ w.heap.size j rfl
  have hOb : ∀ j v, w.cell? ⟨g, j, none⟩ = some v → W1.cell? ⟨g, j, none⟩ = some v := fun j v h => by rw [hW1, World.cell?_alloc_past (w := w.drew) _ g j hgw]; exact h
  have hOv : ∀ j v, (flat encE [x])[j]? = some v → W1.cell? ⟨vb, j, none⟩ = some v := fun j v hj => by
    rw [hW1, World.cell?_alloc_past (w := w.drew) _ vb j hvw, World.cell?_drew]
    have hj3 : j < 4 := hx1 ▸ (List.getElem?_eq_some_iff.1 hj).1
    match j, hj3 with
    | 0, _ => simp [flat, encE] at hj; simp [World.cell?, hvb, hj]
    | 1, _ => simp [flat, encE] at hj; simp [World.cell?, hvb, hj]
    | 2, _ => simp [flat, encE] at hj; simp [World.cell?, hvb, hj]
    | 3, _ => simp [flat, encE] at hj; simp [World.cell?, hvb, hj]
  have hcpA : ∀ (W : World), (∀ y, W.cell? y = W1.cell? y) → (∀ y, W.frozen? y = W1.frozen? y) → ∀ ty dc, (Builtin.copy_ #[44, 44] ty #[.slice (some ⟨w.heap.size, i * 4, none⟩) (n + 1 - i) dc, .slice (some ⟨vb, 0, none⟩) 1 1]).run Tryd.prog W = .ok (goInt (Nat.min 1 (n + 1 - i))) (W.setCells w.heap.size (i * 4) (flat encE [x])) := fun W hWc hWf ty dc =>
    run_copy_cellsK 4 W _ _ ty 55 w.heap.size (i * 4) (n + 1 - i) dc ⟨vb, 0, none⟩ 1 1 (flat encE [x]) Tryd.underlying44 infoE (by rw [hx1]; simp only [Nat.min_def]; split <;> omega)
      (fun j v hj => by rw [Addr.add_lit, hWc, Nat.zero_add]; exact hOv j v hj)
      (fun j hj => by have hj3 : j < 4 := hx1 ▸ hj; rw [hWc]; exact hN _ (by omega)) (fun j hj => by rw [hWf]; exact hNf _) (fun v hv => flat_one oneE _ v hv)
  have hGi : ¬ (G = i) := by omega
  have hGim : ¬ (G = i + 1) := by omega
  have hci : ¬ (c = i) := by omega
  have hbN : g ≠ w.heap.size := by omega
  have hcpB : ∀ (W : World), (∀ y, W.cell? y = (W1.setCells w.heap.size (i * 4) (flat encE [x])).cell? y) → (∀ y, W.frozen? y = W1.frozen? y) → ∀ ty dc sc, (Builtin.copy_ #[44, 44] ty #[.slice (some ⟨w.heap.size, (i + 1) * 4, none⟩) (n - i) dc, .slice (some ⟨g, i * 4, none⟩) (n - i) sc]).run Tryd.prog W = .ok (goInt (Nat.min (n - i) (n - i))) (W.setCells w.heap.size ((i + 1) * 4) (flat encE (l.drop i))) := fun W hWc hWf ty dc sc =>
    run_copy_cellsK 4 W _ _ ty 55 w.heap.size ((i + 1) * 4) (n - i) dc ⟨g, i * 4, none⟩ (n - i) sc (flat encE (l.drop i)) Tryd.underlying44 infoE (by rw [e3]; congr 1; simp only [Nat.min_def]; split <;> omega)
      (fun j v hj => by
        rw [Addr.add_lit, hWc, World.cell?_setCells_out _ _ _ _ _ (fun h _ => absurd h hbN)]
        rw [← flat_drop lenE, List.getElem?_drop] at hj
        exact hOb _ v (hcells _ v hj))
      (fun j hj => by rw [hWc]; exact isSome_setCells w.heap.size (flat encE [x]) (i * 4) W1 (fun t ht => by have ht3 : t < 4 := hx1 ▸ ht; exact hN (i * 4 + t) (by omega)) ((i + 1) * 4 + j) (hN ((i + 1) * 4 + j) (by rw [e3] at hj; omega)))
      (fun j hj => by rw [hWf]; exact hNf _) (fun v hv => flat_one oneE _ v hv)
  subst hW1
  have hE1 : ∀ x, ((w.alloc (.cells ROW 55)).drew).cell? x = (w.drew.alloc (.cells ROW 55)).cell? x := fun x => rfl
  have hE2 : ∀ x, ((w.alloc (.cells ROW 55)).drew).frozen? x = (w.drew.alloc (.cells ROW 55)).frozen? x := fun x => rfl
  have hF1 : ∀ y, (((w.alloc (.cells ROW 55)).drew.setCells w.heap.size (i * 4) (flat encE [x])).drew).cell? y = ((w.drew.alloc (.cells ROW 55)).setCells w.heap.size (i * 4) (flat encE [x])).cell? y := fun y => rfl
  have hF2 : ∀ y, (((w.alloc (.cells ROW 55)).drew.setCells w.heap.size (i * 4) (flat encE [x])).drew).frozen? y = (w.drew.alloc (.cells ROW 55)).frozen? y := fun y => by
    rw [show (((w.alloc (.cells ROW 55)).drew.setCells w.heap.size (i * 4) (flat encE [x])).drew).frozen? y = ((w.alloc (.cells ROW 55)).drew.setCells w.heap.size (i * 4) (flat encE [x])).frozen? y from rfl, World.frozen?_setCells]
    rfl
  have hw1 : IntKind.i64.wrap ((i : Int) + 1) = (i : Int) + 1 := by rw [IntKind.wrap_i64]; omega
  have hb1 : (0 : Int) ≤ (i : Int) + 1 := by omega
  have hb5 : (i : Int) + 1 ≤ (n : Int) + 1 := by omega
  have hb6 : (i : Int) ≤ (n : Int) + 1 := by omega
  have hin : i ≤ n := by omega
  have htn : ((i : Int) + 1).toNat = i + 1 := by omega
  have hb3 : (i : Int) ≤ (n : Int) := by omega
  have HRES := Lib.hid (show n + 1 ≤ G ∧ G ≤ maxLen ∧ ROW.size = G * 4 ∧ (∀ (j : Nat) (u : Value), (flat encE (l.take i))[j]? = some u → ROW[j]? = some u) from ⟨hGn, hGm, hRl, hRt⟩)
  clear hkk hik hold hROW hG hRl hRt hN hNf hOb hOv hn hcells e0 e3 hx1 hGm hzc hvb hi0 hz0 hzs hzb
  go_enter Tryd.func37, Tryd.ntmps37
  go_wp2_with (first
    | (at_builtin; refine Lib.wpList_append_run _ rfl _ _ _ _ rfl _ _ rfl rfl _ _ (hrz _) ?_)
    | (at_builtin; refine wpList_copy_runI _ rfl _ _ 44 44 rfl _ _ rfl rfl (hcpA _ hE1 hE2 _ _) ?_))
  go_region_law_o (refine step_copy_runI rfl _ _ 44 44 rfl (.slice (some ⟨w.heap.size, (i + 1) * 4, none⟩) (n - i) (G - (i + 1))) (.slice (some ⟨g, i * 4, none⟩) (n - i) (c - i)) (by simp [Act.eval, Act.put]) (by simp [Act.eval, Act.put]) (hcpB _ hF1 hF2 3 (G - (i + 1)) (c - i)) ?_)
  go_wp2
  go_ret
  exact ⟨ROW, G, rfl, HRES.out.1, HRES.out.2.1, HRES.out.2.2.1, HRES.out.2.2.2, rfl⟩

theorem sets_drew (b : Nat) (vs : List Value) (o : Nat) (w : World) : (w.setCells b o vs).drew = w.drew.setCells b o vs := drew_setCells b vs o w


theorem Tch.sets {M : Nat → Prop} {g : Nat} (hg : M g) : ∀ (vs : List Value) (o : Nat) (w : World), Tch M w (w.setCells g o vs)
  | [], _, w => Tch.refl M w
  | v :: r, o, w => (Tch.set (p := ⟨g, o, none⟩) w hg v).more (Tch.sets hg r (o + 1) _)
theorem tch_drew (M : Nat → Prop) (w : World) : Tch M w w.drew := (Tch.refl M w).drew
theorem New.grow {M : Nat → Prop} {w w' : World} {g : Nat} (h : w.heap.size ≤ g) (h2 : g < w'.heap.size) : New M w w' g := .inr ⟨h, h2⟩
theorem size_setCells (g : Nat) : ∀ (vs : List Value) (o : Nat) (w : World), (w.setCells g o vs).heap.size = w.heap.size
  | [], _, _ => rfl
  | v :: r, o, w => by
    rw [World.setCells, size_setCells g r (o + 1)]
    simp

set_option maxHeartbeats 1000000 in
/-- ALL ROADS. -/
theorem insertE_call {M : Nat → Prop} (l : List En) (i : Nat) (hi : i ≤ l.length) (x : En) (v : Value) (vb : Nat) (w : World) (hrow : RowAt encE 55 4 w M v l) (hvb : w.heap[vb]? = some (.cells #[.int .i64 x.1, .bool x.2.1, .int .i64 x.2.2.1, .int .i64 x.2.2.2] 55 (0, 0)))
    (hne : v.ownBlock ≠ some vb) (hlen : l.length ≤ 1000) :
    Calls Tryd.prog 37 #[v, .int .i64 i, .slice (some ⟨vb, 0, none⟩) 1 1] w fun e w' => ∃ v', e = .returned v' ∧ RowAt encE 55 4 w' (New M w w') v' (l.take i ++ [x] ++ l.drop i) ∧ Tch M w w' := by
  obtain ⟨hown, hM⟩ := hrow
  rcases Nat.eq_or_lt_of_le hi with rfl | hi
  · rw [List.take_length, List.drop_length, List.append_nil]
    refine insert_end hM l x _ w hown ⟨_, 1, rfl, Nat.le_refl _, by unfold maxLen; omega, fun _ => ⟨vb, 0, rfl, (Array.getElem?_eq_some_iff.1 hvb).1, fun j u hu => ?_⟩⟩ hlen
    have hx1 : (flat encE [x]).length = 4 := by rw [flat_len lenE]; simp
    have hj3 : j < 4 := hx1 ▸ (List.getElem?_eq_some_iff.1 hu).1
    match j, hj3 with
    | 0, _ => simp [flat, encE] at hu; simp [World.cell?, hvb, hu]
    | 1, _ => simp [flat, encE] at hu; simp [World.cell?, hvb, hu]
    | 2, _ => simp [flat, encE] at hu; simp [World.cell?, hvb, hu]
    | 3, _ => simp [flat, encE] at hu; simp [World.cell?, hvb, hu]
  · have hcells : ∀ g cap, v = .slice (some ⟨g, 0, none⟩) l.length cap → ∀ j u, (flat encE l)[j]? = some u → w.cell? ⟨g, j, none⟩ = some u := fun g cap e j u hu => by
      subst e
      have := cellsI hown j u hu
      rwa [Nat.zero_add] at this
    rcases hown.2 with ⟨_, h0⟩ | ⟨g, c, cur, rfl, hb, hg, hc, hm, hs, _⟩
    · omega
    have hcl := hcells g c rfl
    have hMg : M g := hM g rfl
    have hgne : vb ≠ g := fun e => hne (by rw [e]; rfl)
    have hgl : g < w.heap.size := (Array.getElem?_eq_some_iff.1 hg).1
    have hlt : (l.take i ++ [x] ++ l.drop i).length = l.length + 1 := by simp; omega
    by_cases hroom : l.length + 1 ≤ c
    · refine (insert_shift l i hi x g c vb cur w hg hs hroom (by unfold maxLen at hm; omega) hcl hgne hvb).mono ?_
      rintro e w' ⟨rfl, rfl⟩
      refine ⟨_, rfl, ⟨?_, fun g' hg' => .inl (by simp only [Value.ownBlock, Option.some.injEq] at hg'; exact hg' ▸ hMg)⟩, (tch_drew M w).more ((Tch.sets hMg _ _ _).more (Tch.sets hMg _ _ _))⟩
      obtain ⟨cur', hg', hs'⟩ := (Shp.sets g g (flat encE (l.drop i)) ((i + 1) * 4) w.drew).trans (Shp.sets g g (flat encE [x]) (i * 4) _) cur 55 (0, 0) hg
      have := row_of_cells lenE (base := 0) (l.take i ++ [x] ++ l.drop i) hg' hb (by rw [hs', hs]) (by rw [hlt]; exact hroom) hm (fun j u hu => (insert_cells lenE (w := w.drew) x (by omega) (fun j u hj => by
        rw [← flat_take lenE, List.getElem?_take] at hj
        split at hj
        · exact hcl j u hj
        · cases hj) (fun j hj => by
          show (w.cell? _).isSome = true
          have hj2 : j < cur.size := by rw [hs]; omega
          simp [World.cell?, hg, hj2]) j u hu).1)
      rw [hlt] at this ⊢
      exact this
    · refine (insert_grow l i hi x g c vb w hgl hc (by omega) hlen hcl hvb).mono ?_
      rintro e w' ⟨ROW, G, rfl, hG1, hG2, hG3, hG4, rfl⟩
      refine ⟨_, rfl, ⟨?_, fun g' hg' => ?_⟩, ?_⟩
      · rw [sets_drew]
        obtain ⟨cur', hg', hs'⟩ := (Shp.sets w.heap.size w.heap.size (flat encE [x]) (i * 4) (w.alloc (.cells ROW 55)).drew.drew).trans (Shp.sets w.heap.size w.heap.size (flat encE (l.drop i)) ((i + 1) * 4) _) ROW 55 (0, 0) (show (w.heap.push (.cells ROW 55))[w.heap.size]? = some _ from Array.getElem?_push_size)
        have := row_of_cells lenE (base := 0) (l.take i ++ [x] ++ l.drop i) hg' (Nat.zero_le _) (by rw [hs', hG3]) (by rw [hlt]; exact hG1) hG2 (fun j u hu => (insert_cells lenE (w := (w.alloc (.cells ROW 55)).drew.drew) x (by omega) (fun j u hj => by
          show ((w.alloc (.cells ROW 55)).cell? _) = _
          rw [World.cell?_alloc_at (w := w) ROW _ w.heap.size j rfl]
          exact hG4 j u hj) (fun j hj => by
          show ((w.alloc (.cells ROW 55)).cell? _).isSome = true
          rw [World.cell?_alloc_at (w := w) ROW _ w.heap.size j rfl, Array.getElem?_eq_getElem (by omega)]; rfl) j u hu).2)
        rw [hlt] at this ⊢
        exact this
      · simp only [Value.ownBlock, Option.some.injEq] at hg'
        subst hg'
        refine .inr ⟨Nat.le_refl _, ?_⟩
        rw [size_setCells]
        show _ < ((w.alloc (.cells ROW 55)).drew.setCells w.heap.size (i * 4) (flat encE [x])).heap.size
        rw [size_setCells]
        simp
      · refine Tch.of ?_
        refine Below.setCells ?_ (Nat.le_refl _) _ _
        have h0 : RowKit.Below w.heap.size w (w.alloc (.cells ROW 55)).drew := ((Below.refl w.heap.size w).alloc (Nat.le_refl _) _).drew
        exact (Below.setCells h0 (Nat.le_refl _) _ _).drew
end Go.Proofs.YtbodefigeiaodaaDoor
