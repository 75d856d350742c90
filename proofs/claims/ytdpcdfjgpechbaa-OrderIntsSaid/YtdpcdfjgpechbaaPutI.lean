/-
  slices.BinarySearch and slices.Insert at ints; order.Put.
-/
import Derived.Test.YtdpcdfjgpechbaaInt
namespace Go.Proofs.Ytdpcdfjgpechbaa
set_option linter.unusedSimpArgs false
set_option linter.unusedVariables false
open Go.RowKit Go.Sort Go.Lib Go.Shelf

theorem count_head (x : Int) : ∀ {l : List Int}, Rise ltI l → l.countP (fun y => decide (y < x)) = headLess ltI x l
  | [], _ => rfl
  | y :: r, hl => by
    obtain ⟨hy, hr⟩ := List.pairwise_cons.1 hl
    unfold headLess
    by_cases h : y < x
    · rw [List.countP_cons_of_pos (by simpa using h), count_head x hr, if_pos (by simpa [ltI] using h)]
    · rw [if_neg (by simpa [ltI] using h), List.countP_eq_zero]
      intro z hz
      rcases List.mem_cons.1 hz with rfl | hz
      · simpa using h
      · have := hy z hz
        simp [ltI] at this
        simp
        omega
theorem mem_head {α : Type} [DecidableEq α] {lt : α → α → Bool} (h : STO lt) (x : α) : ∀ {l : List α}, Rise lt l → (x ∈ l ↔ l[headLess lt x l]? = some x)
  | [], _ => by simp
  | y :: r, hl => by
    obtain ⟨hy, hr⟩ := List.pairwise_cons.1 hl
    unfold headLess
    cases e : lt y x with
    | true =>
      rw [if_pos rfl, List.getElem?_cons_succ, ← mem_head h x hr, List.mem_cons]
      constructor
      · rintro (rfl | hx)
        · rw [h.irrefl] at e; cases e
        · exact hx
      · exact .inr
    | false =>
      rw [if_neg (by simp), List.getElem?_cons_zero, List.mem_cons]
      constructor
      · rintro (rfl | hx)
        · rfl
        · rw [hy x hx] at e; cases e
      · intro hx; exact .inl (Option.some.inj hx).symm
theorem flatI (l : List Int) : flat encI l = l.map (Value.int .i64) := by
  induction l with
  | nil => rfl
  | cons x r ih => simp only [flat, List.flatMap_cons] at ih ⊢; rw [ih]; rfl
theorem flatI_get (l : List Int) (j : Nat) (h : j < l.length) : (flat encI l)[j]? = some (.int .i64 l[j]!) := by
  rw [flatI, List.getElem?_map, List.getElem?_eq_getElem h, getElem!_pos l j h]; rfl

/-- Cells that hold a list's numbers: the row. -/
theorem ownI_of_cells {base g cap n : Nat} {w : World} {l : List Int} (hn : n = l.length) (hb : base ≤ g) (hg : g < w.heap.size) (hc : n ≤ cap) (hm : cap ≤ maxLen) (h : ∀ t, t < n → w.cell? ⟨g, 0 + t, none⟩ = some (.int .i64 l[t]!) ∧ w.frozen? ⟨g, 0 + t, none⟩ = false) : Own base encI 1 w (.slice (some ⟨g, 0, none⟩) n cap) l := by
  subst hn
  exact ⟨_, cap, rfl, hc, hm, fun _ => ⟨g, rfl, hb, hg, holdsI.2 fun j hj => by have := h j (by simpa using hj); rwa [arr_get]⟩⟩

theorem ins_get (l : List Int) (i : Nat) (x : Int) (hi : i ≤ l.length) (t : Nat) (ht : t < l.length + 1) : (l.take i ++ x :: l.drop i)[t]! = if t < i then l[t]! else if t = i then x else l[t - 1]! := by
  have hl : (l.take i).length = i := by simp; omega
  rw [getElem!_pos _ t (by simp; omega)]
  by_cases h1 : t < i
  · rw [if_pos h1, List.getElem_append_left (by omega), getElem!_pos l t (by omega)]
    simp
  · rw [if_neg h1, List.getElem_append_right (by omega)]
    by_cases h2 : t = i
    · subst h2
      simp [hl]
    · rw [if_neg h2, getElem!_pos l (t - 1) (by omega)]
      simp only [hl]
      rw [List.getElem_cons, dif_neg (by omega), List.getElem_drop]
      congr 1
      omega

/-- The cells behind the two runs of stores of an insertion. -/
theorem ins_cells (FF : Array Value) (l : List Int) (i : Nat) (x : Int) (hi : i ≤ l.length) (hF : l.length + 1 ≤ FF.size) (hlow : ∀ t, t < i → FF[t]! = .int .i64 l[t]!) (t : Nat) (ht : t < l.length + 1) :
    (setMany (setMany FF (i + 1) ((flat encI l).drop i)) i [Value.int .i64 x])[t]! = .int .i64 (l.take i ++ x :: l.drop i)[t]! ∧ (setMany (setMany FF i [Value.int .i64 x]) (i + 1) ((flat encI l).drop i))[t]! = .int .i64 (l.take i ++ x :: l.drop i)[t]! := by
  have hd : ((flat encI l).drop i).length = l.length - i := by rw [List.length_drop, flatI, List.length_map]
  rw [ins_get l i x hi t ht]
  rw [get_setMany _ _ _ t (by rw [size_setMany]; omega), get_setMany _ _ _ t (by omega), get_setMany _ _ _ t (by rw [size_setMany]; omega), get_setMany _ _ _ t (by omega), hd]
  have hdg : ¬ t < i → ¬ t = i → ((flat encI l).drop i)[t - (i + 1)]! = .int .i64 l[t - 1]! := fun h1 h2 => by
    rw [getElem!_pos _ _ (by rw [hd]; omega), List.getElem_drop]
    have := flatI_get l (i + (t - (i + 1))) (by omega)
    rw [List.getElem?_eq_getElem (by rw [flatI, List.length_map]; omega)] at this
    rw [Option.some.inj this, show i + (t - (i + 1)) = t - 1 by omega]
  rw [List.length_singleton]
  by_cases h1 : t < i
  · have c1 : ¬ (i ≤ t ∧ t < i + 1) := by omega
    have c2 : ¬ (i + 1 ≤ t ∧ t < i + 1 + (l.length - i)) := by omega
    simp only [if_neg c1, if_neg c2, if_pos h1, hlow t h1, and_self]
  · by_cases h2 : t = i
    · subst h2
      have c1 : t ≤ t ∧ t < t + 1 := by omega
      have c2 : ¬ (t + 1 ≤ t ∧ t < t + 1 + (l.length - t)) := by omega
      simp only [if_pos c1, if_neg c2, if_neg h1, if_true, Nat.sub_self]
      simp
    · have c1 : ¬ (i ≤ t ∧ t < i + 1) := by omega
      have c2 : i + 1 ≤ t ∧ t < i + 1 + (l.length - i) := by omega
      simp only [if_neg c1, if_pos c2, if_neg h1, if_neg h2, hdg h1 h2, and_self]

theorem holds_alloc (W : World) (ROW : Array Value) (t : TypeId) : Holds id (W.alloc (.cells ROW t)) W.heap.size 0 ROW := fun j hj => by
  refine ⟨?_, World.frozen?_alloc_at (w := W) ROW _ W.heap.size _ rfl⟩
  rw [World.cell?_alloc_at (w := W) ROW _ W.heap.size _ rfl, Nat.zero_add, getElem!_pos ROW j hj]
  simp [hj]

set_option maxHeartbeats 1000000 in
/-- slices.Insert of one number into a row of the call's own. -/
theorem insertI_call (base : Nat) (l : List Int) (i : Nat) (x : Int) (v : Value) (w : World) (ho : w.ownsRow base 3 1 v l.length (flat encI l)) (hb : base ≤ w.heap.size) (hi : i ≤ l.length) (hlen : l.length ≤ 100000) :
    Calls Try.prog 48 #[v, .int .i64 i, .slice (some ⟨w.heap.size, 0, none⟩) 1 1] (w.alloc (.cells #[.int .i64 x] 3)) fun e w' => ∃ v', e = .returned v' ∧ Own base encI 1 w' v' (l.take i ++ x :: l.drop i) ∧ RowKit.Below base (w.alloc (.cells #[.int .i64 x] 3)) w' := by
  obtain ⟨W, hW⟩ : ∃ W, W = w.alloc (.cells #[.int .i64 x] 3) := ⟨_, rfl⟩
  have hWs : W.heap.size = w.heap.size + 1 := by rw [hW]; simp
  have hoW : W.ownsRow base 3 1 v l.length (flat encI l) := by rw [hW]; exact ho.alloc _
  have hvs : ∀ j u, ([Value.int .i64 x] : List Value)[j]? = some u → W.cell? ⟨w.heap.size, 0 + j, none⟩ = some u := fun j u hu => by
    rw [hW, World.cell?_alloc_at (w := w) _ _ w.heap.size _ rfl, Nat.zero_add]
    simpa using hu
  have hblk : W.heap[w.heap.size]? = some (.cells #[.int .i64 x] 3 (0, 0)) := by rw [hW]; exact heap_alloc_new w _
  have hL : (l.take i ++ x :: l.drop i).length = l.length + 1 := by simp; omega
  have hc1 : (flat encI l).length = l.length := by rw [flatI, List.length_map]
  have one1 : ∀ u ∈ ([Value.int .i64 x] : List Value), u.oneCell' = true := fun u hu => by simp at hu; subst hu; rfl
  rw [← hW]
  obtain ⟨_, ho2⟩ := hoW
  have hG1 : ∀ c : Nat, l.length + 1 ≤ grownCap W (l.length + 1) c 3 := fun c => grownCap_ge W _ _ _
  have hG2 : ∀ c : Nat, grownCap W (l.length + 1) c 3 ≤ maxLen := fun c => grownCap_le_maxLen W (l.length + 1) c 3 (by unfold maxLen; omega)
  have hBW : base ≤ W.heap.size := by omega
  have hdn : (flat encI l).drop l.length = [] := List.drop_of_length_le (by omega)
  -- a new row at the end
  have endG : ∀ (Z : Array Value) (c : Nat), i = l.length → Own base encI 1 (W.drew.alloc (.cells ((flat encI l ++ [Value.int .i64 x]).toArray ++ Z) 3)) (.slice (some ⟨W.heap.size, 0, none⟩) (l.length + 1) (grownCap W (l.length + 1) c 3)) (l.take i ++ x :: l.drop i) := fun Z c hin => by
    refine ownI_of_cells hL.symm hBW (show W.heap.size < (W.heap.push _).size by simp) (hG1 c) (hG2 c) fun t ht => ?_
    have := holds_alloc W.drew ((flat encI l ++ [Value.int .i64 x]).toArray ++ Z) 3 t (by simp [hc1]; omega)
    have e : ((flat encI l ++ [Value.int .i64 x]).toArray ++ Z)[t]! = .int .i64 (l.take i ++ x :: l.drop i)[t]! := by
      rw [ins_get l i x hi t ht, getElem!_pos _ t (by simp [hc1]; omega), Array.getElem_append_left (by simp [hc1]; omega), List.getElem_toArray]
      by_cases h1 : t < i
      · rw [if_pos h1, List.getElem_append_left (by omega)]
        have := flatI_get l t (by omega)
        rw [List.getElem?_eq_getElem (by omega)] at this
        exact Option.some.inj this
      · rw [if_neg h1, if_pos (by omega), List.getElem_append_right (by omega)]
        simp
    simp only [id] at this
    rw [e] at this
    exact this
  rcases ho2 with ⟨rfl, h0⟩ | ⟨g, cap, cur, rfl, hbg, hh, hnc, hcm, hcs, htk⟩
  · have hin : i = l.length := by omega
    subst hin
    rw [h0]
    have hcon := Any2.slices_Insert_int_end_grow Try.insertI none 0 0 w.heap.size 0 1 1 [] [Value.int .i64 x] W (by omega) (by omega) (by omega) (by omega) rfl rfl (fun _ => rfl) (fun a ha => by cases ha) hvs one1
    refine hcon.mono ?_
    rintro e w' ⟨rfl, rfl⟩
    have hl0 : l = [] := List.length_eq_zero_iff.1 h0
    subst hl0
    exact ⟨_, rfl, endG _ 0 rfl, ((Below.refl base W).drew).alloc hBW _⟩
  · have hg : g < w.heap.size := by
      rcases Nat.lt_or_ge g w.heap.size with h' | h'
      · exact h'
      · exfalso
        obtain ⟨_, ho3⟩ := ho
        rcases ho3 with ⟨e, _⟩ | ⟨g', cap', cur', e, _, hh', _⟩
        · cases e
        · simp only [Value.slice.injEq, Option.some.injEq, Addr.mk.injEq, and_true] at e
          obtain ⟨rfl, _⟩ := e
          rw [Array.getElem?_eq_none h'] at hh'; cases hh'
    have hcell : ∀ t, t < cap → W.cell? ⟨g, 0 + t, none⟩ = some cur[t]! := fun t ht => by
      simp only [World.cell?, hh, Nat.zero_add]
      rw [getElem!_pos cur t (by omega)]
      simp [show t < cur.size by omega]
    have hfro : ∀ t, W.frozen? ⟨g, 0 + t, none⟩ = false := fun t => by simp [World.frozen?, hh]
    have hcur : ∀ t, t < l.length → cur[t]! = .int .i64 l[t]! := fun t ht => by
      have e := flatI_get l t ht
      rw [← htk, List.getElem?_take, if_pos (by omega)] at e
      rw [getElem!_pos cur t (by omega)]
      simpa [show t < cur.size by omega] using e
    have hcells : ∀ j u, (flat encI l)[j]? = some u → W.cell? ⟨g, 0 + j, none⟩ = some u := fun j u hu => by
      have hj : j < l.length := by rw [← hc1]; exact (List.getElem?_eq_some_iff.1 hu).1
      rw [hcell j (by omega), hcur j hj]
      exact (flatI_get l j hj).symm.trans hu
    have hHold : Holds id W g 0 cur := fun j hj => ⟨hcell j (by omega), hfro j⟩
    have hgW : g < W.heap.size := by omega
    have hne : w.heap.size ≠ g := by omega
    by_cases hroom : l.length + 1 ≤ cap
    · -- there is room
      by_cases hin : i < l.length
      · refine (Any2.slices_Insert_int_shift Try.insertI g 0 l.length cap i w.heap.size 0 1 1 (flat encI l) [Value.int .i64 x] W hin (by omega) hroom (by unfold maxLen at hcm; omega) hne hc1 rfl hcells
          (fun j hj => by rw [hcell j (by omega)]; rfl) (fun j hj => hfro j) hvs (flat_one oneI l) one1 3 3 1 cap (by simp [World.shape?, hblk]) (by simp [World.shape?, hh, hcs]) (by omega) (by simp [World.frozen?, hblk]) (by simp [World.frozen?, hblk])).mono ?_
        rintro e w' ⟨rfl, rfl⟩
        have H1 := holds_setCells_c (W := W.drew) (blk := g) (off := 0) (F := cur) hHold (i + 1) ((flat encI l).drop i) (by rw [List.length_drop, hc1, hcs]; omega)
        have H2 := holds_setCells_c H1 i [Value.int .i64 x] (by simp; omega)
        refine ⟨_, rfl, ?_, Below.setCells (Below.setCells (Below.refl _ _).drew hbg _ _) hbg _ _⟩
        refine ownI_of_cells hL.symm hbg ?_ (by omega) hcm fun t ht => ?_
        · exact Nat.lt_of_lt_of_le hgW (Below.setCells (Below.setCells (Below.refl base W).drew hbg _ _) hbg _ _).size
        · have := H2 t (by simp; omega)
          have e := (ins_cells cur l i x hi (by omega) (fun t ht => hcur t (by omega)) t ht).1
          simp only [id] at this
          rw [e] at this
          exact this
      · obtain rfl : i = l.length := by omega
        refine (Any2.slices_Insert_int_end_room Try.insertI g 0 l.length cap w.heap.size 0 1 1 [Value.int .i64 x] W (by omega) hroom (by unfold maxLen at hcm; omega) rfl (fun j hj => by rw [Nat.add_assoc, hcell _ (by omega)]; rfl) (fun j hj => by rw [Nat.add_assoc]; exact hfro _) hvs one1).mono ?_
        rintro e w' ⟨rfl, rfl⟩
        have H2 := holds_setCells_c (W := W) (blk := g) (off := 0) (F := cur) hHold l.length [Value.int .i64 x] (by simp; omega)
        refine ⟨_, rfl, ?_, Below.setCells (Below.refl _ _) hbg _ _⟩
        refine ownI_of_cells hL.symm hbg (Nat.lt_of_lt_of_le hgW (Below.setCells (Below.refl base W) hbg _ _).size) (by omega) hcm fun t ht => ?_
        have := H2 t (by simp; omega)
        have e := (ins_cells cur l l.length x hi (by omega) (fun t ht => hcur t (by omega)) t ht).1
        rw [hdn] at e
        simp only [id] at this
        rw [show setMany cur l.length [Value.int .i64 x] = setMany (setMany cur (l.length + 1) []) l.length [Value.int .i64 x] from rfl, e] at this
        exact this
    · by_cases hin : i < l.length
      · refine (Any2.slices_Insert_int_grow Try.insertI g 0 l.length cap i w.heap.size 0 1 1 (flat encI l) [Value.int .i64 x] W hin (by omega) hnc (by omega) (by omega) hc1 rfl hcells hvs (flat_one oneI l) one1).mono ?_
        rintro e w' ⟨rfl, rfl⟩
        obtain ⟨ROW, hROW⟩ : ∃ ROW, ROW = ((flat encI l).take i).toArray ++ Builtin.zeroCells (Value.int .i64 0).cells (l.length + 1 - i) ++ Builtin.zeroCells (Value.int .i64 0).cells (grownCap W (l.length + 1) cap (Try.insertI_ren.t 3) - (l.length + 1)) := ⟨_, rfl⟩
        have hRs : l.length + 1 ≤ ROW.size := by rw [hROW]; simp [Builtin.zeroCells, Value.cells, hc1]; omega
        have hRl : ∀ t, t < i → ROW[t]! = .int .i64 l[t]! := fun t ht => by
          have h1 : t < ((flat encI l).take i).toArray.size := by simp [hc1]; omega
          have := flatI_get l t (by omega)
          rw [List.getElem?_eq_getElem (by omega)] at this
          rw [getElem!_pos ROW t (by omega)]
          simp only [hROW]
          rw [Array.getElem_append_left (by simp [Builtin.zeroCells, Value.cells, hc1]; omega), Array.getElem_append_left h1, List.getElem_toArray, List.getElem_take]
          exact Option.some.inj this
        have H0 := holds_alloc W ROW (Try.insertI_ren.t 3)
        have H1 := holds_setCells_c (W := (W.alloc (.cells ROW (Try.insertI_ren.t 3))).drew) (blk := W.heap.size) (off := 0) (F := ROW) H0 i [Value.int .i64 x] (by simp; omega)
        have H2 := holds_setCells_c (W := (((W.alloc (.cells ROW (Try.insertI_ren.t 3))).drew.setCells W.heap.size (0 + i) [Value.int .i64 x]).drew)) H1 (i + 1) ((flat encI l).drop i) (by rw [List.length_drop, hc1, size_setMany]; omega)
        simp only [Nat.zero_add] at H2
        have hBe := Below.setCells (Below.setCells (((Below.refl base W).alloc hBW (.cells ROW (Try.insertI_ren.t 3))).drew) hBW [Value.int .i64 x] i).drew hBW ((flat encI l).drop i) (i + 1)
        refine ⟨_, rfl, ?_, by rw [← hROW]; exact hBe⟩
        refine ownI_of_cells hL.symm hBW ?_ (hG1 cap) (hG2 cap) fun t ht => ?_
        · have h3 := (Below.setCells (Below.setCells (Below.refl 0 (W.alloc (.cells ROW (Try.insertI_ren.t 3))).drew) (Nat.zero_le W.heap.size) [Value.int .i64 x] i).drew (Nat.zero_le W.heap.size) ((flat encI l).drop i) (i + 1)).size
          have h4 : (W.alloc (.cells ROW (Try.insertI_ren.t 3))).drew.heap.size = W.heap.size + 1 := (show (W.heap.push _).size = W.heap.size + 1 by simp)
          rw [h4] at h3
          rw [← hROW]
          exact h3
        · have := H2 t (by simp; omega)
          have e := (ins_cells ROW l i x hi (by omega) (fun t ht => hRl t ht) t ht).2
          simp only [id] at this
          rw [e] at this
          rw [← hROW]
          exact this
      · obtain rfl : i = l.length := by omega
        refine (Any2.slices_Insert_int_end_grow Try.insertI (some ⟨g, 0, none⟩) l.length cap w.heap.size 0 1 1 (flat encI l) [Value.int .i64 x] W (by omega) hnc (by omega) (by omega) hc1 rfl (fun h => by cases h) (fun a ha j u hu => by cases ha; rw [Addr.add_lit]; exact hcells j u hu) hvs one1).mono ?_
        rintro e w' ⟨rfl, rfl⟩
        exact ⟨_, rfl, endG _ cap rfl, ((Below.refl base W).drew).alloc hBW _⟩

set_option maxHeartbeats 1000000 in
set_option maxRecDepth 100000 in
/-- slices.BinarySearch in no element. -/
theorem search0_call (p : Option Addr) (c : Nat) (x : Int) (w : World) : Calls Try.prog 47 #[.slice p 0 c, .int .i64 x] w fun e w' => e = .returned (.tuple #[.int .i64 0, .bool false]) ∧ ∃ q, w' = w.drewN q := by
  have mixed : Try.prog.follows .mixedOrders = true := by kernel_rfl
  go_enter Try.func47, Try.ntmps47
  go_wp2
  go_loopg [7, 8] 0 (fun g s7 s8 wr => s7 = .int .i64 0 ∧ s8 = .int .i64 0 ∧ wr = w)
  case atStart => exact ⟨rfl, rfl, by trivial⟩
  case round =>
    obtain ⟨rfl, rfl, rfl⟩ := hrel
    go_wp2
    go_ret2
    exact ⟨by first | rfl | simp, 0, rfl⟩

set_option maxHeartbeats 1000000 in
set_option maxRecDepth 100000 in
/-- slices.BinarySearch in a rising row. -/
theorem search_call (l : List Int) (v : Value) (x : Int) (w : World) (hl : Sl encI w v l) (hr : Rise ltI l) (hlen : l.length ≤ 100000) : Calls Try.prog 47 #[v, .int .i64 x] w fun e w' => e = .returned (.tuple #[.int .i64 (headLess ltI x l : Nat), .bool (decide (x ∈ l))]) ∧ ∃ q, w' = w.drewN q := by
  obtain ⟨p, cap, rfl, h1, h2, h⟩ := hl
  rcases Nat.eq_zero_or_pos l.length with h0 | h0
  · have hl0 : l = [] := List.length_eq_zero_iff.1 h0
    subst hl0
    exact search0_call p cap x w
  · obtain ⟨g, o, rfl, hg, hc⟩ := h h0
    have hcon := AnyG.slices_BinarySearch_int Try.searchI g o l.length cap l x w (Nat.le_refl _) (by omega) (fun j hj => by
      rw [hc j _ (flatI_get l j hj), getElem!_pos l j hj, List.getD_eq_getElem?_getD, List.getElem?_eq_getElem hj]; rfl) (by
      rw [List.take_length]
      exact hr.imp fun hxy => by simp [ltI] at hxy; omega)
    rw [List.take_length, count_head x hr] at hcon
    have e : l.contains x = decide (x ∈ l) := by rw [List.contains_eq_mem]
    rw [e] at hcon
    exact hcon

set_option maxHeartbeats 1000000 in
set_option maxRecDepth 100000 in
/-- order.Put: a rising list with a number. -/
theorem putI_call (l : List Int) (v : Value) (x : Int) (w : World) (hl : Sl encI w v l) (hr : Rise ltI l) (hlen : l.length ≤ 100000) :
    Calls Try.prog 31 #[v, .int .i64 x] w fun e w' => ∃ v', e = .returned v' ∧ Own w.heap.size encI 1 w' v' (put ltI x l) ∧ RowKit.Below w.heap.size w w' := by
  have hpe : put ltI x l = if l[headLess ltI x l]? = some x then l else l.take (headLess ltI x l) ++ x :: l.drop (headLess ltI x l) := put_eq _ _
  have hmh := mem_head sto_int x hr
  go_enter Try.func31, Try.ntmps31
  go_wp2_with fail
  refine (cloneI_call l v w hl hlen).mono ?_
  rintro e w1 ⟨v1, rfl, ho1, hrow, hb1⟩
  have HO1 := Lib.hid ho1
  have HR := Lib.hid hrow
  have HB1 := Lib.hid hb1
  have HM := Lib.hid hmh
  have PE := Lib.hid hpe
  clear ho1 hb1 hl hrow hpe hmh
  go_wp2_with fail
  refine (search_call l v1 x w1 (HO1.out.sl lenI) hr hlen).mono ?_
  rintro e w2 ⟨rfl, q, rfl⟩
  have HB2 := Lib.hid (Bn (n := q) HB1.out)
  have HO2 := Lib.hid (HO1.out.below (Bn (n := q) (Below.refl _ w1)))
  have HR2 := Lib.hid (row_below HR.out (Bn (n := q) (Below.refl _ w1)))
  clear HO1 HB1 HR
  by_cases hx : x ∈ l
  · have hd : decide (x ∈ l) = true := decide_eq_true hx
    have e1 : put ltI x l = l := by rw [PE.out, if_pos (HM.out.1 hx)]
    have HE := Lib.hid e1
    clear hx e1
    go_wp2
    go_ret
    exact ⟨_, rfl, by rw [HE.out]; exact HO2.out, HB2.out⟩
  · have hd : decide (x ∈ l) = false := decide_eq_false hx
    have e1 : put ltI x l = l.take (headLess ltI x l) ++ x :: l.drop (headLess ltI x l) := by rw [PE.out, if_neg (fun h => hx (HM.out.2 h))]
    have HE := Lib.hid e1
    clear hx e1
    have hcon := Lib.hid (insertI_call w.heap.size l (headLess ltI x l) x v1 (w1.drewN q) HR2.out HB2.out.size (headLess_le _ _) hlen)
    go_wp2_with (go_at_call 48; refine hcon.out.mono ?_; rintro e w3 ⟨v3, rfl, ho3, hb3⟩)
    go_ret
    exact ⟨_, rfl, by rw [HE.out]; exact ho3, (HB2.out.alloc HB2.out.size _).trans hb3⟩
end Go.Proofs.Ytdpcdfjgpechbaa
