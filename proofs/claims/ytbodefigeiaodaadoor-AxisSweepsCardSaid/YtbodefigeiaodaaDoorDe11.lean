/-
  slices.Delete of one end; slices.Clone at ends.
-/
import Derived.Test.YtbodefigeiaodaaDoorIn11
import Derived.Deep.RegionLaw
namespace Go.Proofs.YtbodefigeiaodaaDoor
set_option linter.unusedSimpArgs false
set_option linter.unusedVariables false
open Go.RowKit Go.Sort Go.Lib Go.Shelf

theorem flat_takeE {l : List En} {i : Nat} : flat encE (l.take i) = (flat encE l).take (i * 4) := (flat_take lenE l i).symm
theorem flat_dropE {l : List En} {i : Nat} : flat encE (l.drop i) = (flat encE l).drop (i * 4) := (flat_drop lenE l i).symm
set_option maxHeartbeats 4000000 in
set_option maxRecDepth 100000 in
/-- One end is taken out, in place. -/
theorem delete_cells (l : List En) (i : Nat) (hi : i < l.length) (g c : Nat) (cur : Array Value) (w : World) (hg : w.heap[g]? = some (.cells cur 55 (0, 0))) (hcs : cur.size = c * 4) (hnc : l.length ≤ c) (hc63 : c ≤ 9223372036854775807)
    (hcells : ∀ j u, (flat encE l)[j]? = some u → w.cell? ⟨g, j, none⟩ = some u) :
    Calls Tryd.prog 41 #[.slice (some ⟨g, 0, none⟩) l.length c, .int .i64 i, .int .i64 ((i : Int) + 1)] w fun e w' =>
      e = .returned (.slice (some ⟨g, 0, none⟩) (l.length - 1) c) ∧ w' = (w.drew.setCells g (i * 4) (flat encE (l.drop (i + 1)))).setCells g ((l.length - 1) * 4) (flat encE [(0, false, 0, 0)]) := by
  obtain ⟨n, hn⟩ : ∃ n, n = l.length := ⟨_, rfl⟩
  rw [← hn] at hi hnc ⊢
  obtain ⟨i0, hi0, hz0, hzs, hzb⟩ := apE.hi
  have e0 : (flat encE l).length = n * 4 := by rw [flat_len lenE, hn]
  have e3 : (flat encE (l.drop (i + 1))).length = (n - (i + 1)) * 4 := by rw [flat_len lenE, List.length_drop, hn]
  have hall : ∀ j, j < c * 4 → (w.cell? ⟨g, j, none⟩).isSome = true := fun j hj => by simp [World.cell?, hg, hcs, hj]
  have hfz : ∀ j, w.frozen? ⟨g, j, none⟩ = false := fun j => by simp [World.frozen?, hg]
  have hsp : ∀ j, j < (flat encE (l.drop (i + 1))).length → (w.drew.cell? ⟨g, 0 + i * 4 + j, none⟩).isSome = true ∧ w.drew.frozen? ⟨g, 0 + i * 4 + j, none⟩ = false := fun j hj => ⟨hall _ (by omega), hfz _⟩
  have hsrc : ∀ j u, (flat encE (l.drop (i + 1)))[j]? = some u → w.drew.cell? ((⟨g, (i + 1) * 4, none⟩ : Addr).add j) = some u := fun j u hj => by
    rw [Addr.add_lit]
    rw [flat_dropE, List.getElem?_drop] at hj
    exact hcells _ u hj
  have hone : ∀ u ∈ flat encE (l.drop (i + 1)), u.oneCell' = true := fun v hv => flat_one oneE _ v hv
  obtain ⟨W1, hW1⟩ : ∃ W1, W1 = w.drew.setCells g (i * 4) (flat encE (l.drop (i + 1))) := ⟨_, rfl⟩
  have hH : HoldsK encE 4 W1 g 0 (l.take i ++ l.drop (i + 1) ++ l.drop (n - 1)).toArray := holds_of_flat lenE (fun j u hu => by
    rw [Nat.zero_add, hW1, World.frozen?_setCells]
    refine ⟨?_, hfz j⟩
    rw [flat_append, flat_append] at hu
    have q1 : (flat encE (l.take i)).length = i * 4 := by rw [flat_len lenE, List.length_take]; congr 1; omega
    rcases Nat.lt_or_ge j (i * 4) with h1 | h1
    · rw [List.getElem?_append_left (by simp; omega), List.getElem?_append_left (by omega), flat_takeE, List.getElem?_take, if_pos h1] at hu
      rw [World.cell?_setCells_out _ _ _ _ _ (fun _ _ => .inl h1)]
      exact hcells j u hu
    · rcases Nat.lt_or_ge j ((n - 1) * 4) with h2 | h2
      · rw [List.getElem?_append_left (by simp; omega), List.getElem?_append_right (by omega), q1] at hu
        obtain ⟨ht, rfl⟩ := List.getElem?_eq_some_iff.1 hu
        have := World.cell?_setCells_in g (flat encE (l.drop (i + 1))) (i * 4) w.drew (fun t ht => by show (w.cell? _).isSome = true; exact hall _ (by omega)) (j - i * 4) ht
        rwa [show i * 4 + (j - i * 4) = j by omega] at this
      · rw [List.getElem?_append_right (by simp; omega), List.length_append, q1, e3, flat_dropE, List.getElem?_drop] at hu
        rw [World.cell?_setCells_out _ _ _ _ _ (fun _ _ => .inr (by show _ ≤ j; omega))]
        have := hcells _ u hu
        rwa [show (n - 1) * 4 + (j - (i * 4 + (n - (i + 1)) * 4)) = j by omega] at this)
  have hsz : (l.take i ++ l.drop (i + 1) ++ l.drop (n - 1)).toArray.size = n := by simp; omega
  have hcl : ∀ ty cc, (Builtin.clear_ #[44] ty #[.slice (some ⟨g, (n - 1) * 4, none⟩) 1 cc]).run Tryd.prog W1 = .ok (.tuple #[]) (W1.setCells g ((n - 1) * 4) (flat encE [(0, false, 0, 0)])) := fun ty cc => by
    have := clear_run lenE (by omega) oneE Tryd.prog ((0, false, 0, 0) : En) Tryd.underlying44 Tryd.zeroValue55 rfl hH (n - 1) (by rw [hsz]; omega) cc ty
    rw [hsz, show n - (n - 1) = 1 by omega, Nat.zero_add] at this
    exact this
  have hW2 := hW1
  rw [← hW1]
  have hb1 : (0 : Int) ≤ (i : Int) + 1 := by omega
  have hb3 : (i : Int) ≤ (i : Int) + 1 := by omega
  have hb5 : (i : Int) + 1 ≤ (n : Int) := by omega
  have hb6 : (i : Int) ≤ (n : Int) := by omega
  have hb7 : (n : Int) ≤ (c : Int) := by omega
  have hz2 : ¬ ((i : Int) = (i : Int) + 1) := by omega
  have htn : ((i : Int) + 1).toNat = i + 1 := by omega
  have hlen1 : i + (n - (i + 1)) = n - 1 := by omega
  have hin : i ≤ c := by omega
  have hi1c : i + 1 ≤ c := by omega
  have hroom : i + (n - (i + 1)) ≤ c := by omega
  have hm1 : ((n - 1 : Nat) : Int) ≤ (n : Int) := by omega
  have hm2 : n - (n - 1) = 1 := by omega
  have hm3 : ¬ (c = n - 1) := by omega
  have hcn : n - 1 ≤ n := by omega
  have hci : ¬ (c = i) := by omega
  clear hall hfz hH hsz hcells hg hcs e0
  by_cases hcc : c = i + 1
  · have hn1 : n = i + 1 := by omega
    have e5 : l.drop (i + 1) = [] := List.drop_eq_nil_of_le (by omega)
    rw [e5] at hW1 hW2 e3 hone hsrc hsp
    have hd0 : n - (i + 1) = 0 := by omega
    have hd1 : n - 1 = i := by omega
    rw [hd0] at e3 hroom
    rw [hd1] at hcl hm1 hm2 hm3 hcn ⊢
    clear hn hlen1 hin hi1c e5 hW2
    subst hn1
    subst hcc
    go_enter Tryd.func41, Tryd.ntmps41
    go_wp2_with fail
    go_region_law (refine step_append_room rfl _ _ 44 rfl 55 i0 4 Tryd.underlying44 hi0 hzs g 0 i (i + 1) (by simp [Act.eval, Act.put]) ⟨g, 0, none⟩ 0 0 (flat encE []) (by simp [Act.eval, Act.put]) rfl (fun j u hj => by cases hj) (fun v hv => by cases hv) (by omega) (fun j hj => by cases hj) ?_)
    rw [hW1] at hcl
    have HW := Lib.hid hW1
    clear hW1 hsp hsrc hone e3
    go_wp2
    go_ret
    exact ⟨rfl, by rw [HW.out]⟩
  · clear hn
    go_enter Tryd.func41, Tryd.ntmps41
    go_wp2_with fail
    go_region_law (refine step_append_room rfl _ _ 44 rfl 55 i0 4 Tryd.underlying44 hi0 hzs g 0 i c (by simp [Act.eval, Act.put]) ⟨g, (i + 1) * 4, none⟩ (n - (i + 1)) (c - (i + 1)) (flat encE (l.drop (i + 1))) (by simp [Act.eval, Act.put]) e3 hsrc hone hroom hsp ?_)
    rw [hW1] at hcl
    have HW := Lib.hid hW1
    clear hW1 hW2 hsp hsrc hone e3
    go_wp2
    go_ret
    exact ⟨rfl, by rw [HW.out]⟩

theorem deleteE_call {M : Nat → Prop} (l : List En) (i : Nat) (hi : i < l.length) (v : Value) (w : World) (hrow : RowAt encE 55 4 w M v l) :
    Calls Tryd.prog 41 #[v, .int .i64 i, .int .i64 ((i : Int) + 1)] w fun e w' => ∃ v', e = .returned v' ∧ RowAt encE 55 4 w' M v' (l.take i ++ l.drop (i + 1)) ∧ Tch M w w' := by
  obtain ⟨hown, hM⟩ := hrow
  have hcells0 : ∀ g cap, v = .slice (some ⟨g, 0, none⟩) l.length cap → ∀ j u, (flat encE l)[j]? = some u → w.cell? ⟨g, j, none⟩ = some u := fun g cap e j u hu => by
    subst e
    have := cellsI hown j u hu
    rwa [Nat.zero_add] at this
  rcases hown.2 with ⟨_, h0⟩ | ⟨g, c, cur, rfl, hb, hg, hc, hm, hs, _⟩
  · omega
  have hcells := hcells0 g c rfl
  have hMg : M g := hM g rfl
  have hlt : (l.take i ++ l.drop (i + 1)).length = l.length - 1 := by simp; omega
  refine (delete_cells l i hi g c cur w hg hs hc (by unfold maxLen at hm; omega) hcells).mono ?_
  rintro e w' ⟨rfl, rfl⟩
  refine ⟨_, rfl, ⟨?_, fun g' hg' => by simp only [Value.ownBlock, Option.some.injEq] at hg'; exact hg' ▸ hMg⟩, (tch_drew M w).more ((Tch.sets hMg _ _ _).more (Tch.sets hMg _ _ _))⟩
  have q1 : (flat encE (l.take i)).length = i * 4 := by rw [flat_len lenE, List.length_take]; congr 1; omega
  have e3 : (flat encE (l.drop (i + 1))).length = (l.length - (i + 1)) * 4 := by rw [flat_len lenE, List.length_drop]
  obtain ⟨cur', hg', hs'⟩ := (Shp.sets g g (flat encE (l.drop (i + 1))) (i * 4) w.drew).trans (Shp.sets g g (flat encE [(0, false, 0, 0)]) ((l.length - 1) * 4) _) cur 55 (0, 0) hg
  have := row_of_cells lenE (base := 0) (l.take i ++ l.drop (i + 1)) hg' hb (by rw [hs', hs]) (by rw [hlt]; omega) hm (fun j u hu => by
    have hj : j < (l.length - 1) * 4 := by
      have := (List.getElem?_eq_some_iff.1 hu).1
      rwa [flat_len lenE, hlt] at this
    rw [World.cell?_setCells_out _ _ _ _ _ (fun _ _ => .inl hj)]
    rw [flat_append] at hu
    rcases Nat.lt_or_ge j (i * 4) with h1 | h1
    · rw [List.getElem?_append_left (by omega), flat_takeE, List.getElem?_take, if_pos h1] at hu
      rw [World.cell?_setCells_out _ _ _ _ _ (fun _ _ => .inl h1)]
      exact hcells j u hu
    · rw [List.getElem?_append_right (by omega), q1] at hu
      obtain ⟨ht, rfl⟩ := List.getElem?_eq_some_iff.1 hu
      have := World.cell?_setCells_in g (flat encE (l.drop (i + 1))) (i * 4) w.drew (fun t ht => by
        show (w.cell? _).isSome = true
        have : i * 4 + t < cur.size := by rw [hs]; omega
        simp [World.cell?, hg, this]) (j - i * 4) ht
      rwa [show i * 4 + (j - i * 4) = j by omega] at this)
  rw [hlt] at this ⊢
  exact this

set_option maxHeartbeats 1000000 in
set_option maxRecDepth 100000 in
/-- slices.Clone. -/
theorem cloneE_call (l : List En) (v : Value) (w : World) (hl : Sl encE w v l) (hlen : l.length ≤ 100000) :
    Calls Tryd.prog 43 #[v] w fun e w' => ∃ v', e = .returned v' ∧ Own w.heap.size encE 4 w' v' l ∧ (w'.ownsRow w.heap.size 55 4 v' l.length (flat encE l)) ∧ RowKit.Below w.heap.size w w' := by
  obtain ⟨p, cap, rfl, h1, h2, h⟩ := hl
  cases p with
  | none =>
    have h0 : l.length = 0 := by
      rcases Nat.eq_zero_or_pos l.length with h0 | h0
      · exact h0
      · obtain ⟨g, o, e, _⟩ := h h0; cases e
    have hl0 : l = [] := List.length_eq_zero_iff.1 h0
    subst hl0
    have q22 : ∀ (w : World) (a : Option Addr) (n c n' c' : Nat), (binOp .eql 44 (.slice a n c) (.slice none n' c')).run Tryd.prog w = .ok (.bool a.isNone) w := fun w a n c n' c' => Lib.run_eql_slice_nil w _ _ a n c n' c' Tryd.underlying44
    go_enter Tryd.func43, Tryd.ntmps43
    go_wp2
    go_ret
    exact ⟨_, rfl, ⟨none, 0, rfl, Nat.le_refl _, Nat.zero_le _, fun h => absurd h (by simp)⟩, World.ownsRow_nil _ _ _ _, (by repeat (first | with_reducible exact Below.refl _ _ | with_reducible assumption | with_reducible apply Ba | with_reducible apply Bd | with_reducible apply Bn | with_reducible apply Bg | (with_reducible refine Bs ?_ (by first | (simp; done) | (simp; omega)) _) | (with_reducible refine Bt ?_ (by assumption)) | (with_reducible refine Bt ?_ (Gr.below (by assumption)))))⟩
  | some ad =>
    have HS := Lib.hid (show Sl encE w (.slice (some ad) l.length cap) l from ⟨_, cap, rfl, h1, h2, h⟩)
    have O1 := Lib.hid (show (w.alloc (.cells #[] 55)).ownsRow w.heap.size 55 4 (.slice (some ⟨w.heap.size, 0, none⟩) 0 0) 0 (flat encE []) from World.ownsRow_made _ #[] 0 (Nat.le_refl _) (Nat.zero_le _) (by simp))
    have A1 := Lib.hid (Ba (Below.refl _ w) (.cells #[] 55))
    have S1 := Lib.hid (HS.out.below A1.out)
    clear h
    have q22 : ∀ (w : World) (a : Option Addr) (n c n' c' : Nat), (binOp .eql 44 (.slice a n c) (.slice none n' c')).run Tryd.prog w = .ok (.bool a.isNone) w := fun w a n c n' c' => Lib.run_eql_slice_nil w _ _ a n c n' c' Tryd.underlying44
    go_enter Tryd.func43, Tryd.ntmps43
    go_wp2_with (at_builtin; refine wpl_app apE rfl _ _ rfl w.heap.size (by rfl) (by rfl) O1.out rfl S1.out (by simp; omega) A1.out.size ?_; intro v1 w1 hown1 hgrow1 hnil1)
    have b1 := grownB A1.out O1.out hgrow1
    go_ret
    have e : [] ++ l = l := List.nil_append l
    rw [e] at hown1
    simp only [List.length_nil, Nat.zero_add] at hown1
    exact ⟨v1, rfl, own_of_row lenE hown1 rfl, hown1, b1⟩

end Go.Proofs.YtbodefigeiaodaaDoor
