import Derived.Test.YtahichjiphjapaaGreatDoorZ36
import Derived.Test.YtahichjiphjapaaGreatDoorShelfL
import Derived.Test.YtahichjiphjapaaGreatDoorZ2
import Derived.Deep.LoopGhost

/-
  Package quad: rows of boxes put together; where a handle stands in one.
-/
namespace Go.Proofs.YtahichjiphjapaaGreatDoor
set_option linter.unusedSimpArgs false
set_option linter.unusedVariables false
open Go.RowKit Go.Sort Go.Lib Go.Shelf

set_option maxHeartbeats 1000000 in
/-- slices.Grow of the nil slice. -/
theorem growB_call (n : Nat) (w : World) (hn : n ≤ 200000) : Calls Tryz.prog 80 #[.slice none 0 0, .int .i64 n] w fun e w' => ∃ v', e = .returned v' ∧ w'.ownsRow w.heap.size 96 6 v' 0 (flat encHB []) ∧ RowKit.Below w.heap.size w w' := by
  by_cases h0 : n = 0
  · subst h0
    refine (Any8.slices_Grow_room Tryz.growB none 0 0 0 w (by omega) (by omega) (by omega) (by omega)).mono ?_
    rintro e w' ⟨rfl, rfl⟩
    exact ⟨_, rfl, World.ownsRow_nil _ _ _ _, Below.refl _ _⟩
  · obtain ⟨i0, hi, hz, hs, hb⟩ := apHB.hi
    refine (Any8.slices_Grow_grow Tryz.growB i0 (.agg #[.int .i64 0, .int .i64 0, .int .i64 0, .int .i64 0, .int .i64 0, .int .i64 0]) hi hz (by rw [hs]; omega) none 0 0 n [] w (by omega) (by omega) (by rw [hb]; omega) (by omega) (by simp) (fun _ => rfl) (fun a h => by cases h)).mono ?_
    rintro e w' ⟨rfl, rfl⟩
    have hG := grownCap_ge w (0 + n) 0 (Tryz.growB_ren.t 25)
    refine ⟨_, rfl, ?_, ((Below.refl _ w).drew).alloc (Nat.le_refl _) _⟩
    exact World.ownsRow_made (w := w.drew) (base := w.heap.size) (e := 96) (size := 6) _ _ (Nat.le_refl _) (grownCap_le_maxLen w (0 + n) 0 (Tryz.growB_ren.t 25) (by unfold maxLen; omega)) (by
      simp only [Array.size_append, size_zeroCells, Value.cells, List.size_toArray, List.length_nil, List.length_cons]
      omega)
theorem flatten_take {α : Type} [Inhabited α] (ls : List (List α)) {k : Nat} (hk : k < ls.length) : (ls.take (k + 1)).flatten = (ls.take k).flatten ++ ls[k]! := by
  rw [List.take_succ_eq_append_getElem hk, getElem!_pos ls k hk, List.flatten_append]
  congr 1
  simp
theorem flat_len_le {α : Type} (ls : List (List α)) (k : Nat) : (ls.take k).flatten.length ≤ ls.flatten.length := by
  conv => rhs; rw [← List.take_append_drop k ls]
  rw [List.flatten_append, List.length_append]
  omega
set_option maxHeartbeats 2000000 in
set_option maxRecDepth 100000 in
/-- slices.Concat. -/
theorem concatB_call (ls : List (List Bxd)) (vs : List Value) (B : Nat) (w : World) (hn : ls.length = vs.length) (hc : ∀ i, i < vs.length → w.cell? ⟨B, i, none⟩ = some vs[i]!) (hs : ∀ i, i < vs.length → Sl encHB w vs[i]! ls[i]!) (hl : ls.flatten.length ≤ 10000) (hm : vs.length ≤ 100) (h0 : 0 < vs.length) :
    Calls Tryz.prog 50 #[.slice (some ⟨B, 0, none⟩) vs.length vs.length] w fun e w' => ∃ v', e = .returned v' ∧ w'.ownsRow w.heap.size 96 6 v' ls.flatten.length (flat encHB ls.flatten) ∧ RowKit.Below w.heap.size w w' := by
  have hBl := cell_lt (hc 0 h0)
  have HC := Lib.hid hc
  have HS := Lib.hid hs
  have HT := Lib.hid (fun k (hk : k < vs.length) => flatten_take ls (k := k) (by omega))
  have HL := Lib.hid (fun k => Nat.le_trans (flat_len_le ls k) hl)
  have HA := Lib.hid (show (ls.take vs.length).flatten = ls.flatten by rw [← hn, List.take_length])
  clear hc hs hl h0
  generalize hN : vs.length = N at *
  clear hN hn
  have hN' : (N : Int) ≤ 100 := by omega
  go_enter Tryz.func50, Tryz.ntmps50
  go_wp2
  go_loopw [3, 11] (fun s i wr => ∃ k n : Nat, k ≤ N ∧ i = .int .i64 k ∧ s = .int .i64 n ∧ Hid (n = (ls.take k).flatten.length) ∧ n ≤ 10000 ∧ wr = w) (fun _ i _ => N - (intOf i).toNat)
  case atStart => exact ⟨0, 0, Nat.zero_le _, rfl, rfl, Lib.hid (by simp), by omega, rfl⟩
  case round =>
    obtain ⟨k, n, hk, rfl, rfl, hH, hn1, hww⟩ := hrel
    obtain rfl : w = wr := hww.symm
    by_cases hkn : k < N
    · obtain ⟨p, cap, hv, _⟩ := HS.out k hkn
      have hcell := HC.out k hkn
      rw [hv] at hcell
      have ht := HT.out k hkn
      have hln := HL.out (k + 1)
      rw [ht, List.length_append] at hln
      have hH2 := Lib.hid (show n + ls[k]!.length = (ls.take (k + 1)).flatten.length by rw [ht, List.length_append, hH.out])
      have hb2 : n + ls[k]!.length ≤ 10000 := by rw [hH.out]; exact hln
      generalize ls[k]!.length = m at *
      clear hv ht hln
      have z1 : ¬ ((n : Int) + (m : Int) < 0) := by omega
      go_wp2
      go_roundw
      case measure => simp only [intOf]; omega
      case rel => exact ⟨k + 1, n + m, by omega, by go_num, by go_num, hH2, hb2, by trivial⟩
    · obtain rfl : k = N := by omega
      have hH2 := Lib.hid (show n = ls.flatten.length by rw [hH.out, HA.out])
      clear hH
      go_wp2_with fail
      refine (growB_call n w (by omega)).mono ?_
      rintro e w1 ⟨v1, rfl, ho1, hb1⟩
      have BL := Lib.hid (show B < w.heap.size from hBl)
      have hB1 := Lib.hid hb1
      clear hb1
      go_wp2
      go_loopw [6, 27] (fun s i w2 => ∃ j : Nat, j ≤ k ∧ i = .int .i64 j ∧ RowKit.Below w.heap.size w w2 ∧ w2.ownsRow w.heap.size 96 6 s (ls.take j).flatten.length (flat encHB (ls.take j).flatten)) (fun _ i _ => k - (intOf i).toNat)
      case atStart => exact ⟨0, Nat.zero_le _, rfl, hB1.out, by simpa using ho1⟩
      case round =>
        obtain ⟨j, hj, rfl, hb2, ho2⟩ := hrel
        by_cases hjn : j < k
        · have hcell := Bc hb2 BL.out (HC.out j hjn)
          have SJ := Lib.hid ((HS.out j hjn).below hb2)
          have ht := HT.out j hjn
          have hln := HL.out (j + 1)
          rw [ht, List.length_append] at hln
          have HT2 := Lib.hid ht
          have B2 := Lib.hid hb2
          have O2 := Lib.hid ho2
          have HN := Lib.hid hln
          obtain ⟨p, cap, hv, _⟩ := SJ.out
          generalize hvj : vs[j]! = vj at *
          generalize hlj : ls[j]! = lj at *
          clear ht hln hb2 ho2 hvj hlj
          have hlt : (j : Int) < (k : Int) := by omega
          subst hv
          go_wp2_with (at_builtin; (refine wpl_app apHB rfl _ _ rfl w.heap.size (by rfl) (by rfl) O2.out rfl SJ.out (by have := HN.out; omega) B2.out.size ?_; intro v3 w3 hown3 hgrow3 hnil3))
          have b3 := grownB B2.out O2.out hgrow3
          go_roundw
          case measure => simp only [intOf]; omega
          case rel => exact ⟨j + 1, by omega, by go_num, b3, by rw [HT2.out, List.length_append]; exact hown3⟩
        · obtain rfl : j = k := by omega
          rw [HA.out] at ho2
          go_wp2
          go_ret
          exact ⟨_, rfl, ho2, hb2⟩
/-! ### Where a handle stands. -/
set_option maxRecDepth 100000 in
theorem place1_call (i : Nat) (l : List Bxd) (x y : Int) (pr ph : Nat) (v : Value) (w : World) (hv : Sl encHB w v l) (h1 : w.cell? ⟨pr, 0, none⟩ = some v) (h2 : w.cell? ⟨ph, 0, none⟩ = some (.int .i64 x) ∧ w.cell? ⟨ph, 1, none⟩ = some (.int .i64 y)) (hi : i < l.length) :
    Calls Tryz.prog 78 #[.int .i64 i, .pointer (some ⟨pr, 0, none⟩), .pointer (some ⟨ph, 0, none⟩)] w fun e w' => e = .returned (.bool (!ltH l[i]!.1 (x, y))) ∧ Gr w w' := by
  obtain ⟨p, cap, rfl, _, _, h⟩ := hv
  obtain ⟨g, o, rfl, hg, hcs⟩ := h (by omega)
  obtain ⟨c1, c2, c3, c4, c5, c6⟩ := atHB hcs hi
  obtain ⟨h2, h3⟩ := h2
  have LC := Lib.hid (fun w => less_call l[i]!.1.1 l[i]!.1.2 x y w)
  generalize hx : l[i]! = q at *
  obtain ⟨⟨x1, x2⟩, b1, b2, b3, b4⟩ := q
  dsimp only at LC c1 c2 c3 c4 c5 c6 ⊢
  generalize ltH (x1, x2) (x, y) = r at *
  clear hcs hx h
  have hb1 := cell_lt h1
  have hb2 := cell_lt h2
  go_enter Tryz.func78, Tryz.ntmps78
  go_wp2_with fail
  go_region_held3 (fun w' => Gr (w) w' ∧ ∀ b_1 o, b_1 < (w).heap.size → w'.cell? ⟨b_1, o, none⟩ = (w).cell? ⟨b_1, o, none⟩) (first | exact gkeep0 _ | exact gkeepG (by assumption) hg1 | exact gkeepA (by assumption) _ | assumption) (first | (go_at_call 79; refine (LC.out _).mono ?_; rintro e w1 ⟨rfl, hg1⟩))
  go_wp2
  go_ret
  exact ⟨rfl, (by repeat (first | with_reducible exact Gr.refl _ | with_reducible assumption | with_reducible apply Gr.alloc | with_reducible apply Gr.drewN | with_reducible apply Gr.drew | with_reducible apply Gr.grow | (with_reducible refine Gr.trans ?_ (by assumption))))⟩
end Go.Proofs.YtahichjiphjapaaGreatDoor

/-
  Package quad: the place in a row; a row with a box more, and with one less.
-/
namespace Go.Proofs.YtahichjiphjapaaGreatDoor
set_option linter.unusedSimpArgs false
set_option linter.unusedVariables false
open Go.RowKit Go.Sort Go.Lib Go.Shelf

/-- 'sort.Search' at a closure that says whether a place is at or behind k. -/
def Says (k n : Nat) (c1 c2 : Value) (w : World) : Prop := ∀ (i : Nat) (W : World), i < n → Gr w W → Calls Tryz.prog 78 #[.int .i64 i, c1, c2] W fun e w' => e = .returned (.bool (decide (k ≤ i))) ∧ Gr W w'
set_option maxHeartbeats 1000000 in
set_option maxRecDepth 100000 in
theorem search_call (n k : Nat) (hk : k ≤ n) (hn : n ≤ 100000) (c1 c2 : Value) (w : World) (hf : Says k n c1 c2 w) :
    Calls Tryz.prog 77 #[.int .i64 n, .func (.func 78) #[] #[c1, c2]] w fun e w' => e = .returned (.int .i64 k) ∧ Gr w w' := by
  have HF := Lib.hid hf
  clear hf
  go_enter Tryz.func77, Tryz.ntmps77
  go_wp2
  go_loopg [5, 6] n (fun kx s5 s6 wr => ∃ lo hi : Nat, s5 = .int .i64 lo ∧ s6 = .int .i64 hi ∧ lo ≤ k ∧ k ≤ hi ∧ hi ≤ n ∧ hi - lo ≤ kx ∧ Gr w wr)
  case atStart => exact ⟨0, n, rfl, rfl, Nat.zero_le _, hk, Nat.le_refl _, by omega, Gr.refl _⟩
  case round =>
    obtain ⟨lo, hi, rfl, rfl, hlk, hkh, hin, hgk, hg⟩ := hrel
    have HG := Lib.hid hg
    clear hg
    by_cases hlt : lo < hi
    · have i2 : (((lo : Int) + (hi : Int)) / 2).toNat = (lo + hi) / 2 := by omega
      have i3 : ((lo : Int) + (hi : Int)) / 2 = (((lo + hi) / 2 : Nat) : Int) := by omega
      have HC := Lib.hid (HF.out ((lo + hi) / 2) wr (by omega) HG.out)
      by_cases hb : k ≤ (lo + hi) / 2
      · rw [decide_eq_true hb, ← i3] at HC
        have HB := Lib.hid hb
        have I3 := Lib.hid i3
        clear hb i3
        go_wp2_with fail
        refine HC.out.mono ?_
        rintro e w1 ⟨rfl, hg1⟩
        have G1 := Lib.hid (Gr.trans HG.out hg1)
        clear hg1
        go_wp2
        go_roundg ((lo + hi) / 2 - lo)
        case measure => omega
        case rel => exact ⟨lo, (lo + hi) / 2, rfl, by rw [I3.out], hlk, HB.out, by omega, Nat.le_refl _, G1.out⟩
      · rw [decide_eq_false hb, ← i3] at HC
        have HB := Lib.hid hb
        have I3 := Lib.hid i3
        clear hb i3
        go_wp2_with fail
        refine HC.out.mono ?_
        rintro e w1 ⟨rfl, hg1⟩
        have G1 := Lib.hid (Gr.trans HG.out hg1)
        clear hg1
        go_wp2
        go_roundg (hi - ((lo + hi) / 2 + 1))
        case measure => omega
        case rel => exact ⟨(lo + hi) / 2 + 1, hi, by rw [I3.out]; rfl, rfl, by have := HB.out; omega, hkh, hin, Nat.le_refl _, G1.out⟩
    · obtain rfl : hi = lo := by omega
      obtain rfl : hi = k := by omega
      go_wp2
      go_ret
      exact ⟨rfl, HG.out⟩
set_option maxHeartbeats 1000000 in
set_option maxRecDepth 100000 in
theorem place_call (l : List Bxd) (x y : Int) (v : Value) (w : World) (hv : Sl encHB w v l) (hr : Rise ltB l) (hn : l.length ≤ 10000) :
    Calls Tryz.prog 49 #[v, .agg #[.int .i64 x, .int .i64 y]] w fun e w' => e = .returned (.int .i64 (placeL l (x, y) : Nat)) ∧ Gr w w' := by
  obtain ⟨w1, hw1⟩ : ∃ w1, w1 = (w.alloc (.cells #[v] 79)).alloc (.cells #[.int .i64 x, .int .i64 y] 42) := ⟨_, rfl⟩
  have hb1 : RowKit.Below w.heap.size w w1 := by rw [hw1]; exact Ba (Ba (Below.refl _ w) _) _
  have hg1 : Gr w w1 := by rw [hw1]; exact ((Gr.refl _).alloc _).alloc _
  have e0 : w1.cell? ⟨w.heap.size, 0, none⟩ = some v := by rw [hw1]; simp
  have e1 : w1.cell? ⟨w.heap.size + 1, 0, none⟩ = some (.int .i64 x) := by rw [hw1]; simp
  have e2 : w1.cell? ⟨w.heap.size + 1, 1, none⟩ = some (.int .i64 y) := by rw [hw1]; simp
  have hs1 : w1.heap.size = w.heap.size + 2 := by rw [hw1]; simp
  have HS : Says (placeL l (x, y)) l.length (.pointer (some ⟨w.heap.size, 0, none⟩)) (.pointer (some ⟨w.heap.size + 1, 0, none⟩)) w1 := fun i W hi hG => by
    have hb := hG.below
    have := place1_call i l x y w.heap.size (w.heap.size + 1) v W (hv.below (Bt hb1 hb)) (Bc hb (by omega) e0) ⟨Bc hb (by omega) e1, Bc hb (by omega) e2⟩ hi
    have e : (!ltH l[i]!.1 (x, y)) = decide (placeL l (x, y) ≤ i) := by
      have h := placeL_step l (x, y) hr i hi
      rw [getElem!_pos l i hi]
      by_cases c : placeL l (x, y) ≤ i
      · rw [decide_eq_true c]
        cases q : ltH l[i].1 (x, y) with
        | false => rfl
        | true => have := h.1 q; omega
      · rw [decide_eq_false c, h.2 (by omega)]
        rfl
    rwa [e] at this
  have HSE := Lib.hid (search_call l.length (placeL l (x, y)) (placeL_le l _) (by omega) _ _ _ HS)
  have HW := Lib.hid hw1
  have HG := Lib.hid hg1
  have hlt : w.heap.size < w1.heap.size := by omega
  obtain ⟨p, cap, rfl, _, _, _⟩ := hv
  clear HS hr hw1 hb1 hg1 hs1
  generalize placeL l (x, y) = k at *
  go_enter Tryz.func49, Tryz.ntmps49
  go_wp2_with fail
  rw [← HW.out]
  refine HSE.out.mono ?_
  rintro e w2 ⟨rfl, hg2⟩
  go_wp2
  go_ret
  exact ⟨rfl, Gr.trans HG.out hg2⟩
end Go.Proofs.YtahichjiphjapaaGreatDoor

/-
  Package quad: what Put and Drop do to a row.
-/
namespace Go.Proofs.YtahichjiphjapaaGreatDoor
set_option linter.unusedSimpArgs false
set_option linter.unusedVariables false
open Go.RowKit Go.Sort Go.Lib Go.Shelf

section
variable {α : Type} {enc : α → List Value} {sz : Nat} {w : World} {p : Option Addr} {cap : Nat} {l : List α}
theorem Sl.front (hk : ∀ x, (enc x).length = sz) (h : Sl enc w (.slice p l.length cap) l) (k : Nat) (hkl : k ≤ l.length) : Sl enc w (.slice p k cap) (l.take k) := by
  obtain ⟨p', cap', e, h1, h2, h3⟩ := h
  simp only [Value.slice.injEq] at e
  obtain ⟨rfl, _, rfl⟩ := e
  have el : (l.take k).length = k := by simp; omega
  refine ⟨p, cap, by rw [el], by omega, h2, fun h0 => ?_⟩
  obtain ⟨g, o, rfl, hg, hc⟩ := h3 (by omega)
  refine ⟨g, o, rfl, hg, fun j u hu => hc j u ?_⟩
  rw [← flat_take hk, List.getElem?_take] at hu
  split at hu
  · exact hu
  · cases hu
theorem Sl.behind (hk : ∀ x, (enc x).length = sz) (h : Sl enc w (.slice p l.length cap) l) (k : Nat) (hkl : k ≤ l.length) : Sl enc w (.slice (if cap = k then p else Option.map (fun x => x.add (k * sz)) p) (l.length - k) (cap - k)) (l.drop k) := by
  obtain ⟨p', cap', e, h1, h2, h3⟩ := h
  simp only [Value.slice.injEq] at e
  obtain ⟨rfl, _, rfl⟩ := e
  have el : (l.drop k).length = l.length - k := by simp
  refine ⟨_, cap - k, by rw [el], by omega, by omega, fun h0 => ?_⟩
  obtain ⟨g, o, rfl, hg, hc⟩ := h3 (by omega)
  rw [if_neg (by omega)]
  refine ⟨g, o + k * sz, by simp [Addr.add], hg, fun j u hu => ?_⟩
  rw [Nat.add_assoc]
  refine hc _ u ?_
  rw [← flat_drop hk, List.getElem?_drop] at hu
  exact hu
end
set_option maxHeartbeats 2000000 in
set_option maxRecDepth 100000 in
theorem put1_call (l : List Bxd) (x y a b c d : Int) (ph pb : Nat) (v : Value) (w : World) (hv : Sl encHB w v l) (hr : Rise ltB l) (hn : l.length ≤ 9000)
    (h1 : w.cell? ⟨ph, 0, none⟩ = some (.int .i64 x) ∧ w.cell? ⟨ph, 1, none⟩ = some (.int .i64 y))
    (h2 : w.cell? ⟨pb, 0, none⟩ = some (.int .i64 a) ∧ w.cell? ⟨pb, 1, none⟩ = some (.int .i64 b) ∧ w.cell? ⟨pb, 2, none⟩ = some (.int .i64 c) ∧ w.cell? ⟨pb, 3, none⟩ = some (.int .i64 d)) :
    Calls Tryz.prog 48 #[v, .pointer (some ⟨ph, 0, none⟩), .pointer (some ⟨pb, 0, none⟩)] w fun e w' => ∃ v', e = .returned v' ∧ w'.ownsRow w.heap.size 96 6 v' (insL l ((x, y), (a, b, c, d))).length (flat encHB (insL l ((x, y), (a, b, c, d)))) ∧ RowKit.Below w.heap.size w w' := by
  have PC := Lib.hid (fun w hv => place_call l x y v w hv hr (by omega))
  have HV := Lib.hid hv
  obtain ⟨p, cap, rfl, hc1, hc2, h⟩ := hv
  have hk := placeL_le l (x, y)
  have HI := Lib.hid (show insL l ((x, y), (a, b, c, d)) = l.take (placeL l (x, y)) ++ [((x, y), (a, b, c, d))] ++ l.drop (placeL l (x, y)) from rfl)
  have HIL := Lib.hid (insL_len l ((x, y), (a, b, c, d)))
  generalize insL l ((x, y), (a, b, c, d)) = L at *
  generalize placeL l (x, y) = k at *
  obtain ⟨q1, q2⟩ := h1
  obtain ⟨q3, q4, q5, q6⟩ := h2
  have hm : cap ≤ 9223372036854775807 := by unfold maxLen at hc2; omega
  have hph := cell_lt q1
  have hpb := cell_lt q3
  have H := Lib.hid h
  clear h hr
  go_enter Tryz.func48, Tryz.ntmps48
  go_wp2_with fail
  refine (PC.out _ HV.out).mono ?_
  rintro e w1 ⟨rfl, hg1⟩
  have b1 := hg1.below
  have B1 := Lib.hid b1
  replace q1 := Bc b1 hph q1
  replace q2 := Bc b1 hph q2
  replace q3 := Bc b1 hpb q3
  replace q4 := Bc b1 hpb q4
  replace q5 := Bc b1 hpb q5
  replace q6 := Bc b1 hpb q6
  replace hph := Bl b1 hph
  replace hpb := Bl b1 hpb
  clear b1 hg1
  have hk2 : k ≤ cap := by omega
  go_wp2_with fail
  refine wp_region_held_drew (S := (fun w' => Below (w1).heap.size (w1) w' ∧ ∀ b_1 o, b_1 < (w1).heap.size → w'.cell? ⟨b_1, o, none⟩ = (w1).cell? ⟨b_1, o, none⟩)) (by kernel_rfl) (keep0 _) (fun hHeld => ?_)
  (refine wpAnyH_take (i := 0) (v := ?_) rfl (by kernel_rfl) (by kernel_rfl) (by kernel_rfl) (fun _ _ _ h => h) (Or.inl ⟨by rfl, ?rt⟩) (by assumption) ?_; case rt => (intro w hSw; (try dsimp only at hSw); go_simp; (try with_reducible rfl))); (try simp only [Act.put, List.getElem_toArray, List.getElem_cons_succ, List.getElem_cons_zero, List.setIfInBounds_toArray, List.set_cons_zero, List.set_cons_succ])
  (refine wpAnyH_take (i := 1) (v := ?_) rfl (by kernel_rfl) (by kernel_rfl) (by kernel_rfl) (fun _ _ _ h => h) (Or.inl ⟨by rfl, ?rt⟩) (by assumption) ?_; case rt => (intro w hSw; (try dsimp only at hSw); go_simp; (try with_reducible rfl))); (try simp only [Act.put, List.getElem_toArray, List.getElem_cons_succ, List.getElem_cons_zero, List.setIfInBounds_toArray, List.set_cons_zero, List.set_cons_succ])
  (refine wpAnyH_take (i := 2) (v := ?_) rfl (by kernel_rfl) (by kernel_rfl) (by kernel_rfl) (fun _ _ _ h => h) (Or.inl ⟨by rfl, ?rt⟩) (by assumption) ?_; case rt => (intro w hSw; (try dsimp only at hSw); go_simp; (try with_reducible rfl))); (try simp only [Act.put, List.getElem_toArray, List.getElem_cons_succ, List.getElem_cons_zero, List.setIfInBounds_toArray, List.set_cons_zero, List.set_cons_succ])
  (refine wpAnyH_take (i := 3) (v := ?_) rfl (by kernel_rfl) (by kernel_rfl) (by kernel_rfl) (fun _ _ _ h => h) (Or.inl ⟨by rfl, ?rt⟩) (by assumption) ?_; case rt => (intro w hSw; (try dsimp only at hSw); go_simp; (try with_reducible rfl))); (try simp only [Act.put, List.getElem_toArray, List.getElem_cons_succ, List.getElem_cons_zero, List.setIfInBounds_toArray, List.set_cons_zero, List.set_cons_succ])
  (refine wpAnyH_take (i := 4) (v := ?_) rfl (by kernel_rfl) (by kernel_rfl) (by kernel_rfl) (fun _ _ _ h => h) (Or.inl ⟨by rfl, ?rt⟩) (by assumption) ?_; case rt => (intro w hSw; (try dsimp only at hSw); go_simp; (try with_reducible rfl))); (try simp only [Act.put, List.getElem_toArray, List.getElem_cons_succ, List.getElem_cons_zero, List.setIfInBounds_toArray, List.set_cons_zero, List.set_cons_succ])
  (refine wpAnyH_take (i := 5) (v := ?_) rfl (by kernel_rfl) (by kernel_rfl) (by kernel_rfl) (fun _ _ _ h => h) (Or.inl ⟨by rfl, ?rt⟩) (by assumption) ?_; case rt => (intro w hSw; (try dsimp only at hSw); go_simp; (try with_reducible rfl))); (try simp only [Act.put, List.getElem_toArray, List.getElem_cons_succ, List.getElem_cons_zero, List.setIfInBounds_toArray, List.set_cons_zero, List.set_cons_succ])
  (refine wpAnyH_take (i := 7) (v := ?_) rfl (by kernel_rfl) (by kernel_rfl) (by kernel_rfl) (fun _ _ _ h => h) (Or.inl ⟨by rfl, ?rt⟩) (by assumption) ?_; case rt => (intro w hSw; (try dsimp only at hSw); go_simp; (try with_reducible rfl))); (try simp only [Act.put, List.getElem_toArray, List.getElem_cons_succ, List.getElem_cons_zero, List.setIfInBounds_toArray, List.set_cons_zero, List.set_cons_succ])
  (refine wpAnyH_take (i := 8) (v := ?_) rfl (by kernel_rfl) (by kernel_rfl) (by kernel_rfl) (fun _ _ _ h => h) (Or.inl ⟨by rfl, ?rt⟩) (by assumption) ?_; case rt => (intro w hSw; (try dsimp only at hSw); go_simp; (try with_reducible rfl))); (try simp only [Act.put, List.getElem_toArray, List.getElem_cons_succ, List.getElem_cons_zero, List.setIfInBounds_toArray, List.set_cons_zero, List.set_cons_succ])
  (refine wpAnyH_take (i := 9) (v := ?_) rfl (by kernel_rfl) (by kernel_rfl) (by kernel_rfl) (fun _ _ _ h => h) (Or.inl ⟨by rfl, ?rt⟩) (by assumption) ?_; case rt => (intro w hSw; (try dsimp only at hSw); go_simp; (try with_reducible rfl))); (try simp only [Act.put, List.getElem_toArray, List.getElem_cons_succ, List.getElem_cons_zero, List.setIfInBounds_toArray, List.set_cons_zero, List.set_cons_succ])
  have SF := Lib.hid ((HV.out.front lenHB k hk).below B1.out)
  have SD := Lib.hid ((HV.out.behind lenHB k hk).below B1.out)
  generalize (if cap = k then p else Option.map (fun x => x.add (k * 6)) p) = pD at *
  generalize l.length - k = nD at *
  generalize cap - k = cD at *
  (refine wpAnyH_ready (rs := [6]) (by kernel_rfl) (by simp) ?_; refine AllReadyH.cons rfl (fun K hK => ?_) AllReadyH.nil; go_simp)
  refine hK.out _ _ (keepB (by assumption) (Ba (Below.refl _ _) _)) (fun hHeld => ?_)
  clear hK K
  (try simp only [Act.put, List.getElem_toArray, List.getElem_cons_succ, List.getElem_cons_zero, List.setIfInBounds_toArray, List.set_cons_zero, List.set_cons_succ])
  (refine wpAnyH_ready (rs := [10]) (by kernel_rfl) (by simp) ?_; refine AllReadyH.cons rfl (fun K hK => ?_) AllReadyH.nil; go_simp)
  refine hK.out _ _ (keepB (by assumption) (Ba (Below.refl _ _) _)) (fun hHeld => ?_)
  clear hK K
  (try simp only [Act.put, List.getElem_toArray, List.getElem_cons_succ, List.getElem_cons_zero, List.setIfInBounds_toArray, List.set_cons_zero, List.set_cons_succ])
  obtain ⟨W3, hW3⟩ : ∃ W3, W3 = ((w1.alloc (.cells #[.int .i64 x, .int .i64 y, .int .i64 a, .int .i64 b, .int .i64 c, .int .i64 d] 96)).alloc (.cells #[.slice p k cap, .slice (some ⟨w1.heap.size, 0, none⟩) 1 1, .slice pD nD cD] 79)).drew := ⟨_, rfl⟩
  rw [← hW3]
  have hb3 : RowKit.Below w1.heap.size w1 W3 := by rw [hW3]; exact Bd (Ba (Ba (Below.refl _ _) _) _)
  have sl1 : Sl encHB W3 (.slice (some ⟨w1.heap.size, 0, none⟩) 1 1) [((x, y), (a, b, c, d))] := by
    rw [hW3]
    exact Sl.below (Sl.below (sl_lit (enc := encHB) (w := w1) (cs := #[.int .i64 x, .int .i64 y, .int .i64 a, .int .i64 b, .int .i64 c, .int .i64 d]) (t := 96) (b := w1.heap.size) [((x, y), (a, b, c, d))] rfl rfl (by unfold maxLen; simp)) (Ba (Below.refl _ _) _)) (Bd (Below.refl _ _))
  have hcs : ∀ i, i < 3 → W3.cell? ⟨w1.heap.size + 1, i, none⟩ = some ([Value.slice p k cap, .slice (some ⟨w1.heap.size, 0, none⟩) 1 1, .slice pD nD cD])[i]! := by
    intro i hi
    rw [hW3]
    rcases (show i = 0 ∨ i = 1 ∨ i = 2 by omega) with rfl | rfl | rfl <;> simp
  have CC := Lib.hid (concatB_call [l.take k, [((x, y), (a, b, c, d))], l.drop k] [.slice p k cap, .slice (some ⟨w1.heap.size, 0, none⟩) 1 1, .slice pD nD cD] (w1.heap.size + 1) W3 rfl hcs (fun i hi => by
      rcases (show i = 0 ∨ i = 1 ∨ i = 2 by simp at hi; omega) with rfl | rfl | rfl
      · exact SF.out.below hb3
      · exact sl1
      · exact SD.out.below hb3) (by simp; omega) (by simp) (by simp))
  have B3 := Lib.hid (Bt B1.out hb3)
  have HK3 := Lib.hid (show (RowKit.Below w1.heap.size w1 W3 ∧ ∀ b_1 o, b_1 < w1.heap.size → W3.cell? ⟨b_1, o, none⟩ = w1.cell? ⟨b_1, o, none⟩) from ⟨hb3, fun b o h => hb3.cell (p := ⟨b, o, none⟩) h⟩)
  clear hb3 sl1 hcs hW3
  (refine wpAnyH_ready (rs := [11]) (by kernel_rfl) (by simp) ?_; refine AllReadyH.cons rfl (fun K hK => ?_) AllReadyH.nil; go_simp)
  refine CC.out.mono ?_
  rintro e w4 ⟨v4, rfl, ho4, hb4⟩
  refine hK.out _ _ (keepB HK3.out hb4) (fun hHeld => ?_)
  clear hK K
  (try simp only [Act.put, List.getElem_toArray, List.getElem_cons_succ, List.getElem_cons_zero, List.setIfInBounds_toArray, List.set_cons_zero, List.set_cons_succ])
  (refine wpAnyH_take (i := 12) (v := ?_) rfl (by kernel_rfl) (by kernel_rfl) (by kernel_rfl) (fun _ _ _ h => h) (Or.inl ⟨by rfl, ?rt⟩) (by assumption) ?_; case rt => (intro w hSw; (try dsimp only at hSw); go_simp; (try with_reducible rfl))); (try simp only [Act.put, List.getElem_toArray, List.getElem_cons_succ, List.getElem_cons_zero, List.setIfInBounds_toArray, List.set_cons_zero, List.set_cons_succ])
  refine wpAnyH_done (by kernel_rfl) ?_ _
  have B4 := Lib.hid (Bt B3.out hb4)
  have e3 : [l.take k, [((x, y), (a, b, c, d))], l.drop k].flatten = L := by rw [HI.out]; simp
  rw [e3] at ho4
  have O4 := Lib.hid (row_mono ho4 B3.out.size)
  clear ho4 hb4
  go_wp2
  go_ret
  exact ⟨_, rfl, O4.out, B4.out⟩
set_option maxHeartbeats 2000000 in
set_option maxRecDepth 100000 in
theorem drop1_call (l : List Bxd) (x y : Int) (ph : Nat) (v : Value) (w : World) (hv : Sl encHB w v l) (hr : Rise ltB l) (hn : l.length ≤ 9000) (hp : placeL l (x, y) < l.length)
    (h1 : w.cell? ⟨ph, 0, none⟩ = some (.int .i64 x) ∧ w.cell? ⟨ph, 1, none⟩ = some (.int .i64 y)) :
    Calls Tryz.prog 72 #[v, .pointer (some ⟨ph, 0, none⟩)] w fun e w' => ∃ v', e = .returned v' ∧ w'.ownsRow w.heap.size 96 6 v' (delL l (x, y)).length (flat encHB (delL l (x, y))) ∧ RowKit.Below w.heap.size w w' := by
  have PC := Lib.hid (fun w hv => place_call l x y v w hv hr (by omega))
  have HV := Lib.hid hv
  obtain ⟨p, cap, rfl, hc1, hc2, h⟩ := hv
  have HI := Lib.hid (show delL l (x, y) = l.take (placeL l (x, y)) ++ l.drop (placeL l (x, y) + 1) from rfl)
  generalize delL l (x, y) = L at *
  generalize placeL l (x, y) = k at *
  obtain ⟨q1, q2⟩ := h1
  have hm : cap ≤ 9223372036854775807 := by unfold maxLen at hc2; omega
  have hph := cell_lt q1
  clear h hr
  go_enter Tryz.func72, Tryz.ntmps72
  go_wp2_with fail
  refine (PC.out _ HV.out).mono ?_
  rintro e w1 ⟨rfl, hg1⟩
  have b1 := hg1.below
  have B1 := Lib.hid b1
  replace q1 := Bc b1 hph q1
  replace q2 := Bc b1 hph q2
  replace hph := Bl b1 hph
  clear b1 hg1
  have hk : k ≤ l.length := by omega
  have hk2 : k ≤ cap := by omega
  have hk3 : k + 1 ≤ l.length := hp
  have hk4 : k + 1 ≤ cap := by omega
  have hk5 : (0 : Int) ≤ (k : Int) + 1 := by omega
  have hk6 : (k : Int) + 1 ≤ (l.length : Int) := by omega
  have hkw : IntKind.i64.wrap ((k : Int) + 1) = ((k + 1 : Nat) : Int) := by rw [IntWalk.i64_in _ ⟨by omega, by omega⟩]; omega
  go_wp2_with fail
  refine wp_region_held_drew (S := (fun w' => Below (w1).heap.size (w1) w' ∧ ∀ b_1 o, b_1 < (w1).heap.size → w'.cell? ⟨b_1, o, none⟩ = (w1).cell? ⟨b_1, o, none⟩)) (by kernel_rfl) (keep0 _) (fun hHeld => ?_)
  (refine wpAnyH_take (i := 0) (v := ?_) rfl (by kernel_rfl) (by kernel_rfl) (by kernel_rfl) (fun _ _ _ h => h) (Or.inl ⟨by rfl, ?rt⟩) (by assumption) ?_; case rt => (intro w hSw; (try dsimp only at hSw); go_simp; (try with_reducible rfl))); (try simp only [Act.put, List.getElem_toArray, List.getElem_cons_succ, List.getElem_cons_zero, List.setIfInBounds_toArray, List.set_cons_zero, List.set_cons_succ])
  (refine wpAnyH_take (i := 1) (v := ?_) rfl (by kernel_rfl) (by kernel_rfl) (by kernel_rfl) (fun _ _ _ h => h) (Or.inl ⟨by rfl, ?rt⟩) (by assumption) ?_; case rt => (intro w hSw; (try dsimp only at hSw); go_simp; (try with_reducible rfl))); (try simp only [Act.put, List.getElem_toArray, List.getElem_cons_succ, List.getElem_cons_zero, List.setIfInBounds_toArray, List.set_cons_zero, List.set_cons_succ])
  (refine wpAnyH_take (i := 2) (v := ?_) rfl (by kernel_rfl) (by kernel_rfl) (by kernel_rfl) (fun _ _ _ h => h) (Or.inl ⟨by rfl, ?rt⟩) (by assumption) ?_; case rt => (intro w hSw; (try dsimp only at hSw); go_simp; (try with_reducible rfl))); (try simp only [Act.put, List.getElem_toArray, List.getElem_cons_succ, List.getElem_cons_zero, List.setIfInBounds_toArray, List.set_cons_zero, List.set_cons_succ])
  (refine wpAnyH_take (i := 3) (v := ?_) rfl (by kernel_rfl) (by kernel_rfl) (by kernel_rfl) (fun _ _ _ h => h) (Or.inl ⟨by rfl, ?rt⟩) (by assumption) ?_; case rt => (intro w hSw; (try dsimp only at hSw); go_simp; (try with_reducible rfl))); (try simp only [Act.put, List.getElem_toArray, List.getElem_cons_succ, List.getElem_cons_zero, List.setIfInBounds_toArray, List.set_cons_zero, List.set_cons_succ])
  (refine wpAnyH_take (i := 4) (v := ?_) rfl (by kernel_rfl) (by kernel_rfl) (by kernel_rfl) (fun _ _ _ h => h) (Or.inl ⟨by rfl, ?rt⟩) (by assumption) ?_; case rt => (intro w hSw; (try dsimp only at hSw); go_simp; (try with_reducible rfl))); (try simp only [Act.put, List.getElem_toArray, List.getElem_cons_succ, List.getElem_cons_zero, List.setIfInBounds_toArray, List.set_cons_zero, List.set_cons_succ])
  (refine wpAnyH_take (i := 5) (v := ?_) rfl (by kernel_rfl) (by kernel_rfl) (by kernel_rfl) (fun _ _ _ h => h) (Or.inl ⟨by rfl, ?rt⟩) (by assumption) ?_; case rt => (intro w hSw; (try dsimp only at hSw); go_simp; (try with_reducible rfl))); (try simp only [Act.put, List.getElem_toArray, List.getElem_cons_succ, List.getElem_cons_zero, List.setIfInBounds_toArray, List.set_cons_zero, List.set_cons_succ])
  (try rw [hkw])
  (refine wpAnyH_take (i := 6) (v := ?_) rfl (by kernel_rfl) (by kernel_rfl) (by kernel_rfl) (fun _ _ _ h => h) (Or.inl ⟨by rfl, ?rt⟩) (by assumption) ?_; case rt => (intro w hSw; (try dsimp only at hSw); go_simp; (try with_reducible rfl))); (try simp only [Act.put, List.getElem_toArray, List.getElem_cons_succ, List.getElem_cons_zero, List.setIfInBounds_toArray, List.set_cons_zero, List.set_cons_succ])
  have SF := Lib.hid ((HV.out.front lenHB k hk).below B1.out)
  have SD := Lib.hid ((HV.out.behind lenHB (k + 1) hk3).below B1.out)
  generalize (if cap = k + 1 then p else Option.map (fun x => x.add ((k + 1) * 6)) p) = pD at *
  generalize l.length - (k + 1) = nD at *
  generalize cap - (k + 1) = cD at *
  (refine wpAnyH_ready (rs := [7]) (by kernel_rfl) (by simp) ?_; refine AllReadyH.cons rfl (fun K hK => ?_) AllReadyH.nil; go_simp)
  refine hK.out _ _ (keepB (by assumption) (Ba (Below.refl _ _) _)) (fun hHeld => ?_)
  clear hK K
  (try simp only [Act.put, List.getElem_toArray, List.getElem_cons_succ, List.getElem_cons_zero, List.setIfInBounds_toArray, List.set_cons_zero, List.set_cons_succ])
  obtain ⟨W3, hW3⟩ : ∃ W3, W3 = (w1.alloc (.cells #[.slice p k cap, .slice pD nD cD] 79)).drew := ⟨_, rfl⟩
  rw [← hW3]
  have hb3 : RowKit.Below w1.heap.size w1 W3 := by rw [hW3]; exact Bd (Ba (Below.refl _ _) _)
  have hcs : ∀ i, i < 2 → W3.cell? ⟨w1.heap.size, i, none⟩ = some ([Value.slice p k cap, .slice pD nD cD])[i]! := by
    intro i hi
    rw [hW3]
    rcases (show i = 0 ∨ i = 1 by omega) with rfl | rfl <;> simp
  have CC := Lib.hid (concatB_call [l.take k, l.drop (k + 1)] [.slice p k cap, .slice pD nD cD] w1.heap.size W3 rfl hcs (fun i hi => by
      rcases (show i = 0 ∨ i = 1 by simp at hi; omega) with rfl | rfl
      · exact SF.out.below hb3
      · exact SD.out.below hb3) (by simp; omega) (by simp) (by simp))
  have B3 := Lib.hid (Bt B1.out hb3)
  have HK3 := Lib.hid (show (RowKit.Below w1.heap.size w1 W3 ∧ ∀ b_1 o, b_1 < w1.heap.size → W3.cell? ⟨b_1, o, none⟩ = w1.cell? ⟨b_1, o, none⟩) from ⟨hb3, fun b o h => hb3.cell (p := ⟨b, o, none⟩) h⟩)
  clear hb3 hcs hW3
  (refine wpAnyH_ready (rs := [8]) (by kernel_rfl) (by simp) ?_; refine AllReadyH.cons rfl (fun K hK => ?_) AllReadyH.nil; go_simp)
  refine CC.out.mono ?_
  rintro e w4 ⟨v4, rfl, ho4, hb4⟩
  refine hK.out _ _ (keepB HK3.out hb4) (fun hHeld => ?_)
  clear hK K
  (try simp only [Act.put, List.getElem_toArray, List.getElem_cons_succ, List.getElem_cons_zero, List.setIfInBounds_toArray, List.set_cons_zero, List.set_cons_succ])
  (refine wpAnyH_take (i := 9) (v := ?_) rfl (by kernel_rfl) (by kernel_rfl) (by kernel_rfl) (fun _ _ _ h => h) (Or.inl ⟨by rfl, ?rt⟩) (by assumption) ?_; case rt => (intro w hSw; (try dsimp only at hSw); go_simp; (try with_reducible rfl))); (try simp only [Act.put, List.getElem_toArray, List.getElem_cons_succ, List.getElem_cons_zero, List.setIfInBounds_toArray, List.set_cons_zero, List.set_cons_succ])
  refine wpAnyH_done (by kernel_rfl) ?_ _
  have B4 := Lib.hid (Bt B3.out hb4)
  have e3 : [l.take k, l.drop (k + 1)].flatten = L := by rw [HI.out]; simp
  rw [e3] at ho4
  have O4 := Lib.hid (row_mono ho4 B3.out.size)
  clear ho4 hb4
  go_wp2
  go_ret
  exact ⟨_, rfl, O4.out, B4.out⟩
end Go.Proofs.YtahichjiphjapaaGreatDoor
