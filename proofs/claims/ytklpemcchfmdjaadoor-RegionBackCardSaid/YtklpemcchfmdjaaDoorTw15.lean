/-
  Regions: twice; slices.Values, Collect, Sorted and Compact at numbers.
-/
import Derived.Test.YtklpemcchfmdjaaDoorTh15
import Derived.Test.YtklpemcchfmdjaaDoorShelfL
import Derived.Sort.EveryDepth
import Derived.RangeFuncBox
import Derived.RangeFuncNested
import Derived.Lib.SlKeysI
namespace Go.Proofs.YtklpemcchfmdjaaDoor
set_option linter.unusedSimpArgs false
set_option linter.unusedVariables false
open Go.RowKit Go.Sort Go.Lib Go.Shelf Go.Maps

attribute [local go_sem] Oper.semAt_some
abbrev ValsF : Nat := 48
set_option maxRecDepth 100000 in
set_option maxHeartbeats 1000000 in
/-- The iterator over a slice of numbers. -/
theorem vals_in (F : Fence) (n : Nat) (h93 : F.fn ValsF) (hro : F.round = none) (hn : 1 ≤ n) (l Bv n0 : Nat) (q : Option Addr) (cap : Nat) (xs : List Int) (J Jx : List Int → World → Prop)
    (hY : ∀ pre x W, J pre W → pre.length < xs.length → YieldAt F (n - 1) Tryd.prog l #[.int .i64 x] W fun e W' => (e = .returned (.bool true) ∧ J (pre ++ [x]) W' ∧ RowKit.Below n0 W W') ∨ (e = .returned (.bool false) ∧ Jx (pre ++ [x]) W'))
    (W : World) (hn0 : n0 ≤ W.heap.size) (hBv : Bv < n0) (hv : W.cell? ⟨Bv, 0, none⟩ = some (.slice q xs.length cap)) (l1 : xs.length ≤ cap) (l2 : cap ≤ 9223372036854775807)
    (l3 : 0 < xs.length → ∃ g o, q = some ⟨g, o, none⟩ ∧ g < n0 ∧ ∀ j u, (flat encI xs)[j]? = some u → W.cell? ⟨g, o + j, none⟩ = some u) (hxl : xs.length ≤ 1024) (h0 : J [] W) :
    CallsIn F n Tryd.prog ValsF #[.func (.yield l) #[] #[], .pointer (some ⟨Bv, 0, none⟩)] W fun e W' => (∃ v, e = .returned v) ∧ ((∃ ss, ss = xs ∧ J ss W') ∨ ∃ pre, True ∧ Jx pre W') := by
  refine callsIn_of_wp Tryd.func48 rfl h93 ?_ hro
  simp only [Tryd.ntmps48, List.size_toArray, List.length_cons, List.length_nil, Nat.reduceAdd, Nat.reduceSub, Array.replicate_succ, Array.replicate_zero, List.push_toArray, List.append_toArray, List.nil_append, List.cons_append]
  have hBl := cell_lt hv
  gi_wp2
  gi_loopw [7] (fun i wr => ∃ k : Nat, k ≤ xs.length ∧ i = .int .i64 k ∧ Hid (RowKit.Below n0 W wr) ∧ Hid (J (xs.take k) wr)) (fun i _ => xs.length - (intOf i).toNat)
  case atStart => exact ⟨0, Nat.zero_le _, rfl, Lib.hid (Below.refl _ _), Lib.hid h0⟩
  case round =>
    obtain ⟨k, hk, rfl, HB, HJ⟩ := hrel
    by_cases hkn : k < xs.length
    · obtain ⟨g, o, rfl, hg, hc⟩ := l3 (by omega)
      have c1 := (HB.out.cell (p := ⟨g, o + k, none⟩) hg).trans (sl_cell1 encI1' hc hkn)
      have hgl := cell_lt c1
      have htk : xs.take (k + 1) = xs.take k ++ [xs[k]!] := by rw [List.take_succ_eq_append_getElem hkn, getElem!_pos xs k hkn]
      have HTK := Lib.hid htk
      obtain ⟨fn, tmps, assign, body, hy, hR⟩ := hY (xs.take k) xs[k]! wr HJ.out (by simp; omega)
      generalize xs[k]! = x at *
      have hkz : (k : Int) < (xs.length : Int) := by omega
      clear htk hc
      gi_wp2
      refine hR.mono ?_
      rintro e W3 (⟨rfl, hJ3, hk3⟩ | ⟨rfl, hJx3⟩)
      · have HJ3 := Lib.hid hJ3
        have HB3 := Lib.hid (HB.out.trans hk3)
        clear hJ3 hk3
        gi_wp2
        go_roundw
        case measure => simp only [intOf]; omega
        case rel => exact ⟨k + 1, by omega, by go_num, HB3, Lib.hid (by rw [HTK.out]; exact HJ3.out)⟩
      · gi_wp2
        refine bodyPost_ret (results_none rfl _ _ _) rfl ?_
        exact ⟨⟨_, rfl⟩, .inr ⟨_, trivial, hJx3⟩⟩
    · obtain rfl : k = xs.length := by omega
      have hkz : ¬ (xs.length : Int) < (xs.length : Int) := by omega
      rw [List.take_length] at HJ
      gi_wp2
      go_end0
      exact ⟨⟨_, rfl⟩, .inl HJ.out⟩
theorem vals_stops (F : Fence) (n : Nat) (h93 : F.fn ValsF) (hro : F.round = none) (hn : 1 ≤ n) (Bv : Nat) (q : Option Addr) (cap : Nat) (xs : List Int) (w : World) (hBv : Bv < w.heap.size) (hv : w.cell? ⟨Bv, 0, none⟩ = some (.slice q xs.length cap)) (l1 : xs.length ≤ cap) (l2 : cap ≤ 9223372036854775807)
    (l3 : 0 < xs.length → ∃ g o, q = some ⟨g, o, none⟩ ∧ g < w.heap.size ∧ ∀ j u, (flat encI xs)[j]? = some u → w.cell? ⟨g, o + j, none⟩ = some u) (hxl : xs.length ≤ 1024) :
    SeqStopsK F n Tryd.prog ValsF #[.pointer (some ⟨Bv, 0, none⟩)] (fun x : Int => #[.int .i64 x]) (RowKit.Below w.heap.size) (fun ss => ss = xs) (fun _ => True) xs.length w := fun l J Jx W hW _ _ hY h0 =>
  vals_in F n h93 hro hn l Bv w.heap.size q cap xs J Jx hY W hW.size hBv ((hW.cell (p := ⟨Bv, 0, none⟩) hBv).trans hv) l1 l2 (fun h => by
    obtain ⟨g, o, e, hg, hc⟩ := l3 h
    exact ⟨g, o, e, hg, fun j u hu => (hW.cell (p := ⟨g, o + j, none⟩) hg).trans (hc j u hu)⟩) hxl h0
theorem infoI : (Tryd.prog.info? 3).map (fun i => (i.zero, i.size, i.bytes)) = some (some (.int .i64 0), 1, 8) := by kernel_rfl
set_option maxRecDepth 100000 in
set_option maxHeartbeats 2000000 in
/-- slices.AppendSeq(nil, slices.Values(s)). -/
theorem appendSeqV (Bv : Nat) (q : Option Addr) (cap : Nat) (xs : List Int) (w : World) (hBv : Bv < w.heap.size) (hv : w.cell? ⟨Bv, 0, none⟩ = some (.slice q xs.length cap)) (l1 : xs.length ≤ cap) (l2 : cap ≤ 9223372036854775807)
    (l3 : 0 < xs.length → ∃ g o, q = some ⟨g, o, none⟩ ∧ g < w.heap.size ∧ ∀ j u, (flat encI xs)[j]? = some u → w.cell? ⟨g, o + j, none⟩ = some u) (hxl : xs.length ≤ 1024) :
    Calls Tryd.prog 50 #[.slice none 0 0, .func (.func ValsF) #[] #[.pointer (some ⟨Bv, 0, none⟩)]] w fun e W' => ∃ v, e = .returned v ∧ W'.ownsRow w.heap.size 3 1 v xs.length (xs.map (Value.int .i64)) ∧ RowKit.Below w.heap.size w W' := by
  refine callsIn_wide (n := 6).1 ?_
  obtain ⟨i0, hi, hz0, hz1, hz2⟩ := info_parts infoI
  refine callsIn_of_wp_marks Tryd.func50 rfl trivial ?_ rfl
  simp only [Tryd.ntmps50, List.size_toArray, List.length_cons, List.length_nil, Nat.reduceAdd, Nat.reduceSub, Array.replicate_succ, Array.replicate_zero, List.push_toArray, List.append_toArray, List.nil_append, List.cons_append]
  gi_wp2
  have bO := Boxed.new w 35 (.slice none 0 0)
  have hB0 : RowKit.Below w.heap.size w (w.alloc (.cells #[.slice none 0 0] 35)) := (Below.refl _ w).alloc (Nat.le_refl _) _
  have hseq0 := vals_stops Fence.wide 5 trivial rfl (by omega) Bv q cap xs w hBv hv l1 l2 l3 hxl
  refine wpIn_rangeFunc_ownG rfl (by omega) (gf := ValsF) (lb := #[.pointer (some ⟨Bv, 0, none⟩)]) rfl trivial (enters_of Tryd.func48 (by kernel_rfl) rfl)
    hseq0 belowK_t (belowK_b (by simp)) hB0 (fun _ => rfl)
    (fun pre W => (∃ v, Boxed W w.heap.size 35 v ∧ W.ownsRow w.heap.size 3 1 v pre.length (pre.map (Value.int .i64)) ∧ (v = .slice none 0 0 ↔ pre = [])) ∧ RowKit.Below w.heap.size w W)
    (fun _ _ _ => False)
    (OwnFrom.and (Own.from (holdsRow_own w.heap.size w.heap.size 35 3 1 (fun pre => pre.length) (fun pre => pre.map (Value.int .i64)) (fun pre v => v = .slice none 0 0 ↔ pre = [])) _) (ownFrom_below (Nat.le_refl _) (by simp)))
    (fun _ _ _ _ _ hs _ _ => hs)
    ⟨⟨_, bO, World.ownsRow_nil _ _ _ _, by simp⟩, hB0⟩
    (fun x => { tmps := #[.slice none 0 0, .func (.func ValsF) #[] #[.pointer (some ⟨Bv, 0, none⟩)], .pointer (some ⟨w.heap.size, 0, none⟩), undef, .slice none 0 0, .int .i64 x, .func (.func ValsF) #[] #[.pointer (some ⟨Bv, 0, none⟩)], .int .i64 x, undef, undef, undef, undef, undef], defers := [] }) ?assign ?body ?done ?stop
  case assign =>
    intro l x W K hK
    gi_wp2
    exact hK
  case body =>
    rintro l pre x W ⟨⟨v, hv, hrow, hnil⟩, hB⟩ hlt
    have hc1 := hv.cell
    gi_wp2_with (gi_at_builtin; refine wpListIn_append_own _ rfl _ _ 35 rfl w.heap.size 3 i0 (.int .i64 0) 1 8 Tryd.underlying35 hi hz0 hz1 hz2 rfl (by decide) _ _ _ rfl (hrow.alloc _) ⟨W.heap.size, 0, none⟩ 1 1 [.int .i64 x] rfl rfl (cell_one_new _ _ _) (by simp [Value.oneCell']) (by unfold maxLen; omega) (by omega) (by have := hB.size; simp; omega) ?_; intro v' w1 hown' hgrow _; obtain ⟨g', cap', rfl⟩ := ownsRow_succ hown'; obtain ⟨hv1, hv2, hr2, hk2, hb2⟩ := hv.appended (by decide) hrow hB.size (Nat.le_refl _) hown' hgrow; have hc1 := hv1.cell; have hf1 := hv1.frozen)
    exact ⟨hk2.from _, hb2, ⟨_, hv2, by simpa using hr2, by simp⟩, hB.trans hb2⟩
  case done =>
    rintro D ys W hD hks ⟨⟨v, hv, hrow, hnil⟩, hB⟩ hK
    have hc1 := hv.cell
    subst hks
    gi_wp2
    refine ⟨by simp, .inl ⟨_, _, rfl, run_takeDeferred hK, ?_⟩⟩
    exact ⟨_, results_tmp rfl _ _ _, v, rfl, ownsRow_putObj hrow _ hK rfl, hB.trans (belowK_b (w := w) (Nat.le_refl _) W D _ _ (by simp at hD; omega) hK rfl rfl)⟩
  case stop =>
    rintro D c pre W _ _ h _
    exact h.elim
theorem collectV (Bv : Nat) (q : Option Addr) (cap : Nat) (xs : List Int) (w : World) (hBv : Bv < w.heap.size) (hv : w.cell? ⟨Bv, 0, none⟩ = some (.slice q xs.length cap)) (l1 : xs.length ≤ cap) (l2 : cap ≤ 9223372036854775807)
    (l3 : 0 < xs.length → ∃ g o, q = some ⟨g, o, none⟩ ∧ g < w.heap.size ∧ ∀ j u, (flat encI xs)[j]? = some u → w.cell? ⟨g, o + j, none⟩ = some u) (hxl : xs.length ≤ 1024) :
    Calls Tryd.prog 46 #[.func (.func ValsF) #[] #[.pointer (some ⟨Bv, 0, none⟩)]] w fun e W' => ∃ v, e = .returned v ∧ W'.ownsRow w.heap.size 3 1 v xs.length (xs.map (Value.int .i64)) ∧ RowKit.Below w.heap.size w W' := by
  have H := Lib.hid (appendSeqV Bv q cap xs w hBv hv l1 l2 l3 hxl)
  clear hv l3
  go_enter Tryd.func46, Tryd.ntmps46
  go_wp2_with fail
  refine H.out.mono ?_
  rintro e w1 ⟨v, rfl, h3, h4⟩
  have H3 := Lib.hid h3
  have H4 := Lib.hid h4
  obtain ⟨p, c2, rfl, _, _, _⟩ := row_val h3
  clear h3 h4
  go_wp2
  go_ret
  exact ⟨_, rfl, H3.out, H4.out⟩
theorem map_flatI (l : List Int) : l.map (Value.int .i64) = flat encI l := (flat1 encI1' l).symm
/-- The numbers in order. -/
abbrev msI (l : List Int) : List Int := l.mergeSort fun x y => decide (x ≤ y)
theorem bitsLen1 (n : Int) (hn : n = 0 ∨ n = 1) (w : World) : Calls Tryd.prog 52 #[.int .u64 n] w fun e w' => (∃ r, e = .returned (.int .i64 r)) ∧ w = w' := by
  rcases hn with rfl | rfl
  all_goals
    go_enter Tryd.func52, Tryd.ntmps52
    go_wp2
    go_ret
    exact ⟨⟨_, rfl⟩, rfl⟩

theorem insert1 (v : Value) (n : Nat) (hn : n ≤ 1) (w : World) : Calls Tryd.prog 53 #[v, .int .i64 0, .int .i64 n] w fun e w' => e = .returned (.tuple #[]) ∧ w = w' := by
  have h1 : ¬ (1 : Int) < (n : Int) := by omega
  go_enter Tryd.func53, Tryd.ntmps53
  go_wp2
  refine wp_loop_rounds 1 ?_
  rw [rounds_succ]
  go_wp2
  first | go_end0 | refine bodyPost_ret (results_none rfl _ _ _) rfl ?_
  exact ⟨rfl, rfl⟩
theorem pdq1 (v : Value) (n : Nat) (hn : n ≤ 1) (r : Int) (w : World) : Calls Tryd.prog 51 #[v, .int .i64 0, .int .i64 n, .int .i64 r] w fun e w' => e = .returned (.tuple #[]) ∧ w = w' := by
  have h1 : (n : Int) ≤ 12 := by omega
  have HI := Lib.hid (insert1 v n hn w)
  go_enter Tryd.func51, Tryd.ntmps51
  go_wp2
  refine wp_loop_rounds 1 ?_
  rw [rounds_succ]
  go_wp2_with fail
  refine HI.out.mono ?_
  rintro e w1 ⟨rfl, rfl⟩
  go_wp2
  refine bodyPost_ret (results_none rfl _ _ _) rfl ?_
  exact ⟨rfl, rfl⟩
theorem sort1 (p : Option Addr) (n cap : Nat) (hn : n ≤ 1) (w : World) : Calls Tryd.prog 47 #[.slice p n cap] w fun e w' => e = .returned (.tuple #[]) ∧ w = w' := by
  have HB := Lib.hid (bitsLen1 n (by omega) w)
  have HP := Lib.hid (fun r => pdq1 (.slice p n cap) n hn r w)
  have hu : IntKind.u64.wrap (n : Int) = n := by
    have : n = 0 ∨ n = 1 := by omega
    rcases this with rfl | rfl <;> decide
  go_enter Tryd.func47, Tryd.ntmps47
  go_wp2_with fail
  refine HB.out.mono ?_
  rintro e w1 ⟨⟨r, rfl⟩, rfl⟩
  go_wp2_with fail
  refine (HP.out _).mono ?_
  rintro e w1 ⟨rfl, rfl⟩
  go_wp2
  first | go_end0 | refine bodyPost_ret (results_none rfl _ _ _) rfl ?_
  exact ⟨rfl, rfl⟩
set_option maxRecDepth 100000 in
/-- slices.Sort of a row of one's own. -/
theorem sortI_own {w : World} {base : Nat} {v : Value} {l : List Int} (h : w.ownsRow base 3 1 v l.length (flat encI l)) (hb : base ≤ w.heap.size) (hl : l.length ≤ 1024) :
    Calls Tryd.prog 47 #[v] w fun e w' => e = .returned (.tuple #[]) ∧ w'.ownsRow base 3 1 v l.length (flat encI (msI l)) ∧ RowKit.Below base w w' := by
  rcases h.2 with ⟨rfl, hz⟩ | ⟨gb, cap, cur, rfl, hbase, hgb, r1, r2, r3, r4⟩
  · have hss : l = [] := List.eq_nil_of_length_eq_zero hz
    subst hss
    refine (sort1 none 0 0 (Nat.zero_le _) w).mono ?_
    rintro e w' ⟨rfl, rfl⟩
    exact ⟨rfl, by simpa [msI] using h, Below.refl _ _⟩
  · have hH : Holds (Value.int .i64) w gb 0 l.toArray := holds_of_block_i hgb (by rw [← map_flatI] at r4; simpa using r4)
    have hgl : gb < w.heap.size := (Array.getElem?_eq_some_iff.1 hgb).1
    have cS := calls_of_every_depth fun D => AnyS.slices_Sort_int_in Tryd.sortI D gb 0 cap l w hH hgl (by omega)
    refine Calls.mono cS ?_
    rintro e w' ⟨rfl, nn, os, rfl⟩
    refine ⟨rfl, ?_, (Below.refl _ w).grown (grownBy_sorted_i _) hb (fun j hj => by cases hj; exact hbase)⟩
    have := ownsRow_sorted_i (w := w) (base := base) (g := gb) (cap := cap) (n := nn) (os := os) (ss := l) (ts := msI l) (by simp) hbase hgb r1 r2 r3
    rw [← map_flatI]
    simpa using this
set_option maxRecDepth 100000 in
/-- slices.Sorted(slices.Values(s)). -/
theorem sortedV (Bv : Nat) (q : Option Addr) (cap : Nat) (xs : List Int) (w : World) (hBv : Bv < w.heap.size) (hv : w.cell? ⟨Bv, 0, none⟩ = some (.slice q xs.length cap)) (l1 : xs.length ≤ cap) (l2 : cap ≤ 9223372036854775807)
    (l3 : 0 < xs.length → ∃ g o, q = some ⟨g, o, none⟩ ∧ g < w.heap.size ∧ ∀ j u, (flat encI xs)[j]? = some u → w.cell? ⟨g, o + j, none⟩ = some u) (hxl : xs.length ≤ 1024) :
    Calls Tryd.prog 42 #[.func (.func ValsF) #[] #[.pointer (some ⟨Bv, 0, none⟩)]] w fun e W' => ∃ v, e = .returned v ∧ W'.ownsRow w.heap.size 3 1 v xs.length (flat encI (msI xs)) ∧ RowKit.Below w.heap.size w W' := by
  have H := Lib.hid (collectV Bv q cap xs w hBv hv l1 l2 l3 hxl)
  clear hv l3
  go_enter Tryd.func42, Tryd.ntmps42
  go_wp2_with fail
  refine H.out.mono ?_
  rintro e w1 ⟨v, rfl, h3, h4⟩
  rw [map_flatI] at h3
  have HS := Lib.hid (sortI_own h3 h4.size hxl)
  have H4 := Lib.hid h4
  obtain ⟨p, c2, rfl, _, _, _⟩ := row_val h3
  clear h3 h4 H
  go_wp2_with fail
  refine HS.out.mono ?_
  rintro e w2 ⟨rfl, h5, h6⟩
  have H5 := Lib.hid h5
  have H6 := Lib.hid (H4.out.trans h6)
  clear h5 h6 HS
  go_wp2
  go_ret
  exact ⟨_, rfl, H5.out, H6.out⟩
theorem below_putRow {α : Type} [Inhabited α] {enc : α → Value} {B : Nat} {w : World} {b o : Nat} {d : Array α} (hB : B ≤ b) : RowKit.Below B w (putRow enc w b o d) := by
  refine ⟨rfl, rfl, rfl, ?_, fun j hj => ?_⟩
  · simp [putRow, mapBlock]
  · simp only [putRow, mapBlock, Array.getElem?_modify]
    rw [if_neg (by omega)]
theorem oneCellI : OneCell (Value.int .i64) := fun _ => rfl

set_option maxHeartbeats 1000000 in
set_option maxRecDepth 100000 in
theorem compactI_call (B blk cap : Nat) (d : Array Int) (w : World) (hH : HoldsK encI 1 w blk 0 d) (hB : B ≤ blk) (hsz : d.size ≤ 1000000) (hcap : d.size ≤ cap) (hcm : cap ≤ 9223372036854775807) :
    Calls Tryd.prog 44 #[.slice (some ⟨blk, 0, none⟩) d.size cap] w fun e w' => e = .returned (.slice (some ⟨blk, 0, none⟩) (compactUpTo d d.size).length cap) ∧
      (∃ d' : Array Int, d'.size = d.size ∧ (∀ j, j < (compactUpTo d d.size).length → (compactUpTo d d.size)[j]? = some d'[j]!) ∧ HoldsK encI 1 w' blk 0 d') ∧ RowKit.Below B w w' := by
  have hcon := AnyE.slices_Compact Tryd.compactI (Value.int .i64) oneCellI (EqlAt.intD _ _ _) (NeqAt.intD _ _ _) 0 Tryd.zeroValue3 blk 0 cap d w (holdsI.1 hH) (by omega) hcap
  refine hcon.mono ?_
  rintro e w' ⟨rfl, q, rfl⟩
  have hle : (compactUpTo d d.size).length ≤ d.size := by
    unfold compactUpTo
    rw [List.length_map]
    exact Nat.le_trans (List.length_filter_le _ _) (by simp)
  refine ⟨rfl, ⟨_, ?_, fun j hj => ?_, holdsI.2 (holds_putRow _ _ blk 0 d _ (holds_ahead _ w q blk 0 d (holdsI.1 hH)) ?_)⟩, ?_⟩
  · simp; omega
  · rw [arr_get, getElem!_pos _ j (by simp; omega), List.getElem_append_left hj, List.getElem?_eq_getElem hj]
  · simp; omega
  · have := below_putRow (enc := Value.int .i64) (w := Sort.ahead w q) (o := 0) (d := (compactUpTo d d.size ++ List.replicate (d.size - (compactUpTo d d.size).length) 0).toArray) hB
    exact ⟨this.os, this.tape, this.output, this.size, this.block⟩

set_option maxRecDepth 100000 in
theorem compact0 (p : Option Addr) (cap : Nat) (w : World) : Calls Tryd.prog 44 #[.slice p 0 cap] w fun e w' => e = .returned (.slice p 0 cap) ∧ w = w' := by
  go_enter Tryd.func44, Tryd.ntmps44
  go_wp2
  go_ret
  exact ⟨rfl, rfl⟩
/-- Of numbers in order as many are left as there are of them, if and only if none stands twice. -/
theorem compact_twice (l : List Int) : decide ((compactUpTo (msI l).toArray (msI l).toArray.size).length < l.length) = !decide l.Nodup := by
  have hperm : (msI l).Perm l := List.mergeSort_perm l _
  have hlen : (msI l).length = l.length := hperm.length_eq
  have hsort : (msI l).Pairwise fun x y => decide (x ≤ y) = true := List.pairwise_mergeSort (fun a b c h1 h2 => by simp at *; omega) (fun a b => by simp; omega) l
  rw [Bool.eq_iff_iff, decide_eq_true_eq, Bool.not_eq_true', decide_eq_false_iff_not, ← hperm.nodup_iff]
  generalize msI l = s at *
  rw [← hlen]
  unfold compactUpTo
  rw [List.length_map, List.size_toArray]
  have get : ∀ j (hj : j < s.length), s.toArray[j]! = s[j] := fun j hj => by rw [getElem!_pos s.toArray j (by simpa using hj)]; simp
  constructor
  · intro h hn
    have : (List.range s.length).filter (keeps s.toArray) = List.range s.length := List.filter_eq_self.2 fun j hj => by
      have hj := List.mem_range.1 hj
      unfold keeps
      rw [decide_eq_true_eq]
      by_cases h0 : j = 0
      · exact .inl h0
      · refine .inr fun e => ?_
        rw [get j hj, get (j - 1) (by omega)] at e
        exact List.pairwise_iff_getElem.1 hn (j - 1) j (by omega) hj (by omega) e.symm
    rw [this, List.length_range] at h
    omega
  · intro hn
    rcases Nat.lt_or_ge ((List.range s.length).filter (keeps s.toArray)).length s.length with h | h
    · exact h
    · exfalso
      refine hn (List.pairwise_iff_getElem.2 fun i j hi hj hij e => ?_)
      have hle := List.length_filter_le (keeps s.toArray) (List.range s.length)
      rw [List.length_range] at hle
      have hall : (List.range s.length).filter (keeps s.toArray) = List.range s.length := List.Sublist.eq_of_length List.filter_sublist (by rw [List.length_range]; omega)
      have hk := (List.filter_eq_self.1 hall) j (List.mem_range.2 hj)
      unfold keeps at hk
      rw [decide_eq_true_eq] at hk
      rcases hk with hk | hk
      · omega
      · rw [get j hj, get (j - 1) (by omega)] at hk
        have p := List.pairwise_iff_getElem.1 hsort
        have p1 := p (j - 1) j (by omega) hj (by omega)
        rw [decide_eq_true_eq] at p1
        rcases Nat.lt_or_ge i (j - 1) with q | q
        · have p2 := p i (j - 1) hi (by omega) q
          rw [decide_eq_true_eq] at p2
          omega
        · have e2 : i = j - 1 := by omega
          subst e2
          exact hk e.symm
set_option maxRecDepth 100000 in
theorem values_call (v : Value) (w : World) (hv : ∃ q n c, v = .slice q n c) : Calls Tryd.prog 43 #[v] w fun e w' => e = .returned (.func (.func ValsF) #[] #[.pointer (some ⟨w.heap.size, 0, none⟩)]) ∧ w' = w.alloc (.cells #[v] 35) := by
  obtain ⟨q, n, c, rfl⟩ := hv
  go_enter Tryd.func43, Tryd.ntmps43
  go_wp2
  go_ret
  exact ⟨rfl, rfl⟩
set_option maxRecDepth 100000 in
/-- Whether a number is told twice. -/
theorem twice_call (l : List Int) (v : Value) (w : World) (hs : Sl encI w v l) (hl : l.length ≤ 1024) : Calls Tryd.prog 33 #[v] w fun e w' => e = .returned (.bool (!decide l.Nodup)) ∧ RowKit.Below w.heap.size w w' := by
  obtain ⟨q, cap, rfl, l1, l2, l3⟩ := hs
  unfold maxLen at l2
  have bX := Ba (Below.refl _ w) (.cells #[.slice q l.length cap] 35)
  have HV := Lib.hid (values_call (.slice q l.length cap) w ⟨_, _, _, rfl⟩)
  have HS := Lib.hid (sortedV w.heap.size q cap l (w.alloc (.cells #[.slice q l.length cap] 35)) (by simp) (Boxed.new w 35 (.slice q l.length cap)).cell l1 (by omega) (fun h => by
    obtain ⟨g, o, e, hg, hc⟩ := l3 h
    exact ⟨g, o, e, by simp; omega, fun j u hu => Bc bX hg (hc j u hu)⟩) hl)
  have B0 := Lib.hid bX
  have HC := Lib.hid (compact_twice l)
  clear l3 bX
  go_enter Tryd.func33, Tryd.ntmps33
  go_wp2_with fail
  refine HV.out.mono ?_
  rintro e w1 ⟨rfl, rfl⟩
  go_wp2_with fail
  refine HS.out.mono ?_
  rintro e w2 ⟨v2, rfl, h2, b2⟩
  have hms : (msI l).length = l.length := (List.mergeSort_perm l _).length_eq
  have B2 := Lib.hid (B0.out.trans (b2.mono B0.out.size))
  rcases h2.2 with ⟨rfl, hz⟩ | ⟨gb, c2, cur, rfl, hbase, hgb, r1, r2, r3, r4⟩
  · have hss : l = [] := List.eq_nil_of_length_eq_zero hz
    subst hss
    have HC0 := Lib.hid (compact0 none 0 w2)
    clear h2 b2 HS HV hz
    go_wp2_with fail
    refine HC0.out.mono ?_
    rintro e w3 ⟨rfl, rfl⟩
    go_wp2
    go_ret
    exact ⟨ret_bool (by simp), B2.out⟩
  · have hH : Holds (Value.int .i64) w2 gb 0 (msI l).toArray := holds_of_block_i hgb (by rw [← map_flatI] at r4; rw [hms]; simpa using r4)
    unfold maxLen at r2
    have HC1 := Lib.hid (compactI_call w.heap.size gb c2 (msI l).toArray w2 (holdsI.2 hH) (by have := B0.out.size; omega) (by simp; omega) (by simp; omega) (by omega))
    rw [show (msI l).toArray.size = l.length by rw [List.size_toArray, hms]] at HC1 HC
    clear h2 b2 HS HV hH hgb r3 r4
    generalize (compactUpTo (msI l).toArray l.length).length = m at *
    go_wp2_with fail
    refine HC1.out.mono ?_
    rintro e w3 ⟨rfl, -, b3⟩
    have B3 := Lib.hid (B2.out.trans b3)
    clear b3
    go_wp2
    go_ret
    exact ⟨ret_bool (by rw [← HC.out]), B3.out⟩
/-- A tile that isn't so, or is told twice. -/
theorem twiceT_any (b : List Bool) (now : Bool) (l : List Int) : twiceT b now l l.length = (l.any (fun t => b[t.toNat]! != now) || !decide l.Nodup) := by
  rw [Bool.eq_iff_iff, Bool.or_eq_true, List.any_eq_true, Bool.not_eq_true', decide_eq_false_iff_not]
  unfold twiceT
  rw [List.any_eq_true]
  unfold badT
  constructor
  · rintro ⟨k, hk, h⟩
    have hk := List.mem_range.1 hk
    rw [Bool.or_eq_true, decide_eq_true_eq] at h
    rcases h with h | h
    · exact .inl ⟨l[k]!, by rw [getElem!_pos l k hk]; exact List.getElem_mem hk, h⟩
    · refine .inr fun hn => ?_
      obtain ⟨i, hi, e⟩ := List.getElem_of_mem h
      rw [List.length_take] at hi
      rw [List.getElem_take, getElem!_pos l k hk] at e
      exact List.pairwise_iff_getElem.1 hn i k (by omega) hk (by omega) e
  · rintro (⟨t, ht, h⟩ | h)
    · obtain ⟨k, hk, rfl⟩ := List.getElem_of_mem ht
      exact ⟨k, List.mem_range.2 hk, by rw [getElem!_pos l k hk, h]; rfl⟩
    · rcases Decidable.em (∃ k, k < l.length ∧ l[k]! ∈ l.take k) with ⟨k, hk, hm⟩ | hno
      · exact ⟨k, List.mem_range.2 hk, by rw [Bool.or_eq_true, decide_eq_true_eq]; exact .inr hm⟩
      · exfalso
        refine h (List.pairwise_iff_getElem.2 fun i j hi hj hij e => hno ⟨j, hj, ?_⟩)
        rw [getElem!_pos l j hj, ← e, ← List.getElem_take (j := j) (h := by rw [List.length_take]; omega)]
        exact List.getElem_mem _
end Go.Proofs.YtklpemcchfmdjaaDoor
