/-
  TableKeeps, walked (written by mkkeeps.py).
-/
import Derived.Test.YtknfmjjlfhfocaaDoorMb
namespace Go.Proofs.YtknfmjjlfhfocaaDoor
set_option linter.unusedSimpArgs false
set_option linter.unusedVariables false
open Go.RowKit Go.Sort Go.Lib Go.Shelf

def rowK (k : Int) : List Vl := [(0, k, 0), (6, -k, k)]
theorem rowK_right {k : Int} (h0 : 0 ≤ k) (h1 : k ≤ 128) : rightB (rowK k) = true := by
  rw [rightB_iff]
  refine ⟨by simp [rowK, RiseK], fun x hx => ?_⟩
  simp only [rowK, List.mem_cons, List.not_mem_nil, or_false] at hx
  rcases hx with rfl | rfl
  · simp [chk, kindB, inV, rngV]; omega
  · simp [chk, kindB, inV, rngV]; omega
theorem rowK_mask (k : Int) : maskV (rowK k) = 65 := by
  unfold maskV rowK
  simp only [List.map_cons, List.map_nil]
  decide
abbrev ix (r : En) : Int := r.1.1
def rowsK (n : Nat) : List En := (List.range n).map fun j : Nat => ((((j : Nat) : Int), (1 : Int)), rowK j)
theorem rowsK_succ (n : Nat) : rowsK (n + 1) = rowsK n ++ [(((n : Int), 1), rowK n)] := by simp [rowsK, List.range_succ]
theorem rowsK_len (n : Nat) : (rowsK n).length = n := by simp [rowsK]
theorem rowsK_ix (n : Nat) : (rowsK n).map ix = (List.range n).map fun j : Nat => ((j : Nat) : Int) := by simp [rowsK, ix, List.map_map, Function.comp_def]
theorem range_nodup (n : Nat) : ((List.range n).map fun j : Nat => ((j : Nat) : Int)).Nodup :=
  List.pairwise_map.2 (List.nodup_range.imp fun h e => h (by omega))
def OkK (R : List En) : Prop := ∀ r ∈ R, ∃ k : Nat, k < 129 ∧ r = (((k : Int), 1), rowK k)
theorem rowsK_ok {n : Nat} (h : n < 129) : OkK (rowsK n) := fun r hr => by
  obtain ⟨j, hj, rfl⟩ := List.mem_map.1 hr
  rw [List.mem_range] at hj
  exact ⟨j, by omega, rfl⟩
theorem takeC_ok {R : List En} (h : OkK R) {n : Nat} (hn : n < R.length) : OkK (takeC R n) := fun r hr => by
  unfold takeC at hr
  rcases List.mem_or_eq_of_mem_set (List.mem_of_mem_take hr) with c | c
  · exact h r c
  · rw [c, getElem!_pos R _ (by omega)]; exact h _ (List.getElem_mem _)
theorem TabO.kept {N X : Nat → Prop} {base pt q : Nat} {w w' : World} {R : List En} (h : TabO N base w pt q R) (t : Tch X w w') (hX : ∀ b, X b → N b ∨ b < base) : TabO N base w' pt q R := by
  obtain ⟨M, h1, h2, h3, h4⟩ := h
  refine ⟨M, h1.kept t (fun b e1 e2 => ?_), h2, fun b e => Nat.lt_of_lt_of_le (h3 b e) t.size, Nat.le_trans h4 t.size⟩
  rcases hX b e2 with c | c
  · exact (h2 b e1).2 c
  · have := (h2 b e1).1; omega
section
variable {A : Nat → Addr}
set_option maxHeartbeats 16000000 in
set_option maxRecDepth 100000 in
theorem tableKeeps_walk (x : Int) (gl : List Int) (v : Value) (w : World) (hv : Sl encI w v gl) (hE : Er7 w A) (hT : TabW w) : Calls Tryd.prog 4 #[.int .i64 x, v] w fun e w' => e = .returned (.bool true) ∧ RowKit.Below w.heap.size w w' := by
  have HE := Lib.hid hE
  have HT := Lib.hid hT
  have HV := Lib.hid hv
  have C0 := Lib.hid (alive_any w hE hT)
  obtain ⟨p0, c0, rfl, hc1, hc2, _⟩ := hv
  unfold maxLen at hc2
  have hbl : gl.length ≤ 9223372036854775807 := by omega
  clear hE hT
  go_enter Tryd.func4, Tryd.ntmps4
  go_wp2_with fail
  refine C0.out.mono ?_
  rintro e w1 ⟨rfl, hb1⟩
  have B1 := Lib.hid hb1
  have C1 := Lib.hid (newX (N := NoN) (base := w.heap.size) (q := 65) (w := w1) (by decide) hb1.size (fun b e => e.elim) (HT.out.below hb1))
  clear hb1 C0
  by_cases h130 : 130 < gl.length
  · go_wp2
    go_ret
    exact ⟨rfl, B1.out⟩
  obtain ⟨m, hm, he⟩ := idx_any x 129 (by omega) (by omega)
  rw [show ((129 : Nat) : Int) = 129 from rfl] at he
  go_wp2_with fail
  simp only [he]
  clear he
  refine C1.out.mono ?_
  rintro e w2 ⟨pt, rfl, hT2, hb2⟩
  have T2 := Lib.hid hT2
  have B2 := Lib.hid (Bt B1.out hb2)
  clear hT2 hb2 C1
  go_wp2
  go_loopw [40] (fun s wr => ∃ i : Nat, s = .int .i64 i ∧ i ≤ m ∧ Hid (TabO NoN w.heap.size wr pt 65 (rowsK i)) ∧ Hid (RowKit.Below w.heap.size w wr)) (fun i _ => m - (intOf i).toNat)
  case atStart => exact ⟨0, rfl, Nat.zero_le _, T2, B2⟩
  case round =>
    obtain ⟨i, rfl, hi, HTr, HB⟩ := hrel
    by_cases hin : i < m
    · obtain ⟨W1, hW1⟩ : ∃ W1, W1 = wr.alloc (.cells #[.int .i64 0, .int .i64 i, .int .i64 0, .int .i64 6, .int .i64 (-(i : Int)), .int .i64 i] 41) := ⟨_, rfl⟩
      have bb := Lib.hid (show RowKit.Below wr.heap.size wr W1 by rw [hW1]; exact Ba (Below.refl _ _) _)
      have S1 := Lib.hid (show SlN (fun b => NoN b ∨ (wr.heap.size ≤ b ∧ b < W1.heap.size)) encV W1 (.slice (some ⟨wr.heap.size, 0, none⟩) 2 2) (rowK i) from ⟨_, 2, rfl, by simp [rowK], by unfold maxLen; decide, fun _ => ⟨wr.heap.size, 0, rfl, by rw [hW1]; simp, .inr ⟨Nat.le_refl _, by rw [hW1]; simp⟩, fun j u hu => by
        rw [hW1, World.cell?_alloc_at (w := wr) _ _ wr.heap.size _ rfl, Nat.zero_add]; simpa [flat, encV, rowK] using hu⟩⟩)
      have B3 := Lib.hid (Bt HB.out bb.out)
      have CA := Lib.hid (addX (HTr.out.off bb.out) i 1 (rowK i) _ S1.out (fun b e => .inr e) (by simp [rowK]) (rowK_right (by omega) (by omega)) (rowK_mask i) (by rw [rowsK_len]; omega) (HE.out.below B3.out))
      rw [← rowsK_succ, rowsK_len] at CA
      rw [hW1] at CA B3
      clear hW1 S1 bb
      go_wp2_with fail
      refine CA.out.mono ?_
      rintro e w4 ⟨rfl, hT4, ht4⟩
      have T4 := Lib.hid (hT4.forget (N' := NoN) (fun b e => e.elim))
      have B4 := Lib.hid (B3.out.trans (OffT.below ht4 B3.out.size))
      clear hT4 ht4 CA
      go_wp2
      go_roundw
      case measure => simp [intOf]; omega
      case rel => exact ⟨i + 1, by go_num, by omega, T4.out, B4.out⟩
    · have hii : i = m := by omega
      subst hii
      have hmm := @run_makeMap Tryd.prog
      have BM := Lib.hid (Ba (Below.refl _ wr) (.map #[] 0))
      have T5 := Lib.hid ((HTr.out.off BM.out).forget (N' := fun b => b = wr.heap.size) (fun b e => .inr ⟨by omega, by rw [e]; simp⟩))
      have M5 := Lib.hid (MapB.made wr)
      have B5 := Lib.hid (Bt HB.out BM.out)
      have HLB := Lib.hid HB.out.size
      clear BM
      go_wp2
      clear hmm
      generalize wr.heap.size = lb at *
      generalize wr.alloc (.map #[] 0) = W5 at *
      clear HTr HB T2 B2
      go_loopw [67] (fun s wq => ∃ j : Nat, s = .int .i64 j ∧ j ≤ i ∧ Hid (TabO (fun b => b = lb) w.heap.size wq pt 65 (rowsK i)) ∧ Hid (MapB wq lb j ((List.range j).map fun j : Nat => ((j : Nat) : Int))) ∧ Hid (RowKit.Below w.heap.size w wq)) (fun j _ => i - (intOf j).toNat)
      case atStart => exact ⟨0, rfl, Nat.zero_le _, T5, M5, B5⟩
      case round =>
        obtain ⟨j, rfl, hj, HTq, HM, HBq⟩ := hrel
        by_cases hjn : j < i
        · have hj9 : Hid (j < 1000) := (show j < 1000 by omega)
          have hjw : (Lit.int .i64 (j : Int)).wf = true := WalkArith.wf_i64 (by omega)
          have hjS : Hid ((j : Int) ∉ (List.range j).map fun j : Nat => ((j : Nat) : Int)) := (show _ ∉ _ from fun h => by
            obtain ⟨k, hk, e⟩ := List.mem_map.1 h
            rw [List.mem_range] at hk
            omega)
          go_wp2_with (at_mapUpdate; refine wpl_putB rfl _ _ _ rfl (by rfl) HM.out hj9.out (j : Int) (by rfl) hjw hjS.out (by rfl) ?_; intro w6 hm6 hg6)
          have t6 := tch_grown (M := fun b => b = lb) hg6 rfl
          go_roundw
          case measure => simp [intOf]; omega
          case rel => exact ⟨j + 1, by go_num, by omega, (show Hid _ from HTq.out.kept t6 (fun b e => .inl e)), (show Hid _ from by rw [List.range_succ, List.map_append]; exact hm6), (show Hid _ from bel_map HBq.out hg6 HLB.out)⟩
        · have hjj : j = i := by omega
          subst hjj
          have HTq' := Lib.hid HTq.out
          have M7 := Lib.hid (show MapB wr lb 129 ((rowsK j).map ix) by rw [rowsK_ix]; exact HM.out.mono (by omega))
          have N7 := Lib.hid (show ((rowsK j).map ix).Nodup by rw [rowsK_ix]; exact range_nodup j)
          have O7 := Lib.hid (rowsK_ok (n := j) hm)
          clear HTq HM T5 M5 B5
          generalize rowsK j = R0 at *
          go_wp2
          go_loopw [75] (fun s wr => ∃ (n : Nat) (R : List En), s = .int .i64 n ∧ n ≤ gl.length ∧ Hid (TabO (fun b => b = lb) w.heap.size wr pt 65 R) ∧ Hid (MapB wr lb 129 (R.map ix)) ∧ Hid ((R.map ix).Nodup) ∧ Hid (OkK R) ∧ Hid (RowKit.Below w.heap.size w wr)) (fun n _ => gl.length - (intOf n).toNat)
          case atStart => exact ⟨0, R0, rfl, Nat.zero_le _, HTq', M7, N7, O7, HBq⟩
          case round =>
            clear HTq' M7 N7 O7 HBq
            obtain ⟨n, R, rfl, hn, HTr, HM, HN, HO, HB⟩ := hrel
            by_cases hnn : n < gl.length
            · obtain ⟨p', c', e', _, _, hsv⟩ := HV.out.below HB.out
              obtain ⟨g, o, e3, hg1, hg2⟩ := hsv (by omega)
              simp only [Value.slice.injEq] at e'
              obtain ⟨rfl, _, rfl⟩ := e'
              subst e3
              have d1 := atI hg2 hnn
              have CL := Lib.hid (HTr.out.read fun M h => tlen_call h)
              clear hsv hg2
              generalize gl[n]! = gn at *
              by_cases h0 : R.length = 0
              · have HCL := Lib.hid CL.out
                rw [h0] at HCL
                have HL0 := Lib.hid h0
                clear h0
                go_wp2_with fail
                refine HCL.out.mono ?_
                rintro e w4 ⟨rfl, rfl⟩
                have HLm := HM.out.len
                rw [List.length_map] at HLm
                have CL2 := Lib.hid (fun W (hb : RowKit.Below wr.heap.size wr W) => (HTr.out.below hb).read fun M h => tlen_call h)
                go_wp2_with fail
                refine (CL2.out _ (Below.refl _ _)).mono ?_
                rintro e w4 ⟨rfl, rfl⟩
                go_wp2_with fail
                refine (CL2.out _ (Below.refl _ _)).mono ?_
                rintro e w4 ⟨rfl, rfl⟩
                clear HLm
                have hS128 := HTr.out.size
                go_wp2
                generalize wr = W3 at *
                go_loopw [116] (fun s wq => ∃ j : Nat, s = .int .i64 j ∧ j ≤ R.length ∧ Hid (RowKit.Below W3.heap.size W3 wq)) (fun j _ => R.length - (intOf j).toNat)
                case atStart => exact ⟨0, rfl, Nat.zero_le _, Below.refl _ _⟩
                case round =>
                  obtain ⟨j, rfl, hj, HBq⟩ := hrel
                  by_cases hjR : j < R.length
                  · obtain ⟨k, hk, hrk⟩ := HO.out _ (List.getElem_mem hjR)
                    have CE := Lib.hid ((HTr.out.below HBq.out).read fun M h => tent_yes h j hjR (HT.out.below (Bt HB.out HBq.out)))
                    rw [getElem!_pos R j hjR, hrk] at CE
                    dsimp only at CE
                    have hmem : (k : Int) ∈ R.map ix := by have := List.mem_map_of_mem (f := ix) (List.getElem_mem hjR); rwa [hrk] at this
                    have HMEM := Lib.hid hmem
                    have hkw : (Lit.int .i64 (k : Int)).wf = true := WalkArith.wf_i64 (by omega)
                    clear hmem hrk
                    go_wp2_with fail
                    refine CE.out.mono ?_
                    rintro e w6 ⟨ve, rfl, ho6, hb6⟩
                    have S6 := Lib.hid (row_sl lenV ho6 rfl)
                    obtain ⟨pe, ce, rfl, _, _, _⟩ := row_val ho6
                    obtain ⟨W7, hW7⟩ : ∃ W7, W7 = w6.alloc (.cells #[.int .i64 k, .int .i64 1, .slice pe (rowK k).length ce] 51) := ⟨_, rfl⟩
                    have bb := Lib.hid (show RowKit.Below w6.heap.size w6 W7 by rw [hW7]; exact Ba (Below.refl _ _) _)
                    have B7 := Lib.hid (Bt HBq.out (Bt hb6 bb.out))
                    have S7 := Lib.hid (S6.out.below bb.out)
                    have b7 := Lib.hid (show W7.heap[w6.heap.size]? = some (.cells #[.int .i64 k, .int .i64 1, .slice pe (rowK k).length ce] 51 (0, 0)) by rw [hW7]; exact heap_alloc_new w6 _)
                    have hlk := (HM.out.below B7.out).look k hkw
                    rw [decide_eq_true HMEM.out] at hlk
                    obtain ⟨⟨y0, y1, y2⟩, _, _, _⟩ := three_cells b7.out
                    obtain ⟨W8, hW8⟩ : ∃ W8, W8 = W7.alloc (.cells #[.int .i64 0, .int .i64 k, .int .i64 0, .int .i64 6, .int .i64 (-(k : Int)), .int .i64 k] 41) := ⟨_, rfl⟩
                    have bb8 := Lib.hid (show RowKit.Below W7.heap.size W7 W8 by rw [hW8]; exact Ba (Below.refl _ _) _)
                    have SL := Lib.hid (show Sl encV W8 (.slice (some ⟨W7.heap.size, 0, none⟩) 2 2) (rowK k) by rw [hW8]; exact sl_lit (enc := encV) (w := W7) (rowK k) rfl rfl (by unfold maxLen rowK; simp))
                    have CM := Lib.hid (same_call (rowK k) (rowK k) (.slice pe (rowK k).length ce) (.slice (some ⟨W7.heap.size, 0, none⟩) 2 2) W8 (S7.out.below bb8.out) SL.out)
                    rw [decide_eq_true (rfl : rowK k = rowK k)] at CM
                    have B8 := Lib.hid (Bt B7.out bb8.out)
                    have hsz7 : W7.heap.size = w6.heap.size + 1 := by rw [hW7]; simp
                    rw [hsz7, hW8, hW7] at CM
                    rw [hW7] at hlk y0 y1 y2
                    rw [hW8, hW7] at B8
                    clear CE ho6 hb6 hW7 hW8 hsz7
                    go_wp2_with fail
                    refine CM.out.mono ?_
                    rintro e w9 ⟨rfl, hg9⟩
                    have B9 := Lib.hid (Bt B8.out hg9.below)
                    clear hg9 CM
                    go_wp2
                    go_roundw
                    case measure => simp [intOf]; omega
                    case rel => exact ⟨j + 1, by go_num, by omega, B9.out⟩
                  · go_wp2
                    go_ret
                    exact ⟨rfl, Bt HB.out HBq.out⟩
              · obtain ⟨a, ha, hea⟩ := idx_any gn R.length (by omega) (by have := HTr.out.size; omega)
                have hwr : IntKind.u64.wrap (R.length : Int) = (R.length : Int) := by have := HTr.out.size; rw [IntKind.wrap_u64]; omega
                have h0' : ¬ ((R.length : Int) = 0) := by omega
                have hS128 := HTr.out.size
                obtain ⟨k, hk, hrk⟩ := HO.out _ (List.getElem_mem ha)
                have CT := Lib.hid (takeX HTr.out a ha (HT.out.below HB.out))
                have hax : (R.map ix)[a]'(by simpa using ha) = (k : Int) := by rw [List.getElem_map, hrk]
                rw [getElem!_pos R a ha, hrk] at CT
                have hmem : (k : Int) ∈ R.map ix := by rw [← hax]; exact List.getElem_mem _
                have hnd := takeC_nodup HN.out (n := a) (by simpa using ha)
                rw [takeC_map ix R a ha, hax] at hnd
                have hlen2 : ((takeC R a).map ix).length + (if (k : Int) ∈ R.map ix then 1 else 0) = (R.map ix).length := by rw [if_pos hmem, List.length_map, takeC_len, List.length_map]; omega
                have HO2 := Lib.hid (takeC_ok HO.out ha)
                have hkw : (Lit.int .i64 (k : Int)).wf = true := WalkArith.wf_i64 (by omega)
                have HND := Lib.hid hnd
                have HL2 := Lib.hid hlen2
                have HMEM := Lib.hid hmem
                generalize takeC R a = R2 at *
                clear hnd hlen2 hmem hax hrk
                go_wp2_with fail
                refine CL.out.mono ?_
                rintro e w4 ⟨rfl, rfl⟩
                go_wp2_with fail
                refine CL.out.mono ?_
                rintro e w4 ⟨rfl, rfl⟩
                go_wp2_with fail
                (try simp only [hwr, hea])
                refine CT.out.mono ?_
                rintro e w5 ⟨⟨ve, rfl, hse⟩, hT5, ht5⟩
                obtain ⟨pe, ce, rfl, _, _, _⟩ := hse
                obtain ⟨W6, hW6⟩ : ∃ W6, W6 = w5.alloc (.cells #[.int .i64 k, .int .i64 1, .slice pe (rowK k).length ce] 51) := ⟨_, rfl⟩
                have bb := Lib.hid (show RowKit.Below w5.heap.size w5 W6 by rw [hW6]; exact Ba (Below.refl _ _) _)
                have T6 := Lib.hid (hT5.below bb.out)
                have M6 := Lib.hid ((HM.out.blk (ht5.block lb HM.out.lt (fun e => e.2 rfl))).below bb.out)
                have B6 := Lib.hid ((HB.out.trans (OffT.below ht5 HB.out.size)).trans (bb.out.mono (by have := (HB.out.trans (OffT.below ht5 HB.out.size)).size; omega)))
                have b6 := Lib.hid (show W6.heap[w5.heap.size]? = some (.cells #[.int .i64 k, .int .i64 1, .slice pe (rowK k).length ce] 51 (0, 0)) by rw [hW6]; exact heap_alloc_new w5 _)
                have hlk := M6.out.look k hkw
                rw [decide_eq_true HMEM.out] at hlk
                obtain ⟨⟨y0, y1, y2⟩, _, _, _⟩ := three_cells b6.out
                rw [hW6] at hlk y0 y1 y2 M6
                clear hT5 ht5 CT CL bb hea hwr h0'
                have HKS := Lib.hid HND.out.2
                go_wp2_with (at_delete; refine wpl_delB rfl _ _ rfl (by rfl) M6.out (k : Int) (by rfl) hkw HKS.out HL2.out ?_; intro w7 hm7 hg7)
                have t7 := tch_grown (M := fun b => b = lb) hg7 rfl
                rw [← hW6] at t7 hg7
                go_roundw
                case measure => simp [intOf]; omega
                case rel => exact ⟨n + 1, R2, by go_num, by omega, (show Hid _ from T6.out.kept t7 (fun b e => .inl e)), hm7, HND.out.1, HO2.out, (show Hid _ from bel_map B6.out hg7 HLB.out)⟩
            · have CL := Lib.hid (HTr.out.read fun M h => tlen_call h)
              have HLm := HM.out.len
              rw [List.length_map] at HLm
              have CL2 := Lib.hid (fun W (hb : RowKit.Below wr.heap.size wr W) => (HTr.out.below hb).read fun M h => tlen_call h)
              go_wp2_with fail
              refine (CL2.out _ (Below.refl _ _)).mono ?_
              rintro e w4 ⟨rfl, rfl⟩
              go_wp2_with fail
              refine (CL2.out _ (Below.refl _ _)).mono ?_
              rintro e w4 ⟨rfl, rfl⟩
              clear HLm
              have hS128 := HTr.out.size
              go_wp2
              generalize wr = W3 at *
              go_loopw [116] (fun s wq => ∃ j : Nat, s = .int .i64 j ∧ j ≤ R.length ∧ Hid (RowKit.Below W3.heap.size W3 wq)) (fun j _ => R.length - (intOf j).toNat)
              case atStart => exact ⟨0, rfl, Nat.zero_le _, Below.refl _ _⟩
              case round =>
                obtain ⟨j, rfl, hj, HBq⟩ := hrel
                by_cases hjR : j < R.length
                · obtain ⟨k, hk, hrk⟩ := HO.out _ (List.getElem_mem hjR)
                  have CE := Lib.hid ((HTr.out.below HBq.out).read fun M h => tent_yes h j hjR (HT.out.below (Bt HB.out HBq.out)))
                  rw [getElem!_pos R j hjR, hrk] at CE
                  dsimp only at CE
                  have hmem : (k : Int) ∈ R.map ix := by have := List.mem_map_of_mem (f := ix) (List.getElem_mem hjR); rwa [hrk] at this
                  have HMEM := Lib.hid hmem
                  have hkw : (Lit.int .i64 (k : Int)).wf = true := WalkArith.wf_i64 (by omega)
                  clear hmem hrk
                  go_wp2_with fail
                  refine CE.out.mono ?_
                  rintro e w6 ⟨ve, rfl, ho6, hb6⟩
                  have S6 := Lib.hid (row_sl lenV ho6 rfl)
                  obtain ⟨pe, ce, rfl, _, _, _⟩ := row_val ho6
                  obtain ⟨W7, hW7⟩ : ∃ W7, W7 = w6.alloc (.cells #[.int .i64 k, .int .i64 1, .slice pe (rowK k).length ce] 51) := ⟨_, rfl⟩
                  have bb := Lib.hid (show RowKit.Below w6.heap.size w6 W7 by rw [hW7]; exact Ba (Below.refl _ _) _)
                  have B7 := Lib.hid (Bt HBq.out (Bt hb6 bb.out))
                  have S7 := Lib.hid (S6.out.below bb.out)
                  have b7 := Lib.hid (show W7.heap[w6.heap.size]? = some (.cells #[.int .i64 k, .int .i64 1, .slice pe (rowK k).length ce] 51 (0, 0)) by rw [hW7]; exact heap_alloc_new w6 _)
                  have hlk := (HM.out.below B7.out).look k hkw
                  rw [decide_eq_true HMEM.out] at hlk
                  obtain ⟨⟨y0, y1, y2⟩, _, _, _⟩ := three_cells b7.out
                  obtain ⟨W8, hW8⟩ : ∃ W8, W8 = W7.alloc (.cells #[.int .i64 0, .int .i64 k, .int .i64 0, .int .i64 6, .int .i64 (-(k : Int)), .int .i64 k] 41) := ⟨_, rfl⟩
                  have bb8 := Lib.hid (show RowKit.Below W7.heap.size W7 W8 by rw [hW8]; exact Ba (Below.refl _ _) _)
                  have SL := Lib.hid (show Sl encV W8 (.slice (some ⟨W7.heap.size, 0, none⟩) 2 2) (rowK k) by rw [hW8]; exact sl_lit (enc := encV) (w := W7) (rowK k) rfl rfl (by unfold maxLen rowK; simp))
                  have CM := Lib.hid (same_call (rowK k) (rowK k) (.slice pe (rowK k).length ce) (.slice (some ⟨W7.heap.size, 0, none⟩) 2 2) W8 (S7.out.below bb8.out) SL.out)
                  rw [decide_eq_true (rfl : rowK k = rowK k)] at CM
                  have B8 := Lib.hid (Bt B7.out bb8.out)
                  have hsz7 : W7.heap.size = w6.heap.size + 1 := by rw [hW7]; simp
                  rw [hsz7, hW8, hW7] at CM
                  rw [hW7] at hlk y0 y1 y2
                  rw [hW8, hW7] at B8
                  clear CE ho6 hb6 hW7 hW8 hsz7
                  go_wp2_with fail
                  refine CM.out.mono ?_
                  rintro e w9 ⟨rfl, hg9⟩
                  have B9 := Lib.hid (Bt B8.out hg9.below)
                  clear hg9 CM
                  go_wp2
                  go_roundw
                  case measure => simp [intOf]; omega
                  case rel => exact ⟨j + 1, by go_num, by omega, B9.out⟩
                · go_wp2
                  go_ret
                  exact ⟨rfl, Bt HB.out HBq.out⟩
end
end Go.Proofs.YtknfmjjlfhfocaaDoor
