/-
  Regions: change.
-/
import Derived.Test.YtklpemcchfmdjaaDoorSp15
namespace Go.Proofs.YtklpemcchfmdjaaDoor
set_option linter.unusedSimpArgs false
set_option linter.unusedVariables false
open Go.RowKit Go.Sort Go.Lib Go.Shelf

theorem labI_none (G : Ground) (t : Nat) : decide (G.labI t = -1) = G.bl t := by
  unfold Ground.labI
  cases hb : G.bl t
  · simp
  · simp
theorem bset_at {l : List Bool} {t : Nat} (ht : t < l.length) (x : Bool) (j : Nat) (hj : j < l.length) : (l.set t x)[j]! = if j = t then x else l[j]! := by
  rw [getElem!_pos _ j (by simpa using hj), List.getElem_set]
  by_cases e : t = j
  · subst e; simp
  · rw [if_neg e, if_neg (fun q => e q.symm), getElem!_pos l j hj]
theorem setT_not (f : Bool) {b c : List Bool} {l : List Int} {n : Nat} (hb : b.length = n) (hc : c.length = n) (h : ∀ x, x < n → c[x]! = !b[x]!) (hl : ∀ t ∈ l, 0 ≤ t) : ∀ x, x < n → (setT f c l)[x]! = !(setT (!f) b l)[x]! := fun x hx => by
  rw [setT_get f l c hl (by omega), setT_get (!f) l b hl (by omega)]
  split
  · simp
  · exact h x hx
set_option maxHeartbeats 8000000 in
set_option maxRecDepth 100000 in
theorem change_call {g : Gd} (hg : grOk g = true) {b : List Bool} (hbl : b.length = ntl g) {pa : Nat} {M : Nat → Prop} {w : World} {v vl : Value} (h : RgV w M pa v g.w (labG g b)) (hM : ∀ b, M b → b < w.heap.size) (l : List Int) (hs : Sl encI w vl l) (hll : l.length ≤ 1024) (hin : ∀ t ∈ l, 0 ≤ t ∧ t < (ntl g : Int)) (hvl : ∀ k, vl.ownBlock = some k → ¬ M k) (f : Bool) :
    Calls Tryd.prog 34 #[psR pa, vl, .bool f] w fun e w' => e = .returned (.tuple #[]) ∧ RgV w' M pa v g.w (labG g (setT (!f) b l)) ∧ Tch M w w' := by
  have hk := grOk_iff.1 hg
  have hnt := ntl_cast hg
  obtain ⟨W, hW⟩ : ∃ W : Nat, g.w = (W : Int) := ⟨g.w.toNat, by omega⟩
  have hW0 : 0 < W := by omega
  have hW2 : W ≤ 1000 := by omega
  have hlen := labG_len hg b
  have hbls : (setT (!f) b l).length = ntl g := by rw [setT_len]; exact hbl
  have hlb : ∀ x, x < ntl g → decide ((labG g b)[x]! = -1) = b[x]! := fun x hx => by
    show decide ((grG g b).labs[x]! = -1) = _
    rw [labs_get (by rw [grG_n hg]; exact hx), labI_none, grG_bl hg]
  have hGn := grG_n hg (setT (!f) b l)
  have hGx : ∀ t, (grG g (setT (!f) b l)).nx t = nextT W (ntl g) t := fun t => by
    rw [grG_nx hg, hW, Int.toNat_natCast]
  have hGb := fun x => grG_bl hg (setT (!f) b l) x
  rw [hW] at h ⊢
  unfold labG at *
  generalize grG g (setT (!f) b l) = G at *
  generalize (grG g b).labs = L0 at *
  generalize hn : ntl g = n at *
  obtain ⟨hn1, hn2, hn3⟩ := hnt
  obtain ⟨Z, hZ, hmk⟩ := make_bs n hn2
  have MD := made_bs w w Z n hn2 (Nat.le_refl _) hZ
  have SN := Lib.hid (fun c (hc : c.length = n) hcb => setT_not f (b := b) (c := c) (l := l) (n := n) hbl hc hcb (fun t ht => (hin t ht).1))
  have HIN := Lib.hid hin
  have HGB := Lib.hid hGb
  have HGN := Lib.hid hGn
  have HGX := Lib.hid hGx
  have HLB := Lib.hid hlb
  have HM := Lib.hid hM
  have HV := Lib.hid h
  have hl := h.lt
  have HFC := Lib.hid (fun w' (hb : RowKit.Below w.heap.size w w') t => free_call (h.below hb) (by rw [hlen]; omega) (by rw [hlen]; omega) t)
  obtain ⟨blk, cap, rfl, k1, k2, k3, k4, k5⟩ := h.open (by rw [hlen]; omega) (by rw [hlen]; omega)
  rw [hlen] at k1 HV ⊢
  have HLN := Lib.hid hlen
  obtain ⟨c0, c1⟩ := HV.out.cells
  have B0 := Lib.hid (Ba (Below.refl _ w) (.cells Z 4))
  have O0 : Hid (OwnB (w.alloc (.cells Z 4)) w.heap.size (.slice (some ⟨w.heap.size, 0, none⟩) n n) (nots n)) := Lib.hid MD
  obtain ⟨ql, capl, rfl, f1, f2, f3⟩ := hs
  unfold maxLen at f2
  have HLS := Lib.hid f3
  have HVL := Lib.hid hvl
  clear h hM hin hlb hGb hGn hGx hZ MD f3 hvl hk hn1 hn3 hbls hlen
  unfold psR at *
  go_enter Tryd.func34, Tryd.ntmps34
  go_wp2_with fail
  go_loopw [23] (fun i wr => ∃ (k : Nat) (Fb : List Bool), k ≤ n ∧ i = .int .i64 k ∧ Hid (RowKit.Below w.heap.size w wr) ∧ Fb.length = n ∧ Hid (wr.ownsRow w.heap.size 4 1 (.slice (some ⟨w.heap.size, 0, none⟩) n n) n (flat encB Fb)) ∧ Hid (∀ x, x < k → Fb[x]! = !b[x]!)) (fun i _ => n - (intOf i).toNat)
  case atStart => exact ⟨0, nots n, Nat.zero_le _, rfl, B0, nots_len n, Lib.hid (by have := O0.out; unfold OwnB at this; rw [nots_len] at this; exact this), Lib.hid (fun x hx => absurd hx (Nat.not_lt_zero x))⟩
  case round =>
    obtain ⟨k, Fb, hkn, rfl, HB, hFl, HO, HE⟩ := hrel
    by_cases hkl : k < n
    · have hf : freeL' L0 (k : Int) = !b[k]! := by
        unfold freeL' inT
        rw [HLN.out, Int.toNat_natCast, HLB.out k hkl, decide_eq_true (show (0 : Int) ≤ (k : Int) by omega), decide_eq_true (show (k : Int) < (n : Int) by omega)]
        rfl
      have FC := Lib.hid (HFC.out wr HB.out (k : Int))
      rw [hf] at FC
      have co := row_cell1 encB1 HO.out k (by omega)
      have fz := HO.out.frozenAt k
      have hgw := cell_lt co
      have O2 := own_set (w := wr) (base := w.heap.size) (g := w.heap.size) (cap := n) (l := Fb) (by unfold OwnB; rw [hFl]; exact HO.out) k (!b[k]!)
      have HE2 : Hid (∀ x, x < k + 1 → (Fb.set k (!b[k]!))[x]! = !b[x]!) := Lib.hid (fun x hx => by
        rw [bset_at (by omega) _ x (by omega)]
        by_cases e : x = k
        · rw [if_pos e, e]
        · rw [if_neg e]; exact HE.out x (by omega))
      generalize (!b[k]!) = x at *
      generalize Fb[k]! = xo at *
      have hO2l : (Fb.set k x).length = n := by rw [List.length_set]; exact hFl
      have O3 : Hid ((wr.setCell ⟨w.heap.size, k, none⟩ (.bool x)).ownsRow w.heap.size 4 1 (.slice (some ⟨w.heap.size, 0, none⟩) n n) n (flat encB (Fb.set k x))) := Lib.hid (by unfold OwnB at O2; rw [hO2l, hFl] at O2; exact O2)
      have B3 := Lib.hid (Bs HB.out (p := ⟨w.heap.size, k, none⟩) (Nat.le_refl _) (.bool x))
      have HL2 := Lib.hid hO2l
      have hkz : (k : Int) < (n : Int) := by omega
      clear O2 hf hFl hO2l
      go_wp2_with fail
      refine FC.out.mono ?_
      rintro e w4 ⟨rfl, rfl⟩
      go_wp2
      go_roundw
      case measure => simp only [intOf]; omega
      case rel => exact ⟨k + 1, _, by omega, by go_num, B3, HL2.out, O3, HE2⟩
    · obtain rfl : k = n := by omega
      have hkz : ¬ (k : Int) < (k : Int) := by omega
      clear O0 B0 hmk c0 c1 HFC
      generalize wr = w3 at *
      have SN2 := Lib.hid (SN.out Fb hFl HE.out)
      have HFl := Lib.hid hFl
      have HO1 : Hid (w3.ownsRow w.heap.size 4 1 (.slice (some ⟨w.heap.size, 0, none⟩) k k) k (flat encB (setT f Fb (l.take 0)))) := HO
      clear SN HE hFl HO
      go_wp2_with fail
      go_loopw [35] (fun i wr => ∃ j : Nat, j ≤ l.length ∧ i = .int .i64 j ∧ Hid (RowKit.Below w.heap.size w wr) ∧ Hid (wr.ownsRow w.heap.size 4 1 (.slice (some ⟨w.heap.size, 0, none⟩) k k) k (flat encB (setT f Fb (l.take j))))) (fun i _ => l.length - (intOf i).toNat)
      case atStart => exact ⟨0, Nat.zero_le _, rfl, HB, HO1⟩
      case round =>
        obtain ⟨j, hj, rfl, HB2, HO2⟩ := hrel
        by_cases hjl : j < l.length
        · obtain ⟨gl, ol, rfl, hgl, hcl⟩ := HLS.out (by omega)
          have cl := Bc HB2.out hgl (sl_cell1 encI1' hcl hjl)
          have hglw := cell_lt cl
          have htk := setT_take hjl f Fb
          obtain ⟨hx0, hx1⟩ := HIN.out l[j]! (by rw [getElem!_pos l j hjl]; exact List.getElem_mem hjl)
          obtain ⟨m, hm⟩ : ∃ m : Nat, l[j]! = (m : Int) := ⟨(l[j]!).toNat, by omega⟩
          rw [hm] at cl htk hx1
          rw [Int.toNat_natCast] at htk
          have hml : (setT f Fb (l.take j)).length = k := by rw [setT_len]; exact HFl.out
          generalize setT f Fb (l.take j) = F2 at *
          have hmk : m < k := by omega
          have co := row_cell1 encB1 HO2.out m (by omega)
          have fz := HO2.out.frozenAt m
          have hgw := cell_lt co
          have O2 := own_set (w := wr) (base := w.heap.size) (g := w.heap.size) (cap := k) (l := F2) (by unfold OwnB; rw [hml]; exact HO2.out) m f
          rw [← htk] at O2
          have hO2l : (setT f Fb (l.take (j + 1))).length = k := by rw [setT_len]; exact HFl.out
          have O3 : Hid ((wr.setCell ⟨w.heap.size, m, none⟩ (.bool f)).ownsRow w.heap.size 4 1 (.slice (some ⟨w.heap.size, 0, none⟩) k k) k (flat encB (setT f Fb (l.take (j + 1))))) := Lib.hid (by unfold OwnB at O2; rw [hO2l] at O2; rw [hml] at O2; exact O2)
          have B3 := Lib.hid (Bs HB2.out (p := ⟨w.heap.size, m, none⟩) (Nat.le_refl _) (.bool f))
          have hjz : (j : Int) < (l.length : Int) := by omega
          generalize F2[m]! = xo at *
          clear O2 htk hm hml hO2l hcl hx0 hx1
          go_wp2
          go_roundw
          case measure => simp only [intOf]; omega
          case rel => exact ⟨j + 1, by omega, by go_num, B3, O3⟩
        · obtain rfl : j = l.length := by omega
          have hjz : ¬ (l.length : Int) < (l.length : Int) := by omega
          rw [List.take_length] at HO2
          have hF2l : (setT f Fb l).length = k := by rw [setT_len]; exact HFl.out
          have HFG : Hid (∀ x, x < k → (setT f Fb l)[x]! = !G.bl x) := Lib.hid (fun x hx => by rw [SN2.out x hx, HGB.out])
          generalize setT f Fb l = F2 at *
          generalize wr = w4 at *
          have HV4 := Lib.hid (HV.out.below HB2.out)
          have HT4 : Hid (Tch M w w4) := Lib.hid (Tch.of HB2.out)
          obtain ⟨c0, c1⟩ := HV4.out.cells
          have hl4 := cell_lt c1
          clear SN2 HO1 HB HLS HFl
          go_wp2_with fail
          clear c0 c1 hl4
          go_loopw [49] (fun i wr => ∃ (j : Nat) (L : List Int), j ≤ k ∧ i = .int .i64 j ∧ Hid (RgV wr M pa (.slice (some ⟨blk, 0, none⟩) k cap) W L) ∧ L.length = k ∧ Hid (∀ x, x < j → L[x]! = -1) ∧ Hid (Tch M w wr) ∧ Hid (wr.ownsRow w.heap.size 4 1 (.slice (some ⟨w.heap.size, 0, none⟩) k k) k (flat encB F2))) (fun i _ => k - (intOf i).toNat)
          case atStart => exact ⟨0, L0, Nat.zero_le _, rfl, HV4, HLN.out, Lib.hid (fun x hx => absurd hx (Nat.not_lt_zero x)), HT4, HO2⟩
          case round =>
            obtain ⟨j, L, hj, rfl, HR, hLl, HN, HT, HO⟩ := hrel
            by_cases hjk : j < k
            · have hjz : (j : Int) < (k : Int) := by omega
              obtain ⟨-, c1⟩ := HR.out.cells
              have hlw := cell_lt c1
              obtain ⟨d1, fz⟩ := HR.out.get (j := j) (by omega)
              have hld := cell_lt d1
              obtain ⟨R3, T3⟩ := HR.out.cell j (-1)
              have HN3 : Hid (∀ x, x < j + 1 → (L.set j (-1))[x]! = -1) := Lib.hid (fun x hx => by
                rw [set_at (by omega) _ x (by omega)]
                by_cases e : x = j
                · rw [if_pos e]
                · rw [if_neg e]; exact HN.out x (by omega))
              have HR3 := Lib.hid R3
              have HT3 := Lib.hid (HT.out.more T3)
              have HO3 := Lib.hid (row_keep HO.out (w' := wr.setCell ⟨blk, j, none⟩ (.int .i64 (-1))) (fun g e => heap_setCell_other wr ⟨blk, j, none⟩ g _ (fun q => by have := row_base0 HO.out e; simp only at q; omega)))
              have HLl := Lib.hid (show (L.set j (-1)).length = k by rw [List.length_set]; exact hLl)
              generalize L[j]! = xo at *
              clear R3 T3 hLl
              go_wp2
              go_roundw
              case measure => simp only [intOf]; omega
              case rel => exact ⟨j + 1, _, by omega, by go_num, HR3, HLl.out, HN3, HT3, HO3⟩
            · obtain rfl : j = k := by omega
              have hjz : ¬ (j : Int) < (j : Int) := by omega
              have HF0 : Hid (Flood G L 0) := Lib.hid (Flood.start (by rw [HGN.out]; exact hLl) (fun x hx => HN.out x (by rw [← HGN.out]; exact hx)))
              generalize wr = w5 at *
              obtain ⟨c0, c1⟩ := HR.out.cells
              have hl5 := cell_lt c1
              clear HO2 HB2 HV4 HT4 hLl HN
              go_wp2_with fail
              clear c0 c1 hl5
              go_loopw [64] (fun i wr => ∃ (u : Nat) (L : List Int), u ≤ j ∧ i = .int .i64 u ∧ Hid (RgV wr M pa (.slice (some ⟨blk, 0, none⟩) j cap) W L) ∧ Hid (Flood G L u) ∧ Hid (Tch M w wr) ∧ Hid (wr.ownsRow w.heap.size 4 1 (.slice (some ⟨w.heap.size, 0, none⟩) j j) j (flat encB F2))) (fun i _ => j - (intOf i).toNat)
              case atStart => exact ⟨0, L, Nat.zero_le _, rfl, HR, HF0, HT, HO⟩
              case round =>
                obtain ⟨u, L1, hu, rfl, HR1, HF1, HT1, HO1⟩ := hrel
                have hl1 : L1.length = j := by rw [HF1.out.len, HGN.out]
                by_cases huj : u < j
                · have huz : (u : Int) < (j : Int) := by omega
                  obtain ⟨-, c1⟩ := HR1.out.cells
                  have hlw := cell_lt c1
                  obtain ⟨d1, -⟩ := HR1.out.get (j := u) (by omega)
                  have hld := cell_lt d1
                  have co := row_cell1 encB1 HO1.out u (by omega)
                  have hlo := cell_lt co
                  rw [HFG.out u huj] at co
                  cases hb : G.bl u
                  · rw [hb] at co
                    by_cases hx : L1[u]! = -1
                    · have SC := Lib.hid (spread_call G HR1.out HGN.out HGX.out hF2l HFG.out hW0 hW2 hn2 (by have := row_sl (enc := encB) lenB HO1.out hF2l.symm; exact this) (fun q e h => by
                        simp only [Value.ownBlock, Option.some.injEq] at e
                        have := HM.out q h
                        omega) (fun q h => by have := HM.out q h; have := HT1.out.size; omega) HF1.out ⟨by rw [HGN.out]; exact huj, hb⟩ hx)
                      have e0 : (L1[u]! == -1) = true := by simpa using hx
                      have e1 : decide (L1[u]! = -1) = true := decide_eq_true hx
                      generalize L1[u]! = x at *
                      unfold psR at SC
                      clear hx hl1
                      go_wp2_with fail
                      refine SC.out.mono ?_
                      rintro e w6 ⟨L3, rfl, hr6, hf6, ht6⟩
                      have HR6 := Lib.hid hr6
                      have HF6 := Lib.hid hf6
                      have HT6 := Lib.hid (HT1.out.more ht6)
                      have HO6 := Lib.hid (row_keep HO1.out (fun g e => ht6.block g (row_lt HO1.out e) (fun h => by have := row_base0 HO1.out e; have := HM.out g h; omega)))
                      clear hr6 hf6 ht6 SC
                      go_wp2
                      go_roundw
                      case measure => simp only [intOf]; omega
                      case rel => exact ⟨u + 1, L3, by omega, by go_num, HR6, HF6, HT6, HO6⟩
                    · have HF2 := Lib.hid (HF1.out.skip (.inr hx) (by rw [HGN.out]; exact huj))
                      have e0 : (L1[u]! == -1) = false := by simpa using hx
                      have e1 : decide (L1[u]! = -1) = false := decide_eq_false hx
                      generalize L1[u]! = x at *
                      clear hx hl1
                      go_wp2
                      go_roundw
                      case measure => simp only [intOf]; omega
                      case rel => exact ⟨u + 1, L1, by omega, by go_num, HR1, HF2, HT1, HO1⟩
                  · rw [hb] at co
                    have HF2 := Lib.hid (HF1.out.skip (.inl hb) (by rw [HGN.out]; exact huj))
                    generalize L1[u]! = x at *
                    clear hl1
                    go_wp2
                    go_roundw
                    case measure => simp only [intOf]; omega
                    case rel => exact ⟨u + 1, L1, by omega, by go_num, HR1, HF2, HT1, HO1⟩
                · obtain rfl : u = j := by omega
                  have huz : ¬ (u : Int) < (u : Int) := by omega
                  have HE : Hid (L1 = G.labs) := Lib.hid (by have := HF1.out; rw [← HGN.out] at this; exact this.shut)
                  clear hl1
                  go_wp2
                  go_end0
                  exact ⟨rfl, by rw [← HE.out]; exact HR1.out, HT1.out⟩
end Go.Proofs.YtklpemcchfmdjaaDoor
