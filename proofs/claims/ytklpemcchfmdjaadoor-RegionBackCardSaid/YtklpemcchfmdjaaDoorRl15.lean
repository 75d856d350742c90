/-
  The reference of region: Labels.
-/
import Derived.Test.YtklpemcchfmdjaaDoorRn15
namespace Go.Proofs.YtklpemcchfmdjaaDoor
set_option linter.unusedSimpArgs false
set_option linter.unusedVariables false
open Go.RowKit Go.Sort Go.Lib Go.Shelf

/-- The ground of a grid W tiles wide, H high, by its row of blocked tiles. -/
def rowG (W H : Nat) (hW : 0 < W) (b : List Bool) : Ground := gridG W H hW (fun t => b[t]!)
theorem own_snoc {G : Ground} {l : List Int} {k : Nat} (hl : l.length = k) (h : ∀ t, t < k → l[t]! = ownI G t) (x : Int) (hx : x = ownI G k) : ∀ t, t < k + 1 → (l ++ [x])[t]! = ownI G t := fun t ht => by
  rw [getElem!_pos _ t (by rw [List.length_append, hl]; simp; omega), List.getElem_append]
  split
  · rename_i h1
    have := h t (by omega)
    rwa [getElem!_pos l t h1] at this
  · rename_i h1
    obtain rfl : t = k := by omega
    simp [hl, hx]
theorem own_setI {w : World} {base g cap : Nat} {l : List Int} (h : OwnI w base (.slice (some ⟨g, 0, none⟩) l.length cap) l) (j : Nat) (x : Int) : OwnI (w.setCell ⟨g, j, none⟩ (.int .i64 x)) base (.slice (some ⟨g, 0, none⟩) l.length cap) (l.set j x) := by
  have hst := (h.stored j (.int .i64 x)).1
  rw [flat1_set (c := Value.int .i64) encI1'] at hst
  unfold OwnI
  rw [List.length_set]
  exact hst
set_option maxHeartbeats 8000000 in
set_option maxRecDepth 100000 in
theorem rlabels_call (W H : Nat) (hW : 0 < W) (hW2 : W ≤ 1000) (hn : H * W ≤ 1024) (hn1 : 1 ≤ H * W) (b : List Bool) (hbl : b.length = H * W) (vb : Value) (w : World) (hb : Sl encB w vb b) :
    Calls Tryd.prog 19 #[.int .i64 W, vb] w fun e w' => ∃ v, e = .returned v ∧ OwnI w' w.heap.size v (rowG W H hW b).labs ∧ RowKit.Below w.heap.size w w' := by
  obtain ⟨qb, capb, rfl, b1, b2, b3⟩ := hb
  unfold maxLen at b2
  have HBB := Lib.hid b3
  have hgn : (rowG W H hW b).n = H * W := rfl
  have hnx : ∀ t, (rowG W H hW b).nx t = nextT W (H * W) t := fun _ => rfl
  have hbb : ∀ t, (rowG W H hW b).bl t = b[t]! := fun _ => rfl
  generalize rowG W H hW b = G at *
  generalize H * W = n at *
  have HGN := Lib.hid hgn
  have HNX := Lib.hid hnx
  have HBL := Lib.hid hbb
  rw [hbl] at b1
  have HBN := Lib.hid hbl
  have NC := Lib.hid (fun t (ht : t < n) W' => rnext_call W n t W' hW hW2 (by omega) ht)
  have O0 := Lib.hid (World.ownsRow_made (base := w.heap.size) (e := 3) (size := 1) w #[] 0 (Nat.le_refl _) (Nat.zero_le _) (by simp))
  clear b3 hgn hnx hbb
  rw [hbl]
  clear hbl
  go_enter Tryd.func19, Tryd.ntmps19
  go_wp2
  go_loopw [5, 16] (fun v i wr => ∃ (k : Nat) (L : List Int), k ≤ n ∧ i = .int .i64 k ∧ Hid (RowKit.Below w.heap.size w wr) ∧ Hid (OwnI wr w.heap.size v L) ∧ L.length = k ∧ Hid (∀ t, t < k → L[t]! = ownI G t)) (fun _ i _ => n - (intOf i).toNat)
  case atStart => exact ⟨0, [], Nat.zero_le _, rfl, Lib.hid (Ba (Below.refl _ w) _), O0, rfl, Lib.hid (fun t ht => absurd ht (Nat.not_lt_zero t))⟩
  case round =>
    obtain ⟨k, L, hk, rfl, HB, HO, hLk, HOw⟩ := hrel
    by_cases hkn : k < n
    · obtain ⟨gc, oc, rfl, hc1, hc2⟩ := HBB.out (by rw [HBN.out]; omega)
      have d1 := Bc HB.out hc1 (atB hc2 (i := k) (by rw [HBN.out]; exact hkn))
      have ho := HBL.out k
      have how : ownI G k = if b[k]! then -1 else (k : Int) := by unfold ownI; rw [ho]
      generalize b[k]! = x at *
      have hkz : (k : Int) < (n : Int) := by omega
      have hlen : L.length ≤ 1024 := by omega
      have HLk := Lib.hid hLk
      clear hc2 ho hLk
      cases x
      · rw [if_neg (by simp)] at how
        have bX := Ba (Below.refl _ wr) (.cells #[.int .i64 (k : Int)] 3)
        have O5 := Lib.hid (row_below HO.out bX)
        have B5 := Lib.hid (Bt HB.out bX)
        have L5 := Lib.hid (sl_lit (enc := encI) (w := wr) (cs := #[.int .i64 (k : Int)]) (t := 3) (b := wr.heap.size) [(k : Int)] (by simp) rfl (by unfold maxLen; simp))
        have HNW := Lib.hid (own_snoc HLk.out HOw.out (k : Int) how.symm)
        clear bX how
        go_wp2_with (at_builtin; refine wpl_app2 apI rfl _ _ rfl w.heap.size (by rfl) (by rfl) O5.out rfl L5.out (by simp; omega) B5.out.size ?_; intro v7 w7 hown7 hgrow7 hat7 hnil7; have O7 := Lib.hid hown7; have B7 := Lib.hid (grownB B5.out O5.out hgrow7); clear hown7 hgrow7 hat7 hnil7)
        go_roundw
        case measure => simp only [intOf]; omega
        case rel => exact ⟨k + 1, _, by omega, by go_num, B7, O7, by rw [List.length_append, HLk.out]; rfl, HNW⟩
      · rw [if_pos rfl] at how
        have bX := Ba (Below.refl _ wr) (.cells #[.int .i64 (-1)] 3)
        have O5 := Lib.hid (row_below HO.out bX)
        have B5 := Lib.hid (Bt HB.out bX)
        have L5 := Lib.hid (sl_lit (enc := encI) (w := wr) (cs := #[.int .i64 (-1)]) (t := 3) (b := wr.heap.size) [-1] (by simp) rfl (by unfold maxLen; simp))
        have HNW := Lib.hid (own_snoc HLk.out HOw.out (-1) how.symm)
        clear bX how
        go_wp2_with (at_builtin; refine wpl_app2 apI rfl _ _ rfl w.heap.size (by rfl) (by rfl) O5.out rfl L5.out (by simp; omega) B5.out.size ?_; intro v7 w7 hown7 hgrow7 hat7 hnil7; have O7 := Lib.hid hown7; have B7 := Lib.hid (grownB B5.out O5.out hgrow7); clear hown7 hgrow7 hat7 hnil7)
        go_roundw
        case measure => simp only [intOf]; omega
        case rel => exact ⟨k + 1, _, by omega, by go_num, B7, O7, by rw [List.length_append, HLk.out]; rfl, HNW⟩
    · obtain rfl : k = n := by omega
      have HL0 := Lib.hid (own_inv (G := G) (l := L) (by rw [hLk, HGN.out]) (fun t ht => HOw.out t (by rw [← HGN.out]; exact ht)))
      have HB0 := Lib.hid (bad_le G L)
      obtain ⟨qv, cv, rfl, cv1, cv2, hq⟩ := row_val HO.out
      obtain ⟨gl, rfl, hgl, hgo⟩ := hq (by omega)
      have hgb := row_base0 HO.out hgo
      unfold maxLen at cv2
      have hkz : ¬ (k : Int) < (k : Int) := by omega
      rw [hLk] at cv1
      have HO1 : Hid (wr.ownsRow w.heap.size 3 1 (.slice (some ⟨gl, 0, none⟩) k cv) L.length (flat encI L)) := Lib.hid (by have := HO.out; unfold OwnI at this; rw [hLk] at this; rw [hLk]; exact this)
      rw [hLk]
      have HLk := Lib.hid hLk
      clear HO HOw hLk hq hgl
      go_wp2_with fail
      go_loopw [8] (fun i wx => ∃ (r : Nat) (L0 : List Int), r ≤ k + 1 ∧ i = .int .i64 r ∧ Hid (RowKit.Below w.heap.size w wx) ∧ Hid (wx.ownsRow w.heap.size 3 1 (.slice (some ⟨gl, 0, none⟩) k cv) L0.length (flat encI L0)) ∧ Hid (LInv G L0) ∧ Hid (badN G L0 ≤ G.n - r)) (fun i _ => k + 1 - (intOf i).toNat)
      case atStart => exact ⟨0, L, by omega, rfl, HB, HO1, HL0, Lib.hid (by have := HB0.out; omega)⟩
      case round =>
        obtain ⟨r, L0, hr, rfl, HB0', HO0, HI, HD⟩ := hrel
        have hl0 : L0.length = k := by rw [HI.out.len, HGN.out]
        by_cases hrn : r < k + 1
        · have hrz : (r : Int) ≤ (k : Int) := by omega
          clear hl0
          go_wp2_with fail
          go_loopw [9, 38] (fun c i wx => ∃ (t : Nat) (L1 : List Int) (ch : Bool), t ≤ k ∧ i = .int .i64 t ∧ c = .bool ch ∧ Hid (RowKit.Below w.heap.size w wx) ∧ Hid (wx.ownsRow w.heap.size 3 1 (.slice (some ⟨gl, 0, none⟩) k cv) L1.length (flat encI L1)) ∧ Hid (RoundT G L0 L1 t) ∧ Hid (ch = false → L1 = L0)) (fun _ i _ => k - (intOf i).toNat)
          case atStart => exact ⟨0, L0, false, Nat.zero_le _, rfl, rfl, HB0', HO0, Lib.hid (RoundT.start HI.out), Lib.hid (fun _ => rfl)⟩
          case round =>
            obtain ⟨t, L1, ch, ht, rfl, rfl, HB1, HO1, HR, HCH⟩ := hrel
            have hl1 : L1.length = k := by rw [HR.out.inv.len, HGN.out]
            by_cases htk : t < k
            · have htz : (t : Int) < (k : Int) := by omega
              have HO1' := Lib.hid (by have := HO1.out; rw [hl1] at this; exact this)
              have ct := row_cell1 encI1' HO1'.out t (by omega)
              have hneg := HR.out.inv.neg (t := t) (by rw [HGN.out]; exact htk)
              have hglw := cell_lt ct
              generalize hxe : L1[t]! = x at *
              by_cases hx : x < 0
              · have HR2 := Lib.hid (HR.out.skip (hneg.1 hx))
                have hxd : decide (x < 0) = true := decide_eq_true hx
                clear hneg hl1 hxe
                go_wp2
                go_roundw
                case measure => simp only [intOf]; omega
                case rel => exact ⟨t + 1, L1, ch, by omega, by go_num, rfl, HB1, HO1, HR2, HCH⟩
              · have HFT : Hid (G.fr t) := Lib.hid ⟨by rw [HGN.out]; exact htk, by
                  cases hbt : G.bl t
                  · rfl
                  · exact absurd (hneg.2 hbt) hx⟩
                have hxd : decide (x < 0) = false := decide_eq_false hx
                have NT := Lib.hid (NC.out t htk wr)
                have HKN := Lib.hid (HNX.out t)
                obtain ⟨kn, hkn'⟩ : ∃ kn, kn = nextT W k t := ⟨_, rfl⟩
                rw [← hkn'] at NT HKN
                clear hneg hkn' hxe
                go_wp2_with fail
                refine NT.out.mono ?_
                rintro e w2 ⟨v2, rfl, ho2, hb2⟩
                obtain ⟨q2, cap2, rfl, q21, q22, q23⟩ := row_val ho2
                unfold maxLen at q22
                have hlm : (kn.map fun k : Nat => (k : Int)).length = kn.length := by simp
                have HB2 := Lib.hid (Bt HB1.out hb2)
                have HO2 := Lib.hid (row_below HO1.out hb2)
                have HV2 := Lib.hid ho2
                have HQ2 := Lib.hid q23
                have hglw2 := Bl hb2 hglw
                have HS2 := Lib.hid hb2.size
                have HRK := Lib.hid HR.out.open
                rw [hlm] at q21 ⊢
                clear ct ho2 hb2 q23 hlm hl1 HO1'
                obtain ⟨wz, hwz⟩ : ∃ wz : Nat, wz = wr.heap.size := ⟨_, rfl⟩
                have HV2' : Hid (w2.ownsRow wz 3 1 (.slice q2 (kn.map fun k : Nat => (k : Int)).length cap2) (kn.map fun k : Nat => (k : Int)).length (flat encI (kn.map fun k : Nat => (k : Int)))) := Lib.hid (by rw [hwz]; exact HV2.out)
                have hglz : gl < wz := by rw [hwz]; exact hglw
                have HQ2' : Hid (0 < kn.length → ∃ g, q2 = some ⟨g, 0, none⟩ ∧ g < w2.heap.size ∧ (Value.slice q2 (kn.map fun k : Nat => (k : Int)).length cap2).ownBlock = some g) := Lib.hid (fun h => HQ2.out (by simpa using h))
                clear hwz HV2 HQ2
                go_wp2_with fail
                go_loopw [9, 52] (fun c i wx => ∃ (j : Nat) (L2 : List Int) (c2 : Bool), j ≤ kn.length ∧ i = .int .i64 j ∧ c = .bool c2 ∧ Hid (RowKit.Below w.heap.size w wx) ∧ Hid (wx.ownsRow w.heap.size 3 1 (.slice (some ⟨gl, 0, none⟩) k cv) L2.length (flat encI L2)) ∧ Hid (RoundK G L0 L2 t (kn.take j)) ∧ Hid (c2 = false → L2 = L0) ∧ Hid (wx.ownsRow wz 3 1 (.slice q2 (kn.map fun k : Nat => (k : Int)).length cap2) (kn.map fun k : Nat => (k : Int)).length (flat encI (kn.map fun k : Nat => (k : Int))))) (fun _ i _ => kn.length - (intOf i).toNat)
                case atStart => exact ⟨0, L1, ch, Nat.zero_le _, rfl, rfl, HB2, HO2, HRK, HCH, HV2'⟩
                case round =>
                  obtain ⟨j, L2, c2, hj, rfl, rfl, HB3, HO3, HK, HC3, HV3⟩ := hrel
                  have hl2 : L2.length = k := by rw [HK.out.r.inv.len, HGN.out]
                  by_cases hjn : j < kn.length
                  · have hjz : (j : Int) < (kn.length : Int) := by omega
                    obtain ⟨g2, rfl, -, hg2⟩ := HQ2'.out (by omega)
                    have hne : g2 ≠ gl := by have := row_base0 HV3.out hg2; omega
                    have cu := row_cell1 encI1' HV3.out j (by simpa using hjn)
                    have hkj : (kn.map fun k : Nat => (k : Int))[j]! = ((kn[j]! : Nat) : Int) := by
                      rw [getElem!_pos _ j (by simpa using hjn), List.getElem_map, getElem!_pos kn j hjn]
                    have hmem : kn[j]! ∈ kn := by rw [getElem!_pos kn j hjn]; exact List.getElem_mem hjn
                    have htk2 : kn.take (j + 1) = kn.take j ++ [kn[j]!] := by rw [List.take_succ_eq_append_getElem hjn, getElem!_pos kn j hjn]
                    rw [hkj] at cu
                    generalize kn[j]! = kk at *
                    have hmem2 : kk ∈ G.nx t := by rw [HKN.out]; exact hmem
                    obtain ⟨hkkn, hkkt⟩ := G.lt t kk HFT.out.1 hmem2
                    rw [HGN.out] at hkkn
                    have HO3' := Lib.hid (by have := HO3.out; rw [hl2] at this; exact this)
                    have ck := row_cell1 encI1' HO3'.out kk (by omega)
                    have ct := row_cell1 encI1' HO3'.out t (by omega)
                    have fz := HO3'.out.frozenAt t
                    have hgl3 := cell_lt ct
                    have hgu3 := cell_lt cu
                    have hkz2 : (kk : Int) < (k : Int) := by omega
                    have hlm2 : (kn.map fun k : Nat => (k : Int)).length = kn.length := by simp
                    by_cases hc : 0 ≤ L2[kk]! ∧ L2[kk]! < L2[t]!
                    · have HK2 := Lib.hid (HK.out.turn HFT.out hmem2 hc)
                      have HO4 := Lib.hid (by have := own_setI (w := wr) (base := w.heap.size) (g := gl) (cap := cv) (l := L2) (by unfold OwnI; rw [hl2]; have := HO3.out; rw [hl2] at this; exact this) t L2[kk]!; unfold OwnI at this; rw [hl2] at this; exact this)
                      have HB4 := Lib.hid (Bs HB3.out (p := ⟨gl, t, none⟩) hgb (.int .i64 L2[kk]!))
                      have HV4 := Lib.hid (row_keep HV3.out (w' := wr.setCell ⟨gl, t, none⟩ (.int .i64 L2[kk]!)) (fun gg e => by rw [hg2] at e; simp only [Option.some.injEq] at e; subst e; exact heap_setCell_other wr ⟨gl, t, none⟩ g2 _ hne))
                      rw [← htk2] at HK2
                      obtain ⟨h0, h1⟩ := hc
                      generalize hy : L2[kk]! = y at *
                      generalize L2[t]! = z at *
                      have hd1 : decide ((0 : Int) ≤ y) = true := decide_eq_true h0
                      have hd2 : decide (y < z) = true := decide_eq_true h1
                      clear hkj hmem htk2 hl2 HO3' hlm2 hy
                      go_wp2_with fail
                      go_quiet (fail)
                      go_wp2
                      go_roundw
                      case measure => simp only [intOf]; omega
                      case rel => exact ⟨j + 1, _, true, by omega, by go_num, rfl, Lib.hid ⟨HB4.out.os, HB4.out.tape, HB4.out.output, HB4.out.size, HB4.out.block⟩, Lib.hid (by exact HO4.out), HK2, Lib.hid (fun e => by cases e), Lib.hid (by exact HV4.out)⟩
                    · have HK2 := Lib.hid (HK.out.keep HFT.out hmem2 hc)
                      rw [← htk2] at HK2
                      generalize L2[kk]! = y at *
                      generalize L2[t]! = z at *
                      by_cases h0 : 0 ≤ y
                      · have h1 : ¬ y < z := fun e => hc ⟨h0, e⟩
                        have hd1 : decide ((0 : Int) ≤ y) = true := decide_eq_true h0
                        have hd2 : decide (y < z) = false := decide_eq_false h1
                        clear hkj hmem htk2 hl2 HO3' hlm2 hc
                        go_wp2_with fail
                        go_quiet (fail)
                        go_wp2
                        go_roundw
                        case measure => simp only [intOf]; omega
                        case rel => exact ⟨j + 1, L2, c2, by omega, by go_num, rfl, Lib.hid (Bn HB3.out), Lib.hid (by exact HO3.out), HK2, HC3, Lib.hid (by exact HV3.out)⟩
                      · have hd1 : decide ((0 : Int) ≤ y) = false := decide_eq_false h0
                        clear hkj hmem htk2 hl2 HO3' hlm2 hc
                        go_wp2_with fail
                        go_quiet (fail)
                        go_wp2
                        go_roundw
                        case measure => simp only [intOf]; omega
                        case rel => exact ⟨j + 1, L2, c2, by omega, by go_num, rfl, Lib.hid (Bn HB3.out), Lib.hid (by exact HO3.out), HK2, HC3, Lib.hid (by exact HV3.out)⟩
                  · obtain rfl : j = kn.length := by omega
                    have hjz : ¬ (kn.length : Int) < (kn.length : Int) := by omega
                    have HR2 := Lib.hid (by have := HK.out; rw [List.take_length, ← HKN.out] at this; exact this.shut)
                    clear hl2
                    go_wp2
                    go_roundw
                    case measure => simp only [intOf]; omega
                    case rel => exact ⟨t + 1, L2, c2, by omega, by go_num, rfl, HB3, HO3, HR2, HC3⟩
            · obtain rfl : t = k := by omega
              have htz : ¬ (t : Int) < (t : Int) := by omega
              have HR2 := Lib.hid (by have := HR.out; rw [← HGN.out] at this; exact this)
              clear hl1
              cases ch
              · have HE : Hid (L1 = G.labs) := Lib.hid (by
                  have e := HCH.out rfl
                  have h1 := HR2.out
                  rw [e] at h1 ⊢
                  exact bad_zero HI.out (round_still HI.out h1))
                go_wp2
                go_ret
                exact ⟨_, rfl, by rw [← HE.out]; exact HO1.out, HB1.out⟩
              · have HD2 := Lib.hid (bad_next HI.out HR2.out HD.out)
                go_wp2
                go_roundw
                case measure => simp only [intOf]; omega
                case rel => exact ⟨r + 1, L1, by omega, by go_num, HB1, HO1, Lib.hid HR2.out.inv, HD2⟩
        · obtain rfl : r = k + 1 := by omega
          have hrz : ¬ ((k + 1 : Nat) : Int) ≤ (k : Int) := by omega
          have hrz2 : ¬ (k : Int) + 1 ≤ (k : Int) := by omega
          have HE : Hid (L0 = G.labs) := Lib.hid (bad_zero HI.out (by have := HD.out; have := HGN.out; omega))
          clear hl0
          go_wp2
          go_ret
          exact ⟨_, rfl, by rw [← HE.out]; exact HO0.out, HB0'.out⟩
end Go.Proofs.YtklpemcchfmdjaaDoor
