/-
  Regions: spread.
-/
import Derived.Test.YtklpemcchfmdjaaDoorBs15
namespace Go.Proofs.YtklpemcchfmdjaaDoor
set_option linter.unusedSimpArgs false
set_option linter.unusedVariables false
open Go.RowKit Go.Sort Go.Lib Go.Shelf

/-- How many labels of a row in memory are None. -/
noncomputable def cntW (w : World) (blk n : Nat) : Nat := open Classical in ((List.range n).filter fun j => decide (w.cell? ⟨blk, j, none⟩ = some (.int .i64 (-1)))).length
def lenV : Value → Nat
  | .slice _ n _ => n
  | _ => 0
theorem cntL_range (L : List Int) (x : Int) : ((List.range L.length).filter fun j => decide (L[j]! = x)).length = cntL L x := by
  have key : ∀ k, k ≤ L.length → ((List.range k).filter fun j => decide (L[j]! = x)).length = cntL (L.take k) x := by
    intro k
    induction k with
    | zero => intro _; rfl
    | succ k ih =>
      intro hk
      rw [List.range_succ, List.filter_append, List.length_append, ih (by omega), cntL_take (show k < L.length by omega) x]
      congr 1
      by_cases e : L[k]! = x
      · rw [List.filter_cons, if_pos (decide_eq_true e), if_pos e]; rfl
      · rw [List.filter_cons, if_neg (by rw [decide_eq_false e]; simp), if_neg e]; rfl
  rw [key L.length (Nat.le_refl _), List.take_length]
theorem cntW_eq {w : World} {M : Nat → Prop} {pa blk ln cs : Nat} {W : Int} {L : List Int} (h : RgV w M pa (.slice (some ⟨blk, 0, none⟩) ln cs) W L) {n : Nat} (hn : L.length = n) : cntW w blk n = cntL L (-1) := by
  subst hn
  rw [← cntL_range]
  unfold cntW
  congr 1
  refine List.filter_congr fun j hj => ?_
  rw [(h.get (List.mem_range.1 hj)).1, decide_eq_decide]
  simp
def natI (S : List Nat) : List Int := S.map fun k : Nat => (k : Int)
theorem natI_len (S : List Nat) : (natI S).length = S.length := by simp [natI]
theorem natI_get {S : List Nat} {j : Nat} (hj : j < S.length) : (natI S)[j]! = ((S[j]! : Nat) : Int) := by
  unfold natI
  rw [getElem!_pos _ j (by simpa using hj), List.getElem_map, getElem!_pos S j hj]
set_option maxHeartbeats 8000000 in
set_option maxRecDepth 100000 in
theorem spread_call (G : Ground) {pa W n t : Nat} {L0 : List Int} {Fb : List Bool} {M : Nat → Prop} {w : World} {v vf : Value} (h : RgV w M pa v W L0) (hGn : G.n = n) (hnx : ∀ t, G.nx t = nextT W n t) (hFn : Fb.length = n) (hF : ∀ x, x < n → Fb[x]! = !G.bl x) (hW : 0 < W) (hW2 : W ≤ 1000) (hn : n ≤ 1024)
    (hs : Sl encB w vf Fb) (hv : ∀ k, vf.ownBlock = some k → ¬ M k) (hM : ∀ b, M b → b < w.heap.size) (h0 : Flood G L0 t) (hf : G.fr t) (hL : L0[t]! = -1) :
    Calls Tryd.prog 45 #[psR pa, vf, .int .i64 t] w fun e w' => ∃ L, e = .returned (.tuple #[]) ∧ RgV w' M pa v W L ∧ Flood G L (t + 1) ∧ Tch M w w' := by
  have htn : t < n := by rw [← hGn]; exact hf.1
  have hl0 : L0.length = n := by rw [h0.len, hGn]
  have HBC := Lib.hid (fun (L : List Int) (w : World) (h : RgV w M pa v W L) (hl : L.length = n) (u : Nat) (hu : u < n) => beside_call h hl hW hW2 hn hu)
  obtain ⟨blk, cap, rfl, k1, k2, k3, k4, k5⟩ := h.open (by omega) (by omega)
  rw [hl0] at k1
  obtain ⟨qf, capf, rfl, f1, f2, f3⟩ := hs
  unfold maxLen at f2
  obtain ⟨gf, of, rfl, hgf, hcf⟩ := f3 (by omega)
  have HFC : Hid (∀ w', Tch M w w' → ∀ x, x < n → w'.cell? ⟨gf, of + x, none⟩ = some (.bool (!G.bl x))) := Lib.hid (fun w' k x hx => by rw [← hF x hx]; exact k.cell hgf (hv gf rfl) (atB hcf (by rw [hFn]; exact hx)))
  have HFL : Hid (gf < w.heap.size) := Lib.hid hgf
  rw [hFn] at f1 ⊢
  have HNX := Lib.hid hnx
  have HGN := Lib.hid hGn
  have HH0 := Lib.hid h0
  have HFR := Lib.hid hf
  have HL := Lib.hid hL
  have HM := Lib.hid hM
  have hl := h.lt
  obtain ⟨c0, c1⟩ := h.cells
  obtain ⟨d1, fz⟩ := h.get (j := t) (by rw [hl0]; exact htn)
  obtain ⟨R1, T1⟩ := h.cell t (t : Int)
  have R2 := Lib.hid (R1.below (Ba (Below.refl _ _) (.cells #[.int .i64 (t : Int)] 3)))
  have T2 := Lib.hid (T1.more (Tch.of (Ba (Below.refl _ _) (.cells #[.int .i64 (t : Int)] 3))))
  have S2 := Lib.hid (SpH.start h0 hf hL)
  have O2 : Hid (OwnI ((w.setCell ⟨blk, t, none⟩ (.int .i64 (t : Int))).alloc (.cells #[.int .i64 (t : Int)] 3)) w.heap.size (.slice (some ⟨w.heap.size, 0, none⟩) 1 1) (natI [t])) := Lib.hid (by
    have := World.ownsRow_lit (base := w.heap.size) (e := 3) (size := 1) (w.setCell ⟨blk, t, none⟩ (.int .i64 (t : Int))) #[.int .i64 (t : Int)] 1 (by simp) (by unfold maxLen; omega) rfl
    unfold OwnI natI
    simpa [flat, encI] using this)
  have hbw : Hid (blk < w.heap.size) := Lib.hid k3
  generalize L0[t]! = x0 at d1
  clear h hF hv hcf hnx h0 hf hL hM R1 T1 f3 hFn hGn
  rw [hl0] at HBC R2 ⊢
  try rw [hl0] at c1
  have htz : (t : Int) < (n : Int) := by omega
  unfold psR at *
  go_enter Tryd.func45, Tryd.ntmps45
  go_wp2_with fail
  go_loopw [6] (fun v6 wr => ∃ (L : List Int) (S : List Nat), Hid (RgV wr M pa (.slice (some ⟨blk, 0, none⟩) n cap) W L) ∧ Hid (SpH G L0 L t S) ∧ Hid (OwnI wr w.heap.size v6 (natI S)) ∧ Hid (Tch M w wr)) (fun v6 wr => lenV v6 + cntW wr blk n)
  case atStart => exact ⟨_, [t], R2, S2, O2, T2⟩
  case round =>
    obtain ⟨L, S, HR, HS, HO, HT⟩ := hrel
    have hll : L.length = n := by rw [HS.out.len, HGN.out]
    clear R2 T2 S2 O2 c0 c1 fz d1
    by_cases hS : S = []
    · subst hS
      obtain ⟨q6, cap6, rfl, o1, o2, -⟩ := row_val HO.out
      rw [show (natI []).length = 0 from rfl]
      go_wp2
      go_end0
      exact ⟨L, rfl, HR.out, HS.out.done HH0.out HFR.out HL.out, HT.out⟩
    · obtain ⟨S', y, rfl⟩ : ∃ S' y, S = S' ++ [y] := ⟨S.dropLast, S.getLast hS, (List.dropLast_concat_getLast hS).symm⟩
      have hsl : (natI (S' ++ [y])).length = S'.length + 1 := by simp [natI]
      obtain ⟨q6, cap6, rfl, o1, o2, o3⟩ := row_val HO.out
      obtain ⟨g6, rfl, hg6, -⟩ := o3 (by omega)
      have hyr := HS.out.stk y (by simp)
      have hsn : S'.length ≤ 1024 := by have := HS.out.few; have := HGN.out; simp at *; omega
      have hyn : y < n := by rw [← HGN.out]; exact hyr.1.1
      have HYR := Lib.hid hyr
      have cy : wr.cell? ⟨g6, S'.length, none⟩ = some (.int .i64 (y : Int)) := by
        have := row_cell1 encI1' HO.out S'.length (by omega)
        rw [natI_get (by simp)] at this
        rw [this, getElem!_pos _ _ (by simp)]
        simp
      have HO2 : Hid (OwnI wr w.heap.size (.slice (some ⟨g6, 0, none⟩) S'.length cap6) (natI S')) := Lib.hid (by
        have := row_front lenI HO.out rfl S'.length (by omega)
        rw [show (natI (S' ++ [y])).take S'.length = natI S' by simp [natI]] at this
        exact this)
      have HP := Lib.hid HS.out.pop
      have CW0 := Lib.hid (cntW_eq HR.out hll)
      have BC := Lib.hid (HBC.out L wr HR.out hll y hyn)
      have HKN := Lib.hid (HNX.out y)
      unfold maxLen at o2
      obtain ⟨kn, hkn'⟩ : ∃ kn, kn = nextT W n y := ⟨_, rfl⟩
      rw [← hkn'] at BC HKN
      obtain ⟨s, hs⟩ : ∃ s, s = S'.length := ⟨_, rfl⟩
      have HSS := Lib.hid hs
      rw [hsl] at o1 ⊢
      rw [← hs] at o1 HO2 cy hsn ⊢
      clear HO HS hS o3 hyr hkn' hsl hs
      generalize wr = w4 at *
      have hg6l := cell_lt cy
      go_wp2_with fail
      refine BC.out.mono ?_
      rintro e w5 ⟨vb, rfl, hob, hb5⟩
      have HR5 := Lib.hid (HR.out.below hb5)
      have HO5 := Lib.hid (row_below HO2.out hb5)
      have HT5 := Lib.hid (HT.out.more (Tch.of hb5))
      obtain ⟨qb, capb, rfl, b1, b2, b3⟩ := row_val hob
      have HOB := Lib.hid hob
      have HQB := Lib.hid b3
      have hlm : (kn.map fun k : Nat => (k : Int)).length = kn.length := by simp
      rw [hlm] at b1 ⊢
      have HNE : Hid (∀ g : Nat, qb = some ⟨g, 0, none⟩ → (Value.slice (some ⟨g6, 0, none⟩) s cap6).ownBlock ≠ some g) := Lib.hid (fun g e h => by
        subst e
        simp only [Value.ownBlock, Option.some.injEq] at h
        have := row_base0 HOB.out (show (Value.slice (some ⟨g, 0, none⟩) _ capb).ownBlock = some g from rfl)
        omega)
      unfold maxLen at b2
      have hg6z : g6 < w5.heap.size := Nat.lt_of_lt_of_le hg6l hb5.size
      obtain ⟨wz, hwz⟩ : ∃ wz : Nat, wz = w4.heap.size := ⟨_, rfl⟩
      have HVB : Hid (w5.ownsRow wz 3 1 (.slice qb (natI kn).length capb) (natI kn).length (flat encI (natI kn))) := Lib.hid (by rw [hwz]; exact HOB.out)
      have HQB' : Hid (0 < kn.length → ∃ g, qb = some ⟨g, 0, none⟩) := Lib.hid (fun h => by obtain ⟨g, h1, _⟩ := HQB.out (by rw [hlm]; exact h); exact ⟨g, h1⟩)
      obtain ⟨mm, hmm⟩ : ∃ mm, mm = S'.length + cntL L (-1) := ⟨_, rfl⟩
      have HMM := Lib.hid hmm
      have CWS := Lib.hid (show lenV (.slice (some ⟨g6, 0, none⟩) (s + 1) cap6) + cntW w4 blk n = mm + 1 by rw [CW0.out, hmm, ← HSS.out]; show s + 1 + _ = _; omega)
      have HSZ : Hid (w.heap.size ≤ wz) := Lib.hid (by rw [hwz]; exact HT.out.size)
      clear hob hb5 b3 hwz HOB HQB hmm cy hlm BC
      go_wp2_with fail
      go_loopw [6, 37] (fun v6 i wx => ∃ (j : Nat) (L2 : List Int) (S2 : List Nat), j ≤ kn.length ∧ i = .int .i64 j ∧ Hid (RgV wx M pa (.slice (some ⟨blk, 0, none⟩) n cap) W L2) ∧ Hid (Spread G L0 L2 t S2 y (kn.take j)) ∧ Hid (OwnI wx w.heap.size v6 (natI S2)) ∧ Hid (Tch M w wx) ∧ Hid (wx.ownsRow wz 3 1 (.slice qb (natI kn).length capb) (natI kn).length (flat encI (natI kn))) ∧ Hid (∀ g : Nat, qb = some ⟨g, 0, none⟩ → v6.ownBlock ≠ some g) ∧ Hid (S2.length + cntL L2 (-1) = mm)) (fun _ i _ => kn.length - (intOf i).toNat)
      case atStart => exact ⟨0, L, S', Nat.zero_le _, rfl, HR5, HP, HO5, HT5, HVB, HNE, Lib.hid HMM.out.symm⟩
      case round =>
        obtain ⟨j, L2, S2, hj, rfl, HR3, HK, HO3, HT3, HV3, HN3, HM3⟩ := hrel
        have hl2 : L2.length = n := by rw [HK.out.len, HGN.out]
        by_cases hjn : j < kn.length
        · have hjz : (j : Int) < (kn.length : Int) := by omega
          obtain ⟨gb, rfl⟩ := HQB'.out (by omega)
          have cu := row_cell1 encI1' HV3.out j (by rw [natI_len]; exact hjn)
          rw [natI_get hjn] at cu
          have hmem : kn[j]! ∈ kn := by rw [getElem!_pos kn j hjn]; exact List.getElem_mem hjn
          have htk2 : kn.take (j + 1) = kn.take j ++ [kn[j]!] := by rw [List.take_succ_eq_append_getElem hjn, getElem!_pos kn j hjn]
          generalize kn[j]! = kk at *
          have hmem2 : kk ∈ G.nx y := by rw [HKN.out]; exact hmem
          obtain ⟨hkkn, hkky⟩ := G.lt y kk HYR.out.1.1 hmem2
          rw [HGN.out] at hkkn
          have HMEM := Lib.hid hmem2
          have HTK := Lib.hid htk2
          have cf := HFC.out wr HT3.out kk hkkn
          obtain ⟨ck, fz⟩ := HR3.out.get (j := kk) (by omega)
          obtain ⟨-, c1⟩ := HR3.out.cells
          have hlw := cell_lt c1
          have hgu3 := cell_lt cu
          have hgf3 := cell_lt cf
          have hgk3 := cell_lt ck
          have hkz2 : (kk : Int) < (n : Int) := by omega
          clear hmem hmem2 htk2
          cases hb : G.bl kk
          · rw [hb] at cf
            by_cases hx : L2[kk]! = -1
            · have HFK : Hid (G.fr kk) := Lib.hid ⟨by rw [HGN.out]; exact hkkn, hb⟩
              have HK2 := Lib.hid (HK.out.turn HYR.out.1 HYR.out.2.1 HMEM.out HFK.out hx)
              rw [← HTK.out] at HK2
              have hcs := cntL_set (L := L2) (x := -1) (y := (t : Int)) (k := kk) (by omega) hx (by omega)
              have HM4 := Lib.hid (show (S2 ++ [kk]).length + cntL (L2.set kk (t : Int)) (-1) = mm by have := HM3.out; rw [List.length_append]; simp; omega)
              obtain ⟨R4, T4⟩ := HR3.out.cell kk (t : Int)
              have hne6 : ∀ g, u6.ownBlock = some g → g ≠ blk := fun g e => by have := row_base0 HO3.out e; omega
              have O4 := row_keep HO3.out (w' := wr.setCell ⟨blk, kk, none⟩ (.int .i64 (t : Int))) (fun g e => heap_setCell_other wr ⟨blk, kk, none⟩ g _ (hne6 g e))
              have hneb : gb ≠ blk := by
                have := row_base0 HV3.out (show (Value.slice (some ⟨gb, 0, none⟩) _ capb).ownBlock = some gb from rfl)
                have := HSZ.out
                omega
              have V4 := row_keep HV3.out (w' := wr.setCell ⟨blk, kk, none⟩ (.int .i64 (t : Int))) (fun g e => by simp only [Value.ownBlock, Option.some.injEq] at e; subst e; exact heap_setCell_other wr ⟨blk, kk, none⟩ gb _ hneb)
              have bX := Ba (Below.refl _ (wr.setCell ⟨blk, kk, none⟩ (.int .i64 (t : Int)))) (.cells #[.int .i64 (kk : Int)] 3)
              have R5 := Lib.hid (R4.below bX)
              have O5 := Lib.hid (row_below O4 bX)
              have V5 := Lib.hid (row_below V4 bX)
              have T5 := Lib.hid (HT3.out.more (T4.more (Tch.of bX)))
              have L5 := Lib.hid (sl_lit (enc := encI) (w := wr.setCell ⟨blk, kk, none⟩ (.int .i64 (t : Int))) (cs := #[.int .i64 (kk : Int)]) (t := 3) (b := wr.heap.size) [(kk : Int)] (by simp) rfl (by unfold maxLen; simp))
              have HSL := Lib.hid (show S2.length ≤ 1024 by have := HK2.out.few; have := HGN.out; rw [List.length_append] at *; simp at *; omega)
              have hsl2 : (natI S2).length + 1 ≤ 1000000 := by have := HSL.out; rw [natI_len]; omega
              have H6L := Lib.hid (fun g (e : u6.ownBlock = some g) => row_lt HO3.out e)
              have hz6 : w.heap.size ≤ ((wr.setCell ⟨blk, kk, none⟩ (.int .i64 (t : Int))).alloc (.cells #[.int .i64 (kk : Int)] 3)).heap.size := by have := HT3.out.size; simp; omega
              have e0 : (L2[kk]! == -1) = true := by simpa using hx
              have e1 : decide (L2[kk]! = -1) = true := decide_eq_true hx
              have HLB := Lib.hid (show gb < wr.heap.size from hgu3)
              generalize L2[kk]! = x at *
              clear R4 T4 O4 V4 bX hne6 hneb hcs hx hl2
              go_wp2_with (at_builtin; refine wpl_app2 apI rfl _ _ rfl w.heap.size (by rfl) (by rfl) O5.out rfl L5.out (by simp; omega) hz6 ?_; intro v7 w7 hown7 hgrow7 hat7 hnil7; have O7 := Lib.hid hown7; have GR7 := Lib.hid hgrow7; have AT7 := Lib.hid hat7; clear hown7 hgrow7 hat7 hnil7)
              have TG := Tch.grown (M := fun b => w.heap.size ≤ b) GR7.out (fun g e => row_base0 O5.out e)
              have R7 := Lib.hid (R5.out.kept TG (fun b hb h => by have := HM.out b hb; omega))
              have T7 := Lib.hid (T5.out.trans (Tch.grown GR7.out (fun g e => .inr ⟨row_base0 O5.out e, by have := H6L.out g e; simp; omega⟩)))
              have V7 := Lib.hid (row_keep V5.out (fun g e => GR7.out.block g (row_lt V5.out e) (fun h => by
                simp only [Value.ownBlock, Option.some.injEq] at e
                subst e
                exact HN3.out gb rfl h.symm)))
              have N7 : Hid (∀ g : Nat, (some ⟨gb, 0, none⟩ : Option Addr) = some ⟨g, 0, none⟩ → v7.ownBlock ≠ some g) := Lib.hid (fun g e h => by
                simp only [Option.some.injEq, Addr.mk.injEq, and_true] at e
                subst e
                rcases AT7.out with q | q
                · exact HN3.out gb rfl (q.symm.trans h)
                · rw [h] at q
                  have := HLB.out
                  simp at q
                  omega)
              have O8 : Hid (OwnI w7 w.heap.size v7 (natI (S2 ++ [kk]))) := Lib.hid (by
                have := O7.out
                rw [show natI S2 ++ [(kk : Int)] = natI (S2 ++ [kk]) by simp [natI]] at this
                exact this)
              clear TG
              go_roundw
              case measure => simp only [intOf]; omega
              case rel => exact ⟨j + 1, _, S2 ++ [kk], by omega, by go_num, R7, HK2, O8, T7, V7, N7, HM4⟩
            · have HK2 := Lib.hid (HK.out.keep (k := kk) (fun _ => hx))
              rw [← HTK.out] at HK2
              have e0 : (L2[kk]! == -1) = false := by simpa using hx
              have e1 : decide (L2[kk]! = -1) = false := decide_eq_false hx
              generalize L2[kk]! = x at *
              clear hx hl2
              go_wp2
              go_roundw
              case measure => simp only [intOf]; omega
              case rel => exact ⟨j + 1, L2, S2, by omega, by go_num, HR3, HK2, HO3, HT3, HV3, HN3, HM3⟩
          · rw [hb] at cf
            have HK2 := Lib.hid (HK.out.keep (k := kk) (fun hf => by rw [hf.2] at hb; cases hb))
            rw [← HTK.out] at HK2
            generalize L2[kk]! = x at *
            clear hl2
            go_wp2
            go_roundw
            case measure => simp only [intOf]; omega
            case rel => exact ⟨j + 1, L2, S2, by omega, by go_num, HR3, HK2, HO3, HT3, HV3, HN3, HM3⟩
        · obtain rfl : j = kn.length := by omega
          have hjz : ¬ (kn.length : Int) < (kn.length : Int) := by omega
          have HS2 := Lib.hid (by have := HK.out; rw [List.take_length, ← HKN.out] at this; exact this.close)
          have CW3 := Lib.hid (cntW_eq HR3.out hl2)
          obtain ⟨q6', cap6', rfl, -, -, -⟩ := row_val HO3.out
          clear hl2
          go_wp2
          go_roundw
          case measure => have := CWS.out; have := HM3.out; have := CW3.out; show (natI S2).length + _ < _; rw [natI_len]; omega
          case rel => exact ⟨L2, S2, HR3, HS2, HO3, HT3⟩
end Go.Proofs.YtklpemcchfmdjaaDoor
