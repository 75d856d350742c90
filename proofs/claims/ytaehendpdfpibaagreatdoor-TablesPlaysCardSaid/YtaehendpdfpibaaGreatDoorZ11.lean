import Derived.Test.YtaehendpdfpibaaGreatDoorZ10
import Derived.Test.YtaehendpdfpibaaGreatDoorZ8
import Derived.RangeFuncBox
import Derived.RangeFuncStops
import Derived.RangeFuncFrom
import Derived.RangeFuncWrites
import Derived.RangeFuncLeaves
import Derived.Shelf.Abstract
import Derived.Shelf.AbstractIn
import Derived.WalkKit
import Derived.OwnWalkIn
import Derived.TacticsInMore
import Derived.LoopNIn
import Derived.LoopIn
import Derived.Maps.AppendAt
import Derived.Sort.MapsRangeIn
import Derived.Shelf.SlSortCmp.NoneTotal
import Derived.Ground.SlsfProg
import Derived.Test.YtaehendpdfpibaaGreatDoorProg

/-
  A store's Put, Take, Add, Remove.
-/
namespace Go.Proofs.YtaehendpdfpibaaGreatDoor
set_option linter.unusedSimpArgs false
set_option linter.unusedVariables false
open Go.RowKit Go.Sort Go.Lib Go.Shelf

theorem mhas_has {l : List Vl} (hl : RightV l) (k : Int) : (kindB k && (maskV l).testBit k.toNat) = hasK l k := by
  have hh := has_iff (ent_of (h := (0, 0)) ((rightB_iff l).2 hl) rfl) k
  rw [show hasK l k = _ from hh]
  cases c : kindB k with
  | false =>
    rw [Bool.false_and]
    refine (decide_eq_false fun e => ?_).symm
    rw [Ks_kind (mask_lt hl) k e] at c
    cases c
  | true =>
    rw [Bool.true_and]
    have hb := (kindB_iff k).1 c
    obtain ⟨n, rfl⟩ : ∃ n : Nat, k = n := ⟨k.toNat, by omega⟩
    rw [Int.toNat_natCast, Bool.eq_iff_iff, decide_eq_true_eq]
    exact ⟨fun e => (mem_kindsOf _ n).2 ⟨by omega, e⟩, fun e => ((mem_kindsOf _ n).1 e).2⟩
theorem delE_no {L : List En} {x : Hd} (h : fndE L x = none) : delE L x = L := by
  unfold delE
  rw [List.filter_eq_self]
  intro r hr
  have := fndE_none.1 h r hr
  simp [this]
section
variable {w w' : World} {M X : Nat → Prop} {ps bt bp ct cp : Nat} {ft ft' : Nat → Option Nat} {tt : Nat → Option (Nat × List En)} {pl pl' : Hd → Option Plc} {MT : Nat → Nat → Prop} {L : List En} {A : Nat → Addr}
theorem StoX.stay (h : StoX w M ps bt bp tt pl MT L) (hb : RowKit.Below w.heap.size w w') : StoM w' (New M w w') ps L := (h.below hb).m.mono (fun b e => .inl e) (New.lt h.mem.lt hb.size)

set_option maxHeartbeats 2000000 in
set_option maxRecDepth 100000 in
theorem sput_call (h : StoX w M ps bt bp tt pl MT L) (x1 x2 : Int) (hx : HdOk (x1, x2)) (l : List Vl) (v : Value) {N' : Nat → Prop} (hv : SlN N' encV w v l) (hN : ∀ b, N' b → b < w.heap.size ∧ ¬ M b) (hlen : l.length ≤ 100000) (hV : Env M w A) :
    Calls Tryz.prog 37 #[psP ps, .agg #[.int .i64 x1, .int .i64 x2], v] w fun e w' => e = .returned (errV A (putEN L (x1, x2) l)) ∧ StoM w' (New M w w') ps (putEL L (x1, x2) l) ∧ Tch M w w' := by
  have HS := Lib.hid (fun W (hb : RowKit.Below w.heap.size w W) => h.stay hb)
  have HH : Hid (∀ W, RowKit.Below w.heap.size w W → _) := fun W hb => shas_call (h.below hb) x1 x2 hx (hV.er W (Tch.of hb))
  have HR : Hid (∀ W, RowKit.Below w.heap.size w W → _) := fun W hb => right_call l v A W (hv.sl.below hb) (hV.er W (Tch.of hb)).e7.er
  have HX := Lib.hid ((hV.er w (Tch.refl _ _)).ex)
  have HF := Lib.hid ((hV.er w (Tch.refl _ _)).e7.full)
  have HO := Lib.hid ((hV.er w (Tch.refl _ _)).e7.form)
  have B0 := Lib.hid (Ba (Below.refl _ w) (.cells #[.int .i64 x1, .int .i64 x2] 31))
  have HV := Lib.hid hv
  obtain ⟨pv, cv, rfl, _, _, _⟩ := id hv
  unfold putEL
  by_cases c1 : (fndE L (x1, x2)).isSome = true
  · have e0 : putEN L (x1, x2) l = 4 := by unfold putEN; rw [if_pos c1]
    rw [e0, errV_at _ _ (by decide), if_neg (by decide)]
    rw [c1] at HH
    have hE3 := Bc B0.out (cell_lt HX.out) HX.out
    have hgl := cell_lt hE3
    have HL4 := Lib.hid (fun w1 (hb1 : RowKit.Below _ _ w1) => Bc hb1 hgl hE3)
    clear h hV hv hE3 hgl
    go_enter Tryz.func37, Tryz.ntmps37
    go_wp2_with fail
    refine (HH.out _ B0.out).mono ?_
    rintro e w1 ⟨rfl, hb1⟩
    have hE4 := HL4.out _ hb1
    have hg4 := cell_lt hE4
    have B1 := Lib.hid (Bt B0.out hb1)
    clear hb1 HL4
    go_wp2
    go_ret
    exact ⟨rfl, HS.out _ B1.out, Tch.of B1.out⟩
  · rw [Bool.not_eq_true] at c1
    rw [c1] at HH
    by_cases c2 : rightB l = true
    · rw [c2] at HR
      have hr := (rightB_iff l).1 c2
      have hnx : (x1, x2) ∉ hds L := fun e => by
        rw [fndE_mem.2 e] at c1; cases c1
      have HMk : Hid (∀ W, RowKit.Below w.heap.size w W → Calls Tryz.prog 66 #[.slice pv l.length cv] W fun e w' => e = .returned (.int .u64 (maskV l : Nat)) ∧ RowKit.Below W.heap.size W w') := fun W hb => mask_call l _ (A 4) W (HV.out.sl.below hb) hr.2 (hV.er W (Tch.of hb)).e7.er.k hlen
      have HLn : Hid (∀ W, RowKit.Below w.heap.size w W → _) := fun W hb => slen_call (h.below hb)
      have hml := mask_lt hr
      have HRm : Hid (∀ W, RowKit.Below w.heap.size w W → _) := fun W hb => sroom_call (h.mem.below hb) (maskV l) hml 0 (.inl rfl) (nM_le L)
      have hmsk := h.good.msk
      have hlenL := h.good.len
      have e1 := nM_insE L ((x1, x2), l) hml
      have e3 : (ftO tt (maskV l)).isSome = hasM L (maskV l) := by rw [← h.lays.mask]; unfold ftO; cases tt (maskV l) <;> rfl
      have eroom : ((ftO tt (maskV l)).isSome || decide ((nM L : Int) - 0 < 32)) = decide (nM (insE L ((x1, x2), l)) ≤ 32) := by
        rw [e3]
        dsimp only at e1
        cases c : hasM L (maskV l) with
        | true => rw [c] at e1; simp only [if_true] at e1; rw [Bool.true_or]; exact (decide_eq_true (by omega)).symm
        | false => rw [c] at e1; simp only [Bool.false_eq_true, if_false] at e1; rw [Bool.false_or]; exact decide_eq_decide.2 (by omega)
      have HLy : Hid (∀ W, RowKit.Below w.heap.size w W → L.length < 128 → nM (insE L ((x1, x2), l)) ≤ 32 → _) := fun W hb h1 h2 => slay_call (h.below hb) x1 x2 hx l _ (HV.out.below hb) (fun b e => ⟨Nat.lt_of_lt_of_le (hN b e).1 hb.size, (hN b e).2⟩) hnx hr h1 h2 (hV.below hb)
      have e0 : putEN L (x1, x2) l = if L.length < 128 ∧ nM (insE L ((x1, x2), l)) ≤ 32 then 0 else 2 := by unfold putEN; rw [c1, if_neg (by decide), if_pos c2]
      rw [e0]
      clear e0
      have HMl := Lib.hid h.mem.lt
      clear h hV hv hr hnx e1 e3 hml
      have HX2 := HX
      have FE : Hid (∀ W, RowKit.Below w.heap.size w W → W.cell? ⟨1, 0, none⟩ = some (.iface 258 (.pointer (some (A 1))))) := fun W hb => Bc hb (cell_lt HF.out) HF.out
      have B0x := blk_below (heap_alloc_new w (.cells #[.int .i64 x1, .int .i64 x2] 31)) (Below.refl _ _)
      generalize hnn : L.length = n at *
      clear hnn HX HF HO
      by_cases hfl : n = 128
      · as_aux_lemma =>
        subst hfl
        rw [if_neg (show ¬ ((128 : Nat) < 128 ∧ nM (insE L ((x1, x2), l)) ≤ 32) from fun e => absurd e.1 (by decide))]
        rw [errV_at _ _ (by decide), if_neg (by decide)]
        clear HRm HLy eroom
        go_enter Tryz.func37, Tryz.ntmps37
        go_wp2_with fail
        refine (HH.out _ B0.out).mono ?_
        rintro e w1 ⟨rfl, hb1⟩
        have B1 := Lib.hid (Bt B0.out hb1)
        clear hb1
        go_wp2_with fail
        refine (HR.out _ B1.out).mono ?_
        rintro e w2 ⟨rfl, hg2⟩
        have B2 := Lib.hid (Bt B1.out hg2.below)
        clear hg2
        go_wp2_with fail
        refine (HMk.out _ B2.out).mono ?_
        rintro e w3 ⟨rfl, hb3⟩
        have B3 := Lib.hid (Bt B2.out hb3)
        clear hb3
        have hE3 := FE.out _ B3.out
        have hgl := cell_lt hE3
        go_wp2_with fail
        refine (HLn.out _ B3.out).mono ?_
        rintro e w4 ⟨rfl, rfl⟩
        go_wp2
        go_ret
        exact ⟨rfl, HS.out _ B3.out, Tch.of B3.out⟩
      · have hlt : n < 128 := by omega
        have hz : ¬ ((n : Nat) : Int) = 128 := by omega
        by_cases hcap : nM (insE L ((x1, x2), l)) ≤ 32
        · as_aux_lemma =>
          rw [if_pos ⟨hlt, hcap⟩, errV_no, if_pos rfl]
          rw [eroom, decide_eq_true hcap] at HRm
          clear eroom FE
          go_enter Tryz.func37, Tryz.ntmps37
          go_wp2_with fail
          refine (HH.out _ B0.out).mono ?_
          rintro e w1 ⟨rfl, hb1⟩
          have B1 := Lib.hid (Bt B0.out hb1)
          have X1 := Lib.hid (blk_below B0x hb1)
          clear hb1
          go_wp2_with fail
          refine (HR.out _ B1.out).mono ?_
          rintro e w2 ⟨rfl, hg2⟩
          have B2 := Lib.hid (Bt B1.out hg2.below)
          have X2 := Lib.hid (blk_below X1.out hg2.below)
          clear hg2
          go_wp2_with fail
          refine (HMk.out _ B2.out).mono ?_
          rintro e w3 ⟨rfl, hb3⟩
          have B3 := Lib.hid (Bt B2.out hb3)
          have X3 := Lib.hid (blk_below X2.out hb3)
          clear hb3
          go_wp2_with fail
          refine (HLn.out _ B3.out).mono ?_
          rintro e w4 ⟨rfl, rfl⟩
          go_wp2_with fail
          refine (HRm.out _ B3.out).mono ?_
          rintro e w4 ⟨rfl, rfl⟩
          obtain ⟨a0, a1, _, _⟩ := two_cells X3.out
          have hal := cell_lt a0
          go_wp2_with fail
          refine (HLy.out _ B3.out hlt hcap).mono ?_
          rintro e w5 ⟨rfl, hS5, ht5⟩
          go_wp2
          go_ret
          exact ⟨rfl, hS5.mono (fun b e => e.imp id (fun e => ⟨Nat.le_trans B3.out.size e.1, e.2⟩)) (New.lt HMl.out (Nat.le_trans B3.out.size ht5.size)), (Tch.of B3.out : Tch M w _).more ht5⟩
        · as_aux_lemma =>
          rw [if_neg (fun e => hcap e.2), errV_at _ _ (by decide), if_neg (by decide)]
          rw [eroom, decide_eq_false hcap] at HRm
          clear eroom HLy
          go_enter Tryz.func37, Tryz.ntmps37
          go_wp2_with fail
          refine (HH.out _ B0.out).mono ?_
          rintro e w1 ⟨rfl, hb1⟩
          have B1 := Lib.hid (Bt B0.out hb1)
          clear hb1
          go_wp2_with fail
          refine (HR.out _ B1.out).mono ?_
          rintro e w2 ⟨rfl, hg2⟩
          have B2 := Lib.hid (Bt B1.out hg2.below)
          clear hg2
          go_wp2_with fail
          refine (HMk.out _ B2.out).mono ?_
          rintro e w3 ⟨rfl, hb3⟩
          have B3 := Lib.hid (Bt B2.out hb3)
          clear hb3
          go_wp2_with fail
          refine (HLn.out _ B3.out).mono ?_
          rintro e w4 ⟨rfl, rfl⟩
          have hE3 := FE.out _ B3.out
          have hgl := cell_lt hE3
          go_wp2_with fail
          refine (HRm.out _ B3.out).mono ?_
          rintro e w4 ⟨rfl, rfl⟩
          go_wp2
          go_ret
          exact ⟨rfl, HS.out _ B3.out, Tch.of B3.out⟩
    · rw [Bool.not_eq_true] at c2
      rw [c2] at HR
      have e0 : putEN L (x1, x2) l = 7 := by unfold putEN; rw [c1, c2]; rfl
      rw [e0, errV_at _ _ (by decide), if_neg (by decide)]
      have hE3 := Bc B0.out (cell_lt HO.out) HO.out
      have hgl := cell_lt hE3
      have HL4 := Lib.hid (fun w1 (hb1 : RowKit.Below _ _ w1) => Bc hb1 hgl hE3)
      clear h hV hv hE3 hgl
      go_enter Tryz.func37, Tryz.ntmps37
      go_wp2_with fail
      refine (HH.out _ B0.out).mono ?_
      rintro e w1 ⟨rfl, hb1⟩
      have hE4 := Lib.hid (HL4.out _ hb1)
      have B1 := Lib.hid (Bt B0.out hb1)
      clear hb1 HL4
      go_wp2_with fail
      refine (HR.out _ B1.out).mono ?_
      rintro e w2 ⟨rfl, hg2⟩
      have hE5 := Bc hg2.below (cell_lt hE4.out) hE4.out
      have hg5 := cell_lt hE5
      have B2 := Lib.hid (Bt B1.out hg2.below)
      clear hg2
      go_wp2
      go_ret
      exact ⟨rfl, HS.out _ B2.out, Tch.of B2.out⟩

set_option maxHeartbeats 2000000 in
set_option maxRecDepth 100000 in
theorem stake_call (h : StoX w M ps bt bp tt pl MT L) (x1 x2 : Int) (hx : HdOk (x1, x2)) (hV : Env M w A) :
    Calls Tryz.prog 11 #[psP ps, .agg #[.int .i64 x1, .int .i64 x2]] w fun e w' => (∃ v, e = .returned (.tuple #[.agg #[.int .i64 (entE L (x1, x2)).1.1, .int .i64 (entE L (x1, x2)).1.2, v], errV A (takeEN L (x1, x2))]) ∧ w'.ownsRow w.heap.size 34 3 v (entE L (x1, x2)).2.length (flat encV (entE L (x1, x2)).2)) ∧ StoM w' (New M w w') ps (delE L (x1, x2)) ∧ Tch M w w' := by
  have hMl := Lib.hid h.mem.lt
  unfold entE takeEN
  cases q : fndE L (x1, x2) with
  | none =>
    have HN : Hid (∀ W, RowKit.Below w.heap.size w W → _) := fun W hb => sfind_no (h.below hb) x1 x2 hx q (hV.er W (Tch.of hb))
    have HS := Lib.hid (fun W (hb : RowKit.Below w.heap.size w W) => h.stay hb)
    rw [delE_no q]
    clear h hV
    show Calls _ _ _ _ fun e w' => (∃ v, e = .returned (.tuple #[.agg #[.int .i64 0, .int .i64 0, v], .iface 258 (.pointer (some (A 2)))]) ∧ w'.ownsRow w.heap.size 34 3 v 0 (flat encV [])) ∧ _
    unfold errC at HN
    generalize A 2 = ea at *
    go_enter Tryz.func11, Tryz.ntmps11
    go_wp2_with fail
    refine (HN.out _ (Ba (Ba (Below.refl _ w) _) _)).mono ?_
    rintro e w1 ⟨rfl, hb1⟩
    have r1 := blk_below (show ((w.alloc (.cells #[.int .i64 x1, .int .i64 x2] 31)).alloc (.cells #[.int .i64 0, .int .i64 0, .slice none 0 0] 38)).heap[w.heap.size + 1]? = some (.cells #[.int .i64 0, .int .i64 0, .slice none 0 0] 38 (0, 0)) by have := heap_alloc_new (w.alloc (.cells #[.int .i64 x1, .int .i64 x2] 31)) (.cells #[.int .i64 0, .int .i64 0, .slice none 0 0] 38); simpa using this) hb1
    obtain ⟨⟨r0, r1, r2⟩, r3, r4, r5⟩ := three_cells r1
    have hr := cell_lt r0
    have B1 := Lib.hid (Bt (Ba (Ba (Below.refl _ w) _) _) hb1)
    clear hb1
    go_wp2
    have hB := B1.out
    exact bodyPost_ret (v := .tuple #[.agg #[.int .i64 0, .int .i64 0, .slice none 0 0], .iface 258 (.pointer (some ea))]) (by simp [results, Tryz.results11, go_sem, *]) rfl ⟨⟨.slice none 0 0, rfl, World.ownsRow_nil _ _ _ _⟩, HS.out _ (by repeat (first | with_reducible exact Below.refl _ _ | with_reducible assumption | with_reducible apply Ba | with_reducible apply Bd | with_reducible apply Bn | with_reducible apply Bg | (with_reducible refine Bs ?_ (by first | (simp; done) | (simp; omega)) _) | (with_reducible refine Bt ?_ (by assumption)) | (with_reducible refine Bt ?_ (Gr.below (by assumption))))), Tch.of (by repeat (first | with_reducible exact Below.refl _ _ | with_reducible assumption | with_reducible apply Ba | with_reducible apply Bd | with_reducible apply Bn | with_reducible apply Bg | (with_reducible refine Bs ?_ (by first | (simp; done) | (simp; omega)) _) | (with_reducible refine Bt ?_ (by assumption)) | (with_reducible refine Bt ?_ (Gr.below (by assumption)))))⟩
  | some l =>
    obtain ⟨pt, R, n, h1, hTb, hn, hRn, hpl⟩ := h.at q
    have h0 := (fndE_some h.good.rise).1 q
    have HN : Hid (∀ W, RowKit.Below w.heap.size w W → _) := fun W hb => sfind_yes (h.below hb) x1 x2 hx hpl
    have HG : Hid (∀ W, RowKit.Below w.heap.size w W → _) := fun W hb => slift_call (h.below hb) x1 x2 hx l h0 h1 hn hRn (hV.below hb)
    rw [rowE_of q]
    simp only [Option.isSome_some, if_true]
    rw [errV_no]
    clear h hV hTb q h0
    go_enter Tryz.func11, Tryz.ntmps11
    go_wp2_with fail
    refine (HN.out _ (Ba (Ba (Below.refl _ w) _) _)).mono ?_
    rintro e w1 ⟨rfl, hb1⟩
    have b1 := Lib.hid (blk_below (show ((w.alloc (.cells #[.int .i64 x1, .int .i64 x2] 31)).alloc (.cells #[.int .i64 0, .int .i64 0, .slice none 0 0] 38)).heap[w.heap.size + 1]? = some (.cells #[.int .i64 0, .int .i64 0, .slice none 0 0] 38 (0, 0)) by have := heap_alloc_new (w.alloc (.cells #[.int .i64 x1, .int .i64 x2] 31)) (.cells #[.int .i64 0, .int .i64 0, .slice none 0 0] 38); simpa using this) hb1)
    have B1 := Lib.hid (Bt (Ba (Ba (Below.refl _ w) _) _) hb1)
    have hsz : w.heap.size + 1 < w1.heap.size := (Array.getElem?_eq_some_iff.1 b1.out).1
    clear hb1
    go_wp2_with fail
    have B2 := Lib.hid (Ba B1.out (.cells #[.pointer (some ⟨pt, 0, none⟩), .int .i64 n] 99))
    have b2 := Lib.hid (blk_below b1.out (Ba (Below.refl _ w1) (.cells #[.pointer (some ⟨pt, 0, none⟩), .int .i64 n] 99)))
    refine (HG.out _ B2.out).mono ?_
    rintro e w2 ⟨⟨v, rfl, ho⟩, hS2, ht2⟩
    have b3 := Lib.hid (ht2.blk b2.out (fun e => by have := hMl.out _ e; omega))
    obtain ⟨⟨r0, r1, r2⟩, r3, r4, r5⟩ := three_cells b3.out
    have hr := cell_lt r0
    have HO := Lib.hid (row_mono ho B2.out.size)
    obtain ⟨pv, cv, rfl, _, _, _⟩ := row_val ho
    have HS2 := Lib.hid hS2
    have HT2 := Lib.hid ((Tch.of B2.out : Tch M w _).more ht2)
    have hs2 := ht2.size
    have hsB := B2.out.size
    have hs1 : (w1.alloc (.cells #[.pointer (some ⟨pt, 0, none⟩), .int .i64 n] 99)).heap.size = w1.heap.size + 1 := by simp
    clear hS2 ht2 ho
    go_wp2
    have F := far3_tch w2 (w.heap.size + 1) (.int .i64 x1) (.int .i64 x2) (.slice pv l.length cv)
    have Fs := F.size
    exact bodyPost_ret (v := .tuple #[.agg #[.int .i64 x1, .int .i64 x2, .slice pv l.length cv], .nilIface]) (by simp [results, Tryz.results11, go_sem, *]) rfl ⟨⟨_, rfl, set3_row b3.out HO.out (by decide) _ _ _⟩, (HS2.out.kept F (fun b e1 e2 => by
      rcases e1 with e1 | e1
      · have := hMl.out _ e1; omega
      · omega)).mono (fun b e => e.imp id (fun e => ⟨by omega, by omega⟩)) (New.lt hMl.out (by omega)), HT2.out.fresh3 (Nat.le_succ _) _ _ _⟩
end
end Go.Proofs.YtaehendpdfpibaaGreatDoor

/-
  A store's Add and Remove.
-/
namespace Go.Proofs.YtaehendpdfpibaaGreatDoor
set_option linter.unusedSimpArgs false
set_option linter.unusedVariables false
open Go.RowKit Go.Sort Go.Lib Go.Shelf

section
variable {w w' : World} {M X : Nat → Prop} {ps bt bp ct cp : Nat} {ft ft' : Nat → Option Nat} {tt : Nat → Option (Nat × List En)} {pl pl' : Hd → Option Plc} {MT : Nat → Nat → Prop} {L : List En} {A : Nat → Addr}
set_option maxHeartbeats 4000000 in
set_option maxRecDepth 100000 in
theorem sadd_call (h : StoX w M ps bt bp tt pl MT L) (x1 x2 : Int) (hx : HdOk (x1, x2)) (y1 y2 y3 : Int) (hV : Env M w A) :
    Calls Tryz.prog 38 #[psP ps, .agg #[.int .i64 x1, .int .i64 x2], .agg #[.int .i64 y1, .int .i64 y2, .int .i64 y3]] w fun e w' => e = .returned (errV A (addEN L (x1, x2) (y1, y2, y3))) ∧ StoM w' (New M w w') ps (addEL L (x1, x2) (y1, y2, y3)) ∧ Tch M w w' := by
  have hMl := Lib.hid h.mem.lt
  have HS := Lib.hid (fun W (hb : RowKit.Below w.heap.size w W) => h.stay hb)
  have B0 := Lib.hid (Ba (Ba (Below.refl _ w) (.cells #[.int .i64 x1, .int .i64 x2] 31)) (.cells #[.int .i64 y1, .int .i64 y2, .int .i64 y3] 34))
  have X0 := Lib.hid (show ((w.alloc (.cells #[.int .i64 x1, .int .i64 x2] 31)).alloc (.cells #[.int .i64 y1, .int .i64 y2, .int .i64 y3] 34)).heap[w.heap.size + 1]? = some (.cells #[.int .i64 y1, .int .i64 y2, .int .i64 y3] 34 (0, 0)) by have := heap_alloc_new (w.alloc (.cells #[.int .i64 x1, .int .i64 x2] 31)) (.cells #[.int .i64 y1, .int .i64 y2, .int .i64 y3] 34); simpa using this)
  unfold addEL
  cases q : fndE L (x1, x2) with
  | none =>
    have e0 : addEN L (x1, x2) (y1, y2, y3) = 3 := by unfold addEN; rw [q]; rfl
    rw [e0, errV_at _ _ (by decide), if_neg (by decide)]
    have HN : Hid (∀ W, RowKit.Below w.heap.size w W → _) := fun W hb => sfind_no (h.below hb) x1 x2 hx q (hV.er W (Tch.of hb))
    clear h hV e0
    unfold errC at HN
    show Calls _ _ _ _ fun e w' => e = .returned (.iface 258 (.pointer (some (A 2)))) ∧ _
    generalize A 2 = ea at *
    go_enter Tryz.func38, Tryz.ntmps38
    go_wp2_with fail
    refine (HN.out _ B0.out).mono ?_
    rintro e w1 ⟨rfl, hb1⟩
    have B1 := Lib.hid (Bt B0.out hb1)
    clear hb1
    go_wp2
    go_ret
    have hB := B1.out
    exact ⟨rfl, HS.out _ (by repeat (first | with_reducible exact Below.refl _ _ | with_reducible assumption | with_reducible apply Ba | with_reducible apply Bd | with_reducible apply Bn | with_reducible apply Bg | (with_reducible refine Bs ?_ (by first | (simp; done) | (simp; omega)) _) | (with_reducible refine Bt ?_ (by assumption)) | (with_reducible refine Bt ?_ (Gr.below (by assumption))))), Tch.of (by repeat (first | with_reducible exact Below.refl _ _ | with_reducible assumption | with_reducible apply Ba | with_reducible apply Bd | with_reducible apply Bn | with_reducible apply Bg | (with_reducible refine Bs ?_ (by first | (simp; done) | (simp; omega)) _) | (with_reducible refine Bt ?_ (by assumption)) | (with_reducible refine Bt ?_ (Gr.below (by assumption)))))⟩
  | some l =>
    obtain ⟨pt, R, n, h1, hTb, hn, hRn, hpl⟩ := h.at q
    have h0 := (fndE_some h.good.rise).1 q
    have hr0 : RightV l := h.good.right _ h0
    have HN : Hid (∀ W, RowKit.Below w.heap.size w W → _) := fun W hb => sfind_yes (h.below hb) x1 x2 hx hpl
    have HCk : Hid (∀ W, RowKit.Below w.heap.size w W → _) := fun W hb => check_any (y1, y2, y3) A W (hV.er W (Tch.of hb)).e7.er
    have hml := mask_lt hr0
    have HMk : Hid (∀ W, RowKit.Below w.heap.size w W → _) := fun W hb => tmask_call (hTb.below hb)
    have HHs : Hid (∀ W, _) := fun W => mhas_any (maskV l) (by omega) y1 W
    rw [mhas_has hr0] at HHs
    have eE : addEN L (x1, x2) (y1, y2, y3) = if chk (y1, y2, y3) = 0 then (if hasK l y1 then 4 else moveEN L (x1, x2) (putV l (y1, y2, y3))) else chk (y1, y2, y3) := by unfold addEN; rw [q, rowE_of q]; rfl
    rw [eE, rowE_of q]
    clear eE
    unfold aggV at HCk
    dsimp only at HCk
    by_cases hck : chk (y1, y2, y3) = 0
    · rw [if_pos hck]
      rw [hck, errV_no] at HCk
      by_cases hh : hasK l y1 = true
      · as_aux_lemma =>
        rw [if_pos hh, errV_at _ _ (by decide), if_neg (by decide)]
        rw [hh] at HHs
        have FE : Hid (∀ W, RowKit.Below w.heap.size w W → W.cell? ⟨3, 0, none⟩ = some (.iface 258 (.pointer (some (A 3))))) := fun W hb => (hV.er W (Tch.of hb)).ex
        clear h hV hTb h0 hr0
        go_enter Tryz.func38, Tryz.ntmps38
        go_wp2_with fail
        refine (HN.out _ B0.out).mono ?_
        rintro e w1 ⟨rfl, hb1⟩
        have X1 := Lib.hid (blk_below X0.out hb1)
        have B1 := Lib.hid (Bt B0.out hb1)
        have bE := Lib.hid (Ba (Below.refl _ w1) (.cells #[.pointer (some ⟨pt, 0, none⟩), .int .i64 n] 99))
        obtain ⟨⟨a0, a1, a2⟩, _, _, _⟩ := three_cells X1.out
        have hal := cell_lt a0
        clear hb1
        go_wp2_with fail
        refine (HCk.out _ (Bt B1.out bE.out)).mono ?_
        rintro e w2 ⟨rfl, hg2⟩
        have B2 := Lib.hid (Bt (Bt B1.out bE.out) hg2.below)
        have P2 := Lib.hid (blk_below (heap_alloc_new w1 (.cells #[.pointer (some ⟨pt, 0, none⟩), .int .i64 n] 99)) hg2.below)
        have X2 := Lib.hid (blk_below (blk_below X1.out bE.out) hg2.below)
        obtain ⟨p0, p1, _, _⟩ := two_cells P2.out
        have hpl2 := cell_lt p0
        clear hg2 a0 a1 a2 hal
        go_wp2_with fail
        refine (HMk.out _ B2.out).mono ?_
        rintro e w3 ⟨rfl, rfl⟩
        obtain ⟨⟨a0, a1, a2⟩, _, _, _⟩ := three_cells X2.out
        have hal := cell_lt a0
        have hE3 := FE.out _ B2.out
        have hgl := cell_lt hE3
        go_wp2_with fail
        refine (HHs.out _).mono ?_
        rintro e w3 ⟨rfl, rfl⟩
        go_wp2
        go_ret
        exact ⟨rfl, HS.out _ B2.out, Tch.of B2.out⟩
      · rw [if_neg hh]
        rw [Bool.not_eq_true] at hh
        rw [hh] at HHs
        have HMv : Hid (∀ W, RowKit.Below w.heap.size w W → W.heap[w.heap.size + 1]? = some (.cells #[.int .i64 y1, .int .i64 y2, .int .i64 y3] 34 (0, 0)) → _) := fun W hb hc => smadd_call (h.below hb) x1 x2 hx l h0 h1 hn hRn y1 y2 y3 hck hh (w.heap.size + 1) (fun e => by have := hMl.out _ e; omega) hc (hV.below hb)
        clear h hV hTb h0 hr0
        as_aux_lemma =>
        generalize (if moveEN L (x1, x2) (putV l (y1, y2, y3)) = 0 then setE L (x1, x2) (putV l (y1, y2, y3)) else L) = L' at *
        have he : errV A (moveEN L (x1, x2) (putV l (y1, y2, y3))) = .nilIface ∨ ∃ a, errV A (moveEN L (x1, x2) (putV l (y1, y2, y3))) = .iface 258 (.pointer (some a)) := by
          generalize moveEN L (x1, x2) (putV l (y1, y2, y3)) = n9
          by_cases c9 : n9 = 0
          · exact .inl (by rw [c9, errV_no])
          · exact .inr ⟨_, errV_at _ _ c9⟩
        generalize errV A (moveEN L (x1, x2) (putV l (y1, y2, y3))) = ev at *
        go_enter Tryz.func38, Tryz.ntmps38
        go_wp2_with fail
        refine (HN.out _ B0.out).mono ?_
        rintro e w1 ⟨rfl, hb1⟩
        have X1 := Lib.hid (blk_below X0.out hb1)
        have B1 := Lib.hid (Bt B0.out hb1)
        have bE := Lib.hid (Ba (Below.refl _ w1) (.cells #[.pointer (some ⟨pt, 0, none⟩), .int .i64 n] 99))
        obtain ⟨⟨a0, a1, a2⟩, _, _, _⟩ := three_cells X1.out
        have hal := cell_lt a0
        clear hb1
        go_wp2_with fail
        refine (HCk.out _ (Bt B1.out bE.out)).mono ?_
        rintro e w2 ⟨rfl, hg2⟩
        have B2 := Lib.hid (Bt (Bt B1.out bE.out) hg2.below)
        have P2 := Lib.hid (blk_below (heap_alloc_new w1 (.cells #[.pointer (some ⟨pt, 0, none⟩), .int .i64 n] 99)) hg2.below)
        have X2 := Lib.hid (blk_below (blk_below X1.out bE.out) hg2.below)
        obtain ⟨p0, p1, _, _⟩ := two_cells P2.out
        have hpl2 := cell_lt p0
        clear hg2 a0 a1 a2 hal
        go_wp2_with fail
        refine (HMk.out _ B2.out).mono ?_
        rintro e w3 ⟨rfl, rfl⟩
        obtain ⟨⟨a0, a1, a2⟩, _, _, _⟩ := three_cells X2.out
        have hal := cell_lt a0
        go_wp2_with fail
        refine (HHs.out _).mono ?_
        rintro e w3 ⟨rfl, rfl⟩
        go_wp2_with fail
        refine (HMv.out _ B2.out X2.out).mono ?_
        rintro e w4 ⟨rfl, hS4, ht4⟩
        have HS4 := Lib.hid (hS4.mono (fun b e => e.imp id (fun e => ⟨Nat.le_trans B2.out.size e.1, e.2⟩)) (New.lt hMl.out (Nat.le_trans B2.out.size ht4.size)) : StoM w4 (New M w w4) ps L')
        have HT4 := Lib.hid ((Tch.of B2.out : Tch M w _).more ht4)
        clear hS4 ht4
        go_wp2
        rcases he with rfl | ⟨a, rfl⟩
        · go_ret
          exact ⟨rfl, HS4.out, HT4.out⟩
        · go_ret
          exact ⟨rfl, HS4.out, HT4.out⟩
    · as_aux_lemma =>
      rw [if_neg hck, errV_at _ _ hck, if_neg hck]
      rw [errV_at _ _ hck] at HCk
      clear h hV hTb h0 hr0
      generalize A (chk (y1, y2, y3) - 1) = ea at *
      go_enter Tryz.func38, Tryz.ntmps38
      go_wp2_with fail
      refine (HN.out _ B0.out).mono ?_
      rintro e w1 ⟨rfl, hb1⟩
      have X1 := Lib.hid (blk_below X0.out hb1)
      have B1 := Lib.hid (Bt B0.out hb1)
      have bE := Lib.hid (Ba (Below.refl _ w1) (.cells #[.pointer (some ⟨pt, 0, none⟩), .int .i64 n] 99))
      obtain ⟨⟨a0, a1, a2⟩, _, _, _⟩ := three_cells X1.out
      have hal := cell_lt a0
      clear hb1
      go_wp2_with fail
      refine (HCk.out _ (Bt B1.out bE.out)).mono ?_
      rintro e w2 ⟨rfl, hg2⟩
      have B2 := Lib.hid (Bt (Bt B1.out bE.out) hg2.below)
      clear hg2
      go_wp2
      go_ret
      exact ⟨rfl, HS.out _ B2.out, Tch.of B2.out⟩

set_option maxHeartbeats 4000000 in
set_option maxRecDepth 100000 in
theorem srem_call (h : StoX w M ps bt bp tt pl MT L) (x1 x2 : Int) (hx : HdOk (x1, x2)) (k : Int) (hV : Env M w A) :
    Calls Tryz.prog 49 #[psP ps, .agg #[.int .i64 x1, .int .i64 x2], .int .i64 k] w fun e w' => e = .returned (errV A (remEN L (x1, x2) k)) ∧ StoM w' (New M w w') ps (remEL L (x1, x2) k) ∧ Tch M w w' := by
  have hMl := Lib.hid h.mem.lt
  have HS := Lib.hid (fun W (hb : RowKit.Below w.heap.size w W) => h.stay hb)
  have B0 := Lib.hid (Ba (Ba (Below.refl _ w) (.cells #[.int .i64 x1, .int .i64 x2] 31)) (.cells #[.int .i64 k] 3))
  have X0 := Lib.hid (show ((w.alloc (.cells #[.int .i64 x1, .int .i64 x2] 31)).alloc (.cells #[.int .i64 k] 3)).heap[w.heap.size + 1]? = some (.cells #[.int .i64 k] 3 (0, 0)) by have := heap_alloc_new (w.alloc (.cells #[.int .i64 x1, .int .i64 x2] 31)) (.cells #[.int .i64 k] 3); simpa using this)
  have one_cell : ∀ {W : World} {b : Nat} {u : Value} {t : Nat}, W.heap[b]? = some (.cells #[u] t (0, 0)) → W.cell? ⟨b, 0, none⟩ = some u := fun h => by simp [World.cell?, h]
  unfold remEL
  cases q : fndE L (x1, x2) with
  | none =>
    have e0 : remEN L (x1, x2) k = 3 := by unfold remEN; rw [q]; rfl
    rw [e0, errV_at _ _ (by decide), if_neg (by decide)]
    have HN : Hid (∀ W, RowKit.Below w.heap.size w W → _) := fun W hb => sfind_no (h.below hb) x1 x2 hx q (hV.er W (Tch.of hb))
    clear h hV e0 one_cell
    unfold errC at HN
    show Calls _ _ _ _ fun e w' => e = .returned (.iface 258 (.pointer (some (A 2)))) ∧ _
    generalize A 2 = ea at *
    go_enter Tryz.func49, Tryz.ntmps49
    go_wp2_with fail
    refine (HN.out _ B0.out).mono ?_
    rintro e w1 ⟨rfl, hb1⟩
    have B1 := Lib.hid (Bt B0.out hb1)
    clear hb1
    go_wp2
    go_ret
    have hB := B1.out
    exact ⟨rfl, HS.out _ (by repeat (first | with_reducible exact Below.refl _ _ | with_reducible assumption | with_reducible apply Ba | with_reducible apply Bd | with_reducible apply Bn | with_reducible apply Bg | (with_reducible refine Bs ?_ (by first | (simp; done) | (simp; omega)) _) | (with_reducible refine Bt ?_ (by assumption)) | (with_reducible refine Bt ?_ (Gr.below (by assumption))))), Tch.of (by repeat (first | with_reducible exact Below.refl _ _ | with_reducible assumption | with_reducible apply Ba | with_reducible apply Bd | with_reducible apply Bn | with_reducible apply Bg | (with_reducible refine Bs ?_ (by first | (simp; done) | (simp; omega)) _) | (with_reducible refine Bt ?_ (by assumption)) | (with_reducible refine Bt ?_ (Gr.below (by assumption)))))⟩
  | some l =>
    obtain ⟨pt, R, n, h1, hTb, hn, hRn, hpl⟩ := h.at q
    have h0 := (fndE_some h.good.rise).1 q
    have hr0 : RightV l := h.good.right _ h0
    have HN : Hid (∀ W, RowKit.Below w.heap.size w W → _) := fun W hb => sfind_yes (h.below hb) x1 x2 hx hpl
    have hml := mask_lt hr0
    have HMk : Hid (∀ W, RowKit.Below w.heap.size w W → _) := fun W hb => tmask_call (hTb.below hb)
    have HHs : Hid (∀ W, _) := fun W => mhas_any (maskV l) (by omega) k W
    rw [mhas_has hr0] at HHs
    have eE : remEN L (x1, x2) k = if hasK l k then moveEN L (x1, x2) (dropV l k) else 5 := by unfold remEN; rw [q, rowE_of q]; rfl
    rw [eE, rowE_of q]
    clear eE
    by_cases hh : hasK l k = true
    · rw [if_pos hh]
      rw [hh] at HHs
      have HMv : Hid (∀ W, RowKit.Below w.heap.size w W → W.heap[w.heap.size + 1]? = some (.cells #[.int .i64 k] 3 (0, 0)) → _) := fun W hb hc => smrem_call (h.below hb) x1 x2 hx l h0 h1 hn hRn k hh (w.heap.size + 1) (fun e => by have := hMl.out _ e; omega) hc (hV.below hb)
      clear h hV hTb h0 hr0
      as_aux_lemma =>
      generalize (if moveEN L (x1, x2) (dropV l k) = 0 then setE L (x1, x2) (dropV l k) else L) = L' at *
      have he : errV A (moveEN L (x1, x2) (dropV l k)) = .nilIface ∨ ∃ a, errV A (moveEN L (x1, x2) (dropV l k)) = .iface 258 (.pointer (some a)) := by
        generalize moveEN L (x1, x2) (dropV l k) = n9
        by_cases c9 : n9 = 0
        · exact .inl (by rw [c9, errV_no])
        · exact .inr ⟨_, errV_at _ _ c9⟩
      generalize errV A (moveEN L (x1, x2) (dropV l k)) = ev at *
      go_enter Tryz.func49, Tryz.ntmps49
      go_wp2_with fail
      refine (HN.out _ B0.out).mono ?_
      rintro e w1 ⟨rfl, hb1⟩
      have X1 := Lib.hid (blk_below X0.out hb1)
      have B1 := Lib.hid (Bt B0.out hb1)
      have bE := Lib.hid (Ba (Below.refl _ w1) (.cells #[.pointer (some ⟨pt, 0, none⟩), .int .i64 n] 99))
      have B2 := Lib.hid (Bt B1.out bE.out)
      have X2 := Lib.hid (blk_below X1.out bE.out)
      have a0 := one_cell X2.out
      have hal := cell_lt a0
      clear hb1 one_cell
      go_wp2_with fail
      refine (HMk.out _ B2.out).mono ?_
      rintro e w3 ⟨rfl, rfl⟩
      go_wp2_with fail
      refine (HHs.out _).mono ?_
      rintro e w3 ⟨rfl, rfl⟩
      go_wp2_with fail
      refine (HMv.out _ B2.out X2.out).mono ?_
      rintro e w4 ⟨rfl, hS4, ht4⟩
      have HS4 := Lib.hid (hS4.mono (fun b e => e.imp id (fun e => ⟨Nat.le_trans B2.out.size e.1, e.2⟩)) (New.lt hMl.out (Nat.le_trans B2.out.size ht4.size)) : StoM w4 (New M w w4) ps L')
      have HT4 := Lib.hid ((Tch.of B2.out : Tch M w _).more ht4)
      clear hS4 ht4
      go_wp2
      rcases he with rfl | ⟨a, rfl⟩
      · go_ret
        exact ⟨rfl, HS4.out, HT4.out⟩
      · go_ret
        exact ⟨rfl, HS4.out, HT4.out⟩
    · as_aux_lemma =>
      rw [if_neg hh, errV_at _ _ (by decide), if_neg (by decide)]
      rw [Bool.not_eq_true] at hh
      rw [hh] at HHs
      have FE : Hid (∀ W, RowKit.Below w.heap.size w W → W.cell? ⟨4, 0, none⟩ = some (.iface 258 (.pointer (some (A 4))))) := fun W hb => (hV.er W (Tch.of hb)).e7.er.kind
      clear h hV hTb h0 hr0
      go_enter Tryz.func49, Tryz.ntmps49
      go_wp2_with fail
      refine (HN.out _ B0.out).mono ?_
      rintro e w1 ⟨rfl, hb1⟩
      have X1 := Lib.hid (blk_below X0.out hb1)
      have B1 := Lib.hid (Bt B0.out hb1)
      have bE := Lib.hid (Ba (Below.refl _ w1) (.cells #[.pointer (some ⟨pt, 0, none⟩), .int .i64 n] 99))
      have B2 := Lib.hid (Bt B1.out bE.out)
      have a0 := one_cell (blk_below X1.out bE.out)
      have hal := cell_lt a0
      clear hb1 one_cell
      have hE3 := FE.out _ B2.out
      have hgl := cell_lt hE3
      go_wp2_with fail
      refine (HMk.out _ B2.out).mono ?_
      rintro e w3 ⟨rfl, rfl⟩
      go_wp2_with fail
      refine (HHs.out _).mono ?_
      rintro e w3 ⟨rfl, rfl⟩
      go_wp2
      go_ret
      exact ⟨rfl, HS.out _ B2.out, Tch.of B2.out⟩
end
end Go.Proofs.YtaehendpdfpibaaGreatDoor

/-
  The keys of a map from masks, in order: maps.Keys' iterator, slices.Collect.
-/
namespace Go.Proofs.YtaehendpdfpibaaGreatDoor
set_option linter.unusedSimpArgs false
set_option linter.unusedVariables false
open Go.RowKit Go.Sort Go.Lib Go.Shelf Go.Maps

/-- All keys of f, each once. -/
def KeysOf (f : Nat → Option Nat) (ss : List Nat) : Prop := ss.Nodup ∧ (∀ q, okU q → (q ∈ ss ↔ (f q).isSome = true)) ∧ ∀ q ∈ ss, okU q
abbrev RngU (w : World) (b r c : Nat) (f : Nat → Option Nat) (left : Nat → Bool) (cnt : Nat) : Prop := RngG (ε := Option Nat) 60 kU okU ptrD none ptrElem w b r c (fun x => (f x).map some) left cnt
section
variable {F : Fence} {n : Nat} {w : World} {b c : Nat} {f : Nat → Option Nat} {ops : Array Oper} {rest : List Oper} {o : Oper} {a : Act} {Q : Exit → Act → World → Prop}
theorem wpli_rangeU (hg : o.guard = none) (m : Operand) (hop : o.op = Op.range MapUT m) (hm : a.eval m = .map (some b)) (h : MapU w b c f)
    (hK : ∀ w' cnt, RngU w' b w.heap.size c f (fun x => (f x).isSome) cnt → w.grownBy w' none → w'.heap.size = w.heap.size + 1 → cnt ≤ c → wpListIn F n Tryz.prog ops Q rest (a.put o.dst (.pointer (some ⟨w.heap.size, 0, none⟩))) w') : wpListIn F n Tryz.prog ops Q (o :: rest) a w := by
  refine wpListIn_plain hg fun K' hK' => ?_
  obtain ⟨w', cnt, hrun, r1, r2, r3, r4⟩ := h.range mptU
  unfold Oper.wpIn
  refine ⟨by simp [Oper.about, hop], ?_⟩
  rw [Oper.semAt_plain F _ _ (by rw [hop]; intro c hc'; cases hc')]
  simp [execOp, hop, hm, hrun, Result.andThen]
  have e : (fun x => ((f x).map (some : Nat → Option Nat)).isSome) = fun x => (f x).isSome := funext fun x => by cases f x <;> rfl
  exact hK' _ _ (hK w' cnt (by rw [← e]; exact r1) r2 r3 r4)
theorem wpli_nextU (hg : o.guard = none) (it : Operand) (hop : o.op = Op.next it false) {r cnt : Nat} {left : Nat → Bool} (hit : a.eval it = .pointer (some ⟨r, 0, none⟩)) (h : RngU w b r c f left cnt)
    (hDone : (∀ x, okU x → left x = false) → wpListIn F n Tryz.prog ops Q rest (a.put o.dst (.tuple #[.bool false])) w)
    (hMore : ∀ x g w' cnt', okU x → left x = true → f x = some g → RngU w' b r c f (fun z => left z && !decide (z = x)) cnt' → cnt' < cnt → w.grownBy w' (some r) → w'.heap.size = w.heap.size →
      (Instr.entry (.pointer (some ⟨r, 0, none⟩))).run Tryz.prog w' = .ok (.tuple #[.int .u64 (x : Nat), .pointer (some ⟨g, 0, none⟩)]) w' → wpListIn F n Tryz.prog ops Q rest (a.put o.dst (.tuple #[.bool true, .int .u64 (x : Nat), .pointer (some ⟨g, 0, none⟩)])) w') : wpListIn F n Tryz.prog ops Q (o :: rest) a w := by
  refine wpListIn_plain hg fun K' hK' => ?_
  unfold Oper.wpIn
  refine ⟨by simp [Oper.about, hop], ?_⟩
  rw [Oper.semAt_plain F _ _ (by rw [hop]; intro c hc'; cases hc')]
  rcases h.next mptU o.type with ⟨hl, hrun⟩ | ⟨x, y, w', cnt', h1, h2, h3, hrun, h4, h5, h6, h7, h8⟩
  · simp [execOp, hop, hit, hrun, Result.andThen]
    exact hK' _ _ (hDone hl)
  · obtain ⟨g, hg1, rfl⟩ := Option.map_eq_some_iff.1 h3
    simp [execOp, hop, hit, hrun, Result.andThen]
    exact hK' _ _ (hMore x g w' cnt' h1 h2 hg1 h4 h5 h6 h7 h8)
theorem RngG.of_walks {k : TypeId} {κ ε : Type} {lit : κ → Lit} {ok : κ → Prop} {dt : ε → DataW Unit} {zr : ε} {R : Value → Option (DataW Unit × List MemPlace)} {w w' : World} {b r c cnt : Nat} {f : κ → Option ε} {left : κ → Bool} (h : RngG k lit ok dt zr R w b r c f left cnt) (hk : KeepsWalks w w') : RngG k lit ok dt zr R w' b r c f left cnt := by
  obtain ⟨D, lf, h1, h2⟩ := h
  exact ⟨D, lf, h1.of_walks hk, h2⟩
theorem RngG.walk {k : TypeId} {κ ε : Type} {lit : κ → Lit} {ok : κ → Prop} {dt : ε → DataW Unit} {zr : ε} {R : Value → Option (DataW Unit × List MemPlace)} {w : World} {b r c cnt : Nat} {f : κ → Option ε} {left : κ → Bool} (h : RngG k lit ok dt zr R w b r c f left cnt) : ∃ o : Obj, w.heap[r]? = some o ∧ o.isWalk = true := by
  obtain ⟨D, lf, h1, _⟩ := h
  exact h1.iter_walk
end

attribute [local go_sem] Oper.semAt_some
abbrev KeysF : Nat := 127
set_option maxRecDepth 100000 in
set_option maxHeartbeats 1000000 in
/-- The iterator over a map's keys: each once, in some order. -/
theorem keysU_in (F : Fence) (n : Nat) (h93 : F.fn KeysF) (hro : F.round = none) (hn : 1 ≤ n) (l Bm b c : Nat) (f : Nat → Option Nat) (J Jx : List Nat → World → Prop)
    (hY : ∀ pre x W, J pre W → pre.length < c → YieldAt F (n - 1) Tryz.prog l #[.int .u64 (x : Nat)] W fun e W' => (e = .returned (.bool true) ∧ J (pre ++ [x]) W' ∧ KeepsWalks W W') ∨ (e = .returned (.bool false) ∧ Jx (pre ++ [x]) W'))
    (W : World) (hJ : AbidesFrom W.heap.size J) (hm : W.cell? ⟨Bm, 0, none⟩ = some (.map (some b))) (hown : MapU W b c f) (h0 : J [] W) :
    CallsIn F n Tryz.prog KeysF #[.func (.yield l) #[] #[], .pointer (some ⟨Bm, 0, none⟩)] W fun e W' => (∃ v, e = .returned v) ∧ ((∃ ss, (KeysOf f ss ∧ ss.length ≤ c) ∧ J ss W') ∨ ∃ pre, True ∧ Jx pre W') := by
  refine callsIn_of_wp Tryz.func127 rfl h93 ?_ hro
  simp only [Tryz.ntmps127, List.size_toArray, List.length_cons, List.length_nil, Nat.reduceAdd, Nat.reduceSub, Array.replicate_succ, Array.replicate_zero, List.push_toArray, List.append_toArray, List.nil_append, List.cons_append]
  gi_wp2_with (gi_at_range; refine wpli_rangeU rfl _ rfl (by rfl) hown ?_; intro w0 cnt0 hrg0 hg0 hs0 hc0)
  go_frame
  gi_loopw [3] (fun _ wr => ∃ (left : Nat → Bool) (cnt : Nat) (ss : List Nat), RngU wr b W.heap.size c f left cnt ∧ ss.length + cnt ≤ c ∧ (ss.Nodup ∧ (∀ q, okU q → (q ∈ ss ↔ (f q).isSome = true ∧ left q = false)) ∧ ∀ q ∈ ss, okU q) ∧ J ss wr)
    (fun _ wr => wr.rangeLeft b W.heap.size)
  case atStart =>
    exact ⟨_, _, [], hrg0, by simpa using hc0, ⟨by simp, fun q _ => by cases f q <;> simp, by simp⟩, hJ [] W w0 none h0 hg0 (fun r e => by cases e)⟩
  case round =>
    obtain ⟨left, cnt, ss, hrg, hcs, ⟨hnd, hmem, hok⟩, hJs⟩ := hrel
    gi_wp2_with (gi_at_next; refine wpli_nextU rfl _ rfl (by rfl) hrg ?_ ?_)
    · intro hl0
      gi_wp2
      go_end0
      exact ⟨⟨_, rfl⟩, .inl ⟨ss, ⟨⟨hnd, fun q hq => (hmem q hq).trans ⟨fun e => e.1, fun e => ⟨e, hl0 q hq⟩⟩, hok⟩, by omega⟩, hJs⟩⟩
    · intro x g w2 cnt2 hx hlx hfx hrg2 hlt hg2 hs2 hen
      have hJ2 : J ss w2 := hJ ss wr w2 (some W.heap.size) hJs hg2 (fun r e => by cases e; exact ⟨Nat.le_refl _, hrg.walk⟩)
      obtain ⟨fn, tmps, assign, body, hy, hR⟩ := hY ss x w2 hJ2 (by omega)
      clear hs2
      gi_wp2
      refine hR.mono ?_
      rintro e W3 (⟨rfl, hJ3, hk3⟩ | ⟨rfl, hJx3⟩)
      · gi_wp2
        have hrg3 := hrg2.of_walks hk3
        go_roundw
        case rel =>
          refine ⟨_, cnt2, ss ++ [x], hrg3, by simp; omega, ⟨?_, fun q hq => ?_, fun q hq => ?_⟩, hJ3⟩
          · rw [List.nodup_append]
            refine ⟨hnd, by simp, fun a ha b hb e => ?_⟩
            rw [List.mem_singleton] at hb
            subst hb
            subst e
            have := ((hmem _ hx).1 ha).2
            rw [hlx] at this
            cases this
          · rw [List.mem_append, List.mem_singleton, hmem q hq]
            by_cases c2 : q = x
            · subst c2
              simp [hfx]
            · simp [c2]
          · rcases List.mem_append.1 hq with hq | hq
            · exact hok q hq
            · rw [List.mem_singleton] at hq; exact hq ▸ hx
        case measure => rw [hrg3.left_eq, hrg.left_eq]; exact hlt
      · gi_wp2
        refine bodyPost_ret (results_none rfl _ _ _) rfl ?_
        exact ⟨⟨_, rfl⟩, .inr ⟨_, trivial, hJx3⟩⟩
theorem keysU_stops (F : Fence) (n : Nat) (h93 : F.fn KeysF) (hro : F.round = none) (hn : 1 ≤ n) (Bm b c : Nat) (f : Nat → Option Nat) (w : World) (hBm : Bm < w.heap.size) (hm : w.cell? ⟨Bm, 0, none⟩ = some (.map (some b))) (hmap : MapU w b c f) :
    SeqStops F n Tryz.prog KeysF #[.pointer (some ⟨Bm, 0, none⟩)] (fun q : Nat => Value.int .u64 (q : Int)) (fun ss => KeysOf f ss ∧ ss.length ≤ c) (fun _ => True) c w := fun l J Jx W hW hJ _ hY h0 =>
  keysU_in F n h93 hro hn l Bm b c f J Jx hY W hJ ((hW.cell (p := ⟨Bm, 0, none⟩) hBm).trans hm) (hmap.below hW) h0

theorem infoU : (Tryz.prog.info? 60).map (fun i => (i.zero, i.size, i.bytes)) = some (some (.int .u64 0), 1, 8) := by kernel_rfl
def encU (q : Nat) : Value := .int .u64 (q : Int)
set_option maxRecDepth 100000 in
set_option maxHeartbeats 2000000 in
/-- slices.AppendSeq(nil, maps.Keys(m)). -/
theorem appendSeqU_in (F : Fence) (n : Nat) (h126 : F.fn 158) (h93 : F.fn KeysF) (hro : F.round = none) (hn : 3 ≤ n) (Bm b c : Nat) (f : Nat → Option Nat) (hc : c ≤ 1000) (w : World) (hBm : Bm < w.heap.size) (hm : w.cell? ⟨Bm, 0, none⟩ = some (.map (some b))) (hmap : MapU w b c f) :
    CallsIn F n Tryz.prog 158 #[.slice none 0 0, .func (.func KeysF) #[] #[.pointer (some ⟨Bm, 0, none⟩)]] w fun e W' => ∃ v ss, e = .returned v ∧ KeysOf f ss ∧ ss.length ≤ c ∧ W'.ownsRow w.heap.size 60 1 v ss.length (ss.map encU) ∧ Below w.heap.size w W' := by
  have h1 : 1 ≤ n := by omega
  obtain ⟨i0, hi, hz0, hz1, hz2⟩ := info_parts infoU
  refine callsIn_of_wp_marks Tryz.func158 rfl h126 ?_ hro
  simp only [Tryz.ntmps158, List.size_toArray, List.length_cons, List.length_nil, Nat.reduceAdd, Nat.reduceSub, Array.replicate_succ, Array.replicate_zero, List.push_toArray, List.append_toArray, List.nil_append, List.cons_append]
  gi_wp2
  have bO := Boxed.new w 90 (.slice none 0 0)
  have hB0 : Below w.heap.size w (w.alloc (.cells #[.slice none 0 0] 90)) := (Below.refl _ w).alloc (Nat.le_refl _) _
  have hseq := keysU_stops F (n - 1) h93 hro (by omega) Bm b c f (w.alloc (.cells #[.slice none 0 0] 90)) (Nat.lt_of_lt_of_le hBm hB0.size) ((hB0.cell (p := ⟨Bm, 0, none⟩) hBm).trans hm) (hmap.below hB0)
  refine wpIn_rangeFunc_ownG hro h1 (gf := KeysF) (lb := #[.pointer (some ⟨Bm, 0, none⟩)]) rfl h93 (enters_of Tryz.func127 (by kernel_rfl) rfl)
    (seqStopsA_iff.1 (seqStops_iff.1 hseq)) walksK_t walksK_b (Below.refl _ _) (fun _ => rfl)
    (fun pre W => (∃ v, Boxed W w.heap.size 90 v ∧ W.ownsRow w.heap.size 60 1 v pre.length (pre.map encU) ∧ (v = .slice none 0 0 ↔ pre = [])) ∧ Below w.heap.size w W)
    (fun _ _ _ => False)
    (OwnFrom.and (Own.from (holdsRow_own w.heap.size w.heap.size 90 60 1 (fun pre => pre.length) (fun pre => pre.map encU) (fun pre v => v = .slice none 0 0 ↔ pre = [])) _) (ownFrom_below (Nat.le_refl _) (by simp)))
    (fun _ _ _ _ _ hs _ _ => hs)
    ⟨⟨_, bO, World.ownsRow_nil _ _ _ _, by simp⟩, hB0⟩
    (fun x => { tmps := #[.slice none 0 0, .func (.func KeysF) #[] #[.pointer (some ⟨Bm, 0, none⟩)], .pointer (some ⟨w.heap.size, 0, none⟩), undef, .slice none 0 0, .int .u64 (x : Nat), .func (.func KeysF) #[] #[.pointer (some ⟨Bm, 0, none⟩)], .int .u64 (x : Nat), undef, undef, undef, undef, undef], defers := [] }) ?assign ?body ?done ?stop
  case assign =>
    intro l x W K hK
    gi_wp2
    exact hK
  case body =>
    rintro l pre x W ⟨⟨v, hv, hrow, hnil⟩, hB⟩ hlt
    have hc1 := hv.cell
    gi_wp2_with (gi_at_builtin; refine wpListIn_append_own _ rfl _ _ 90 rfl w.heap.size 60 i0 (.int .u64 0) 1 8 Tryz.underlying90 hi hz0 hz1 hz2 rfl (by decide) _ _ _ rfl (hrow.alloc _) ⟨W.heap.size, 0, none⟩ 1 1 [.int .u64 (x : Nat)] rfl rfl (cell_one_new _ _ _) (by simp [Value.oneCell']) (by unfold maxLen; omega) (by omega) (by have := hB.size; simp; omega) ?_; intro v' w1 hown' hgrow _; obtain ⟨g', cap', rfl⟩ := ownsRow_succ hown'; obtain ⟨hv1, hv2, hr2, hk2, hb2⟩ := hv.appended (by decide) hrow hB.size (Nat.le_refl _) hown' hgrow; have hc1 := hv1.cell; have hf1 := hv1.frozen)
    exact ⟨hk2.from _, hk2.walks, ⟨_, hv2, by simpa [encU] using hr2, by simp⟩, hB.trans hb2⟩
  case done =>
    rintro D ys W hD hks ⟨⟨v, hv, hrow, hnil⟩, hB⟩ hK
    have hc1 := hv.cell
    gi_wp2
    refine ⟨by simp, .inl ⟨_, _, rfl, run_takeDeferred hK, ?_⟩⟩
    exact ⟨_, results_tmp rfl _ _ _, v, ys, rfl, hks.1, hks.2, ownsRow_putObj hrow _ hK rfl, hB.trans (belowK_b (w := w) (Nat.le_refl _) W D _ _ (by simp at hD; omega) hK rfl rfl)⟩
  case stop =>
    rintro D c pre W _ _ h _
    exact h.elim
end Go.Proofs.YtaehendpdfpibaaGreatDoor

/-
  DERIVED: THE SHELF's CONTRACTS AT THIS DUMP, IN PLAIN WORDS (tools/lay-plain.mjs out of 'YtaehendpdfpibaaGreatDoorShelfX.lean', which tools/lay-shelf.mjs wrote): THE SAME DECLARATIONS UNDER THE SAME NAMES: 'import', 'namespace', 'open', 'def', 'theorem' AND NOTHING ELSE: no command of the shelf's: FOR A HAND-IN. Each laying: the table of numbers ('.._ren') and one theorem, a field a fact of the dump's own or the kernel's comparison; each contract: ONE APPLICATION.
-/
namespace Go.Proofs
open Go.Shelf
def Tryz.sortH_ren : Go.Shelf.Ren := ⟨fun | 6 => 145 | 15 => 160 | 14 => 163 | 28 => 176 | 29 => 177 | 20 => 178 | 21 => 179 | 22 => 180 | 23 => 181 | 24 => 182 | 25 => 183 | 26 => 184 | 27 => 185 | 46 => 193 | 47 => 188 | 48 => 189 | 49 => 194 | 50 => 195 | 57 => 197 | n => n, fun | 22 => 64 | 24 => 31 | 25 => 175 | 3 => 3 | 39 => 77 | 0 => 0 | 53 => 239 | 55 => 54 | 4 => 4 | 46 => 233 | 45 => 232 | 50 => 191 | 5 => 5 | 9 => 9 | 66 => 246 | 70 => 250 | 76 => 254 | 77 => 255 | n => n, fun | n => n⟩
theorem Tryz.sortH : Go.Proofs.SlLaysF0.n6 Tryz.prog Tryz.sortH_ren := {
  mixed := by kernel_rfl
  f6 := ⟨Tryz.f145.name, by decide, Tryz.func145.trans (congrArg some (by kernel_rfl))⟩
  f14 := ⟨Tryz.f163.name, by decide, Tryz.func163.trans (congrArg some (by kernel_rfl))⟩
  f15 := Tryz.func160.trans (congrArg some (by kernel_rfl))
  f20 := ⟨Tryz.f178.name, by decide, Tryz.func178.trans (congrArg some (by kernel_rfl))⟩
  f21 := ⟨Tryz.f179.name, by decide, Tryz.func179.trans (congrArg some (by kernel_rfl))⟩
  f22 := ⟨Tryz.f180.name, by decide, Tryz.func180.trans (congrArg some (by kernel_rfl))⟩
  f23 := ⟨Tryz.f181.name, by decide, Tryz.func181.trans (congrArg some (by kernel_rfl))⟩
  f24 := ⟨Tryz.f182.name, by decide, Tryz.func182.trans (congrArg some (by kernel_rfl))⟩
  f25 := ⟨Tryz.f183.name, by decide, Tryz.func183.trans (congrArg some (by kernel_rfl))⟩
  f26 := ⟨Tryz.f184.name, by decide, Tryz.func184.trans (congrArg some (by kernel_rfl))⟩
  f27 := ⟨Tryz.f185.name, by decide, Tryz.func185.trans (congrArg some (by kernel_rfl))⟩
  f28 := Tryz.func176.trans (congrArg some (by kernel_rfl))
  f29 := Tryz.func177.trans (congrArg some (by kernel_rfl))
  f46 := ⟨Tryz.f193.name, by decide, Tryz.func193.trans (congrArg some (by kernel_rfl))⟩
  f47 := Tryz.func188.trans (congrArg some (by kernel_rfl))
  f48 := Tryz.func189.trans (congrArg some (by kernel_rfl))
  f49 := ⟨Tryz.f194.name, by decide, Tryz.func194.trans (congrArg some (by kernel_rfl))⟩
  f50 := ⟨Tryz.f195.name, by decide, Tryz.func195.trans (congrArg some (by kernel_rfl))⟩
  f57 := ⟨Tryz.f197.name, by decide, Tryz.func197.trans (congrArg some (by kernel_rfl))⟩
  t0 := Tryz.underlying0
  a0 := Tryz.isAgg0
  z0 := Tryz.sizeOf0
  v0 := Tryz.zeroValue0
  t3 := Tryz.underlying3
  a3 := Tryz.isAgg3
  z3 := Tryz.sizeOf3
  v3 := Tryz.zeroValue3
  t4 := Tryz.underlying4
  a4 := Tryz.isAgg4
  z4 := Tryz.sizeOf4
  v4 := Tryz.zeroValue4
  t5 := Tryz.underlying5
  a5 := Tryz.isAgg5
  z5 := Tryz.sizeOf5
  v5 := Tryz.zeroValue5
  t9 := Tryz.underlying9
  a9 := Tryz.isAgg9
  z9 := Tryz.sizeOf9
  v9 := Tryz.zeroValue9
  t22 := Tryz.underlying64
  a22 := Tryz.isAgg64
  z22 := Tryz.sizeOf64
  v22 := Tryz.zeroValue64
  t25 := Tryz.underlying175
  a25 := Tryz.isAgg175
  z25 := Tryz.sizeOf175
  v25 := Tryz.zeroValue175
  t39 := Tryz.underlying77
  a39 := Tryz.isAgg77
  z39 := Tryz.sizeOf77
  v39 := Tryz.zeroValue77
  t45 := Tryz.underlying232
  a45 := Tryz.isAgg232
  z45 := Tryz.sizeOf232
  v45 := Tryz.zeroValue232
  t46 := Tryz.underlying233
  a46 := Tryz.isAgg233
  z46 := Tryz.sizeOf233
  v46 := Tryz.zeroValue233
  t50 := Tryz.underlying191
  a50 := Tryz.isAgg191
  z50 := Tryz.sizeOf191
  v50 := Tryz.zeroValue191
  t53 := Tryz.underlying239
  a53 := Tryz.isAgg239
  z53 := Tryz.sizeOf239
  v53 := Tryz.zeroValue239
  t55 := Tryz.underlying54
  a55 := Tryz.isAgg54
  z55 := Tryz.sizeOf54
  v55 := Tryz.zeroValue54
  t66 := Tryz.underlying246
  a66 := Tryz.isAgg246
  z66 := Tryz.sizeOf246
  v66 := Tryz.zeroValue246
  t70 := Tryz.underlying250
  a70 := Tryz.isAgg250
  z70 := Tryz.sizeOf250
  v70 := Tryz.zeroValue250
  t76 := Tryz.underlying254
  a76 := Tryz.isAgg254
  z76 := Tryz.sizeOf254
  v76 := Tryz.zeroValue254
  t77 := Tryz.underlying255
  a77 := Tryz.isAgg255
  z77 := Tryz.sizeOf255
  v77 := Tryz.zeroValue255 }
end Go.Proofs
