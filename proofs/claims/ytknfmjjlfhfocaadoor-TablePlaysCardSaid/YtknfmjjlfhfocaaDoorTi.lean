/-
  Columns that are being made; the table's New.
-/
import Derived.Test.YtknfmjjlfhfocaaDoorTh
import Derived.Carry
namespace Go.Proofs.YtknfmjjlfhfocaaDoor
set_option linter.unusedSimpArgs false
set_option linter.unusedVariables false
open Go.RowKit Go.Sort Go.Lib Go.Shelf

/-- The columns of the kinds of f, in blocks of the call's own, from base on, none of Z. -/
def ColsF (w : World) (base : Nat) (Z : Nat → Prop) (f : Int → Option Nat) (C : Int → List Vl) : Prop :=
  ∃ MC : Int → Nat → Prop, (∀ k g, f k = some g → ColVT w (MC k) g (C k) 128) ∧ ∀ k b, MC k b → base ≤ b ∧ b < w.heap.size ∧ ¬ Z b ∧ ∀ k', MC k' b → k' = k
section
variable {w w' w1 : World} {base pt ph pm q : Nat} {Z X : Nat → Prop} {f : Int → Option Nat} {C : Int → List Vl} {H : List Hd}
theorem ColsF.none (w : World) (base : Nat) (Z : Nat → Prop) (C : Int → List Vl) : ColsF w base Z (fun _ => .none) C := ⟨fun _ _ => False, fun _ _ e => (nomatch e), fun _ _ e => e.elim⟩
theorem ColsF.kept (h : ColsF w base Z f C) (t : Tch X w w') (hd : ∀ b, X b → Z b ∨ b < base) : ColsF w' base Z f C := by
  obtain ⟨MC, h1, h2⟩ := h
  refine ⟨MC, fun k g e => (h1 k g e).kept t (fun b e1 e2 => ?_), fun k b e => ⟨(h2 k b e).1, Nat.lt_of_lt_of_le (h2 k b e).2.1 t.size, (h2 k b e).2.2⟩⟩
  rcases hd b e2 with c | c
  · exact (h2 k b e1).2.2.1 c
  · have := (h2 k b e1).1; omega
theorem ColsF.below (h : ColsF w base Z f C) (t : RowKit.Below w.heap.size w w') : ColsF w' base Z f C := h.kept (X := fun _ => False) (Tch.of t) (fun _ e => e.elim)
theorem ColsF.add (h : ColsF w base Z f C) (t : RowKit.Below w.heap.size w w1) {k : Int} {g : Nat} (hn : ColVT w1 (Fresh w w1) g (C k) 128) (hb : base ≤ w.heap.size) (hZ : ∀ b, Z b → b < w.heap.size) : ColsF w1 base Z (fun y => if y = k then some g else f y) C := by
  obtain ⟨MC, h1, h2⟩ := h
  refine ⟨fun y => if y = k then Fresh w w1 else MC y, fun y g' e => ?_, fun y b e => ?_⟩
  · show ColVT w1 (if y = k then Fresh w w1 else MC y) g' (C y) 128
    replace e : (if y = k then some g else f y) = some g' := e
    by_cases c : y = k
    · subst c
      rw [if_pos rfl] at e ⊢
      obtain rfl := Option.some.inj e
      exact hn
    · rw [if_neg c] at e ⊢
      exact (h1 y g' e).below t
  · have key : ∀ z, (if z = k then Fresh w w1 else MC z) b → (w.heap.size ≤ b ∧ b < w1.heap.size ∧ z = k) ∨ MC z b := fun z e => by
      by_cases c : z = k
      · rw [if_pos c] at e
        rcases e with e | e
        · exact e.elim
        · exact .inl ⟨e.1, e.2, c⟩
      · rw [if_neg c] at e
        exact .inr e
    rcases key y e with c | c
    · refine ⟨by omega, c.2.1, fun z => by have := hZ b z; omega, fun z e2 => ?_⟩
      rcases key z e2 with d | d
      · exact d.2.2.trans c.2.2.symm
      · have := (h2 z b d).2.1; omega
    · refine ⟨(h2 y b c).1, Nat.lt_of_lt_of_le (h2 y b c).2.1 t.size, (h2 y b c).2.2.1, fun z e2 => ?_⟩
      rcases key z e2 with d | d
      · have := (h2 y b c).2.1; omega
      · exact (h2 y b c).2.2.2 z d
/-- A table that the call has made. -/
theorem tab_made {w0 wA wB : World} (hb0 : RowKit.Below w0.heap.size w0 wA) (hm : MapP wA pm 64 f) (hpm : w0.heap.size ≤ pm) (hZ : Z pm) (hC : ColsF wA w0.heap.size Z f C) (hAB : RowKit.Below wA.heap.size wA wB) (hH : ColHT wB (Fresh wA wB) ph H 128) :
    TabM (wB.alloc (.cells #[.pointer (some ⟨ph, 0, Option.none⟩), .map (some pm), .int .u64 q] 90)) (Fresh w0 (wB.alloc (.cells #[.pointer (some ⟨ph, 0, Option.none⟩), .map (some pm), .int .u64 q] 90))) wB.heap.size ph pm q f H C := by
  have hbC := Ba (Below.refl _ wB) (.cells #[.pointer (some ⟨ph, 0, Option.none⟩), .map (some pm), .int .u64 q] 90)
  have hsz : (wB.alloc (.cells #[.pointer (some ⟨ph, 0, Option.none⟩), .map (some pm), .int .u64 q] 90)).heap.size = wB.heap.size + 1 := by simp
  obtain ⟨MC, h1, h2⟩ := hC
  have hA := hb0.size
  have hB := hAB.size
  have hl := hm.lt
  refine ⟨Fresh wA wB, MC, heap_alloc_new wB _, (hm.below hAB).below hbC, hH.below hbC, fun k g e => ((h1 k g e).below hAB).below hbC, fun b e => ?_, fun k b e => ⟨.inr ⟨(h2 k b e).1, by have := (h2 k b e).2.1; omega⟩, by have := (h2 k b e).2.1; omega, fun c => (h2 k b e).2.2.1 (c ▸ hZ), fun c => ?_, (h2 k b e).2.2.2⟩, .inr ⟨by omega, by omega⟩, .inr ⟨hpm, by omega⟩, fun b e => e.elim (fun e => e.elim) (fun e => e.2)⟩
  · rcases e with e | e
    · exact e.elim
    · exact ⟨.inr ⟨by omega, by omega⟩, by omega, by omega, fun k c => by have := (h2 k b c).2.1; omega⟩
  · rcases c with c | c
    · exact c.elim
    · have := (h2 k b e).2.1; omega
theorem tch_one (hg : w.grownBy w' (some pm)) : Tch (fun b => b = pm) w w' := tch_grown hg rfl
end

section
variable {A : Nat → Addr}
set_option maxHeartbeats 2000000 in
theorem tnew_no (q : Nat) (hq : ¬ q < 1024) (w : World) (hE : Er7 w A) : Calls Tryd.prog 8 #[.int .u64 q] w fun e w' => e = .returned (.tuple #[.pointer none, errC A 4]) ∧ RowKit.Below w.heap.size w w' := by
  have HR := Lib.hid (mright_any q w)
  rw [decide_eq_false hq] at HR
  have fe := hE.er.kind
  clear hE hq
  go_enter Tryd.func8, Tryd.ntmps8
  go_wp2_with fail
  refine HR.out.mono ?_
  rintro e w1 ⟨rfl, rfl⟩
  go_wp2_with fail
  go_region
  go_wp2
  go_ret2
  exact ⟨rfl, (by repeat (first | with_reducible exact Below.refl _ _ | with_reducible assumption | with_reducible apply Ba | with_reducible apply Bd | with_reducible apply Bn | with_reducible apply Bg | (with_reducible refine Bs ?_ (by first | (simp; done) | (simp; omega)) _) | (with_reducible refine Bt ?_ (by assumption)) | (with_reducible refine Bt ?_ (Gr.below (by assumption)))))⟩
set_option maxHeartbeats 4000000 in
set_option maxRecDepth 100000 in
theorem tnew_yes (q : Nat) (hq : q < 1024) (w : World) (hTW : TabW w) : Calls Tryd.prog 8 #[.int .u64 q] w fun e w' => ∃ pt, e = .returned (.tuple #[ptP pt, .nilIface]) ∧ Tab w' (Fresh w w') pt q [] ∧ RowKit.Below w.heap.size w w' := by
  have HR := Lib.hid (mright_any q w)
  rw [decide_eq_true hq] at HR
  have HK : Hid (∀ W, RowKit.Below w.heap.size w W → Calls Tryd.prog 33 #[.int .u64 q] W fun e w' => ∃ v', e = .returned v' ∧ w'.ownsRow W.heap.size 3 1 v' (Ks q).length (flat encI (Ks q)) ∧ RowKit.Below W.heap.size W w') := fun W hb => mkinds_call q (by omega) W (hTW.below hb)
  have HKL := Lib.hid (Ks_len q)
  have HKK := Lib.hid (Ks_kind hq)
  have HQ := Lib.hid hq
  obtain ⟨K, hKe⟩ : ∃ K, K = Ks q := ⟨_, rfl⟩
  rw [← hKe] at HK HKL HKK
  have HKE := Lib.hid hKe
  clear hTW hKe hq
  go_enter Tryd.func8, Tryd.ntmps8
  go_wp2_with fail
  refine HR.out.mono ?_
  rintro e w1 ⟨rfl, rfl⟩
  have hmm := @run_makeMap Tryd.prog
  go_wp2_with fail
  clear hmm
  refine (HK.out _ (Ba (Below.refl _ w) _)).mono ?_
  rintro e w2 ⟨vk, rfl, hok, hb2⟩
  have B2 := Lib.hid (Bt (Ba (Below.refl _ w) (.map #[] 0)) hb2)
  have M2 := Lib.hid ((MapP.made w).below hb2)
  have S2 := Lib.hid (SlN.of lenI hok rfl)
  have hs2 : w.heap.size < w2.heap.size := M2.out.lt
  have hs1 : (w.alloc (.map #[] 0)).heap.size = w.heap.size + 1 := by simp
  rw [hs1] at S2
  obtain ⟨pk, ck, rfl, _, _, _⟩ := row_val hok
  obtain ⟨pm, hpm⟩ : ∃ pm, pm = w.heap.size := ⟨_, rfl⟩
  rw [← hpm] at M2
  have HPM := Lib.hid hpm
  have hKb : K.length ≤ 9223372036854775807 := by have := HKL.out; omega
  clear hok hb2 HK hs1
  have NP := fun (W : World) => newV_call 128 W
  rw [show (max (128 : Int) 0) = 128 from rfl] at NP
  have HNP := Lib.hid NP
  clear NP
  go_wp2
  rw [← hpm]
  clear hpm
  go_loopg [15] K.length (fun gk s15 wr => ∃ (i : Nat) (f : Int → Option Nat), s15 = .int .i64 i ∧ i ≤ K.length ∧ K.length - i ≤ gk ∧ Hid (MapP wr pm i f) ∧ Hid (ColsF wr w.heap.size (fun b => b = pm) f (fun _ => [])) ∧ Hid (∀ k, (f k).isSome = decide (k ∈ K.take i)) ∧ Hid (RowKit.Below w.heap.size w wr) ∧ Hid (SlN (fun b => pm + 1 ≤ b) encI wr (.slice pk K.length ck) K))
  case atStart => exact ⟨0, _, rfl, Nat.zero_le _, by omega, M2, ColsF.none _ _ _ _, fun k => by simp, B2, (show SlN _ _ _ _ _ by have := S2.out; rw [← HPM.out] at this; exact this)⟩
  case round =>
    obtain ⟨i, f, rfl, hi, hgk, HM, HC, HF, HB, HS⟩ := hrel
    by_cases hin : i < K.length
    · obtain ⟨p', c', e', _, _, hsv⟩ := HS.out
      obtain ⟨g, o, e3, hg1, hgN, hg2⟩ := hsv (by omega)
      simp only [Value.slice.injEq] at e'
      obtain ⟨rfl, _, rfl⟩ := e'
      subst e3
      have d1 := atI hg2 hin
      have hmem : K[i]! ∈ K := by rw [getElem!_pos K i hin]; exact List.getElem_mem hin
      have hkk := (kindB_iff _).1 (HKK.out _ hmem)
      have hkw : (Lit.int .i64 K[i]!).wf = true := WalkArith.wf_i64 (by omega)
      have HST := Lib.hid (take_snoc K hin)
      have HI64 := Lib.hid (show i < 1000 by have := HKL.out; omega)
      generalize K[i]! = k at *
      clear hsv hgN hg2 hmem hkk
      go_wp2_with fail
      refine (HNP.out wr).mono ?_
      rintro e w4 ⟨pb, rfl, hc4, hb4⟩
      have M4 := Lib.hid (HM.out.below hb4)
      have C4 := Lib.hid (HC.out.add (k := k) hb4 hc4 HB.out.size (fun b e => by rw [e]; exact HM.out.lt))
      have S4 := Lib.hid (HS.out.below hb4)
      have B4 := Lib.hid (Bt HB.out hb4)
      clear hb4 hc4 d1
      go_wp2_with (at_mapUpdate; refine wpl_putP rfl _ _ _ rfl (by rfl) M4.out HI64.out k (by rfl) hkw pb (by rfl) ?_; intro w5 hm5 hg5)
      have t5 := tch_one hg5
      go_roundg (K.length - (i + 1))
      case measure => exact Nat.lt_of_lt_of_le (Nat.sub_lt_sub_left hin (Nat.lt_succ_self i)) hgk
      case rel =>
        refine ⟨i + 1, _, by go_num, hin, Nat.le_refl _, hm5, (show Hid _ from C4.out.kept t5 (fun b e => .inl e)), (show Hid _ from fun y => ?_), (show Hid _ from bel_map B4.out hg5 (by rw [HPM.out]; exact Nat.le_refl _)), (show Hid _ from S4.out.kept t5 (fun b e1 e2 => by omega))⟩
        show (if y = k then some pb else f y).isSome = _
        rw [HST.out]
        by_cases c : y = k
        · subst c; simp
        · rw [if_neg c, HF.out]; simp [c]
    · have hii : i = K.length := by omega
      subst hii
      have NH := Lib.hid (newH_call 128 wr)
      rw [show (max (128 : Int) 0) = 128 from rfl] at NH
      go_wp2_with fail
      refine NH.out.mono ?_
      rintro e w4 ⟨ph, rfl, hc4, hb4⟩
      have TM := tab_made (q := q) (Z := fun b => b = pm) HB.out (HM.out.mono (by have := HKL.out; omega)) (by rw [HPM.out]; exact Nat.le_refl _) rfl HC.out hb4 hc4
      have HTM := Lib.hid TM
      have B5 := Lib.hid (Ba (Bt HB.out hb4) (.cells #[.pointer (some ⟨ph, 0, none⟩), .map (some pm), .int .u64 q] 90))
      clear hb4 hc4 TM
      go_wp2
      go_ret2
      refine ⟨_, rfl, ⟨ph, pm, f, HTM.out.congr rfl (fun k _ => rfl), HQ.out, fun k => ?_, fun r hr => absurd hr (List.not_mem_nil), by simp⟩, B5.out⟩
      rw [HF.out, List.take_length, HKE.out]
end
end Go.Proofs.YtknfmjjlfhfocaaDoor
