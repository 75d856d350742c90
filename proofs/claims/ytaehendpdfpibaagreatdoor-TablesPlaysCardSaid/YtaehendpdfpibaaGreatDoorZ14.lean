import Derived.Test.YtaehendpdfpibaaGreatDoorZ13
import Derived.Test.YtaehendpdfpibaaGreatDoorZ8
import Derived.Test.YtaehendpdfpibaaGreatDoorZ12

/-
  Rows that are put, one after another: entities of the handles 0, 1, .. of generation 1; pure.
-/
namespace Go.Proofs.YtaehendpdfpibaaGreatDoor
set_option linter.unusedSimpArgs false
set_option linter.unusedVariables false
open Go.RowKit Go.Sort Go.Lib Go.Shelf

theorem nM_few {L : List En} (h : L.length ≤ 32) : nM L ≤ 32 := Nat.le_trans (nM_le_len L) h
/-- The first k rows stand in the store. -/
structure Upto (l : List Rr) (k : Nat) (L : List En) : Prop where
  good : Good L
  len : L.length = k
  row : ∀ i : Nat, i < k → fndE L ((i : Int), 1) = some l[i]!.2
  only : ∀ r ∈ L, ∃ i : Nat, i < k ∧ r.1 = ((i : Int), 1)
theorem hdOk_idx (k : Nat) (h : k ≤ 100) : HdOk ((k : Int), 1) := ⟨WalkArith.wf_i64 (by omega), (show (Lit.int .i64 1).wf = true by decide)⟩
theorem upto_zero (l : List Rr) : Upto l 0 [] := ⟨good_nil, rfl, fun i hi => absurd hi (Nat.not_lt_zero _), by simp⟩
theorem upto_step {l : List Rr} {k : Nat} {L : List En} (h : Upto l k L) (h32 : k < 32) (hr : RightV l[k]!.2) : putEN L ((k : Int), 1) l[k]!.2 = 0 ∧ Upto l (k + 1) (putEL L ((k : Int), 1) l[k]!.2) := by
  have hn : ((k : Int), 1) ∉ hds L := fun e => by
    obtain ⟨r, hr1, hr2⟩ := List.mem_map.1 e
    obtain ⟨i, hi, e2⟩ := h.only r hr1
    rw [e2] at hr2
    have := (Prod.mk.inj hr2).1
    omega
  have hf : fndE L ((k : Int), 1) = none := fndE_none.2 fun r hr1 e => hn (List.mem_map.2 ⟨r, hr1, e⟩)
  have hm : nM (insE L (((k : Int), 1), l[k]!.2)) ≤ 32 := nM_few (by rw [len_insE, h.len]; omega)
  have p1 : putEN L ((k : Int), 1) l[k]!.2 = 0 := by
    unfold putEN
    rw [hf, if_neg (by simp), if_pos ((rightB_iff _).2 hr), if_pos ⟨by rw [h.len]; omega, hm⟩]
  refine ⟨p1, ?_⟩
  unfold putEL
  rw [if_pos p1]
  refine ⟨h.good.ins (hdOk_idx k (by omega)) hr hn (by rw [h.len]; omega) hm, by rw [len_insE, h.len], fun i hi => ?_, fun r hr1 => ?_⟩
  · rw [fndE_insE h.good.rise hn]
    by_cases e : i = k
    · subst e; rw [if_pos rfl]
    · rw [if_neg (fun c => e (by have := (Prod.mk.inj c).1; omega))]
      exact h.row i (by omega)
  · rcases (mem_insE _ _ _).1 hr1 with rfl | hr1
    · exact ⟨k, by omega, rfl⟩
    · obtain ⟨i, hi, e⟩ := h.only r hr1
      exact ⟨i, by omega, e⟩
theorem Upto.right {l : List Rr} {k : Nat} {L : List En} (h : Upto l k L) {i : Nat} (hi : i < k) : RightV l[i]!.2 := h.good.right _ ((fndE_some h.good.rise).1 (h.row i hi))
/-- A component that isn't there is added, asked for, removed. -/
theorem upto_turn {l : List Rr} {k : Nat} {L : List En} (h : Upto l k L) (h32 : k ≤ 32) {m : Nat} (hm : m < k) {x : Vl} (hx : chk x = 0) (hh : hasK l[m]!.2 x.1 = false) :
    addEN L ((m : Int), 1) x = 0 ∧ getEN (addEL L ((m : Int), 1) x) ((m : Int), 1) x.1 = 0 ∧ getEV (addEL L ((m : Int), 1) x) ((m : Int), 1) x.1 = x ∧ remEN (addEL L ((m : Int), 1) x) ((m : Int), 1) x.1 = 0 ∧ Upto l k (remEL (addEL L ((m : Int), 1) x) ((m : Int), 1) x.1) := by
  have hr := h.row m hm
  have hmem := (fndE_some h.good.rise).1 hr
  have hR := h.right hm
  have hrow := rowE_of hr
  have hs : (fndE L ((m : Int), 1)).isSome = true := by rw [hr]; rfl
  generalize hl : l[m]!.2 = R at *
  have hm1 : nM (setE L ((m : Int), 1) (putV R x)) ≤ 32 := nM_few (by rw [len_setE, h.len]; omega)
  have a1 : addEN L ((m : Int), 1) x = 0 := by
    unfold addEN moveEN
    rw [if_pos hs, if_pos hx, hrow, if_neg (by rw [hh]; decide), if_pos hm1]
  have a2 : addEL L ((m : Int), 1) x = setE L ((m : Int), 1) (putV R x) := by unfold addEL; rw [if_pos a1, hrow]
  have hG := h.good.set hmem (putV_right hR hx) hm1
  have hf2 : ∀ g, fndE (setE L ((m : Int), 1) (putV R x)) g = if g = ((m : Int), 1) then some (putV R x) else fndE L g := fndE_setE h.good.rise hmem
  have hr2 := hf2 ((m : Int), 1)
  rw [if_pos rfl] at hr2
  have hmem2 := (fndE_some hG.rise).1 hr2
  have hs2 : (fndE (setE L ((m : Int), 1) (putV R x)) ((m : Int), 1)).isSome = true := by rw [hr2]; rfl
  have hrow2 := rowE_of hr2
  have hin : x ∈ putV R x := (mem_putV _ _ _).2 (.inl rfl)
  have hk2 : hasK (putV R x) x.1 = true := has_of_mem (putV_right hR hx) hin
  have hdr : dropV (putV R x) x.1 = R := by
    rw [drop_putV x hR.1]
    refine rise_ext _ _ (rkFilter _ hR.1) hR.1 fun y => ?_
    rw [mem_dropV]
    refine ⟨fun e => e.1, fun e => ⟨e, fun c => ?_⟩⟩
    have := has_of_mem hR e
    rw [c, hh] at this
    cases this
  have hm2 : nM (setE (setE L ((m : Int), 1) (putV R x)) ((m : Int), 1) R) ≤ 32 := nM_few (by rw [len_setE, len_setE, h.len]; omega)
  have g1 : getEN (setE L ((m : Int), 1) (putV R x)) ((m : Int), 1) x.1 = 0 := by unfold getEN; rw [if_pos hs2, hrow2, if_pos hk2]
  have r1 : remEN (setE L ((m : Int), 1) (putV R x)) ((m : Int), 1) x.1 = 0 := by
    unfold remEN moveEN
    rw [if_pos hs2, hrow2, if_pos hk2, hdr, if_pos hm2]
  rw [a2]
  refine ⟨a1, g1, ?_, r1, ?_⟩
  · unfold getEV
    rw [if_pos g1, hrow2]
    exact find_of_mem (putV_right hR hx) hin
  · unfold remEL
    rw [if_pos r1, hrow2, hdr]
    refine ⟨hG.set hmem2 hR hm2, by rw [len_setE, len_setE, h.len], fun i hi => ?_, fun r hr3 => ?_⟩
    · rw [fndE_setE hG.rise hmem2, hf2]
      by_cases e : ((i : Int), (1 : Int)) = ((m : Int), 1)
      · have : i = m := by have := (Prod.mk.inj e).1; omega
        subst this
        rw [if_pos rfl, hl]
      · rw [if_neg e, if_neg e]
        exact h.row i hi
    · have e1 : r.1 ∈ hds (setE (setE L ((m : Int), 1) (putV R x)) ((m : Int), 1) R) := List.mem_map_of_mem hr3
      rw [hds_setE, hds_setE] at e1
      obtain ⟨r', h1, h2⟩ := List.mem_map.1 e1
      obtain ⟨i, hi, e⟩ := h.only r' h1
      exact ⟨i, hi, by rw [← h2]; exact e⟩
/-- A component that is there. -/
theorem upto_has {l : List Rr} {k : Nat} {L : List En} (h : Upto l k L) {m : Nat} (hm : m < k) {x : Vl} (hx : chk x = 0) (hh : hasK l[m]!.2 x.1 = true) : addEN L ((m : Int), 1) x = 4 := by
  have hr := h.row m hm
  unfold addEN
  rw [if_pos (by rw [hr]; rfl), if_pos hx, rowE_of hr, if_pos hh]
/-- An entity that is there, and those of its mask. -/
theorem upto_ent {l : List Rr} {k : Nat} {L : List En} (h : Upto l k L) {m : Nat} (hm : m < k) : entE L ((m : Int), 1) = (((m : Int), 1), l[m]!.2) ∧ takeEN L ((m : Int), 1) = 0 ∧ 0 < (inE L (maskV l[m]!.2)).length := by
  have hr := h.row m hm
  refine ⟨by unfold entE; rw [if_pos (by rw [hr]; rfl), rowE_of hr], by unfold takeEN; rw [hr]; rfl, ?_⟩
  exact List.length_pos_of_mem ((mem_inE _ _ _).2 ⟨_, (fndE_some h.good.rise).1 hr, rfl⟩)
theorem atRr {w : World} {l : List Rr} {g o : Nat} (h : ∀ j u, (flat encRr l)[j]? = some u → w.cell? ⟨g, o + j, none⟩ = some u) {i : Nat} (hi : i < l.length) : w.cell? ⟨g, o + i, none⟩ = some l[i]!.1 := by
  have := sl_at lenRr h hi 0 _ rfl
  rwa [Nat.mul_one] at this
end Go.Proofs.YtaehendpdfpibaaGreatDoor

/-
  A store's In: the handles of those of just a mask.
-/
namespace Go.Proofs.YtaehendpdfpibaaGreatDoor
set_option linter.unusedSimpArgs false
set_option linter.unusedVariables false
open Go.RowKit Go.Sort Go.Lib Go.Shelf

theorem Lays.tabIn {tt : Nat → Option (Nat × List En)} {pl : Hd → Option Plc} {L : List En} (h : Lays tt pl L) (hL : RiseE L) {q pt : Nat} {R : List En} (e : tt q = some (pt, R)) : srt ltH (R.map fun r => r.1) = inE L q := by
  refine srt_eq sto_hd (rise_inE hL q) fun z => ?_
  rw [mem_inE, List.mem_map]
  constructor
  · rintro ⟨l, h1, rfl⟩
    obtain ⟨pt', R', h2, h3⟩ := h.all _ h1
    rw [e] at h2
    obtain ⟨rfl, rfl⟩ := Prod.mk.inj (Option.some.inj h2)
    exact ⟨_, h3, rfl⟩
  · rintro ⟨⟨x, l⟩, h1, rfl⟩
    have := (h.rows q pt R e).2 _ h1
    exact ⟨l, this.1, this.2⟩
theorem Lays.tabNo {tt : Nat → Option (Nat × List En)} {pl : Hd → Option Plc} {L : List En} (h : Lays tt pl L) {q : Nat} (e : tt q = Option.none) : inE L q = [] := by
  rw [List.eq_nil_iff_forall_not_mem]
  intro z hz
  obtain ⟨l, h1, rfl⟩ := (mem_inE _ _ _).1 hz
  obtain ⟨pt, R, h2, _⟩ := h.all _ h1
  rw [e] at h2
  cases h2
section
variable {w w' : World} {M X : Nat → Prop} {ps bt bp : Nat} {tt : Nat → Option (Nat × List En)} {pl : Hd → Option Plc} {MT : Nat → Nat → Prop} {L : List En}
theorem sin_call (h : StoX w M ps bt bp tt pl MT L) (q : Nat) (hq : q < 18446744073709551616) : Calls Tryz.prog 55 #[psP ps, .int .u64 q] w fun e w' => ∃ v, e = .returned v ∧ Sl encH w' v (inE L q) ∧ RowKit.Below w.heap.size w w' := by
  obtain ⟨c0, c1, f0, f1⟩ := two_cells h.mem.head
  have hl := cell_lt c0
  have hlk := h.mem.mapT.look mptU q (okU_lt hq)
  unfold mU at hlk
  cases e : tt q with
  | none =>
    rw [show ftO tt q = none by unfold ftO; rw [e]; rfl] at hlk
    replace hlk : (Instr.lookup MapUT (.map (some bt)) (.int .u64 (q : Int)) false).run Tryz.prog w = .ok (.pointer none) w := hlk
    rw [h.lays.tabNo e]
    clear h
    go_enter Tryz.func55, Tryz.ntmps55
    go_wp2
    go_ret
    exact ⟨_, rfl, Sl.nil none 0 (Nat.zero_le _), Below.refl _ _⟩
  | some x =>
    obtain ⟨pt, R⟩ := x
    rw [show ftO tt q = some pt by unfold ftO; rw [e]; rfl] at hlk
    replace hlk : (Instr.lookup MapUT (.map (some bt)) (.int .u64 (q : Int)) false).run Tryz.prog w = .ok (.pointer (some ⟨pt, 0, none⟩)) w := hlk
    have HT := Lib.hid (thandles_call (h.mem.tab _ _ _ e))
    have hlen := (h.mem.tab _ _ _ e).size
    have hin := h.lays.tabIn h.good.rise e
    clear h
    go_enter Tryz.func55, Tryz.ntmps55
    go_wp2_with fail
    refine HT.out.mono ?_
    rintro e1 w1 ⟨v1, rfl, hs1, hb1⟩
    have C1 := Lib.hid (handles_call _ v1 w1 hs1 (by rw [List.length_map]; omega))
    rw [hin] at C1
    have B1 := Lib.hid hb1
    clear hb1 hs1 HT
    go_wp2_with fail
    refine C1.out.mono ?_
    rintro e2 w2 ⟨v2, rfl, ho2, hb2⟩
    have O2 := Lib.hid ho2
    have B2 := Lib.hid (Bt B1.out hb2)
    clear hb2 ho2 C1 B1
    go_wp2
    go_ret
    exact ⟨_, rfl, O2.out.sl lenH, B2.out⟩
end
end Go.Proofs.YtaehendpdfpibaaGreatDoor
