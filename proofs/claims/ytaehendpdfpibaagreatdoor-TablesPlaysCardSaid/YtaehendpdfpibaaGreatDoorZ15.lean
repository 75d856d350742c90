import Derived.Test.YtaehendpdfpibaaGreatDoorZ13
import Derived.Test.YtaehendpdfpibaaGreatDoorZ7
import Derived.Deep.RegionHeld3
import Derived.Deep.DeepCutAuto

/-
  A store's Clone: tables, then places, in whatever order.
-/
namespace Go.Proofs.YtaehendpdfpibaaGreatDoor
set_option linter.unusedSimpArgs false
set_option linter.unusedVariables false
open Go.RowKit Go.Sort Go.Lib Go.Shelf

/-- How many tables there are. -/
def cntT (tt : Nat → Option (Nat × List En)) : Nat := ((List.range 1024).filter fun q => (tt q).isSome).length
theorem cntT_le (tt : Nat → Option (Nat × List En)) : cntT tt ≤ 1024 := by
  have := List.length_filter_le (fun q => (tt q).isSome) (List.range 1024)
  simp at this
  exact this
theorem filt_eq (l : List Nat) (p q : Nat → Bool) (h : ∀ x, p x = q x) : (l.filter p).length = (l.filter q).length := by
  have : p = q := funext h
  rw [this]
theorem cntN_add (n : Nat) (tt : Nat → Option (Nat × List En)) {x : Nat} (hx : x < n) (h : tt x = none) (y : Nat × List En) : ((List.range n).filter fun q => (if q = x then some y else tt q).isSome).length = ((List.range n).filter fun q => (tt q).isSome).length + 1 := by
  have e := filter_or_len (fun q => (tt q).isSome) x n hx
  rw [h] at e
  simp only [Option.isSome_none, Bool.false_eq_true, if_false] at e
  rw [← e]
  congr 1
  refine List.filter_congr fun q _ => ?_
  by_cases c : q = x
  · simp [c]
  · simp [c]
theorem cntT_add (tt : Nat → Option (Nat × List En)) {x : Nat} (hx : x < 1024) (h : tt x = none) (y : Nat × List En) : cntT (fun q => if q = x then some y else tt q) = cntT tt + 1 := cntN_add 1024 tt hx h y
theorem filter_out_len : ∀ {H : List Hd} (_ : H.Nodup) (p : Hd → Bool) {x : Hd}, x ∈ H → p x = true → (H.filter fun h => !(p h && !decide (h = x))).length = (H.filter fun h => !p h).length + 1
  | [], _, _, _, hx, _ => absurd hx (by simp)
  | a :: r, hn, p, x, hx, hp => by
    simp only [List.nodup_cons] at hn
    by_cases c : a = x
    · subst c
      have e : (r.filter fun h => !(p h && !decide (h = a))) = r.filter fun h => !p h := List.filter_congr fun h hh => by
        have : ¬ h = a := fun e => hn.1 (e ▸ hh)
        simp [this]
      rw [List.filter_cons, List.filter_cons, e]
      simp [hp]
    · have hx' : x ∈ r := (List.mem_cons.1 hx).resolve_left (fun e => c e.symm)
      have ih := filter_out_len hn.2 p hx' hp
      rw [List.filter_cons, List.filter_cons]
      cases hpa : p a
      · simp [c]; simpa using ih
      · simp [c]; simpa using ih

section
variable {w w' w0 : World} {M X : Nat → Prop} {ps bt bp ct cp : Nat} {ft : Nat → Option Nat} {tt : Nat → Option (Nat × List En)} {pl : Hd → Option Plc} {MT : Nat → Nat → Prop} {L : List En}
/-- A new table of rows. -/
theorem StoH.tabNewR {q pt : Nat} {R : List En} (h : StoH w M ps bt bp ft ct pl cp tt MT) (hM : ∀ b, M b → b < w0.heap.size) (hs : w0.heap.size ≤ w.heap.size) (hT : Tab w (Fresh w0 w) pt q R) :
    StoH w (New M w0 w) ps bt bp ft ct pl cp (fun x => if x = q then some (pt, R) else tt x) (fun x => if x = q then Fresh w0 w else MT x) := by
  have key : ∀ y b, (if y = q then Fresh w0 w else MT y) b → (w0.heap.size ≤ b ∧ y = q) ∨ MT y b := fun y b e => by
    by_cases c : y = q
    · rw [if_pos c] at e
      rcases e with e | e
      · exact e.elim
      · exact .inl ⟨e.1, c⟩
    · rw [if_neg c] at e
      exact .inr e
  refine ⟨h.head, h.mapT, h.mapP, fun x pt' R'' e => ?_, fun x e b hb => ?_, fun x b e => ?_, ⟨.inl h.own.1, .inl h.own.2.1, .inl h.own.2.2.1, h.own.2.2.2⟩, New.lt hM hs⟩
  · show Tab w (if x = q then Fresh w0 w else MT x) pt' x R''
    by_cases c : x = q
    · subst c
      simp only [if_true, Option.some.injEq, Prod.mk.injEq] at e
      obtain ⟨rfl, rfl⟩ := e
      rw [if_pos rfl]
      exact hT
    · rw [if_neg c] at e ⊢
      exact h.tab x pt' R'' e
  · by_cases c : x = q
    · rw [if_pos c] at e; cases e
    · rw [if_neg c] at e
      have hb' : (if x = q then Fresh w0 w else MT x) b := hb
      rw [if_neg c] at hb'
      exact h.no x e b hb'
  · replace e : (if x = q then Fresh w0 w else MT x) b := e
    rcases key x b e with d | d
    · have e' := e
      rw [if_pos d.2] at e'
      have h1 := hM _ h.own.1
      have h2 := hM _ h.own.2.1
      have h3 := hM _ h.own.2.2.1
      refine ⟨e'.elim (fun e => e.elim) (fun e => .inr e), fun z => by omega, fun z => by omega, fun z => by omega, fun y z => ?_⟩
      rcases key y b z with z | z
      · exact z.2.trans d.2.symm
      · have := hM b (h.apart y b z).1
        omega
    · refine ⟨.inl (h.apart x b d).1, (h.apart x b d).2.1, (h.apart x b d).2.2.1, (h.apart x b d).2.2.2.1, fun y z => ?_⟩
      rcases key y b z with z | z
      · have := hM b (h.apart x b d).1
        omega
      · exact (h.apart x b d).2.2.2.2 y z
end

/-- The tables that have been cloned: those that aren't left. -/
structure Cl1 (low r : Nat) (tt : Nat → Option (Nat × List En)) (left : Nat → Bool) (pn bt bp : Nat) (w : World) : Prop where
  ex : ∃ M tt' MT', StoH w M pn bt bp (ftO tt') (cntT tt') (fun _ => none) 0 tt' MT' ∧ (∀ b, M b → low ≤ b ∧ b ≠ r) ∧ (∀ q pt R, tt q = some (pt, R) → (left q = true → tt' q = none) ∧ (left q = false → ∃ pt', tt' q = some (pt', R))) ∧ (∀ q, tt q = none → tt' q = none)
section
variable {low r pn bt bp : Nat} {tt : Nat → Option (Nat × List En)} {left : Nat → Bool} {w w' w4 w5 : World}
theorem Cl1.below (h : Cl1 low r tt left pn bt bp w) (t : RowKit.Below w.heap.size w w') : Cl1 low r tt left pn bt bp w' := by
  obtain ⟨M, tt', MT', h1, h2⟩ := h
  exact ⟨M, tt', MT', h1.below t, h2⟩
theorem Cl1.grown (h : Cl1 low r tt left pn bt bp w) (t : w.grownBy w' (some r)) : Cl1 low r tt left pn bt bp w' := by
  obtain ⟨M, tt', MT', h1, h2, h3⟩ := h
  exact ⟨M, tt', MT', h1.kept (X := fun b => b = r) (tch_grown t rfl) (fun b e => (h2 b e).2), h2, h3⟩
theorem Cl1.head (h : Cl1 low r tt left pn bt bp w) : w.heap[pn]? = some (.cells #[.map (some bt), .map (some bp)] 95 (0, 0)) := by
  obtain ⟨M, tt', MT', h1, _⟩ := h
  exact h1.head
theorem Cl1.bt_low (h : Cl1 low r tt left pn bt bp w) : low ≤ bt ∧ bt ≠ r := by
  obtain ⟨M, tt', MT', h1, h2, _⟩ := h
  exact h2 _ h1.own.2.1
theorem Cl1.step (h : Cl1 low r tt left pn bt bp w4) {x pt pb : Nat} {R : List En} (hx : x < 1024) (hl : left x = true) (e : tt x = some (pt, R)) (hb : RowKit.Below w4.heap.size w4 w5) (hT : Tab w5 (Fresh w4 w5) pb x R) (hlow : low ≤ w4.heap.size) (hr : r < w4.heap.size) :
    ∃ w6, (Instr.mapUpdate MapUT (.map (some bt)) (.int .u64 (x : Nat)) (.pointer (some ⟨pb, 0, none⟩))).run Tryz.prog w5 = .ok () w6 ∧ w5.grownBy w6 (some bt) ∧ Cl1 low r tt (fun z => left z && !decide (z = x)) pn bt bp w6 := by
  obtain ⟨M, tt', MT', h1, h2, h3, h4⟩ := h
  have hno := (h3 x pt R e).1 hl
  have m1 := (h1.below hb).tabNewR (w0 := w4) (fun b e => h1.lt b e) hb.size hT
  obtain ⟨w6, hrun, hm6, hg6⟩ := m1.mapT.put mptU (by have := cntT_le tt'; omega) x (okU_lt (by omega)) (some pb)
  have hf : ftO tt' x = Option.none := by unfold ftO; rw [hno]; rfl
  have hm7 : MapU w6 bt (cntT fun y => if y = x then some (pb, R) else tt' y) (ftO fun y => if y = x then some (pb, R) else tt' y) := (hm6.congr fun y => (by
    by_cases c : y = x
    · simp [ftO, c]
    · simp [ftO, c])).cnt (by rw [hf, cntT_add tt' hx hno]; rfl)
  refine ⟨w6, hrun, hg6, _, _, _, m1.putT hg6 hm7, fun b e => ?_, fun q pt' R' e' => ?_, fun q e' => ?_⟩
  · rcases e with e | e
    · exact h2 b e
    · exact ⟨by omega, by omega⟩
  · by_cases c : q = x
    · subst c
      rw [e] at e'
      obtain ⟨rfl, rfl⟩ := Prod.mk.inj (Option.some.inj e')
      exact ⟨fun k => by simp at k, fun _ => ⟨pb, if_pos rfl⟩⟩
    · simp only [c, decide_false, Bool.not_false, Bool.and_true, if_false]
      exact h3 q pt' R' e'
  · by_cases c : q = x
    · subst c; rw [e] at e'; cases e'
    · simp only [c, if_false]
      exact h4 q e'
end
/-- All tables have been cloned, and the places of those that aren't left. -/
structure Cl2 (low r : Nat) (L : List En) (tt : Nat → Option (Nat × List En)) (left : Hd → Bool) (pn bt bp : Nat) (w : World) : Prop where
  ex : ∃ M tt' MT' pl', StoH w M pn bt bp (ftO tt') (nM L) pl' ((hds L).filter fun h => !left h).length tt' MT' ∧ (∀ b, M b → low ≤ b ∧ b ≠ r) ∧ (∀ q pt R, tt q = some (pt, R) → ∃ pt', tt' q = some (pt', R)) ∧ (∀ q, tt q = none → tt' q = none) ∧
    (∀ x, left x = true → pl' x = none) ∧ (∀ x p, pl' x = some p → x ∈ hds L) ∧ (∀ q pt' R n, tt' q = some (pt', R) → (hn : n < R.length) → left R[n].1 = false → pl' R[n].1 = some (some pt', (n : Int)))
section
variable {low r r2 pn bt bp : Nat} {tt : Nat → Option (Nat × List En)} {pl : Hd → Option Plc} {L : List En} {left1 : Nat → Bool} {left : Hd → Bool} {w w' : World}
theorem Cl2.below (h : Cl2 low r L tt left pn bt bp w) (t : RowKit.Below w.heap.size w w') : Cl2 low r L tt left pn bt bp w' := by
  obtain ⟨M, tt', MT', pl', h1, h2⟩ := h
  exact ⟨M, tt', MT', pl', h1.below t, h2⟩
theorem Cl2.grown (h : Cl2 low r L tt left pn bt bp w) (t : w.grownBy w' (some r)) : Cl2 low r L tt left pn bt bp w' := by
  obtain ⟨M, tt', MT', pl', h1, h2, h3⟩ := h
  exact ⟨M, tt', MT', pl', h1.kept (X := fun b => b = r) (tch_grown t rfl) (fun b e => (h2 b e).2), h2, h3⟩
theorem Cl2.head (h : Cl2 low r L tt left pn bt bp w) : w.heap[pn]? = some (.cells #[.map (some bt), .map (some bp)] 95 (0, 0)) := by
  obtain ⟨M, tt', MT', pl', h1, _⟩ := h
  exact h1.head
theorem Cl2.bp_low (h : Cl2 low r L tt left pn bt bp w) : low ≤ bp ∧ bp ≠ r := by
  obtain ⟨M, tt', MT', pl', h1, h2, _⟩ := h
  exact h2 _ h1.own.2.2.1
theorem Cl2.bp_lt (h : Cl2 low r L tt left pn bt bp w) : bp < w.heap.size := by
  obtain ⟨M, tt', MT', pl', h1, h2, _⟩ := h
  exact h1.lt _ h1.own.2.2.1
theorem Cl2.start (h : Cl1 low r tt left1 pn bt bp w) (hG : Good L) (hL : Lays tt pl L) (hl : ∀ q : Nat, okU q → left1 q = false) (hr : w.heap.size ≤ r2) : Cl2 low r2 L tt (fun x => (pl x).isSome) pn bt bp w := by
  obtain ⟨M, tt', MT', h1, h2, h3, h4⟩ := h
  have hq : ∀ q pt R, tt q = some (pt, R) → q < 1024 := fun q pt R e => by
    obtain ⟨a, b⟩ := hL.rows q pt R e
    obtain ⟨x, hx⟩ := List.exists_mem_of_ne_nil R a
    have := b x hx
    rw [← this.2]
    exact hG.hOk this.1
  have hT : ∀ q pt R, tt q = some (pt, R) → ∃ pt', tt' q = some (pt', R) := fun q pt R e => (h3 q pt R e).2 (hl q (okU_lt (by have := hq q pt R e; omega)))
  have hc : cntT tt' = nM L := by
    refine filt_eq (List.range 1024) _ _ fun q => ?_
    rw [← hL.mask]
    cases e : tt q with
    | none => rw [h4 q e]
    | some y =>
      obtain ⟨pt', e'⟩ := hT q y.1 y.2 e
      rw [e']
      rfl
  have hz : ((hds L).filter fun h => !(pl h).isSome) = [] := List.filter_eq_nil_iff.2 fun h hh => by
    have := (hL.has hG.rise h).trans (fndE_mem.2 hh)
    simp [this]
  have hinv : ∀ q pt' R n, tt' q = some (pt', R) → (hn : n < R.length) → (pl R[n].1).isSome = true := fun q pt' R n e hn => by
    cases e2 : tt q with
    | none => rw [h4 q e2] at e; cases e
    | some y =>
      obtain ⟨pt2, e'⟩ := hT q y.1 y.2 e2
      rw [e] at e'
      obtain ⟨rfl, rfl⟩ := Prod.mk.inj (Option.some.inj e')
      rw [hL.plc q y.1 y.2 n e2 hn]
      rfl
  refine ⟨M, tt', MT', fun _ => none, h1.congr (fun _ => rfl) hc (fun _ => rfl) (by rw [hz]; rfl), fun b e => ⟨(h2 b e).1, fun c => by have := h1.lt b e; omega⟩, hT, h4, fun _ _ => rfl, fun x p e => (by cases e), fun q pt' R n e hn e2 => ?_⟩
  rw [hinv q pt' R n e hn] at e2
  cases e2
theorem Cl2.step (h : Cl2 low r L tt left pn bt bp w) (hG : Good L) (hL : Lays tt pl L) {x1 x2 : Int} (hl : left (x1, x2) = true) {q pt n : Nat} {R : List En} (hq : q < 1024) (e : tt q = some (pt, R)) (hn : n < R.length) (hR : R[n].1 = (x1, x2)) :
    ∃ pt', (Instr.lookup MapUT (.map (some bt)) (.int .u64 (q : Nat)) false).run Tryz.prog w = .ok (.pointer (some ⟨pt', 0, none⟩)) w ∧
      ∃ w6, (Instr.mapUpdate MapLT (.map (some bp)) (.agg #[.int .i64 x1, .int .i64 x2]) (.agg #[.pointer (some ⟨pt', 0, none⟩), .int .i64 n])).run Tryz.prog w = .ok () w6 ∧ w.grownBy w6 (some bp) ∧ Cl2 low r L tt (fun z => left z && !decide (z = (x1, x2))) pn bt bp w6 := by
  obtain ⟨M, tt', MT', pl', h1, h2, h3, h4, h5, h6, h7⟩ := h
  obtain ⟨pt', e'⟩ := h3 q pt R e
  have hin : R[n] ∈ L := ((hL.rows q pt R e).2 _ (List.getElem_mem hn)).1
  have hmem : (x1, x2) ∈ hds L := List.mem_map.2 ⟨_, hin, hR⟩
  have hok : HdOk (x1, x2) := by have := hG.hd _ hin; rw [hR] at this; exact this
  have hlk := h1.mapT.look mptU q (okU_lt (by omega))
  rw [show ftO tt' q = some pt' by unfold ftO; rw [e']; rfl] at hlk
  obtain ⟨w6, hrun, hm6, hg6⟩ := h1.mapP.put mptL (by have := List.length_filter_le (fun h => !left h) (hds L); have := hG.len; simp only [hds, List.length_map] at *; omega) (x1, x2) hok (some pt', (n : Int))
  refine ⟨pt', hlk, w6, hrun, hg6, M, tt', MT', _, (h1.putP hg6 hm6).congr (fun _ => rfl) rfl (fun _ => rfl) ?_, h2, h3, h4, fun z hz => ?_, fun z p hz => ?_, fun q' pt2 R' n' e2 hn' hl' => ?_⟩
  · rw [h5 _ hl]
    exact (filter_out_len (rise_hds hG.rise) left hmem hl).symm
  · simp only [Bool.and_eq_true, Bool.not_eq_true', decide_eq_false_iff_not] at hz
    rw [if_neg hz.2]
    exact h5 z hz.1
  · by_cases c : z = (x1, x2)
    · rw [c]; exact hmem
    · rw [if_neg c] at hz; exact h6 z p hz
  · by_cases c : R'[n'].1 = (x1, x2)
    · rw [if_pos c]
      have e3 : ∃ p3, tt q' = some (p3, R') := by
        cases e4 : tt q' with
        | none => rw [h4 q' e4] at e2; cases e2
        | some y =>
          obtain ⟨p5, e5⟩ := h3 q' y.1 y.2 e4
          rw [e2] at e5
          obtain ⟨_, rfl⟩ := Prod.mk.inj (Option.some.inj e5)
          exact ⟨y.1, rfl⟩
      obtain ⟨p3, e3⟩ := e3
      have a := hL.plc q' p3 R' n' e3 hn'
      have b := hL.plc q pt R n e hn
      rw [c] at a
      rw [hR, a] at b
      simp only [Option.some.injEq, Prod.mk.injEq] at b
      have i1 := ((hL.rows q' p3 R' e3).2 _ (List.getElem_mem hn'))
      have i2 := ((hL.rows q pt R e).2 _ (List.getElem_mem hn))
      have i3 := rise_one hG.rise i1.1 i2.1 (c.trans hR.symm)
      have : q' = q := by rw [← i1.2, ← i2.2, i3]
      subst this
      rw [e'] at e2
      obtain ⟨rfl, rfl⟩ := Prod.mk.inj (Option.some.inj e2)
      have : n' = n := by omega
      subst this
      rfl
    · rw [if_neg c]
      refine h7 q' pt2 R' n' e2 hn' ?_
      simpa [c] using hl'
theorem Cl2.done (h : Cl2 low r L tt left pn bt bp w) (hG : Good L) (hL : Lays tt pl L) (hl : ∀ x, HdOk x → left x = false) : ∃ M, StoM w M pn L ∧ ∀ b, M b → low ≤ b := by
  obtain ⟨M, tt', MT', pl', h1, h2, h3, h4, h5, h6, h7⟩ := h
  have hT : ∀ q pt' R, tt' q = some (pt', R) → ∃ pt, tt q = some (pt, R) := fun q pt' R e2 => by
    cases e4 : tt q with
    | none => rw [h4 q e4] at e2; cases e2
    | some y =>
      obtain ⟨p5, e5⟩ := h3 q y.1 y.2 e4
      rw [e2] at e5
      obtain ⟨_, rfl⟩ := Prod.mk.inj (Option.some.inj e5)
      exact ⟨y.1, rfl⟩
  refine ⟨M, ⟨bt, bp, tt', pl', MT', hG, ⟨fun q pt' R e => ?_, fun x hx => ?_, fun q pt' R n e hn => ?_, h6⟩, h1.congr (fun _ => rfl) rfl (fun _ => rfl) ?_⟩, fun b e => (h2 b e).1⟩
  · obtain ⟨pt, e2⟩ := hT q pt' R e
    exact hL.rows q pt R e2
  · obtain ⟨pt, R, e1, e2⟩ := hL.all x hx
    obtain ⟨pt', e3⟩ := h3 _ pt R e1
    exact ⟨pt', R, e3, e2⟩
  · obtain ⟨pt, e2⟩ := hT q pt' R e
    exact h7 q pt' R n e hn (hl _ (hG.hd _ ((hL.rows q pt R e2).2 _ (List.getElem_mem hn)).1))
  · rw [List.filter_eq_self.2 fun x hx => ?_]
    · simp [hds]
    · obtain ⟨r, hr, rfl⟩ := List.mem_map.1 hx
      rw [hl _ (hG.hd r hr)]
      rfl
end
end Go.Proofs.YtaehendpdfpibaaGreatDoor

/-
  A store's Clone, walked.
-/
namespace Go.Proofs.YtaehendpdfpibaaGreatDoor
set_option linter.unusedSimpArgs false
set_option linter.unusedVariables false
open Go.RowKit Go.Sort Go.Lib Go.Shelf

section
variable {w w' : World} {M : Nat → Prop} {ps bt bp pn bt' bp' : Nat} {tt tt0 : Nat → Option (Nat × List En)} {pl pl0 : Hd → Option Plc} {MT MT0 : Nat → Nat → Prop} {L : List En}
theorem Cl1.start {left : Nat → Bool} {w1 : World} (h : StoX w1 (Fresh w w1) pn bt' bp' tt0 pl0 MT0 []) (hl : ∀ q pt R, tt q = some (pt, R) → left q = true) : Cl1 w.heap.size w1.heap.size tt left pn bt' bp' w1 := by
  have e0 : ∀ q, tt0 q = none := fun q => by
    cases e : tt0 q with
    | none => rfl
    | some y =>
      obtain ⟨a, b⟩ := h.lays.rows q y.1 y.2 e
      obtain ⟨x, hx⟩ := List.exists_mem_of_ne_nil y.2 a
      exact absurd (b x hx).1 (by simp)
  have e1 : ∀ x, pl0 x = none := fun x => by
    cases e : pl0 x with
    | none => rfl
    | some p => exact absurd (h.lays.inv x p e) (by simp [hds])
  have ec : nM [] = cntT tt0 := by
    rw [nM_nil]
    have := filt_eq (List.range 1024) (fun q => (tt0 q).isSome) (fun _ => false) (fun q => by rw [e0]; rfl)
    have h0 : ((List.range 1024).filter fun _ => false) = [] := List.filter_eq_nil_iff.2 fun _ _ => by decide
    exact (this.trans (by rw [h0]; rfl)).symm
  refine ⟨_, tt0, MT0, h.mem.congr (fun _ => rfl) ec e1 rfl, fun b e => ?_, fun q pt R e => ⟨fun _ => e0 q, fun k => by rw [hl q pt R e] at k; cases k⟩, fun q _ => e0 q⟩
  rcases e with e | e
  · exact e.elim
  · exact ⟨e.1, by omega⟩
set_option maxHeartbeats 8000000 in
set_option maxRecDepth 100000 in
theorem sclone_call (h : StoX w M ps bt bp tt pl MT L) : Calls Tryz.prog 10 #[psP ps] w fun e w' => ∃ pn, e = .returned (psP pn) ∧ StoM w' (Fresh w w') pn L ∧ RowKit.Below w.heap.size w w' := by
  have HX := Lib.hid h
  have NW := Lib.hid (snew_call w)
  clear h
  go_enter Tryz.func10, Tryz.ntmps10
  go_wp2_with fail
  refine NW.out.mono ?_
  rintro e w1 ⟨pn, rfl, ⟨bn, bq, tt0, pl0, MT0, hX1⟩, hb1⟩
  have C1 := Lib.hid (Cl1.start (tt := tt) (left := fun x => (((ftO tt x).map some : Option (Option Nat))).isSome) hX1 (fun q pt R e => by simp [ftO, e]))
  have B1 := Lib.hid hb1
  obtain ⟨c0, c1, f0, f1⟩ := two_cells (HX.out.below hb1).mem.head
  have hl := cell_lt c0
  have HMt := Lib.hid (HX.out.below hb1).mem.mapT
  have HBt := Lib.hid (Nat.lt_of_lt_of_le (HX.out.mem.lt _ HX.out.mem.own.2.1) hb1.size)
  clear hX1 hb1 NW
  go_wp2_with (at_range; refine wpl_rangeG mptU rfl _ rfl (by rfl) HMt.out ?_; intro w3 cnt3 hrg3 hg3 hsz3 hcn3)
  have hb3 := grown_below hg3
  have B3 := Lib.hid (Bt B1.out hb3)
  have C3 := Lib.hid (C1.out.below hb3)
  have HRG := Lib.hid hrg3
  obtain ⟨r, hr⟩ : ∃ r, r = w1.heap.size := ⟨_, rfl⟩
  have HRL := Lib.hid (show w.heap.size ≤ r from hr ▸ B1.out.size)
  have HRB := Lib.hid (show bt < r from hr ▸ HBt.out)
  rw [← hr] at HRG C3 ⊢
  clear c0 c1 f0 f1 hl HMt HBt hrg3 hg3 hb3 C1 B1 hsz3 hr hcn3
  go_frame
  go_loopw [14] (fun _ wr => ∃ (left : Nat → Bool) (cnt : Nat), Hid (RngG 60 kU okU ptrD none ptrElem wr bt r (nM L) (fun x => (ftO tt x).map some) left cnt) ∧ Hid (Cl1 w.heap.size r tt left pn bn bq wr) ∧ Hid (RowKit.Below w.heap.size w wr)) (fun _ wr => wr.rangeLeft bt r)
  case atStart => exact ⟨_, _, HRG, C3, B3⟩
  case round =>
    obtain ⟨left, cnt, RG, HC, HB⟩ := hrel
    have hrw := RG.out.lt
    go_wp2_with (at_next; refine wpl_nextG mptU rfl _ rfl (by rfl) RG.out ?_ ?_)
    · intro hl0
      have C4 := Lib.hid (Cl2.start HC.out HX.out.good HX.out.lays hl0 (Nat.le_refl _))
      obtain ⟨c0, c1, f0, f1⟩ := two_cells (HX.out.below HB.out).mem.head
      have hl := cell_lt c0
      have HMp := Lib.hid (HX.out.below HB.out).mem.mapP
      have HBp := Lib.hid (Nat.lt_of_lt_of_le (HX.out.mem.lt _ HX.out.mem.own.2.2.1) HB.out.size)
      clear hl0 RG HC C3 HRG hrw
      go_wp2_with (at_range; refine wpl_rangeG mptL rfl _ rfl (by rfl) HMp.out ?_; intro w5 cnt5 hrg5 hg5 hsz5 hcn5)
      have hb5 := grown_below hg5
      have B5 := Lib.hid (Bt HB.out hb5)
      have C5 := Lib.hid (C4.out.below hb5)
      have HRG5 := Lib.hid hrg5
      obtain ⟨r2, hr2⟩ : ∃ r2, r2 = wr.heap.size := ⟨_, rfl⟩
      have HRL2 := Lib.hid (show w.heap.size ≤ r2 from hr2 ▸ HB.out.size)
      have HRB2 := Lib.hid (show bp < r2 from hr2 ▸ HBp.out)
      rw [← hr2] at HRG5 C5 ⊢
      clear c0 c1 f0 f1 hl HMp HBp hrg5 hg5 hb5 C4 hsz5 hr2 hcn5 HB
      go_frame
      go_loopw [31] (fun _ wr => ∃ (left : Hd → Bool) (cnt : Nat), Hid (RngG 31 kH HdOk plD ((none, 0) : Plc) plElem wr bp r2 L.length pl left cnt) ∧ Hid (Cl2 w.heap.size r2 L tt left pn bn bq wr) ∧ Hid (RowKit.Below w.heap.size w wr)) (fun _ wr => wr.rangeLeft bp r2)
      case atStart => exact ⟨_, _, HRG5, C5, B5⟩
      case round =>
        obtain ⟨left, cnt, RG, HC, HB⟩ := hrel
        have hrw := RG.out.lt
        go_wp2_with (at_next; refine wpl_nextG mptL rfl _ rfl (by rfl) RG.out ?_ ?_)
        · intro hl0
          obtain ⟨Mn, S6, S7⟩ := HC.out.done HX.out.good HX.out.lays (fun z hz => hl0 z.1 z.2 hz)
          have HS6 := Lib.hid S6
          have HS7 := Lib.hid S7
          clear hl0 S6 S7
          go_wp2
          go_ret
          exact ⟨pn, rfl, HS6.out.mono (fun b e => .inr ⟨HS7.out b e, HS6.out.lt b e⟩) (fun b e => e.elim (fun e => e.elim) (fun e => e.2)), HB.out⟩
        · intro x1 x2 pp n0 w6 cnt6 hok hlk hfk hrg6 hlt6 hg6 hsz6 hen6
          have C6 := Lib.hid (HC.out.grown hg6)
          have HQ := Lib.hid HC.out.bp_lt
          have B6 := Lib.hid (bel_map HB.out hg6 HRL2.out)
          have RG6 := Lib.hid hrg6
          have HLF := Lib.hid RG.out.left_eq
          obtain ⟨l, hfl⟩ := Option.isSome_iff_exists.1 (fndE_mem.2 (HX.out.lays.inv _ _ hfk))
          obtain ⟨pt, R, n, hq, hT, hn, hRn, hpl⟩ := HX.out.at hfl
          rw [hfk] at hpl
          simp only [Option.some.injEq, Prod.mk.injEq] at hpl
          obtain ⟨rfl, rfl⟩ := hpl
          have hml : maskV l < 1024 := by
            have := ((HX.out.lays.rows _ pt R hq).2 _ (List.getElem_mem hn))
            rw [← this.2]
            exact HX.out.good.hOk this.1
          have hRx : R[n].1 = (x1, x2) := by rw [hRn]
          have HT := Lib.hid hT
          generalize maskV l = q at *
          have HS := Lib.hid (fun (W : World) (hb : RowKit.Below w6.heap.size w6 W) => (C6.out.below hb).step (x1 := x1) (x2 := x2) HX.out.good HX.out.lays hlk hml hq hn hRx)
          unfold mH plV ptrV at hen6
          dsimp only [Option.map] at hen6
          clear hg6 hrg6 hfk HC HB RG C5 B5 HRG5 hrw hT hRn hRx hfl
          have bb := Ba (Ba (Below.refl _ w6) (.cells #[.int .i64 x1, .int .i64 x2] 31)) (.cells #[.pointer (some ⟨pt, 0, none⟩), .int .i64 (n : Int)] 99)
          have k1 := blk_below (heap_alloc_new w6 (.cells #[.int .i64 x1, .int .i64 x2] 31)) (Ba (Below.refl _ _) (.cells #[.pointer (some ⟨pt, 0, none⟩), .int .i64 (n : Int)] 99))
          have k2 := heap_alloc_new (w6.alloc (.cells #[.int .i64 x1, .int .i64 x2] 31)) (.cells #[.pointer (some ⟨pt, 0, none⟩), .int .i64 (n : Int)] 99)
          rw [show (w6.alloc (.cells #[.int .i64 x1, .int .i64 x2] 31)).heap.size = wr.heap.size + 1 by simp [hsz6]] at k2
          rw [hsz6] at k1
          obtain ⟨pt', hlk8, w7, hrun8, hg7, hC7⟩ := HS.out _ bb.drew
          have TM := Lib.hid (tmask_call (HT.out.below (Bt B6.out bb.drew)))
          obtain ⟨h0, h1, _, _⟩ := two_cells k1
          obtain ⟨q0, q1, _, _⟩ := two_cells k2
          obtain ⟨p0, p1, _, _⟩ := two_cells (C6.out.below bb).head
          have hl0 := cell_lt h0
          have hl1 := cell_lt q0
          have hl2 := cell_lt p0
          have hbp := HX.out.mem.lt _ HX.out.mem.own.2.2.1
          have hbq := hC7.bp_low
          have RG7 := Lib.hid (RG6.out.kept ((Tch.of bb.drew : Tch (fun b => b = bq) _ _).more (tch_grown hg7 rfl)) (fun e => by omega) (fun e => hbq.2 e.symm))
          have B7 := Lib.hid (bel_map (Bt B6.out bb.drew) hg7 hbq.1)
          have HC7 := Lib.hid hC7
          have hst : w7.cell? ⟨pn, 0, none⟩ = some (.map (some bn)) ∧ w7.cell? ⟨pn, 1, none⟩ = some (.map (some bq)) ∧ w7.cell? ⟨wr.heap.size, 0, none⟩ = some (.int .i64 x1) ∧ w7.cell? ⟨wr.heap.size, 1, none⟩ = some (.int .i64 x2) ∧ w7.cell? ⟨wr.heap.size + 1, 0, none⟩ = some (.pointer (some ⟨pt, 0, none⟩)) ∧ w7.cell? ⟨wr.heap.size + 1, 1, none⟩ = some (.int .i64 (n : Int)) := by
            obtain ⟨g0, g1, _, _⟩ := two_cells HC7.out.head
            have hbl : bq < wr.heap.size := HQ.out
            obtain ⟨g2, g3, _, _⟩ := two_cells (grown_blk (show ((w6.alloc (.cells #[.int .i64 x1, .int .i64 x2] 31)).alloc (.cells #[.pointer (some ⟨pt, 0, none⟩), .int .i64 (n : Int)] 99)).drew.heap[wr.heap.size]? = _ from k1) hg7 (by omega))
            obtain ⟨g4, g5, _, _⟩ := two_cells (grown_blk (show ((w6.alloc (.cells #[.int .i64 x1, .int .i64 x2] 31)).alloc (.cells #[.pointer (some ⟨pt, 0, none⟩), .int .i64 (n : Int)] 99)).drew.heap[wr.heap.size + 1]? = _ from k2) hg7 (by omega))
            exact ⟨g0, g1, g2, g3, g4, g5⟩
          clear hg7 bb k1 k2 hbp hbq hC7
          go_wp2_with fail
          go_region_held3 (fun W => W.cell? ⟨pn, 0, none⟩ = some (.map (some bn)) ∧ W.cell? ⟨pn, 1, none⟩ = some (.map (some bq)) ∧ W.cell? ⟨wr.heap.size, 0, none⟩ = some (.int .i64 x1) ∧ W.cell? ⟨wr.heap.size, 1, none⟩ = some (.int .i64 x2) ∧ W.cell? ⟨wr.heap.size + 1, 0, none⟩ = some (.pointer (some ⟨pt, 0, none⟩)) ∧ W.cell? ⟨wr.heap.size + 1, 1, none⟩ = some (.int .i64 (n : Int))) (first | exact ⟨p0, p1, h0, h1, q0, q1⟩ | exact hst) ((go_at_call 41; refine TM.out.mono ?_; rintro e w8 ⟨rfl, rfl⟩))
          go_wp2
          go_roundw
          case measure => rw [RG7.out.left_eq, HLF.out]; exact hlt6
          case rel => exact ⟨_, _, RG7, HC7, B7⟩
    · intro x y w4 cnt4 hok hlk pt hfk hye hrg4 hlt4 hg4 hsz4 hen4
      subst hye
      have C4 := Lib.hid (HC.out.grown hg4)
      have B4 := Lib.hid (bel_map HB.out hg4 HRL.out)
      have RG4 := Lib.hid hrg4
      have HLF := Lib.hid RG.out.left_eq
      obtain ⟨R, hq⟩ : ∃ R, tt x = some (pt, R) := by
        unfold ftO at hfk
        cases e : tt x with
        | none => rw [e] at hfk; cases hfk
        | some z => rw [e] at hfk; obtain rfl := Option.some.inj hfk; exact ⟨z.2, rfl⟩
      have hx : x < 1024 := by
        obtain ⟨a, b⟩ := HX.out.lays.rows x pt R hq
        obtain ⟨z, hz⟩ := List.exists_mem_of_ne_nil R a
        rw [← (b z hz).2]
        exact HX.out.good.hOk (b z hz).1
      have HV := Lib.hid (tclone_call ((HX.out.mem.tab x pt R hq).below B4.out.drew))
      have hs4 : w4.drew.heap.size = w4.heap.size := rfl
      have HS := Lib.hid (fun (W5 : World) (pb : Nat) (hb : RowKit.Below w4.drew.heap.size w4.drew W5) (hT : Tab W5 (Fresh w4.drew W5) pb x R) => (C4.out.below (Below.refl _ w4).drew).step (w5 := W5) (pb := pb) hx hlk hq hb hT B4.out.size (by rw [hs4, hsz4]; exact hrw))
      obtain ⟨c0, c1, f0, f1⟩ := two_cells C4.out.head
      have hl := cell_lt c0
      unfold mU ptrV at hen4
      dsimp only [Option.map] at hen4
      clear hg4 hrg4 hfk HC HB RG C3 B3 HRG hrw c1 f1 hs4
      go_wp2_with fail
      go_region_held3 (fun W => W.cell? ⟨pn, 0, none⟩ = some (.map (some bn))) (first | exact c0 | exact hst | exact hst6) ((go_at_call 40; refine HV.out.mono ?_; rintro e w5 ⟨pb, rfl, hT5, hb5⟩; have hst := Bc hb5 hl c0; obtain ⟨w6, hrun6, hg6, hC6⟩ := HS.out _ _ hb5 hT5; have hst6 := (two_cells hC6.head).1))
      have hbt := HX.out.mem.lt _ HX.out.mem.own.2.1
      have hbn := hC6.bt_low
      have RG6 := RG4.out.kept (((Tch.of (Below.refl _ w4).drew : Tch (fun b => b = bn) w4 w4.drew).more (Tch.of hb5)).more (tch_grown hg6 rfl)) (fun e => by omega) (fun e => hbn.2 e.symm)
      have B6 := bel_map (Bt B4.out.drew hb5) hg6 hbn.1
      go_wp2
      go_roundw
      case measure => rw [RG6.left_eq, HLF.out]; exact hlt4
      case rel => exact ⟨_, _, RG6, hC6, B6⟩
end
end Go.Proofs.YtaehendpdfpibaaGreatDoor
