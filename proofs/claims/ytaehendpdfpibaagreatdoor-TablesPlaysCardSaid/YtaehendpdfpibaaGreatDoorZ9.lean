import Derived.Test.YtaehendpdfpibaaGreatDoorZ8

/-
  A store's lift: an entity is taken out of its place.
-/
namespace Go.Proofs.YtaehendpdfpibaaGreatDoor
set_option linter.unusedSimpArgs false
set_option linter.unusedVariables false
open Go.RowKit Go.Sort Go.Lib Go.Shelf

theorem takeC_mem {R : List En} (hn : (hds R).Nodup) {n : Nat} (h : n < R.length) (r : En) : r ∈ takeC R n ↔ r ∈ R ∧ r.1 ≠ R[n].1 := by
  have inj : ∀ i j (hi : i < R.length) (hj : j < R.length), R[i].1 = R[j].1 → i = j := fun i j hi hj e => by
    unfold hds at hn
    have := (List.getElem_inj (h₀ := by simpa using hi) (h₁ := by simpa using hj) hn).1 (by simpa using e)
    exact this
  have hget : ∀ k (hk : k < R.length - 1), (takeC R n)[k]'(by rw [takeC_len]; exact hk) = if k = n then R[R.length - 1]'(by omega) else R[k]'(by omega) := fun k hk => by
    have := takeC_get R n k hk
    rw [getElem!_pos (takeC R n) k (by rw [takeC_len]; exact hk), getElem!_pos R (R.length - 1) (by omega), getElem!_pos R k (by omega)] at this
    exact this
  constructor
  · intro hm
    obtain ⟨k, hk, rfl⟩ := List.getElem_of_mem hm
    have hk' : k < R.length - 1 := by rw [takeC_len] at hk; exact hk
    rw [hget k hk']
    by_cases c : k = n
    · rw [if_pos c]
      exact ⟨List.getElem_mem _, fun e => by have := inj _ _ _ _ e; omega⟩
    · rw [if_neg c]
      exact ⟨List.getElem_mem _, fun e => c (inj _ _ _ _ e)⟩
  · rintro ⟨hm, hne⟩
    obtain ⟨k, hk, rfl⟩ := List.getElem_of_mem hm
    have hkn : k ≠ n := fun e => by subst e; exact hne rfl
    by_cases c : k = R.length - 1
    · have hn1 : n < R.length - 1 := by omega
      have := hget n hn1
      rw [if_pos rfl] at this
      subst c
      rw [← this]
      exact List.getElem_mem _
    · have := hget k (by omega)
      rw [if_neg hkn] at this
      rw [← this]
      exact List.getElem_mem _
def lastH (R : List En) : Hd := R[R.length - 1]!.1
/-- An entity less. -/
theorem Lays.take {tt : Nat → Option (Nat × List En)} {pl : Hd → Option Plc} {L : List En} (h : Lays tt pl L) (hL : RiseE L) {x : Hd} {l : List Vl} {pt n : Nat} {R : List En} (h0 : (x, l) ∈ L) (hq : tt (maskV l) = some (pt, R)) (hn : n < R.length) (hR : R[n] = (x, l)) :
    Lays (fun y => if y = maskV l then (if R.length = 1 then Option.none else some (pt, takeC R n)) else tt y) (fun z => if n < R.length - 1 ∧ z = lastH R then some (some pt, (n : Int)) else if z = x then Option.none else pl z) (delE L x) := by
  have hnd := h.nodup hq
  have hmem : ∀ r, r ∈ takeC R n ↔ r ∈ R ∧ r.1 ≠ x := fun r => by rw [takeC_mem hnd hn, hR]
  have hdl := mem_delE L x
  have hlast : lastH R = (R[R.length - 1]'(by omega)).1 := by unfold lastH; rw [getElem!_pos R _ (by omega)]
  refine ⟨fun q pt' R' e => ?_, fun r hr => ?_, fun q pt' R' i e hi => ?_, fun y p e => ?_⟩
  · by_cases c : q = maskV l
    · rw [if_pos c] at e
      by_cases c1 : R.length = 1
      · rw [if_pos c1] at e; cases e
      · rw [if_neg c1] at e
        simp only [Option.some.injEq, Prod.mk.injEq] at e
        obtain ⟨rfl, rfl⟩ := e
        refine ⟨fun e2 => ?_, fun r hr => ?_⟩
        · have := takeC_len R n
          rw [e2] at this
          simp at this
          omega
        · have hr' := (hmem r).1 hr
          have := (h.rows _ _ _ hq).2 r hr'.1
          exact ⟨(hdl r).2 ⟨this.1, hr'.2⟩, by rw [this.2, c]⟩
    · rw [if_neg c] at e
      refine ⟨(h.rows q pt' R' e).1, fun r hr => ?_⟩
      have := (h.rows q pt' R' e).2 r hr
      refine ⟨(hdl r).2 ⟨this.1, fun e2 => c ?_⟩, this.2⟩
      have e3 := rise_one hL this.1 h0 e2
      rw [← this.2, e3]
  · obtain ⟨hr1, hr2⟩ := (hdl r).1 hr
    obtain ⟨pt', R', e, hm⟩ := h.all r hr1
    by_cases c : maskV r.2 = maskV l
    · rw [c, hq] at e
      simp only [Option.some.injEq, Prod.mk.injEq] at e
      obtain ⟨rfl, rfl⟩ := e
      have hm2 := (hmem r).2 ⟨hm, hr2⟩
      have c1 : ¬ R.length = 1 := fun c1 => by
        have := takeC_len R n
        rw [c1] at this
        rw [List.length_eq_zero_iff.1 this] at hm2
        cases hm2
      exact ⟨pt, takeC R n, by rw [if_pos c, if_neg c1], hm2⟩
    · exact ⟨pt', R', by rw [if_neg c]; exact e, hm⟩
  · by_cases c : q = maskV l
    · rw [if_pos c] at e
      by_cases c1 : R.length = 1
      · rw [if_pos c1] at e; cases e
      · rw [if_neg c1] at e
        simp only [Option.some.injEq, Prod.mk.injEq] at e
        obtain ⟨rfl, rfl⟩ := e
        have hi' : i < R.length - 1 := by rw [takeC_len] at hi; exact hi
        have hg := takeC_get R n i hi'
        rw [getElem!_pos (takeC R n) i hi, getElem!_pos R (R.length - 1) (by omega), getElem!_pos R i (by omega)] at hg
        rw [hg]
        by_cases c2 : i = n
        · rw [if_pos c2]
          subst c2
          rw [if_pos ⟨hi', hlast.symm⟩]
        · rw [if_neg c2]
          have n1 : ¬ (n < R.length - 1 ∧ R[i].1 = lastH R) := fun e2 => by
            have := h.inj hq (i := i) (j := R.length - 1) (by omega) (by omega) (e2.2.trans hlast)
            omega
          have n2 : ¬ R[i].1 = x := fun e2 => c2 (h.inj hq (i := i) (j := n) (by omega) hn (by rw [e2, hR]))
          rw [if_neg n1, if_neg n2]
          exact h.plc _ _ _ i hq (by omega)
    · rw [if_neg c] at e
      have hr := (h.rows q pt' R' e).2 _ (List.getElem_mem hi)
      have n1 : ¬ (n < R.length - 1 ∧ R'[i].1 = lastH R) := fun e2 => by
        have h3 := (h.rows _ _ _ hq).2 _ (List.getElem_mem (show R.length - 1 < R.length by omega))
        have := rise_one hL hr.1 h3.1 (e2.2.trans hlast)
        rw [this] at hr
        exact c (hr.2.symm.trans h3.2)
      have n2 : ¬ R'[i].1 = x := fun e2 => by
        have := rise_one hL hr.1 h0 e2
        rw [this] at hr
        exact c hr.2.symm
      rw [if_neg n1, if_neg n2]
      exact h.plc q pt' R' i e hi
  · have key : ∀ r ∈ L, r.1 = y → r.1 ≠ x → y ∈ hds (delE L x) := fun r hr e1 e2 => List.mem_map.2 ⟨r, (hdl r).2 ⟨hr, e2⟩, e1⟩
    by_cases c : n < R.length - 1 ∧ y = lastH R
    · have h3 := (h.rows _ _ _ hq).2 _ (List.getElem_mem (show R.length - 1 < R.length by omega))
      refine key _ h3.1 (by rw [c.2, hlast]) (fun e2 => ?_)
      have := h.inj hq (i := R.length - 1) (j := n) (by omega) hn (by rw [e2, hR])
      omega
    · rw [if_neg c] at e
      by_cases c2 : y = x
      · rw [if_pos c2] at e; cases e
      · rw [if_neg c2] at e
        obtain ⟨r, hr, e3⟩ := List.mem_map.1 (h.inv y p e)
        exact key r hr e3 (by rw [e3]; exact c2)
theorem lift_nM {tt : Nat → Option (Nat × List En)} {pl : Hd → Option Plc} {L : List En} (h : Lays tt pl L) (hG : Good L) {x : Hd} {l : List Vl} {pt n : Nat} {R : List En} (h0 : (x, l) ∈ L) (hq : tt (maskV l) = some (pt, R)) (hn : n < R.length) (hR : R[n] = (x, l)) :
    nM L = nM (delE L x) + (if R.length = 1 then 1 else 0) := by
  have hl := (h.take hG.rise h0 hq hn hR).mask (maskV l)
  have hm := nM_delE hG.rise h0 (hG.hOk h0)
  rw [if_pos rfl] at hl
  rw [hm, ← hl]
  by_cases c : R.length = 1 <;> simp [c]

section
variable {w w' : World} {M X : Nat → Prop} {ps bt bp ct cp : Nat} {ft ft' : Nat → Option Nat} {tt : Nat → Option (Nat × List En)} {pl pl' : Hd → Option Plc} {MT : Nat → Nat → Prop} {L : List En} {A : Nat → Addr}
/-- The store's memory behind the table's Take. -/
theorem StoX.taken (h : StoX w M ps bt bp tt pl MT L) {x : Hd} {l : List Vl} {pt n : Nat} {R : List En} (hq : tt (maskV l) = some (pt, R)) {w0 w1 : World} (hb : RowKit.Below w.heap.size w w0) (hT : Tab w1 (New (MT (maskV l)) w0 w1) pt (maskV l) (takeC R n)) (ht : Tch (MT (maskV l)) w0 w1) :
    ∃ tt1 MT1, (∀ y, tt1 y = if y = maskV l then some (pt, takeC R n) else tt y) ∧ StoH w1 (New M w0 w1) ps bt bp (ftO tt) (nM L) pl L.length tt1 MT1 ∧ Tch M w w1 := by
  have m := (h.mem.below hb).tabTo hq hT ht
  exact ⟨_, _, fun _ => rfl, m, (Tch.of hb : Tch M w w0).more (ht.mono fun b e => (h.mem.apart _ b e).1)⟩

set_option maxHeartbeats 4000000 in
set_option maxRecDepth 100000 in
theorem slift_call (h : StoX w M ps bt bp tt pl MT L) (x1 x2 : Int) (hx : HdOk (x1, x2)) (l : List Vl) {pt n : Nat} {R : List En} (h0 : ((x1, x2), l) ∈ L) (hq : tt (maskV l) = some (pt, R)) (hn : n < R.length) (hR : R[n] = ((x1, x2), l)) (hV : Env M w A) :
    Calls Tryz.prog 43 #[psP ps, .agg #[ptP pt, .int .i64 n]] w fun e w' => (∃ v, e = .returned (.agg #[.int .i64 x1, .int .i64 x2, v]) ∧ w'.ownsRow w.heap.size 34 3 v l.length (flat encV l)) ∧ StoM w' (New M w w') ps (delE L (x1, x2)) ∧ Tch M w w' := by
  have hTb := h.mem.tab _ _ _ hq
  have hG' := h.good.del (x1, x2)
  have hLy := h.lays.take h.good.rise h0 hq hn hR
  have hnM := lift_nM h.lays h.good h0 hq hn hR
  have hlenD := len_delE h.good.rise (show (x1, x2) ∈ hds L from List.mem_map_of_mem h0)
  have hpx : pl (x1, x2) = some (some pt, (n : Int)) := by have := h.lays.plc _ _ _ n hq hn; rwa [hR] at this
  have hlastp : (pl (lastH R)).isSome = true := by
    have := h.lays.plc _ _ _ (R.length - 1) hq (by omega)
    unfold lastH
    rw [getElem!_pos R _ (by omega), this]; rfl
  have hlastx : n < R.length - 1 → lastH R ≠ (x1, x2) := fun hc e => by
    unfold lastH at e
    rw [getElem!_pos R _ (by omega)] at e
    have := h.lays.inj hq (i := R.length - 1) (j := n) (by omega) hn (by rw [e, hR])
    omega
  have hlastOk : HdOk (lastH R) := by
    unfold lastH
    rw [getElem!_pos R _ (by omega)]
    exact h.good.hd _ ((h.lays.rows _ _ _ hq).2 _ (List.getElem_mem _)).1
  have hml := h.good.hOk h0
  have hR128 := hTb.size
  have hL128 := h.good.len
  have hL0 : 0 < L.length := List.length_pos_of_mem h0
  have HK : Hid (∀ W, RowKit.Below w.heap.size w W → Calls Tryz.prog 83 #[ptP pt, .int .i64 n] W fun e w' => (∃ v, e = .returned (.tuple #[.agg #[.int .i64 x1, .int .i64 x2, v], .nilIface]) ∧ w'.ownsRow W.heap.size 34 3 v l.length (flat encV l)) ∧ Tab w' (New (MT (maskV l)) W w') pt (maskV l) (takeC R n) ∧ Tch (MT (maskV l)) W w') := fun W hb => by
    have := ttake_yes (hTb.below hb) n hn (hV.bits W (Tch.of hb))
    rwa [getElem!_pos R n hn, hR] at this
  have HT1 : Hid (∀ w0 w1, RowKit.Below w.heap.size w w0 → Tab w1 (New (MT (maskV l)) w0 w1) pt (maskV l) (takeC R n) → Tch (MT (maskV l)) w0 w1 → _) := fun w0 w1 hb hT ht => h.taken (x := (x1, x2)) hq hb hT ht
  have HH := Lib.hid h.mem
  -- the end of all ways
  have HEnd : Hid (∀ (W : World) (M' : Nat → Prop) (ft' : Nat → Option Nat) (ct' : Nat) (pl' : Hd → Option Plc) (cp' : Nat) (tt' : Nat → Option (Nat × List En)) (MT' : Nat → Nat → Prop), StoH W M' ps bt bp ft' ct' pl' cp' tt' MT' → (∀ y, tt' y = if y = maskV l then (if R.length = 1 then Option.none else some (pt, takeC R n)) else tt y) → (∀ y, ft' y = ftO tt' y) → ct' = nM (delE L (x1, x2)) →
      (∀ z, pl' z = if n < R.length - 1 ∧ z = lastH R then some (some pt, (n : Int)) else if z = (x1, x2) then Option.none else pl z) → cp' + 1 = L.length → StoM W M' ps (delE L (x1, x2))) := fun W M' ft' ct' pl' cp' tt' MT' m e1 e2 e3 e4 e5 => by
    have : tt' = (fun y => if y = maskV l then (if R.length = 1 then Option.none else some (pt, takeC R n)) else tt y) := funext e1
    refine ⟨bt, bp, tt', _, MT', hG', this ▸ hLy, m.congr e2 e3 e4 (by omega)⟩
  have HV := Lib.hid hV
  have HF : Hid (ftO tt (maskV l) = some pt) := by show ftO tt (maskV l) = some pt; unfold ftO; rw [hq]; rfl
  have HX := Lib.hid hx
  have HTT := Lib.hid (show ∀ y, y ≠ maskV l → ftO tt y = (tt y).map fun x => x.1 from fun y _ => rfl)
  clear h hTb hG' hLy hlenD hV hR h0 hq hx
  generalize maskV l = q at *
  go_enter Tryz.func43, Tryz.ntmps43
  go_wp2_with fail
  have bb := Ba (Ba (Below.refl _ w) (.cells #[.pointer (some ⟨pt, 0, none⟩), .int .i64 n] 99)) (.cells #[.int .i64 0, .int .i64 0, .slice none 0 0] 38)
  have hps := HH.out.lt _ HH.out.own.1
  have hbt := HH.out.lt _ HH.out.own.2.1
  have hbp := HH.out.lt _ HH.out.own.2.2.1
  have x0 := blk_below (heap_alloc_new w (.cells #[.pointer (some ⟨pt, 0, none⟩), .int .i64 n] 99)) (Ba (Below.refl _ _) (.cells #[.int .i64 0, .int .i64 0, .slice none 0 0] 38))
  have r0 := heap_alloc_new (w.alloc (.cells #[.pointer (some ⟨pt, 0, none⟩), .int .i64 n] 99)) (.cells #[.int .i64 0, .int .i64 0, .slice none 0 0] 38)
  have hs0 : ((w.alloc (.cells #[.pointer (some ⟨pt, 0, none⟩), .int .i64 n] 99)).alloc (.cells #[.int .i64 0, .int .i64 0, .slice none 0 0] 38)).heap.size = w.heap.size + 1 + 1 := by simp
  rw [show (w.alloc (.cells #[.pointer (some ⟨pt, 0, none⟩), .int .i64 n] 99)).heap.size = w.heap.size + 1 by simp] at r0
  refine (HK.out _ bb).mono ?_
  rintro e w1 ⟨⟨v, rfl, ho1⟩, hT1, ht1⟩
  obtain ⟨tt1, MT1, htt1, m1, t1⟩ := HT1.out _ _ bb hT1 ht1
  have nMT : ∀ b, w.heap.size ≤ b → ¬ MT q b := fun b hb e => by have := HH.out.lt _ (HH.out.apart _ _ e).1; omega
  have X1 := ht1.blk x0 (nMT _ (Nat.le_refl _))
  have r1 := ht1.blk r0 (nMT _ (by omega))
  have hs1 := ht1.size
  rw [hs0] at hs1
  obtain ⟨pv, cv, rfl, _, _, _⟩ := row_val ho1
  have bE := Ba (Below.refl _ w1) (.cells #[.int .i64 x1, .int .i64 x2, .slice pv l.length cv] 38)
  have bD := bE.drew
  obtain ⟨d0, d1, _, _⟩ := two_cells (blk_below m1.head bE)
  have hd := cell_lt d0
  have eE := heap_alloc_new w1 (.cells #[.int .i64 x1, .int .i64 x2, .slice pv l.length cv] 38)
  obtain ⟨w2, hrun2, hm2, hg2⟩ := (m1.below bD).mapP.del mptL (x1, x2) HX.out 0
  replace hm2 := hm2.cnt (show _ = L.length - 1 by rw [hpx]; rfl)
  replace hrun2 : (Builtin.delete_ #[MapLT, 31] 0 #[.map (some bp), .agg #[.int .i64 x1, .int .i64 x2]]).run Tryz.prog (w1.alloc (.cells #[.int .i64 x1, .int .i64 x2, .slice pv l.length cv] 38)).drew = .ok (.tuple #[]) w2 := hrun2
  have m2 := Lib.hid ((m1.below bD).putP hg2 hm2)
  have t2 := Lib.hid ((t1.more (Tch.of bD : Tch M w1 _)).more (tch_grown hg2 HH.out.own.2.2.1))
  have n1 : w.heap.size ≠ bp := Nat.ne_of_gt hbp
  have n2 : w.heap.size + 1 ≠ bp := by omega
  have n3 : w1.heap.size ≠ bp := by omega
  have X2 := Lib.hid (grown_blk (blk_below X1 bD) hg2 n1)
  have R2 := Lib.hid (grown_blk (blk_below r1 bD) hg2 n2)
  have E2 := Lib.hid (grown_blk (show (w1.alloc (.cells #[.int .i64 x1, .int .i64 x2, .slice pv l.length cv] 38)).drew.heap[w1.heap.size]? = _ from eE) hg2 n3)
  have O2 := Lib.hid (row_keep (row_below (row_mono ho1 (show w.heap.size ≤ _ by omega)) bD) (fun g hg => hg2.block g (row_lt (row_below (row_mono ho1 (show w.heap.size ≤ _ by omega)) bD) hg) (fun e => by
    have := row_base ho1 hg
    have := Option.some.inj e
    omega)))
  have B2s := hg2.size
  have hsE : (w1.alloc (.cells #[.int .i64 x1, .int .i64 x2, .slice pv l.length cv] 38)).drew.heap.size = w1.heap.size + 1 := by simp [World.drew]
  rw [hsE] at B2s
  have HO1 := Lib.hid ho1
  have HTT1 := Lib.hid htt1
  clear X1 r1 eE hm2 hg2 bE bD ho1 x0 r0 hT1 ht1 HK HT1 htt1
  go_wp2_with fail
  go_region
  clear hrun2
  have T2 := Lib.hid (m2.out.tab q pt (takeC R n) (by rw [HTT1.out, if_pos rfl]))
  have hT2len : (takeC R n).length = R.length - 1 := takeC_len R n
  obtain ⟨⟨c0, c1⟩, ⟨cf0, cf1⟩⟩ : (w2.cell? ⟨w.heap.size, 0, none⟩ = some (.pointer (some ⟨pt, 0, none⟩)) ∧ w2.cell? ⟨w.heap.size, 1, none⟩ = some (.int .i64 n)) ∧ (w2.frozen? ⟨w.heap.size, 0, none⟩ = false ∧ w2.frozen? ⟨w.heap.size, 1, none⟩ = false) := by
    obtain ⟨a1, a2, a3, a4⟩ := two_cells X2.out
    exact ⟨⟨a1, a2⟩, a3, a4⟩
  have hc := cell_lt c0
  clear d0 d1 hd hsE bb hs0 n1 n2 n3 nMT m1 t1
  have VO := Lib.hid (fun g' (hg' : (Value.slice pv l.length cv).ownBlock = some g') => (⟨Nat.lt_of_lt_of_le (show w.heap.size + 1 < _ by simp) (row_base HO1.out hg'), row_lt HO1.out hg'⟩ : w.heap.size + 1 < g' ∧ g' < w1.heap.size))
  clear HO1
  by_cases hC : n < R.length - 1
  · as_aux_lemma =>
    have hlst : (takeC R n)[n]!.1 = lastH R := by rw [takeC_get R n n hC, if_pos rfl]; rfl
    have HHd := Lib.hid (thandle_yes T2.out n (by omega))
    rw [hlst] at HHd
    unfold aggH at HHd
    have hx2 := hlastx hC
    generalize lastH R = y at *
    obtain ⟨y1, y2⟩ := y
    dsimp only at HHd
    go_wp2_with fail
    refine HHd.out.mono ?_
    rintro e w3 ⟨rfl, hb3⟩
    have bA := Ba (Below.refl _ w3) (.cells #[.int .i64 y1, .int .i64 y2] 31)
    have b3 := Lib.hid (Bt hb3 bA)
    have hs3 := hb3.size
    clear hb3 HHd c0 c1 cf0 cf1 hc
    obtain ⟨d0, d1, _, _⟩ := two_cells (m2.out.below b3.out).head
    have hd := cell_lt d0
    obtain ⟨c0, c1, _, _⟩ := two_cells (blk_below X2.out b3.out)
    have hc := cell_lt c0
    obtain ⟨w4, hrun4, hm4, hg4⟩ := (m2.out.below b3.out.drew).mapP.put mptL (by omega) (y1, y2) hlastOk (some pt, (n : Int))
    replace hrun4 : (Instr.mapUpdate MapLT (.map (some bp)) (.agg #[.int .i64 y1, .int .i64 y2]) (.agg #[.pointer (some ⟨pt, 0, none⟩), .int .i64 n])).run Tryz.prog (w3.alloc (.cells #[.int .i64 y1, .int .i64 y2] 31)).drew = .ok () w4 := hrun4
    have m4 := Lib.hid ((m2.out.below b3.out.drew).putP hg4 hm4)
    have t4 := Lib.hid ((t2.out.more (Tch.of b3.out.drew : Tch M w2 _)).more (tch_grown hg4 HH.out.own.2.2.1))
    have X4 := Lib.hid (grown_blk (show (w3.alloc (.cells #[.int .i64 y1, .int .i64 y2] 31)).drew.heap[w.heap.size]? = _ from blk_below X2.out b3.out.drew) hg4 (by omega))
    have R4 := Lib.hid (grown_blk (show (w3.alloc (.cells #[.int .i64 y1, .int .i64 y2] 31)).drew.heap[w.heap.size + 1]? = _ from blk_below R2.out b3.out.drew) hg4 (by omega))
    have E4 := Lib.hid (grown_blk (show (w3.alloc (.cells #[.int .i64 y1, .int .i64 y2] 31)).drew.heap[w1.heap.size]? = _ from blk_below E2.out b3.out.drew) hg4 (by omega))
    have O3 := row_below O2.out b3.out.drew
    have O4 := Lib.hid (row_keep O3 (fun g hg => hg4.block g (row_lt O3 hg) (fun e => by
      have := VO.out g hg
      have := Option.some.inj e
      omega)))
    have hs4 := hg4.size
    have hsA : (w3.alloc (.cells #[.int .i64 y1, .int .i64 y2] 31)).drew.heap.size = w3.heap.size + 1 := by simp [World.drew]
    rw [hsA] at hs4
    clear hm4 hg4 bA O3 hsA
    go_wp2_with fail
    go_region
    clear hrun4 c0 c1 hc d0 d1 hd
    have T4 := Lib.hid (m4.out.tab q pt (takeC R n) (by rw [HTT1.out, if_pos rfl]))
    obtain ⟨c0, c1, _, _⟩ := two_cells X4.out
    have hc := cell_lt c0
    go_wp2_with fail
    refine (tlen_call T4.out).mono ?_
    rintro e w5 ⟨rfl, rfl⟩
    have hz : ¬ (((takeC R n).length : Nat) : Int) = 0 := by rw [hT2len]; omega
    obtain ⟨⟨e0, e1, e2⟩, _, _, _⟩ := three_cells E4.out
    have he := cell_lt e0
    obtain ⟨⟨r0, r1, r2⟩, r3, r4, r5⟩ := three_cells R4.out
    have hr := cell_lt r0
    go_wp2
    have F := far3_tch w4 (w.heap.size + 1) (.int .i64 x1) (.int .i64 x2) (.slice pv l.length cv)
    have Fs := F.size
    have hs0 : ((w.alloc (.cells #[.pointer (some ⟨pt, 0, none⟩), .int .i64 n] 99)).alloc (.cells #[.int .i64 0, .int .i64 0, .slice none 0 0] 38)).heap.size = w.heap.size + 1 + 1 := by simp
    exact bodyPost_ret (v := .agg #[.int .i64 x1, .int .i64 x2, .slice pv l.length cv]) (by simp [results, Tryz.results43, go_sem, *]) rfl ⟨⟨_, rfl, set3_row R4.out O4.out (by decide) _ _ _⟩, HEnd.out _ _ _ _ _ _ _ _ ((m4.out.kept F (fun b e1 e2 => by
        rcases e1 with e1 | e1
        · have := HH.out.lt b e1; omega
        · omega)).mono (fun b e => e.imp id (fun e => ⟨by omega, by omega⟩)) (New.lt HH.out.lt (by omega)))
      (fun y => by rw [HTT1.out, if_neg (show ¬ R.length = 1 by omega)])
      (fun y => by
        by_cases c : y = q
        · subst c; rw [HF.out]; unfold ftO; rw [HTT1.out, if_pos rfl]; rfl
        · rw [HTT.out y c]; unfold ftO; rw [HTT1.out, if_neg c])
      (by rw [hnM, if_neg (show ¬ R.length = 1 by omega), Nat.add_zero])
      (fun z => by
        by_cases c : z = (y1, y2)
        · rw [if_pos c, if_pos ⟨hC, c⟩]
        · have c2 : ¬ (n < R.length - 1 ∧ z = (y1, y2)) := fun e => c e.2
          rw [if_neg c, if_neg c2])
      (by
        rw [if_pos (show ((if ((y1, y2) : Hd) = (x1, x2) then none else pl (y1, y2)).isSome) = true by rw [if_neg hx2]; exact hlastp)]
        omega), t4.out.fresh3 (Nat.le_succ _) _ _ _⟩
  · as_aux_lemma =>
    have HHd := Lib.hid (thandle_no T2.out (n : Int) (by omega) (HV.out.er w2 t2.out).e7)
    unfold errC at HHd
    generalize A 0 = ea at HHd
    go_wp2_with fail
    refine HHd.out.mono ?_
    rintro e w3 ⟨rfl, hb3⟩
    have bA := Ba (Below.refl _ w3) (.cells #[.int .i64 0, .int .i64 0] 31)
    have b3 := Lib.hid (Bt hb3 bA)
    have hs3 := hb3.size
    clear hb3 HHd c0 c1 cf0 cf1 hc bA
    have m4 := Lib.hid (m2.out.below b3.out)
    have t4 := Lib.hid (t2.out.more (Tch.of b3.out : Tch M w2 _))
    have X4 := Lib.hid (blk_below X2.out b3.out)
    have R4 := Lib.hid (blk_below R2.out b3.out)
    have E4 := Lib.hid (blk_below E2.out b3.out)
    have O4 := Lib.hid (row_below O2.out b3.out)
    have hs4 : (w3.alloc (.cells #[.int .i64 0, .int .i64 0] 31)).heap.size = w3.heap.size + 1 := by simp
    obtain ⟨c0, c1, _, _⟩ := two_cells X4.out
    have hc := cell_lt c0
    have T4 := Lib.hid (m4.out.tab q pt (takeC R n) (by rw [HTT1.out, if_pos rfl]))
    go_wp2_with fail
    refine (tlen_call T4.out).mono ?_
    rintro e w5 ⟨rfl, rfl⟩
    obtain ⟨⟨e0, e1, e2⟩, _, _, _⟩ := three_cells E4.out
    have he := cell_lt e0
    by_cases hA : R.length = 1
    · as_aux_lemma =>
      have hz : (((takeC R n).length : Nat) : Int) = 0 := by rw [hT2len]; omega
      obtain ⟨d0, d1, _, _⟩ := two_cells m4.out.head
      have hd := cell_lt d0
      obtain ⟨w6, hrun6, hm6, hg6⟩ := (m4.out.below (Below.refl _ _).drew).mapT.del mptU q (okU_lt (by omega)) 0
      replace hrun6 : (Builtin.delete_ #[MapUT, 60] 0 #[.map (some bt), .int .u64 (q : Nat)]).run Tryz.prog (w3.alloc (.cells #[.int .i64 0, .int .i64 0] 31)).drew = .ok (.tuple #[]) w6 := hrun6
      replace hm6 : MapU w6 bt (nM L - 1) (fun z => if z = q then none else ftO tt z) := (hm6.congr (fun z => by
        by_cases c : z = q
        · simp only [if_pos c]; rfl
        · simp only [if_neg c])).cnt (by rw [HF.out]; rfl)
      have m6 := Lib.hid (((m4.out.below (Below.refl _ _).drew).putT hg6 hm6).tabGone (q := q))
      have t6 := Lib.hid ((t4.out.more (Tch.of (Below.refl _ (w3.alloc (.cells #[.int .i64 0, .int .i64 0] 31))).drew : Tch M _ _)).more (tch_grown hg6 HH.out.own.2.1))
      have R6 := Lib.hid (grown_blk (show (w3.alloc (.cells #[.int .i64 0, .int .i64 0] 31)).drew.heap[w.heap.size + 1]? = _ from R4.out) hg6 (by omega))
      have E6 := Lib.hid (grown_blk (show (w3.alloc (.cells #[.int .i64 0, .int .i64 0] 31)).drew.heap[w1.heap.size]? = _ from E4.out) hg6 (by omega))
      have O5 := row_below O4.out (Below.refl _ (w3.alloc (.cells #[.int .i64 0, .int .i64 0] 31))).drew
      have O6 := Lib.hid (row_keep O5 (fun g hg => hg6.block g (row_lt O5 hg) (fun e => by
        have := VO.out g hg
        have := Option.some.inj e
        omega)))
      have hs6 := hg6.size
      have hsd : (w3.alloc (.cells #[.int .i64 0, .int .i64 0] 31)).drew.heap.size = w3.heap.size + 1 := by simp [World.drew]
      rw [hsd] at hs6
      clear hm6 hg6 O5
      have T4d : Tab (w3.alloc (.cells #[.int .i64 0, .int .i64 0] 31)).drew _ pt q (takeC R n) := T4.out.below (Below.refl _ _).drew
      go_wp2_with fail
      go_region_with (go_at_call 41; refine (tmask_call T4d).mono ?_; rintro e w5 ⟨rfl, rfl⟩)
      all_goals
        obtain ⟨⟨e0, e1, e2⟩, _, _, _⟩ := three_cells E6.out
        have he := cell_lt e0
        obtain ⟨⟨r0, r1, r2⟩, r3, r4, r5⟩ := three_cells R6.out
        have hr := cell_lt r0
        go_wp2
        have F := far3_tch w6 (w.heap.size + 1) (.int .i64 x1) (.int .i64 x2) (.slice pv l.length cv)
        have Fs := F.size
        have hs0 : ((w.alloc (.cells #[.pointer (some ⟨pt, 0, none⟩), .int .i64 n] 99)).alloc (.cells #[.int .i64 0, .int .i64 0, .slice none 0 0] 38)).heap.size = w.heap.size + 1 + 1 := by simp
        exact bodyPost_ret (v := .agg #[.int .i64 x1, .int .i64 x2, .slice pv l.length cv]) (by simp [results, Tryz.results43, go_sem, *]) rfl ⟨⟨_, rfl, set3_row R6.out O6.out (by decide) _ _ _⟩, HEnd.out _ _ _ _ _ _ _ _ ((m6.out.kept F (fun b e1 e2 => by
            rcases e1 with e1 | e1
            · have := HH.out.lt b e1; omega
            · omega)).mono (fun b e => e.imp id (fun e => ⟨by omega, by omega⟩)) (New.lt HH.out.lt (by omega)))
          (fun y => by
            by_cases c : y = q
            · simp only [if_pos c, if_pos hA]
            · simp only [if_neg c]; rw [HTT1.out, if_neg c])
          (fun y => by
            by_cases c : y = q
            · unfold ftO; simp only [if_pos c]; rfl
            · unfold ftO; simp only [if_neg c]; rw [HTT1.out, if_neg c])
          (by rw [hnM, if_pos hA]; omega)
          (fun z => by
            have c2 : ¬ (n < R.length - 1 ∧ z = lastH R) := fun e => hC e.1
            rw [if_neg c2])
          (by omega), t6.out.fresh3 (Nat.le_succ _) _ _ _⟩
    · as_aux_lemma =>
      have hz : ¬ (((takeC R n).length : Nat) : Int) = 0 := by rw [hT2len]; omega
      obtain ⟨⟨r0, r1, r2⟩, r3, r4, r5⟩ := three_cells R4.out
      have hr := cell_lt r0
      go_wp2
      have F := far3_tch (w3.alloc (.cells #[.int .i64 0, .int .i64 0] 31)) (w.heap.size + 1) (.int .i64 x1) (.int .i64 x2) (.slice pv l.length cv)
      have Fs := F.size
      have hs0 : ((w.alloc (.cells #[.pointer (some ⟨pt, 0, none⟩), .int .i64 n] 99)).alloc (.cells #[.int .i64 0, .int .i64 0, .slice none 0 0] 38)).heap.size = w.heap.size + 1 + 1 := by simp
      exact bodyPost_ret (v := .agg #[.int .i64 x1, .int .i64 x2, .slice pv l.length cv]) (by simp [results, Tryz.results43, go_sem, *]) rfl ⟨⟨_, rfl, set3_row R4.out O4.out (by decide) _ _ _⟩, HEnd.out _ _ _ _ _ _ _ _ ((m4.out.kept F (fun b e1 e2 => by
          rcases e1 with e1 | e1
          · have := HH.out.lt b e1; omega
          · omega)).mono (fun b e => e.imp id (fun e => ⟨by omega, by omega⟩)) (New.lt HH.out.lt (by omega)))
        (fun y => by rw [HTT1.out, if_neg hA])
        (fun y => by
          by_cases c : y = q
          · subst c; rw [HF.out]; unfold ftO; rw [HTT1.out, if_pos rfl]; rfl
          · rw [HTT.out y c]; unfold ftO; rw [HTT1.out, if_neg c])
        (by rw [hnM, if_neg hA, Nat.add_zero])
        (fun z => by
          have c2 : ¬ (n < R.length - 1 ∧ z = lastH R) := fun e => hC e.1
          rw [if_neg c2])
        (by omega), t4.out.fresh3 (Nat.le_succ _) _ _ _⟩
end
end Go.Proofs.YtaehendpdfpibaaGreatDoor
