import Derived.Test.YtaehendpdfpibaaGreatDoorZ4
import Derived.Test.YtaehendpdfpibaaGreatDoorZ9

/-
  masks.Has; the masks of a row with a component and without one (stages 3 and 6's texts).
-/
namespace Go.Proofs.YtaehendpdfpibaaGreatDoor
set_option linter.unusedSimpArgs false
set_option linter.unusedVariables false
open Go.RowKit Go.Sort Go.Lib Go.Shelf

theorem meets_any (a b : Nat) (ha : a < 18446744073709551616) (hb : b < 18446744073709551616) (w : World) : Calls Tryz.prog 121 #[.int .u64 a, .int .u64 b] w fun e w' => e = .returned (.bool (a &&& b != 0)) ∧ w = w' := by
  have h := u64_and_nat a b ha hb
  go_enter Tryz.func121, Tryz.ntmps121
  go_wp2
  go_ret
  exact ⟨ret_bool (neN0 _), rfl⟩

theorem mhas_any (m : Nat) (hm : m < 18446744073709551616) (k : Int) (w : World) : Calls Tryz.prog 75 #[.int .u64 m, .int .i64 k] w fun e w' => e = .returned (.bool (kindB k && m.testBit k.toNat)) ∧ w = w' := by
  cases hk : kindB k
  · go_enter Tryz.func75, Tryz.ntmps75
    go_wp2_with (go_at_call 112; refine (isKind_any _ _).mono ?_; rintro e w1 ⟨rfl, rfl⟩)
    go_ret
    exact ⟨rfl, rfl⟩
  · have hb := (kindB_iff k).1 hk
    obtain ⟨n, rfl⟩ : ∃ n : Nat, k = n := ⟨k.toNat, by omega⟩
    have hn : n < 64 := by omega
    have hp := pow64 hn
    clear hb
    go_enter Tryz.func75, Tryz.ntmps75
    go_wp2_with (first | (go_at_call 112; refine (isKind_any _ _).mono ?_; rintro e w1 ⟨rfl, rfl⟩) | (go_at_call 113; refine (bit_any n hn _).mono ?_; rintro e w1 ⟨rfl, rfl⟩) | (go_at_call 121; refine (meets_any _ _ hm hp _).mono ?_; rintro e w1 ⟨rfl, rfl⟩))
    go_ret
    exact ⟨ret_bool (by
      rw [Bool.true_and, Int.toNat_natCast]
      exact and_bit m n), rfl⟩


theorem fold_bit : ∀ (ks : List Int) (m i : Nat), m < 18446744073709551616 → (∀ k ∈ ks, kindB k = true) → (foldN true m ks).testBit i = (m.testBit i || ks.any fun k => k.toNat == i)
  | [], m, i, _, _ => by simp [foldN]
  | k :: r, m, i, hm, hk => by
    have hb := (kindB_iff k).1 (hk k (by simp))
    have hk64 : k.toNat < 64 := by omega
    have e : foldN true m (k :: r) = foldN true (opN true m k.toNat) r := rfl
    rw [e, fold_bit r _ i (opN_lt true hm hk64) (fun x hx => hk x (by simp [hx])), opN_bit true hm hk64, List.any_cons]
    by_cases h : i = k.toNat
    · simp [h]
    · have : (k.toNat == i) = false := beq_eq_false_iff_ne.2 (fun e => h e.symm)
      simp [h, this]

theorem kinds_ok {l : List Vl} (hr : ∀ x ∈ l, chk x = 0) : ∀ k ∈ kindsV l, kindB k = true := fun k hk => List.all_eq_true.1 (kindsV_all hr) k hk

theorem maskV_bit {l : List Vl} (hr : ∀ x ∈ l, chk x = 0) (i : Nat) : (maskV l).testBit i = true ↔ ∃ x ∈ l, x.1.toNat = i := by
  rw [show maskV l = foldN true 0 (kindsV l) from rfl, fold_bit _ 0 i (by decide) (kinds_ok hr), Nat.zero_testBit, Bool.false_or, List.any_eq_true]
  constructor
  · rintro ⟨k, hk, h⟩
    obtain ⟨x, hx, rfl⟩ := List.mem_map.1 hk
    exact ⟨x, hx, by simpa using h⟩
  · rintro ⟨x, hx, rfl⟩
    exact ⟨x.1, List.mem_map.2 ⟨x, hx, rfl⟩, by simp⟩

theorem maskV_lt {l : List Vl} (hr : ∀ x ∈ l, chk x = 0) : maskV l < 18446744073709551616 := foldN_lt true 0 _ (by decide) (kinds_ok hr)

theorem maskV_put {l : List Vl} {x : Vl} (hr : RightV l) (hx : chk x = 0) : opN true (maskV l) x.1.toNat = maskV (putV l x) := by
  have hb := (kindB_iff x.1).1 (chk_kind hx)
  refine Nat.eq_of_testBit_eq fun i => ?_
  rw [Bool.eq_iff_iff, opN_bit true (maskV_lt hr.2) (by omega), maskV_bit (putV_right hr hx).2]
  constructor
  · intro h
    by_cases e : i = x.1.toNat
    · exact ⟨x, (mem_putV l x x).2 (.inl rfl), e.symm⟩
    · rw [if_neg e] at h
      obtain ⟨y, hy, rfl⟩ := (maskV_bit hr.2 i).1 h
      exact ⟨y, (mem_putV l x y).2 (.inr ⟨hy, fun e2 => e (by rw [e2])⟩), rfl⟩
  · rintro ⟨y, hy, rfl⟩
    rcases (mem_putV l x y).1 hy with rfl | ⟨hy, hne⟩
    · simp
    · split
      · rfl
      · exact (maskV_bit hr.2 _).2 ⟨y, hy, rfl⟩

theorem maskV_drop {l : List Vl} {k : Int} (hr : RightV l) (hk : kindB k = true) : opN false (maskV l) k.toNat = maskV (dropV l k) := by
  have hb := (kindB_iff k).1 hk
  refine Nat.eq_of_testBit_eq fun i => ?_
  rw [Bool.eq_iff_iff, opN_bit false (maskV_lt hr.2) (by omega), maskV_bit (dropV_right k hr).2]
  constructor
  · intro h
    by_cases e : i = k.toNat
    · rw [if_pos e] at h; cases h
    · rw [if_neg e] at h
      obtain ⟨y, hy, rfl⟩ := (maskV_bit hr.2 i).1 h
      exact ⟨y, (mem_dropV l k y).2 ⟨hy, fun e2 => e (by rw [e2])⟩, rfl⟩
  · rintro ⟨y, hy, rfl⟩
    obtain ⟨hy, hne⟩ := (mem_dropV l k y).1 hy
    have hy2 := (kindB_iff y.1).1 (chk_kind (hr.2 y hy))
    rw [if_neg (fun e => hne (by omega))]
    exact (maskV_bit hr.2 _).2 ⟨y, hy, rfl⟩

end Go.Proofs.YtaehendpdfpibaaGreatDoor

/-
  A store's move: an entity goes to the table of its mask changed by a kind.
-/
namespace Go.Proofs.YtaehendpdfpibaaGreatDoor
set_option linter.unusedSimpArgs false
set_option linter.unusedVariables false
open Go.RowKit Go.Sort Go.Lib Go.Shelf

theorem has_putV {l : List Vl} {x : Vl} (hl : RightV l) (hx : chk x = 0) : hasK (putV l x) x.1 = true := has_of_mem (putV_right hl hx) ((mem_putV _ _ _).2 (.inl rfl))
theorem has_dropV {l : List Vl} (k : Int) : hasK (dropV l k) k = false := by
  unfold hasK
  cases e : findV (dropV l k) k with
  | none => rfl
  | some x =>
    obtain ⟨h1, h2⟩ := find_some e
    exact absurd h2 ((mem_dropV _ _ _).1 h1).2
theorem mask_ne {l l' : List Vl} {k : Int} (hl : RightV l) (hl' : RightV l') (h : hasK l' k ≠ hasK l k) : maskV l' ≠ maskV l := fun e => by
  have h1 := has_iff (ent_of (h := (0, 0)) ((rightB_iff l).2 hl) rfl) k
  have h2 := has_iff (ent_of (h := (0, 0)) ((rightB_iff l').2 hl') rfl) k
  rw [e] at h2
  exact h (h2.trans h1.symm)
/-- Is there room? -/
theorem room_iff {tt : Nat → Option (Nat × List En)} {pl : Hd → Option Plc} {L : List En} (h : Lays tt pl L) (hG : Good L) {x : Hd} {l l' : List Vl} {pt n : Nat} {R : List En} (h0 : (x, l) ∈ L) (hq : tt (maskV l) = some (pt, R)) (hn : n < R.length) (hR : R[n] = (x, l)) (hr : RightV l') (hm : maskV l' ≠ maskV l) (g : Int) (hg : g = if R.length = 1 then 1 else 0) :
    ((ftO tt (maskV l')).isSome || decide ((nM L : Int) - g < 32)) = decide (nM (setE L x l') ≤ 32) := by
  have e1 := nM_insE (delE L x) (x, l') (mask_lt hr)
  rw [ins_del hG.rise h0] at e1
  have e2 := lift_nM h hG h0 hq hn hR
  have e3 : (ftO tt (maskV l')).isSome = hasM L (maskV l') := by rw [← h.mask]; unfold ftO; cases tt (maskV l') <;> rfl
  have e4 : hasM (delE L x) (maskV l') = hasM L (maskV l') := by
    rw [Bool.eq_iff_iff, hasM_iff, hasM_iff]
    constructor
    · rintro ⟨r, hr1, e⟩; exact ⟨r, ((mem_delE _ _ _).1 hr1).1, e⟩
    · rintro ⟨r, hr1, e⟩
      refine ⟨r, (mem_delE _ _ _).2 ⟨hr1, fun e5 => hm ?_⟩, e⟩
      rw [← e, rise_one hG.rise hr1 h0 e5]
  have hmsk := hG.msk
  rw [e3]
  dsimp only at e1
  rw [e4] at e1
  subst hg
  cases c : hasM L (maskV l') with
  | true =>
    rw [c] at e1
    simp only [if_true] at e1
    simp only [Bool.true_or]
    exact (decide_eq_true (by omega)).symm
  | false =>
    rw [c] at e1
    simp only [Bool.false_eq_true, if_false] at e1
    simp only [Bool.false_or]
    by_cases d : R.length = 1
    · rw [if_pos d] at e2 ⊢
      exact decide_eq_decide.2 (by omega)
    · rw [if_neg d] at e2 ⊢
      exact decide_eq_decide.2 (by omega)
theorem hds_delE (L : List En) (x : Hd) : x ∉ hds (delE L x) := fun e => by
  obtain ⟨r, hr, q⟩ := List.mem_map.1 e
  exact ((mem_delE L x r).1 hr).2 q

section
variable {w w' : World} {M X : Nat → Prop} {ps bt bp ct cp : Nat} {ft ft' : Nat → Option Nat} {tt : Nat → Option (Nat × List En)} {pl pl' : Hd → Option Plc} {MT : Nat → Nat → Prop} {L : List En} {A : Nat → Addr}

/-- The closure on the row. -/
theorem smadd1_call (l : List Vl) (v : Value) (y1 y2 y3 : Int) (hy : chk (y1, y2, y3) = 0) (vb : Nat) (w : World) (hl : Sl encV w v l) (hr : RightV l) (hlen : l.length ≤ 1000) (hc : w.heap[vb]? = some (.cells #[.int .i64 y1, .int .i64 y2, .int .i64 y3] 34 (0, 0))) :
    Calls Tryz.prog 77 #[v, .pointer (some ⟨vb, 0, none⟩)] w fun e w' => ∃ v', e = .returned v' ∧ w'.ownsRow w.heap.size 34 3 v' (putV l (y1, y2, y3)).length (flat encV (putV l (y1, y2, y3))) ∧ RowKit.Below w.heap.size w w' := by
  have CH := Lib.hid (put_own l v y1 y2 y3 w hl hr.1 hlen)
  obtain ⟨⟨c0, c1, c2⟩, _, _, _⟩ := three_cells hc
  have hcl := cell_lt c0
  obtain ⟨p, cap, rfl, _, _, _⟩ := hl
  clear hc hr hlen hy
  go_enter Tryz.func77, Tryz.ntmps77
  go_wp2_with fail
  refine CH.out.mono ?_
  rintro e w1 ⟨⟨v1, rfl, ho1⟩, hb1⟩
  obtain ⟨p1, c1', rfl, _, _, _⟩ := row_val ho1
  have HO := Lib.hid ho1
  have HB := Lib.hid hb1
  clear ho1 hb1
  go_wp2
  go_ret
  exact ⟨_, rfl, HO.out, HB.out⟩
set_option maxHeartbeats 4000000 in
set_option maxRecDepth 100000 in
theorem smadd_call (h : StoX w M ps bt bp tt pl MT L) (x1 x2 : Int) (hx : HdOk (x1, x2)) (l : List Vl) {pt n : Nat} {R : List En} (h0 : ((x1, x2), l) ∈ L) (hq : tt (maskV l) = some (pt, R)) (hn : n < R.length) (hR : R[n] = ((x1, x2), l)) (y1 y2 y3 : Int) (hy : chk (y1, y2, y3) = 0) (hh : hasK l y1 = false)
    (vb : Nat) (hvb : ¬ M vb) (hc : w.heap[vb]? = some (.cells #[.int .i64 y1, .int .i64 y2, .int .i64 y3] 34 (0, 0))) (hV : Env M w A) :
    Calls Tryz.prog 76 #[psP ps, .agg #[ptP pt, .int .i64 n], .int .i64 y1, .func (.func 35) #[.int .u64 (maskV l : Nat)] #[], .func (.func 77) #[] #[.pointer (some ⟨vb, 0, none⟩)]] w fun e w' =>
      e = .returned (errV A (moveEN L (x1, x2) (putV l (y1, y2, y3)))) ∧ StoM w' (New M w w') ps (if moveEN L (x1, x2) (putV l (y1, y2, y3)) = 0 then setE L (x1, x2) (putV l (y1, y2, y3)) else L) ∧ Tch M w w' := by
  have hr0 : RightV l := h.good.right _ h0
  have hr1 : RightV (putV l (y1, y2, y3)) := putV_right hr0 hy
  have hne : maskV (putV l (y1, y2, y3)) ≠ maskV l := mask_ne (k := y1) hr0 hr1 (by rw [show hasK (putV l (y1, y2, y3)) y1 = true from has_putV (x := (y1, y2, y3)) hr0 hy, hh]; decide)
  have hkb : kindB y1 = true := chk_kind hy
  have hll : l.length ≤ 1000 := by
    have := ent_len (ent_of (h := (x1, x2)) ((rightB_iff l).2 hr0) rfl)
    have h2 := Ks_len (maskV l)
    simp at this
    omega
  have hml := mask_lt hr0
  have hml1 := mask_lt hr1
  have hTb := h.mem.tab _ _ _ hq
  have hroom := room_iff h.lays h.good h0 hq hn hR hr1 hne _ rfl
  have hnM := nM_le L
  have HVE := Lib.hid hV
  -- the pieces
  have HM : Hid (∀ W v1, RowKit.Below w.heap.size w W → Sl encI W v1 [y1] → Calls Tryz.prog 35 #[.int .u64 (maskV l : Nat), v1] W fun e w' => e = .returned (.tuple #[.int .u64 (maskV (putV l (y1, y2, y3)) : Nat), .nilIface]) ∧ Gr W w') := fun W v1 hb hs => by
    have := with_call (maskV l) [y1] v1 (A 4) W hs (by omega) (hV.er W (Tch.of hb)).e7.er.k
    rw [resK_yes (by simp [hkb]), show foldN true (maskV l) [y1] = maskV (putV l (y1, y2, y3)) from maskV_put hr0 hy] at this
    exact this
  have HLn : Hid (∀ W, RowKit.Below w.heap.size w W → _) := fun W hb => tlen_call (hTb.below hb)
  have HRm : Hid (∀ (W : World) (g : Int), RowKit.Below w.heap.size w W → (g = 0 ∨ g = 1) → _) := fun W g hb hg => sroom_call (h.mem.below hb) (maskV (putV l (y1, y2, y3))) hml1 g hg hnM
  have HLf : Hid (∀ W, RowKit.Below w.heap.size w W → _) := fun W hb => slift_call (h.below hb) x1 x2 hx l h0 hq hn hR (hV.below hb)
  have HCh : Hid (∀ W v1, Sl encV W v1 l → W.heap[vb]? = some (.cells #[.int .i64 y1, .int .i64 y2, .int .i64 y3] 34 (0, 0)) → _) := fun W v1 hs hcc => smadd1_call l v1 y1 y2 y3 hy vb W hs hr0 hll hcc
  have hnx := hds_delE L (x1, x2)
  have hdl : (delE L (x1, x2)).length < 128 := by
    have := len_delE h.good.rise (show (x1, x2) ∈ hds L from List.mem_map_of_mem h0)
    have := h.good.len
    omega
  have hins := ins_del h.good.rise h0 (l := putV l (y1, y2, y3))
  have HLy : Hid (∀ (W : World) (M' N' : Nat → Prop) (v2 : Value), nM (setE L (x1, x2) (putV l (y1, y2, y3))) ≤ 32 → StoM W M' ps (delE L (x1, x2)) → Env M' W A → SlN N' encV W v2 (putV l (y1, y2, y3)) → (∀ b, N' b → b < W.heap.size ∧ ¬ M' b) → Calls Tryz.prog 73 #[psP ps, .int .u64 (maskV (putV l (y1, y2, y3)) : Nat), .agg #[.int .i64 x1, .int .i64 x2, v2]] W fun e w' => e = .returned (.tuple #[]) ∧ StoM w' (New M' W w') ps (setE L (x1, x2) (putV l (y1, y2, y3))) ∧ Tch M' W w') := fun W M' N' v2 hnm hS hEn hs hN => by
    obtain ⟨bt', bp', tt', pl', MT', hS⟩ := hS
    have := slay_call hS x1 x2 hx (putV l (y1, y2, y3)) v2 hs hN hnx hr1 hdl (by rw [hins]; exact hnm) hEn
    rwa [hins] at this
  have HS0 : Hid (∀ W, RowKit.Below w.heap.size w W → StoM W (New M w W) ps L) := fun W hb => (h.below hb).m.mono (fun b e => .inl e) (New.lt h.mem.lt hb.size)
  have HMl := Lib.hid h.mem.lt
  have hfull := (hV.er w (Tch.refl _ _)).e7.full
  have HFull := Lib.hid hfull
  have HC := Lib.hid hc
  have hg01 : (if R.length = 1 then (1 : Int) else 0) = 0 ∨ (if R.length = 1 then (1 : Int) else 0) = 1 := by split <;> simp
  have hvbl := (Array.getElem?_eq_some_iff.1 hc).1
  unfold moveEN
  clear h hq h0 hR hTb hV hr0 hr1 hne hll hml hml1 hnM hnx hdl hins hfull hc hy hh
  generalize hl1 : putV l (y1, y2, y3) = l1 at *
  generalize hmm : maskV l = m at *
  generalize hmm1 : maskV l1 = m1 at *
  clear hl1 hmm1 hmm
  go_enter Tryz.func76, Tryz.ntmps76
  go_wp2_with fail
  have bb := Ba (Ba (Below.refl _ w) (.cells #[.pointer (some ⟨pt, 0, none⟩), .int .i64 n] 99)) (.cells #[.int .i64 y1] 3)
  refine (HM.out _ _ bb (sl_lit (enc := encI) [y1] (by simp) (by simp [flat, encI]) (by unfold maxLen; simp))).mono ?_
  rintro e w1 ⟨rfl, hg1⟩
  have B1 := Lib.hid (Bt bb hg1.below)
  have P1 := Lib.hid (blk_below (blk_below (heap_alloc_new w (.cells #[.pointer (some ⟨pt, 0, none⟩), .int .i64 n] 99)) (Ba (Below.refl _ _) (.cells #[.int .i64 y1] 3))) hg1.below)
  obtain ⟨c0, c1, _, _⟩ := two_cells P1.out
  have hcl := cell_lt c0
  clear bb hg1 HM
  go_wp2_with fail
  refine (HLn.out _ B1.out).mono ?_
  rintro e w2 ⟨rfl, rfl⟩
  have BR := Lib.hid (HRm.out w1 (if R.length = 1 then (1 : Int) else 0) B1.out hg01)
  rw [hroom] at BR
  have HE2 := Lib.hid (Bc B1.out (cell_lt HFull.out) HFull.out)
  have key : ∀ {Q : Prop}, (R.length = 1 → (((R.length : Nat) : Int) = 1) → Q) → (¬ R.length = 1 → ¬ (((R.length : Nat) : Int) = 1) → Q) → Q := fun h1 h2 => by
    by_cases c : R.length = 1
    · exact h1 c (by omega)
    · exact h2 c (by omega)
  clear HLn HRm hroom hg01
  refine key (fun c1' c2' => ?_) (fun c1' c2' => ?_)
  all_goals as_aux_lemma =>
    clear key
    simp only [c1', if_true, if_false] at BR
    first | rw [if_pos (show (1 : Nat) = 1 from rfl)] at BR | skip
    by_cases hcap : nM (setE L (x1, x2) l1) ≤ 32
    · rw [decide_eq_true hcap] at BR
      go_wp2_with fail
      refine BR.out.mono ?_
      rintro e w2 ⟨rfl, rfl⟩
      clear c1' c2'
      go_wp2_with fail
      refine (HLf.out _ B1.out).mono ?_
      rintro e w2 ⟨⟨v1, rfl, ho1⟩, hS2, ht2⟩
      obtain ⟨pv, cv, rfl, _, _, _⟩ := row_val ho1
      have T2 := Lib.hid ((Tch.of B1.out : Tch M w w1).more ht2)
      have E2 := Lib.hid ((HVE.out.below B1.out).step ht2)
      have S2 := Lib.hid hS2
      have O2 := Lib.hid ho1
      have C2 := Lib.hid (T2.out.blk HC.out hvb)
      have hs2 := ht2.size
      have bE := Ba (Below.refl _ w2) (.cells #[.int .i64 x1, .int .i64 x2, .slice pv l.length cv] 38)
      clear hS2 ho1 ht2 c0 c1 hcl HLf BR
      go_wp2_with fail
      refine (HCh.out _ _ ((row_sl lenV O2.out rfl).below bE) (blk_below C2.out bE)).mono ?_
      rintro e w3 ⟨v2, rfl, ho3, hb3⟩
      obtain ⟨pv2, cv2, rfl, _, _, _⟩ := row_val ho3
      have B3 := Lib.hid (Bt bE hb3)
      have X3 := Lib.hid (blk_below (heap_alloc_new w2 (.cells #[.int .i64 x1, .int .i64 x2, .slice pv l.length cv] 38)) hb3)
      have hlt3 : w2.heap.size < w3.heap.size := (Array.getElem?_eq_some_iff.1 X3.out).1
      have hsE : (w2.alloc (.cells #[.int .i64 x1, .int .i64 x2, .slice pv l.length cv] 38)).heap.size = w2.heap.size + 1 := by simp
      have NO := Lib.hid (fun g (hg : (Value.slice pv2 l1.length cv2).ownBlock = some g) => (show w2.heap.size < g by have := row_base ho3 hg; omega))
      have O3 := Lib.hid (row_mono ho3 (show w2.heap.size + 1 ≤ _ by omega))
      obtain ⟨⟨a0, a1, a2⟩, f0, f1, f2⟩ := three_cells X3.out
      have hal := cell_lt a0
      clear ho3 hb3 bE HCh hsE
      have X4 := heap_setCell_same w3 w2.heap.size 2 _ _ (.slice pv2 l1.length cv2) X3.out
      have X4' : (w3.setCell ⟨w2.heap.size, 2, none⟩ (.slice pv2 l1.length cv2)).heap[w2.heap.size]? = some (.cells #[.int .i64 x1, .int .i64 x2, .slice pv2 l1.length cv2] 38 (0, 0)) := by simpa using X4
      have O4 := Lib.hid (row_keep O3.out (fun g hg => heap_setCell_other w3 ⟨w2.heap.size, 2, none⟩ g (.slice pv2 l1.length cv2) (by have := NO.out g hg; show g ≠ w2.heap.size; omega)))
      have t4 : Tch (fun b => b = w2.heap.size) w3 (w3.setCell ⟨w2.heap.size, 2, none⟩ (.slice pv2 l1.length cv2)) := Tch.set (M := fun b => b = w2.heap.size) (p := ⟨w2.heap.size, 2, none⟩) w3 rfl _
      have tt4 : Tch (fun b => b = w2.heap.size) w2 (w3.setCell ⟨w2.heap.size, 2, none⟩ (.slice pv2 l1.length cv2)) := (Tch.of B3.out).more t4
      have S4 := Lib.hid (S2.out.kept tt4 (fun b e1 e2 => by have := S2.out.lt b e1; omega))
      have bb4 : RowKit.Below w2.heap.size w2 (w3.setCell ⟨w2.heap.size, 2, none⟩ (.slice pv2 l1.length cv2)) := Bs B3.out (Nat.le_refl _) _
      have E4 := Lib.hid (E2.out.below bb4)
      have HS4 := Lib.hid (SlN.of lenV O4.out rfl)
      have hs4 : (w3.setCell ⟨w2.heap.size, 2, none⟩ (.slice pv2 l1.length cv2)).heap.size = w3.heap.size := by simp
      have HY := Lib.hid (HLy.out _ _ (fun b => w2.heap.size + 1 ≤ b ∧ b < w3.heap.size) _ hcap S4.out E4.out (by
        obtain ⟨p', c', e1, e2, e3, e4⟩ := HS4.out
        refine ⟨p', c', e1, e2, e3, fun hl => ?_⟩
        obtain ⟨g, o, e5, e6, e7, e8⟩ := e4 hl
        exact ⟨g, o, e5, e6, ⟨e7, by omega⟩, e8⟩) (fun b hb => ⟨by omega, fun e => by have := S4.out.lt b e; have := S2.out.lt b e; omega⟩))
      clear HLy HS4 tt4 t4 X4
      go_wp2_with fail
      obtain ⟨⟨a0, a1, a2⟩, _, _, _⟩ := three_cells X4'
      refine HY.out.mono ?_
      rintro e w5 ⟨rfl, hS5, ht5⟩
      have hs5 := ht5.size
      have T5 := T2.out.more (Tch.of bb4 : Tch M w2 _)
      have B1s := B1.out.size
      have T6 : Tch M w w5 := ⟨ht5.os.trans T5.os, ht5.tape.trans T5.tape, ht5.output.trans T5.output, Nat.le_trans T5.size ht5.size, fun b h1 h2 => (ht5.block b (Nat.lt_of_lt_of_le h1 T5.size) (fun e => by
        rcases e with e | e
        · exact h2 e
        · omega)).trans (T5.block b h1 h2)⟩
      go_wp2
      go_ret
      simp only [if_pos hcap, if_true]
      rw [errV_no]
      refine ⟨rfl, hS5.mono (fun b e => ?_) (New.lt HMl.out (by omega)), T6⟩
      rcases e with (e | e) | e
      · exact .inl e
      · exact .inr ⟨by omega, by omega⟩
      · exact .inr ⟨by omega, by omega⟩
    · rw [decide_eq_false hcap] at BR
      have hE3 := HE2.out
      have hgl := cell_lt hE3
      go_wp2_with fail
      refine BR.out.mono ?_
      rintro e w2 ⟨rfl, rfl⟩
      go_wp2
      go_ret
      simp only [if_neg hcap, show ¬ ((2 : Nat) = 0) by decide, if_false]
      rw [errV_at _ _ (by decide)]
      exact ⟨rfl, HS0.out _ B1.out, Tch.of B1.out⟩

/-- The closure on the row. -/
theorem smrem1_call (l : List Vl) (v : Value) (k : Int) (vb : Nat) (w : World) (hl : Sl encV w v l) (hr : RightV l) (hlen : l.length ≤ 1000) (hc : w.heap[vb]? = some (.cells #[.int .i64 k] 3 (0, 0))) :
    Calls Tryz.prog 92 #[v, .pointer (some ⟨vb, 0, none⟩)] w fun e w' => ∃ v', e = .returned v' ∧ w'.ownsRow w.heap.size 34 3 v' (dropV l k).length (flat encV (dropV l k)) ∧ RowKit.Below w.heap.size w w' := by
  have CH := Lib.hid (drop_call l v k w hl (by omega))
  have c0 : w.cell? ⟨vb, 0, none⟩ = some (.int .i64 k) := by simp [World.cell?, hc]
  have hcl := cell_lt c0
  obtain ⟨p, cap, rfl, _, _, _⟩ := hl
  clear hc hr hlen
  go_enter Tryz.func92, Tryz.ntmps92
  go_wp2_with fail
  refine CH.out.mono ?_
  rintro e w1 ⟨v1, rfl, ho1, hb1⟩
  obtain ⟨p1, c1', rfl, _, _, _⟩ := row_val ho1
  have HO := Lib.hid ho1
  have HB := Lib.hid hb1
  clear ho1 hb1
  go_wp2
  go_ret
  exact ⟨_, rfl, row_mono HO.out (Nat.le_succ _), HB.out⟩
set_option maxHeartbeats 4000000 in
set_option maxRecDepth 100000 in
theorem smrem_call (h : StoX w M ps bt bp tt pl MT L) (x1 x2 : Int) (hx : HdOk (x1, x2)) (l : List Vl) {pt n : Nat} {R : List En} (h0 : ((x1, x2), l) ∈ L) (hq : tt (maskV l) = some (pt, R)) (hn : n < R.length) (hR : R[n] = ((x1, x2), l)) (k : Int) (hh : hasK l k = true)
    (vb : Nat) (hvb : ¬ M vb) (hc : w.heap[vb]? = some (.cells #[.int .i64 k] 3 (0, 0))) (hV : Env M w A) :
    Calls Tryz.prog 76 #[psP ps, .agg #[ptP pt, .int .i64 n], .int .i64 k, .func (.func 91) #[.int .u64 (maskV l : Nat)] #[], .func (.func 92) #[] #[.pointer (some ⟨vb, 0, none⟩)]] w fun e w' =>
      e = .returned (errV A (moveEN L (x1, x2) (dropV l k))) ∧ StoM w' (New M w w') ps (if moveEN L (x1, x2) (dropV l k) = 0 then setE L (x1, x2) (dropV l k) else L) ∧ Tch M w w' := by
  have hr0 : RightV l := h.good.right _ h0
  have hr1 : RightV (dropV l k) := dropV_right k hr0
  have hne : maskV (dropV l k) ≠ maskV l := mask_ne (k := k) hr0 hr1 (by rw [has_dropV, hh]; decide)
  have hkb : kindB k = true := by
    have hO := has_iff (ent_of (h := (0, 0)) ((rightB_iff l).2 hr0) rfl) k
    rw [show hasK (((0, 0), l) : En).2 k = true from hh] at hO
    exact Ks_kind (mask_lt hr0) k (of_decide_eq_true hO.symm)
  have hll : l.length ≤ 1000 := by
    have := ent_len (ent_of (h := (x1, x2)) ((rightB_iff l).2 hr0) rfl)
    have h2 := Ks_len (maskV l)
    simp at this
    omega
  have hml := mask_lt hr0
  have hml1 := mask_lt hr1
  have hTb := h.mem.tab _ _ _ hq
  have hroom := room_iff h.lays h.good h0 hq hn hR hr1 hne _ rfl
  have hnM := nM_le L
  have HVE := Lib.hid hV
  -- the pieces
  have HM : Hid (∀ W v1, RowKit.Below w.heap.size w W → Sl encI W v1 [k] → Calls Tryz.prog 91 #[.int .u64 (maskV l : Nat), v1] W fun e w' => e = .returned (.tuple #[.int .u64 (maskV (dropV l k) : Nat), .nilIface]) ∧ Gr W w') := fun W v1 hb hs => by
    have := without_call (maskV l) [k] v1 (A 4) W hs (by omega) (hV.er W (Tch.of hb)).e7.er.k
    rw [resK_yes (by simp [hkb]), show foldN false (maskV l) [k] = maskV (dropV l k) from maskV_drop hr0 hkb] at this
    exact this
  have HLn : Hid (∀ W, RowKit.Below w.heap.size w W → _) := fun W hb => tlen_call (hTb.below hb)
  have HRm : Hid (∀ (W : World) (g : Int), RowKit.Below w.heap.size w W → (g = 0 ∨ g = 1) → _) := fun W g hb hg => sroom_call (h.mem.below hb) (maskV (dropV l k)) hml1 g hg hnM
  have HLf : Hid (∀ W, RowKit.Below w.heap.size w W → _) := fun W hb => slift_call (h.below hb) x1 x2 hx l h0 hq hn hR (hV.below hb)
  have HCh : Hid (∀ W v1, Sl encV W v1 l → W.heap[vb]? = some (.cells #[.int .i64 k] 3 (0, 0)) → _) := fun W v1 hs hcc => smrem1_call l v1 k vb W hs hr0 hll hcc
  have hnx := hds_delE L (x1, x2)
  have hdl : (delE L (x1, x2)).length < 128 := by
    have := len_delE h.good.rise (show (x1, x2) ∈ hds L from List.mem_map_of_mem h0)
    have := h.good.len
    omega
  have hins := ins_del h.good.rise h0 (l := dropV l k)
  have HLy : Hid (∀ (W : World) (M' N' : Nat → Prop) (v2 : Value), nM (setE L (x1, x2) (dropV l k)) ≤ 32 → StoM W M' ps (delE L (x1, x2)) → Env M' W A → SlN N' encV W v2 (dropV l k) → (∀ b, N' b → b < W.heap.size ∧ ¬ M' b) → Calls Tryz.prog 73 #[psP ps, .int .u64 (maskV (dropV l k) : Nat), .agg #[.int .i64 x1, .int .i64 x2, v2]] W fun e w' => e = .returned (.tuple #[]) ∧ StoM w' (New M' W w') ps (setE L (x1, x2) (dropV l k)) ∧ Tch M' W w') := fun W M' N' v2 hnm hS hEn hs hN => by
    obtain ⟨bt', bp', tt', pl', MT', hS⟩ := hS
    have := slay_call hS x1 x2 hx (dropV l k) v2 hs hN hnx hr1 hdl (by rw [hins]; exact hnm) hEn
    rwa [hins] at this
  have HS0 : Hid (∀ W, RowKit.Below w.heap.size w W → StoM W (New M w W) ps L) := fun W hb => (h.below hb).m.mono (fun b e => .inl e) (New.lt h.mem.lt hb.size)
  have HMl := Lib.hid h.mem.lt
  have hfull := (hV.er w (Tch.refl _ _)).e7.full
  have HFull := Lib.hid hfull
  have HC := Lib.hid hc
  have hg01 : (if R.length = 1 then (1 : Int) else 0) = 0 ∨ (if R.length = 1 then (1 : Int) else 0) = 1 := by split <;> simp
  have hvbl := (Array.getElem?_eq_some_iff.1 hc).1
  unfold moveEN
  clear h hq h0 hR hTb hV hr0 hr1 hne hll hml hml1 hnM hnx hdl hins hfull hc hh
  generalize hl1 : dropV l k = l1 at *
  generalize hmm : maskV l = m at *
  generalize hmm1 : maskV l1 = m1 at *
  clear hl1 hmm1 hmm
  go_enter Tryz.func76, Tryz.ntmps76
  go_wp2_with fail
  have bb := Ba (Ba (Below.refl _ w) (.cells #[.pointer (some ⟨pt, 0, none⟩), .int .i64 n] 99)) (.cells #[.int .i64 k] 3)
  refine (HM.out _ _ bb (sl_lit (enc := encI) [k] (by simp) (by simp [flat, encI]) (by unfold maxLen; simp))).mono ?_
  rintro e w1 ⟨rfl, hg1⟩
  have B1 := Lib.hid (Bt bb hg1.below)
  have P1 := Lib.hid (blk_below (blk_below (heap_alloc_new w (.cells #[.pointer (some ⟨pt, 0, none⟩), .int .i64 n] 99)) (Ba (Below.refl _ _) (.cells #[.int .i64 k] 3))) hg1.below)
  obtain ⟨c0, c1, _, _⟩ := two_cells P1.out
  have hcl := cell_lt c0
  clear bb hg1 HM
  go_wp2_with fail
  refine (HLn.out _ B1.out).mono ?_
  rintro e w2 ⟨rfl, rfl⟩
  have BR := Lib.hid (HRm.out w1 (if R.length = 1 then (1 : Int) else 0) B1.out hg01)
  rw [hroom] at BR
  have HE2 := Lib.hid (Bc B1.out (cell_lt HFull.out) HFull.out)
  have key : ∀ {Q : Prop}, (R.length = 1 → (((R.length : Nat) : Int) = 1) → Q) → (¬ R.length = 1 → ¬ (((R.length : Nat) : Int) = 1) → Q) → Q := fun h1 h2 => by
    by_cases c : R.length = 1
    · exact h1 c (by omega)
    · exact h2 c (by omega)
  clear HLn HRm hroom hg01
  refine key (fun c1' c2' => ?_) (fun c1' c2' => ?_)
  all_goals as_aux_lemma =>
    clear key
    simp only [c1', if_true, if_false] at BR
    first | rw [if_pos (show (1 : Nat) = 1 from rfl)] at BR | skip
    by_cases hcap : nM (setE L (x1, x2) l1) ≤ 32
    · rw [decide_eq_true hcap] at BR
      go_wp2_with fail
      refine BR.out.mono ?_
      rintro e w2 ⟨rfl, rfl⟩
      clear c1' c2'
      go_wp2_with fail
      refine (HLf.out _ B1.out).mono ?_
      rintro e w2 ⟨⟨v1, rfl, ho1⟩, hS2, ht2⟩
      obtain ⟨pv, cv, rfl, _, _, _⟩ := row_val ho1
      have T2 := Lib.hid ((Tch.of B1.out : Tch M w w1).more ht2)
      have E2 := Lib.hid ((HVE.out.below B1.out).step ht2)
      have S2 := Lib.hid hS2
      have O2 := Lib.hid ho1
      have C2 := Lib.hid (T2.out.blk HC.out hvb)
      have hs2 := ht2.size
      have bE := Ba (Below.refl _ w2) (.cells #[.int .i64 x1, .int .i64 x2, .slice pv l.length cv] 38)
      clear hS2 ho1 ht2 c0 c1 hcl HLf BR
      go_wp2_with fail
      refine (HCh.out _ _ ((row_sl lenV O2.out rfl).below bE) (blk_below C2.out bE)).mono ?_
      rintro e w3 ⟨v2, rfl, ho3, hb3⟩
      obtain ⟨pv2, cv2, rfl, _, _, _⟩ := row_val ho3
      have B3 := Lib.hid (Bt bE hb3)
      have X3 := Lib.hid (blk_below (heap_alloc_new w2 (.cells #[.int .i64 x1, .int .i64 x2, .slice pv l.length cv] 38)) hb3)
      have hlt3 : w2.heap.size < w3.heap.size := (Array.getElem?_eq_some_iff.1 X3.out).1
      have hsE : (w2.alloc (.cells #[.int .i64 x1, .int .i64 x2, .slice pv l.length cv] 38)).heap.size = w2.heap.size + 1 := by simp
      have NO := Lib.hid (fun g (hg : (Value.slice pv2 l1.length cv2).ownBlock = some g) => (show w2.heap.size < g by have := row_base ho3 hg; omega))
      have O3 := Lib.hid (row_mono ho3 (show w2.heap.size + 1 ≤ _ by omega))
      obtain ⟨⟨a0, a1, a2⟩, f0, f1, f2⟩ := three_cells X3.out
      have hal := cell_lt a0
      clear ho3 hb3 bE HCh hsE
      have X4 := heap_setCell_same w3 w2.heap.size 2 _ _ (.slice pv2 l1.length cv2) X3.out
      have X4' : (w3.setCell ⟨w2.heap.size, 2, none⟩ (.slice pv2 l1.length cv2)).heap[w2.heap.size]? = some (.cells #[.int .i64 x1, .int .i64 x2, .slice pv2 l1.length cv2] 38 (0, 0)) := by simpa using X4
      have O4 := Lib.hid (row_keep O3.out (fun g hg => heap_setCell_other w3 ⟨w2.heap.size, 2, none⟩ g (.slice pv2 l1.length cv2) (by have := NO.out g hg; show g ≠ w2.heap.size; omega)))
      have t4 : Tch (fun b => b = w2.heap.size) w3 (w3.setCell ⟨w2.heap.size, 2, none⟩ (.slice pv2 l1.length cv2)) := Tch.set (M := fun b => b = w2.heap.size) (p := ⟨w2.heap.size, 2, none⟩) w3 rfl _
      have tt4 : Tch (fun b => b = w2.heap.size) w2 (w3.setCell ⟨w2.heap.size, 2, none⟩ (.slice pv2 l1.length cv2)) := (Tch.of B3.out).more t4
      have S4 := Lib.hid (S2.out.kept tt4 (fun b e1 e2 => by have := S2.out.lt b e1; omega))
      have bb4 : RowKit.Below w2.heap.size w2 (w3.setCell ⟨w2.heap.size, 2, none⟩ (.slice pv2 l1.length cv2)) := Bs B3.out (Nat.le_refl _) _
      have E4 := Lib.hid (E2.out.below bb4)
      have HS4 := Lib.hid (SlN.of lenV O4.out rfl)
      have hs4 : (w3.setCell ⟨w2.heap.size, 2, none⟩ (.slice pv2 l1.length cv2)).heap.size = w3.heap.size := by simp
      have HY := Lib.hid (HLy.out _ _ (fun b => w2.heap.size + 1 ≤ b ∧ b < w3.heap.size) _ hcap S4.out E4.out (by
        obtain ⟨p', c', e1, e2, e3, e4⟩ := HS4.out
        refine ⟨p', c', e1, e2, e3, fun hl => ?_⟩
        obtain ⟨g, o, e5, e6, e7, e8⟩ := e4 hl
        exact ⟨g, o, e5, e6, ⟨e7, by omega⟩, e8⟩) (fun b hb => ⟨by omega, fun e => by have := S4.out.lt b e; have := S2.out.lt b e; omega⟩))
      clear HLy HS4 tt4 t4 X4
      go_wp2_with fail
      obtain ⟨⟨a0, a1, a2⟩, _, _, _⟩ := three_cells X4'
      refine HY.out.mono ?_
      rintro e w5 ⟨rfl, hS5, ht5⟩
      have hs5 := ht5.size
      have T5 := T2.out.more (Tch.of bb4 : Tch M w2 _)
      have B1s := B1.out.size
      have T6 : Tch M w w5 := ⟨ht5.os.trans T5.os, ht5.tape.trans T5.tape, ht5.output.trans T5.output, Nat.le_trans T5.size ht5.size, fun b h1 h2 => (ht5.block b (Nat.lt_of_lt_of_le h1 T5.size) (fun e => by
        rcases e with e | e
        · exact h2 e
        · omega)).trans (T5.block b h1 h2)⟩
      go_wp2
      go_ret
      simp only [if_pos hcap, if_true]
      rw [errV_no]
      refine ⟨rfl, hS5.mono (fun b e => ?_) (New.lt HMl.out (by omega)), T6⟩
      rcases e with (e | e) | e
      · exact .inl e
      · exact .inr ⟨by omega, by omega⟩
      · exact .inr ⟨by omega, by omega⟩
    · rw [decide_eq_false hcap] at BR
      have hE3 := HE2.out
      have hgl := cell_lt hE3
      go_wp2_with fail
      refine BR.out.mono ?_
      rintro e w2 ⟨rfl, rfl⟩
      go_wp2
      go_ret
      simp only [if_neg hcap, show ¬ ((2 : Nat) = 0) by decide, if_false]
      rw [errV_at _ _ (by decide)]
      exact ⟨rfl, HS0.out _ B1.out, Tch.of B1.out⟩
end
end Go.Proofs.YtaehendpdfpibaaGreatDoor
