/-
  Queries: which masks answer; Fits of the program and the reference; Of; alive.
-/
import Derived.Test.YtaehendpdfpibaaDoorAl9
import Derived.Test.YtaehendpdfpibaaDoorKn
import Derived.Test.YtaehendpdfpibaaDoorVu
import Derived.Laws.StructEq
import Derived.Laws.ResultCell
import Derived.Deep.RegionHeld3
namespace Go.Proofs.YtaehendpdfpibaaDoor
set_option linter.unusedSimpArgs false
set_option linter.unusedVariables false
open Go.RowKit Go.Sort Go.Lib Go.Shelf

abbrev qB (a b : Nat) : Obj := .cells #[.int .u64 (a : Int), .int .u64 (b : Int)] 29
abbrev qV (a b : Nat) : Value := .agg #[.int .u64 (a : Int), .int .u64 (b : Int)]
theorem asks_call (a b m : Nat) (ha : a < 18446744073709551616) (hb : b < 18446744073709551616) (hm : m < 18446744073709551616) (w : World) :
    Calls Tryd.prog 20 #[qV a b, .int .u64 m] w fun e w' => e = .returned (.bool (fitN m a b)) ∧ RowKit.Below w.heap.size w w' := by
  obtain ⟨q, hq⟩ : ∃ q, q = fitN m a b := ⟨_, rfl⟩
  have C : Hid (∀ W, Calls Tryd.prog 30 #[.int .u64 m, .int .u64 a, .int .u64 b] W fun e w' => e = .returned (.bool q) ∧ W = w') := fun W => by rw [hq]; exact fits_any m a b hm ha hb W
  rw [← hq]
  have bb := Lib.hid (Ba (Below.refl _ w) (qB a b))
  clear hq ha hb hm
  go_enter Tryd.func20, Tryd.ntmps20
  go_wp2_with fail
  refine (C.out _).mono ?_
  rintro e w1 ⟨rfl, rfl⟩
  go_wp2
  go_ret
  exact ⟨rfl, bb.out⟩
set_option maxHeartbeats 1000000 in
theorem qfits (a b : Nat) (ha : a < 18446744073709551616) (hb : b < 18446744073709551616) (l : List Vl) (v : Value) (w : World) (e : Addr) (hv : Sl encV w v l) (hr : RightV l) (hE : ErrK w e) (hlen : l.length ≤ 100000) :
    Calls Tryd.prog 11 #[qV a b, v] w fun e w' => e = .returned (.bool (fitN (maskV l) a b)) ∧ RowKit.Below w.heap.size w w' := by
  have hm := mask_lt hr
  have bb := Ba (Below.refl _ w) (qB a b)
  have B0 := Lib.hid bb
  have b0 := Lib.hid (heap_alloc_new w (qB a b))
  have CM : Hid (∀ W, RowKit.Below (w.alloc (qB a b)).heap.size (w.alloc (qB a b)) W → Calls Tryd.prog 21 #[v] W fun e w' => e = .returned (.int .u64 (maskV l : Nat)) ∧ RowKit.Below W.heap.size W w') := fun W h => mask_call l v e W (hv.below (Bt bb h)) hr.2 (hE.below (Bt bb h)) hlen
  have CA : Hid (∀ W, Calls Tryd.prog 20 #[qV a b, .int .u64 (maskV l : Nat)] W fun e w' => e = .returned (.bool (fitN (maskV l) a b)) ∧ RowKit.Below W.heap.size W w') := fun W => asks_call a b _ ha hb (by omega) W
  generalize maskV l = m at *
  generalize fitN m a b = q at *
  obtain ⟨W, hW⟩ : ∃ W, W = w.alloc (qB a b) := ⟨_, rfl⟩
  rw [← hW] at B0 b0 CM
  obtain ⟨p, c, rfl, _, _, _⟩ := hv
  clear hE ha hb hm bb hr
  obtain ⟨q0, q1, _, _⟩ := two_cells b0.out
  have hql := cell_lt q0
  go_enter Tryd.func11, Tryd.ntmps11
  go_wp2_with fail
  rw [← hW]
  clear hW
  refine wp_region_held_drew (S := (fun w' => Below (W).heap.size (W) w' ∧ ∀ b_1 o, b_1 < (W).heap.size → w'.cell? ⟨b_1, o, none⟩ = (W).cell? ⟨b_1, o, none⟩)) (by kernel_rfl) (keep0 _) (fun hHeld => ?_)
  (refine wpAnyH_take (i := 0) (v := ?_) rfl (by kernel_rfl) (by kernel_rfl) (by kernel_rfl) (fun _ _ _ h => h) (Or.inl ⟨by rfl, ?rt⟩) (by assumption) ?_; case rt => (intro w hSw; (try dsimp only at hSw); go_simp; (try with_reducible rfl))); (try simp only [Act.put, List.getElem_toArray, List.getElem_cons_succ, List.getElem_cons_zero, List.setIfInBounds_toArray, List.set_cons_zero, List.set_cons_succ])
  (refine wpAnyH_take (i := 1) (v := ?_) rfl (by kernel_rfl) (by kernel_rfl) (by kernel_rfl) (fun _ _ _ h => h) (Or.inl ⟨by rfl, ?rt⟩) (by assumption) ?_; case rt => (intro w hSw; (try dsimp only at hSw); go_simp; (try with_reducible rfl))); (try simp only [Act.put, List.getElem_toArray, List.getElem_cons_succ, List.getElem_cons_zero, List.setIfInBounds_toArray, List.set_cons_zero, List.set_cons_succ])
  (refine wpAnyH_ready (rs := [2]) (by kernel_rfl) (by simp) ?_; refine AllReadyH.cons rfl (fun K hK => ?_) AllReadyH.nil; go_simp; refine (CM.out _ hHeld.1).mono ?_; rintro e w1 ⟨rfl, hb1⟩; refine hK.out _ _ (keepB (by assumption) hb1) (fun hHeld => ?_); clear hK K); (try simp only [Act.put, List.getElem_toArray, List.getElem_cons_succ, List.getElem_cons_zero, List.setIfInBounds_toArray, List.set_cons_zero, List.set_cons_succ])
  (refine wpAnyH_ready (rs := [3]) (by kernel_rfl) (by simp) ?_; refine AllReadyH.cons rfl (fun K hK => ?_) AllReadyH.nil; go_simp; refine (CA.out _).mono ?_; rintro e w1 ⟨rfl, hb1⟩; refine hK.out _ _ (keepB (by assumption) hb1) (fun hHeld => ?_); clear hK K); (try simp only [Act.put, List.getElem_toArray, List.getElem_cons_succ, List.getElem_cons_zero, List.setIfInBounds_toArray, List.set_cons_zero, List.set_cons_succ])
  (refine wpAnyH_take (i := 4) (v := ?_) rfl (by kernel_rfl) (by kernel_rfl) (by kernel_rfl) (fun _ _ _ h => h) (Or.inl ⟨by rfl, ?rt⟩) (by assumption) ?_; case rt => (intro w hSw; (try dsimp only at hSw); go_simp; (try with_reducible rfl))); (try simp only [Act.put, List.getElem_toArray, List.getElem_cons_succ, List.getElem_cons_zero, List.setIfInBounds_toArray, List.set_cons_zero, List.set_cons_succ])
  refine wpAnyH_done (by kernel_rfl) ?_ _
  have B1 := Lib.hid (Bt B0.out hHeld.1)
  clear hHeld hb1
  go_wp2
  go_ret
  exact ⟨rfl, B1.out⟩
set_option maxHeartbeats 1000000 in
theorem rqfits (a b : Nat) (ha : a < 18446744073709551616) (hb : b < 18446744073709551616) (l : List Vl) (v : Value) (w : World) (hv : Sl encV w v l) (hr : RightV l) (hlen : l.length ≤ 100000) :
    Calls Tryd.prog 12 #[v, .int .u64 a, .int .u64 b] w fun e w' => e = .returned (.bool (fitN (maskV l) a b)) ∧ RowKit.Below w.heap.size w w' := by
  have hm : maskV l < 18446744073709551616 := by have := mask_lt hr; omega
  have C1 := Lib.hid (rmask_call l v w hv hr.2 hlen)
  have FM : Hid (∀ W, Calls Tryd.prog 22 #[.int .u64 (maskV l : Nat)] W fun e w' => e = .returned (.agg (bv fun i => (maskV l).testBit i)) ∧ Gr W w') := fun W => from_call _ hm W
  have FA : Hid (∀ W, Calls Tryd.prog 22 #[.int .u64 a] W fun e w' => e = .returned (.agg (bv fun i => a.testBit i)) ∧ Gr W w') := fun W => from_call a ha W
  have FB : Hid (∀ W, Calls Tryd.prog 22 #[.int .u64 b] W fun e w' => e = .returned (.agg (bv fun i => b.testBit i)) ∧ Gr W w') := fun W => from_call b hb W
  have FF : Hid (∀ W, Calls Tryd.prog 24 #[.agg (bv fun i => (maskV l).testBit i), .agg (bv fun i => a.testBit i), .agg (bv fun i => b.testBit i)] W fun e w' => e = .returned (.bool (fitN (maskV l) a b)) ∧ Gr W w') := fun W => by
    have := rfits_call (fun i => (maskV l).testBit i) (fun i => a.testBit i) (fun i => b.testBit i) W
    rwa [fits_same hm ha] at this
  generalize (fun i => (maskV l).testBit i) = f at *
  generalize (fun i => a.testBit i) = g at *
  generalize (fun i => b.testBit i) = h at *
  generalize maskV l = m at *
  generalize fitN m a b = q at *
  obtain ⟨p, c, rfl, _, _, _⟩ := hv
  clear ha hb hm hr
  go_enter Tryd.func12, Tryd.ntmps12
  go_wp2_with fail
  refine C1.out.mono ?_
  rintro e w1 ⟨rfl, hb1⟩
  have B1 := Lib.hid hb1
  clear hb1 C1
  go_wp2_with fail
  refine (FM.out _).mono ?_
  rintro e w2 ⟨rfl, hg2⟩
  have B2 := Lib.hid (Bt B1.out hg2.below)
  clear hg2
  go_wp2_with fail
  refine (FA.out _).mono ?_
  rintro e w3 ⟨rfl, hg3⟩
  have B3 := Lib.hid (Bt B2.out hg3.below)
  clear hg3
  go_wp2_with fail
  refine (FB.out _).mono ?_
  rintro e w4 ⟨rfl, hg4⟩
  have B4 := Lib.hid (Bt B3.out hg4.below)
  clear hg4
  go_wp2_with fail
  refine (FF.out _).mono ?_
  rintro e w5 ⟨rfl, hg5⟩
  have B5 := Lib.hid (Bt B4.out hg5.below)
  clear hg5
  go_wp2
  go_ret
  exact ⟨rfl, B5.out⟩
/-- Of: the query, or the error. -/
def qofV (la lb : List Int) (a : Addr) : Value := if la.all kindB && lb.all kindB then .tuple #[qV (foldN true 0 la) (foldN true 0 lb), .nilIface] else .tuple #[qV 0 0, .iface 81 (.pointer (some a))]
set_option maxHeartbeats 2000000 in
theorem qof_call (la lb : List Int) (va vb : Value) (a : Addr) (w : World) (ha : Sl encI w va la) (hb : Sl encI w vb lb) (hE : ErrK w a) :
    Calls Tryd.prog 6 #[va, vb] w fun e w' => e = .returned (qofV la lb a) ∧ RowKit.Below w.heap.size w w' := by
  have bb := Ba (Below.refl _ w) (.cells #[.int .u64 0, .int .u64 0] 29)
  have B0 := Lib.hid bb
  have b0 := Lib.hid (heap_alloc_new w (.cells #[.int .u64 0, .int .u64 0] 29))
  have C1 := Lib.hid (of_call la va a (w.alloc (.cells #[.int .u64 0, .int .u64 0] 29)) (ha.below bb) (hE.below bb))
  have C2 : Hid (∀ W, RowKit.Below w.heap.size w W → Calls Tryd.prog 13 #[vb] W fun e w' => e = .returned (resK true 0 lb a) ∧ Gr W w') := fun W h => of_call lb vb a W (hb.below h) (hE.below h)
  obtain ⟨W, hW⟩ : ∃ W, W = w.alloc (.cells #[.int .u64 0, .int .u64 0] 29) := ⟨_, rfl⟩
  rw [← hW] at B0 b0 C1
  obtain ⟨pa, ca, rfl, _, _, _⟩ := ha
  obtain ⟨pb, cb, rfl, _, _, _⟩ := hb
  clear hE bb
  cases hka : la.all kindB with
  | false =>
    have e1 : qofV la lb a = .tuple #[(.agg #[.int .u64 0, .int .u64 0]), .iface 81 (.pointer (some a))] := by unfold qofV; rw [hka]; rfl
    rw [e1]
    rw [resK_no hka] at C1
    clear e1 hka
    go_enter Tryd.func6, Tryd.ntmps6
    go_wp2_with fail
    rw [← hW]
    clear hW
    refine C1.out.mono ?_
    rintro e w1 ⟨rfl, hg1⟩
    have B1 := Lib.hid (Bt B0.out hg1.below)
    obtain ⟨q0, q1, q2, q3⟩ := two_cells (blk_below b0.out hg1.below)
    have hql := cell_lt q0
    clear hg1
    go_wp2
    exact bodyPost_ret (v := .tuple #[(.agg #[.int .u64 0, .int .u64 0]), .iface 81 (.pointer (some a))]) (by simp [results, Tryd.results6, go_sem, *]) rfl ⟨rfl, by have := B1.out; exact Bs (Bs this (Nat.le_refl _) _) (Nat.le_refl _) _⟩
  | true =>
    rw [resK_yes hka] at C1
    cases hkb : lb.all kindB with
    | false =>
      have e1 : qofV la lb a = .tuple #[(.agg #[.int .u64 0, .int .u64 0]), .iface 81 (.pointer (some a))] := by unfold qofV; rw [hka, hkb]; rfl
      rw [e1]
      rw [resK_no hkb] at C2
      generalize foldN true 0 la = x at *
      clear e1 hka hkb
      go_enter Tryd.func6, Tryd.ntmps6
      go_wp2_with fail
      rw [← hW]
      clear hW
      refine C1.out.mono ?_
      rintro e w1 ⟨rfl, hg1⟩
      have B1 := Lib.hid (Bt B0.out hg1.below)
      have b1 := Lib.hid (blk_below b0.out hg1.below)
      clear hg1
      go_wp2_with fail
      refine (C2.out _ B1.out).mono ?_
      rintro e w2 ⟨rfl, hg2⟩
      have B2 := Lib.hid (Bt B1.out hg2.below)
      obtain ⟨q0, q1, q2, q3⟩ := two_cells (blk_below b1.out hg2.below)
      have hql := cell_lt q0
      clear hg2
      go_wp2
      exact bodyPost_ret (v := .tuple #[(.agg #[.int .u64 0, .int .u64 0]), .iface 81 (.pointer (some a))]) (by simp [results, Tryd.results6, go_sem, *]) rfl ⟨rfl, by have := B2.out; exact Bs (Bs this (Nat.le_refl _) _) (Nat.le_refl _) _⟩
    | true =>
      have e1 : qofV la lb a = .tuple #[qV (foldN true 0 la) (foldN true 0 lb), .nilIface] := by unfold qofV; rw [hka, hkb]; rfl
      rw [e1]
      rw [resK_yes hkb] at C2
      generalize foldN true 0 la = x at *
      generalize foldN true 0 lb = y at *
      clear e1 hka hkb
      go_enter Tryd.func6, Tryd.ntmps6
      go_wp2_with fail
      rw [← hW]
      clear hW
      refine C1.out.mono ?_
      rintro e w1 ⟨rfl, hg1⟩
      have B1 := Lib.hid (Bt B0.out hg1.below)
      have b1 := Lib.hid (blk_below b0.out hg1.below)
      clear hg1
      go_wp2_with fail
      refine (C2.out _ B1.out).mono ?_
      rintro e w2 ⟨rfl, hg2⟩
      have B2 := Lib.hid (Bt B1.out hg2.below)
      obtain ⟨q0, q1, q2, q3⟩ := two_cells (blk_below b1.out hg2.below)
      have hql := cell_lt q0
      clear hg2
      go_wp2
      exact bodyPost_ret (v := .tuple #[qV x y, .nilIface]) (by simp [results, Tryd.results6, go_sem, *]) rfl ⟨rfl, by have := B2.out; exact Bs (Bs this (Nat.le_refl _) _) (Nat.le_refl _) _⟩
theorem eqQ_run (x1 x2 y1 y2 : Int) (w : World) : Sem.run Tryd.prog (binOp .eql 29 (.agg #[.int .u64 x1, .int .u64 x2]) (.agg #[.int .u64 y1, .int .u64 y2])) w = .ok (.bool (decide ((x1, x2) = (y1, y2)))) w := by
  have u3 := Tryd.underlying27
  have a3 := Tryd.isAgg27
  have z3 := Tryd.sizeOf27
  have hS : Tryd.prog.underlying 29 = some (.struct (Tryd.prog.fieldsOf 29)) := by kernel_rfl
  have hp : Tryd.prog.stoodInHeld 29 = false := by kernel_rfl
  rw [run_eql_struct, show (10000 : Nat) = 9999 + 1 from rfl, run_equalIn_agg w 9999 29 _ _ hS hp]
  simp only [Program.fieldsOf, Tryd.underlying29]
  go_simp
  by_cases h1 : x1 = y1 <;> by_cases h2 : x2 = y2 <;> simp [h1, h2]
theorem gdQ_run (op : BinOp) (a b : Operand) (xs ys : Array Value) (w : World) : Sem.run Tryd.prog (eqGuard op 29 a b (.agg xs) (.agg ys)) w = .ok () w :=
  run_eqGuard_agg w op 29 a b xs ys (by kernel_rfl)
set_option maxHeartbeats 2000000 in
set_option maxRecDepth 100000 in
theorem alive9_any (w : World) (a : Addr) (hE : ErrK w a) : Calls Tryd.prog 4 #[] w fun e w' => e = .returned (.bool true) ∧ RowKit.Below w.heap.size w w' := by
  have eq1 : ∀ W, Sem.run Tryd.prog (binOp .eql 29 (.agg #[.int .u64 1, .int .u64 2]) (.agg #[.int .u64 1, .int .u64 2])) W = .ok (.bool true) W := fun W => by rw [eqQ_run]; simp
  have gd1 := gdQ_run
  have S1 := Lib.hid ((sl_lit (enc := encI) (w := w) (cs := #[.int .i64 0]) (t := 3) (b := w.heap.size) [0] rfl rfl (by unfold maxLen; simp)).below (Ba (Below.refl _ _) (.cells #[.int .i64 1] 3)))
  have S2 := Lib.hid (sl_lit (enc := encI) (w := w.alloc (.cells #[.int .i64 0] 3)) (cs := #[.int .i64 1]) (t := 3) (b := w.heap.size + 1) [1] (by simp) rfl (by unfold maxLen; simp))
  have BB := Lib.hid (Ba (Ba (Below.refl _ w) (.cells #[.int .i64 0] 3)) (.cells #[.int .i64 1] 3))
  have C := Lib.hid (qof_call [0] [1] _ _ a _ S1.out S2.out (hE.below BB.out))
  have hq : qofV [0] [1] a = .tuple #[(.agg #[.int .u64 1, .int .u64 2]), .nilIface] := by unfold qofV; rfl
  rw [hq] at C
  have HE := Lib.hid hE
  have F1 : Hid (∀ W v, RowKit.Below w.heap.size w W → Sl encV W v [(0, 0, 0)] → Calls Tryd.prog 11 #[(.agg #[.int .u64 1, .int .u64 2]), v] W fun e w' => e = .returned (.bool true) ∧ RowKit.Below W.heap.size W w') := fun W v hb hv => qfits 1 2 (by decide) (by decide) [(0, 0, 0)] v W a hv ((rightB_iff _).1 (by decide +kernel)) (hE.below hb) (by decide)
  have F2 : Hid (∀ W v, RowKit.Below w.heap.size w W → Sl encV W v [(0, 0, 0), (1, 0, 0)] → Calls Tryd.prog 11 #[(.agg #[.int .u64 1, .int .u64 2]), v] W fun e w' => e = .returned (.bool false) ∧ RowKit.Below W.heap.size W w') := fun W v hb hv => qfits 1 2 (by decide) (by decide) [(0, 0, 0), (1, 0, 0)] v W a hv ((rightB_iff _).1 (by decide +kernel)) (hE.below hb) (by decide)
  clear hq hE S1 S2
  go_enter Tryd.func4, Tryd.ntmps4
  go_wp2_with fail
  refine C.out.mono ?_
  rintro e w1 ⟨rfl, hb1⟩
  have B1 := Lib.hid (Ba (Bt BB.out hb1) (.cells #[.int .u64 1, .int .u64 2] 29))
  have q1 := Lib.hid (heap_alloc_new w1 (.cells #[.int .u64 1, .int .u64 2] 29))
  have bA := Ba (Below.refl _ (w1.alloc (.cells #[.int .u64 1, .int .u64 2] 29))) (.cells #[.int .i64 0, .int .i64 0, .int .i64 0] 42)
  have BA := Lib.hid (Bt B1.out bA)
  have CF := Lib.hid (F1.out ((w1.alloc (.cells #[.int .u64 1, .int .u64 2] 29)).alloc (.cells #[.int .i64 0, .int .i64 0, .int .i64 0] 42)) (.slice (some ⟨w1.heap.size + 1, 0, none⟩) 1 1) BA.out (sl_lit (enc := encV) (w := w1.alloc (.cells #[.int .u64 1, .int .u64 2] 29)) (cs := #[.int .i64 0, .int .i64 0, .int .i64 0]) (t := 42) (b := w1.heap.size + 1) [(0, 0, 0)] (by simp) rfl (by unfold maxLen; simp)))
  have Q2 := Lib.hid (blk_below q1.out bA)
  clear hb1 C bA F1
  go_wp2_with fail
  refine CF.out.mono ?_
  rintro e w2 ⟨rfl, hb2⟩
  obtain ⟨q0, q3, _, _⟩ := two_cells (blk_below Q2.out hb2)
  have hql := cell_lt q0
  have bC := Ba (Below.refl _ w2) (.cells #[.int .i64 0, .int .i64 0, .int .i64 0, .int .i64 1, .int .i64 0, .int .i64 0] 42)
  have BC := Lib.hid (Bt BA.out (Bt hb2 bC))
  have CG := Lib.hid (F2.out (w2.alloc (.cells #[.int .i64 0, .int .i64 0, .int .i64 0, .int .i64 1, .int .i64 0, .int .i64 0] 42)) (.slice (some ⟨w2.heap.size, 0, none⟩) 2 2) BC.out (sl_lit (enc := encV) (w := w2) (cs := #[.int .i64 0, .int .i64 0, .int .i64 0, .int .i64 1, .int .i64 0, .int .i64 0]) (t := 42) (b := w2.heap.size) [(0, 0, 0), (1, 0, 0)] rfl rfl (by unfold maxLen; simp)))
  clear hb2 CF bC F2
  go_wp2_with fail
  refine CG.out.mono ?_
  rintro e w3 ⟨rfl, hb3⟩
  have B3 := Lib.hid (Bt BC.out hb3)
  go_wp2
  go_ret
  exact ⟨rfl, B3.out⟩
end Go.Proofs.YtaehendpdfpibaaDoor
