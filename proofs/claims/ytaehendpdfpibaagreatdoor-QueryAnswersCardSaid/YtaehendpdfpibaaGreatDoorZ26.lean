import Derived.Test.YtaehendpdfpibaaGreatDoorZ25
import Derived.Test.YtaehendpdfpibaaGreatDoorZ4
import Derived.Laws.StructEq
import Derived.Laws.ResultCell
import Derived.Deep.RegionHeld3
import Derived.Test.YtaehendpdfpibaaGreatDoorZ8
import Derived.Test.YtaehendpdfpibaaGreatDoorZ22
import Derived.Test.YtaehendpdfpibaaGreatDoorZ13
import Derived.Test.YtaehendpdfpibaaGreatDoorZ12
import Derived.Test.YtaehendpdfpibaaGreatDoorZ23

/-
  Queries: which masks answer; Fits of the program and the reference; Of; alive.
-/
namespace Go.Proofs.YtaehendpdfpibaaGreatDoor
set_option linter.unusedSimpArgs false
set_option linter.unusedVariables false
open Go.RowKit Go.Sort Go.Lib Go.Shelf

abbrev qB (a b : Nat) : Obj := .cells #[.int .u64 (a : Int), .int .u64 (b : Int)] 62
abbrev qV (a b : Nat) : Value := .agg #[.int .u64 (a : Int), .int .u64 (b : Int)]
theorem asks_call (a b m : Nat) (ha : a < 18446744073709551616) (hb : b < 18446744073709551616) (hm : m < 18446744073709551616) (w : World) :
    Calls Tryz.prog 62 #[qV a b, .int .u64 m] w fun e w' => e = .returned (.bool (fitN m a b)) ∧ RowKit.Below w.heap.size w w' := by
  obtain ⟨q, hq⟩ : ∃ q, q = fitN m a b := ⟨_, rfl⟩
  have C : Hid (∀ W, Calls Tryz.prog 105 #[.int .u64 m, .int .u64 a, .int .u64 b] W fun e w' => e = .returned (.bool q) ∧ W = w') := fun W => by rw [hq]; exact fits_any m a b hm ha hb W
  rw [← hq]
  have bb := Lib.hid (Ba (Below.refl _ w) (qB a b))
  clear hq ha hb hm
  go_enter Tryz.func62, Tryz.ntmps62
  go_wp2_with fail
  refine (C.out _).mono ?_
  rintro e w1 ⟨rfl, rfl⟩
  go_wp2
  go_ret
  exact ⟨rfl, bb.out⟩
set_option maxHeartbeats 1000000 in
theorem qfits (a b : Nat) (ha : a < 18446744073709551616) (hb : b < 18446744073709551616) (l : List Vl) (v : Value) (w : World) (e : Addr) (hv : Sl encV w v l) (hr : RightV l) (hE : ErrK w e) (hlen : l.length ≤ 100000) :
    Calls Tryz.prog 31 #[qV a b, v] w fun e w' => e = .returned (.bool (fitN (maskV l) a b)) ∧ RowKit.Below w.heap.size w w' := by
  have hm := mask_lt hr
  have bb := Ba (Below.refl _ w) (qB a b)
  have B0 := Lib.hid bb
  have b0 := Lib.hid (heap_alloc_new w (qB a b))
  have CM : Hid (∀ W, RowKit.Below (w.alloc (qB a b)).heap.size (w.alloc (qB a b)) W → Calls Tryz.prog 66 #[v] W fun e w' => e = .returned (.int .u64 (maskV l : Nat)) ∧ RowKit.Below W.heap.size W w') := fun W h => mask_call l v e W (hv.below (Bt bb h)) hr.2 (hE.below (Bt bb h)) hlen
  have CA : Hid (∀ W, Calls Tryz.prog 62 #[qV a b, .int .u64 (maskV l : Nat)] W fun e w' => e = .returned (.bool (fitN (maskV l) a b)) ∧ RowKit.Below W.heap.size W w') := fun W => asks_call a b _ ha hb (by omega) W
  generalize maskV l = m at *
  generalize fitN m a b = q at *
  obtain ⟨W, hW⟩ : ∃ W, W = w.alloc (qB a b) := ⟨_, rfl⟩
  rw [← hW] at B0 b0 CM
  obtain ⟨p, c, rfl, _, _, _⟩ := hv
  clear hE ha hb hm bb hr
  obtain ⟨q0, q1, _, _⟩ := two_cells b0.out
  have hql := cell_lt q0
  go_enter Tryz.func31, Tryz.ntmps31
  go_wp2_with fail
  rw [← hW]
  clear hW
  refine wp_region_held_drew (S := (fun w' => Below (W).heap.size (W) w' ∧ ∀ b_1 o, b_1 < (W).heap.size → w'.cell? ⟨b_1, o, none⟩ = (W).cell? ⟨b_1, o, none⟩)) (by kernel_rfl) (keep0 _) (fun hHeld => ?_)
  (refine wpAnyH_take (i := 0) (v := ?_) rfl (by kernel_rfl) (by kernel_rfl) (by kernel_rfl) (fun _ _ _ h => h) (Or.inl ⟨by rfl, ?rt⟩) (by assumption) ?_; case rt => (intro w hSw; (try dsimp only at hSw); go_simp; (try with_reducible rfl))); (try simp only [Act.put, List.getElem_toArray, List.getElem_cons_succ, List.getElem_cons_zero, List.setIfInBounds_toArray, List.set_cons_zero, List.set_cons_succ])
  (refine wpAnyH_take (i := 1) (v := ?_) rfl (by kernel_rfl) (by kernel_rfl) (by kernel_rfl) (fun _ _ _ h => h) (Or.inl ⟨by rfl, ?rt⟩) (by assumption) ?_; case rt => (intro w hSw; (try dsimp only at hSw); go_simp; (try with_reducible rfl))); (try simp only [Act.put, List.getElem_toArray, List.getElem_cons_succ, List.getElem_cons_zero, List.setIfInBounds_toArray, List.set_cons_zero, List.set_cons_succ])
  (refine wpAnyH_ready (rs := [2]) (by kernel_rfl) (by simp) ?_; refine AllReadyH.cons rfl (fun K hK => ?_) AllReadyH.nil; go_simp; refine (CM.out _ hHeld.1).mono ?_; rintro e w1 ⟨rfl, hb1⟩; refine hK.out _ _ (keepB (by assumption) hb1) (fun hHeld => ?_); clear hK K); (try simp only [Act.put, List.getElem_toArray, List.getElem_cons_succ, List.getElem_cons_zero, List.setIfInBounds_toArray, List.set_cons_zero, List.set_cons_succ])
  (refine wpAnyH_ready (rs := [3]) (by kernel_rfl) (by simp) ?_; refine AllReadyH.cons rfl (fun K hK => ?_) AllReadyH.nil; go_simp; refine (CA.out _).mono ?_; rintro e w1 ⟨rfl, hb1⟩; refine hK.out _ _ (keepB (by assumption) hb1) (fun hHeld => ?_); clear hK K); (try simp only [Act.put, List.getElem_toArray, List.getElem_cons_succ, List.getElem_cons_zero, List.setIfInBounds_toArray, List.set_cons_zero, List.set_cons_succ])
  (refine wpAnyH_take (i := 4) (v := ?_) rfl (by kernel_rfl) (by kernel_rfl) (by kernel_rfl) (fun _ _ _ h => h) (Or.inl ⟨by rfl, ?rt⟩) (by assumption) ?_; case rt => (intro w hSw; (try dsimp only at hSw); go_simp; (try with_reducible rfl))); (try simp only [Act.put, List.getElem_toArray, List.getElem_cons_succ, List.getElem_cons_zero, List.setIfInBounds_toArray, List.set_cons_zero, List.set_cons_succ])
  refine wpAnyH_done (by kernel_rfl) ?_ _
  have B1 := Lib.hid (Bt B0.out hHeld.1)
  clear hHeld hb1
  go_wp2
  go_ret
  exact ⟨rfl, B1.out⟩
set_option maxHeartbeats 1000000 in
theorem rqfits (a b : Nat) (ha : a < 18446744073709551616) (hb : b < 18446744073709551616) (l : List Vl) (v : Value) (w : World) (hv : Sl encV w v l) (hr : RightV l) (hlen : l.length ≤ 100000) :
    Calls Tryz.prog 61 #[v, .int .u64 a, .int .u64 b] w fun e w' => e = .returned (.bool (fitN (maskV l) a b)) ∧ RowKit.Below w.heap.size w w' := by
  have hm : maskV l < 18446744073709551616 := by have := mask_lt hr; omega
  have C1 := Lib.hid (rmask_call l v w hv hr.2 hlen)
  have FM : Hid (∀ W, Calls Tryz.prog 103 #[.int .u64 (maskV l : Nat)] W fun e w' => e = .returned (.agg (bv fun i => (maskV l).testBit i)) ∧ Gr W w') := fun W => from_call _ hm W
  have FA : Hid (∀ W, Calls Tryz.prog 103 #[.int .u64 a] W fun e w' => e = .returned (.agg (bv fun i => a.testBit i)) ∧ Gr W w') := fun W => from_call a ha W
  have FB : Hid (∀ W, Calls Tryz.prog 103 #[.int .u64 b] W fun e w' => e = .returned (.agg (bv fun i => b.testBit i)) ∧ Gr W w') := fun W => from_call b hb W
  have FF : Hid (∀ W, Calls Tryz.prog 104 #[.agg (bv fun i => (maskV l).testBit i), .agg (bv fun i => a.testBit i), .agg (bv fun i => b.testBit i)] W fun e w' => e = .returned (.bool (fitN (maskV l) a b)) ∧ Gr W w') := fun W => by
    have := rfits_call (fun i => (maskV l).testBit i) (fun i => a.testBit i) (fun i => b.testBit i) W
    rwa [fits_same hm ha] at this
  generalize (fun i => (maskV l).testBit i) = f at *
  generalize (fun i => a.testBit i) = g at *
  generalize (fun i => b.testBit i) = h at *
  generalize maskV l = m at *
  generalize fitN m a b = q at *
  obtain ⟨p, c, rfl, _, _, _⟩ := hv
  clear ha hb hm hr
  go_enter Tryz.func61, Tryz.ntmps61
  go_wp2_with fail
  refine C1.out.mono ?_
  rintro e w1 ⟨rfl, hb1⟩
  have B1 := Lib.hid hb1
  clear hb1 C1
  go_wp2_with fail
  refine (FM.out _).mono ?_
  rintro e w2 ⟨rfl, hg2⟩
  have B2 := Lib.hid (Bt B1.out hg2.below)
  clear hg2
  go_wp2_with fail
  refine (FA.out _).mono ?_
  rintro e w3 ⟨rfl, hg3⟩
  have B3 := Lib.hid (Bt B2.out hg3.below)
  clear hg3
  go_wp2_with fail
  refine (FB.out _).mono ?_
  rintro e w4 ⟨rfl, hg4⟩
  have B4 := Lib.hid (Bt B3.out hg4.below)
  clear hg4
  go_wp2_with fail
  refine (FF.out _).mono ?_
  rintro e w5 ⟨rfl, hg5⟩
  have B5 := Lib.hid (Bt B4.out hg5.below)
  clear hg5
  go_wp2
  go_ret
  exact ⟨rfl, B5.out⟩
/-- Of: the query, or the error. -/
def qofV (la lb : List Int) (a : Addr) : Value := if la.all kindB && lb.all kindB then .tuple #[qV (foldN true 0 la) (foldN true 0 lb), .nilIface] else .tuple #[qV 0 0, .iface 258 (.pointer (some a))]
set_option maxHeartbeats 2000000 in
theorem qof_call (la lb : List Int) (va vb : Value) (a : Addr) (w : World) (ha : Sl encI w va la) (hb : Sl encI w vb lb) (hE : ErrK w a) :
    Calls Tryz.prog 32 #[va, vb] w fun e w' => e = .returned (qofV la lb a) ∧ RowKit.Below w.heap.size w w' := by
  have bb := Ba (Below.refl _ w) (.cells #[.int .u64 0, .int .u64 0] 62)
  have B0 := Lib.hid bb
  have b0 := Lib.hid (heap_alloc_new w (.cells #[.int .u64 0, .int .u64 0] 62))
  have C1 := Lib.hid (of_call la va a (w.alloc (.cells #[.int .u64 0, .int .u64 0] 62)) (ha.below bb) (hE.below bb))
  have C2 : Hid (∀ W, RowKit.Below w.heap.size w W → Calls Tryz.prog 67 #[vb] W fun e w' => e = .returned (resK true 0 lb a) ∧ Gr W w') := fun W h => of_call lb vb a W (hb.below h) (hE.below h)
  obtain ⟨W, hW⟩ : ∃ W, W = w.alloc (.cells #[.int .u64 0, .int .u64 0] 62) := ⟨_, rfl⟩
  rw [← hW] at B0 b0 C1
  obtain ⟨pa, ca, rfl, _, _, _⟩ := ha
  obtain ⟨pb, cb, rfl, _, _, _⟩ := hb
  clear hE bb
  cases hka : la.all kindB with
  | false =>
    have e1 : qofV la lb a = .tuple #[(.agg #[.int .u64 0, .int .u64 0]), .iface 258 (.pointer (some a))] := by unfold qofV; rw [hka]; rfl
    rw [e1]
    rw [resK_no hka] at C1
    clear e1 hka
    go_enter Tryz.func32, Tryz.ntmps32
    go_wp2_with fail
    rw [← hW]
    clear hW
    refine C1.out.mono ?_
    rintro e w1 ⟨rfl, hg1⟩
    have B1 := Lib.hid (Bt B0.out hg1.below)
    obtain ⟨q0, q1, q2, q3⟩ := two_cells (blk_below b0.out hg1.below)
    have hql := cell_lt q0
    clear hg1
    go_wp2
    exact bodyPost_ret (v := .tuple #[(.agg #[.int .u64 0, .int .u64 0]), .iface 258 (.pointer (some a))]) (by simp [results, Tryz.results32, go_sem, *]) rfl ⟨rfl, by have := B1.out; exact Bs (Bs this (Nat.le_refl _) _) (Nat.le_refl _) _⟩
  | true =>
    rw [resK_yes hka] at C1
    cases hkb : lb.all kindB with
    | false =>
      have e1 : qofV la lb a = .tuple #[(.agg #[.int .u64 0, .int .u64 0]), .iface 258 (.pointer (some a))] := by unfold qofV; rw [hka, hkb]; rfl
      rw [e1]
      rw [resK_no hkb] at C2
      generalize foldN true 0 la = x at *
      clear e1 hka hkb
      go_enter Tryz.func32, Tryz.ntmps32
      go_wp2_with fail
      rw [← hW]
      clear hW
      refine C1.out.mono ?_
      rintro e w1 ⟨rfl, hg1⟩
      have B1 := Lib.hid (Bt B0.out hg1.below)
      have b1 := Lib.hid (blk_below b0.out hg1.below)
      clear hg1
      go_wp2_with fail
      refine (C2.out _ B1.out).mono ?_
      rintro e w2 ⟨rfl, hg2⟩
      have B2 := Lib.hid (Bt B1.out hg2.below)
      obtain ⟨q0, q1, q2, q3⟩ := two_cells (blk_below b1.out hg2.below)
      have hql := cell_lt q0
      clear hg2
      go_wp2
      exact bodyPost_ret (v := .tuple #[(.agg #[.int .u64 0, .int .u64 0]), .iface 258 (.pointer (some a))]) (by simp [results, Tryz.results32, go_sem, *]) rfl ⟨rfl, by have := B2.out; exact Bs (Bs this (Nat.le_refl _) _) (Nat.le_refl _) _⟩
    | true =>
      have e1 : qofV la lb a = .tuple #[qV (foldN true 0 la) (foldN true 0 lb), .nilIface] := by unfold qofV; rw [hka, hkb]; rfl
      rw [e1]
      rw [resK_yes hkb] at C2
      generalize foldN true 0 la = x at *
      generalize foldN true 0 lb = y at *
      clear e1 hka hkb
      go_enter Tryz.func32, Tryz.ntmps32
      go_wp2_with fail
      rw [← hW]
      clear hW
      refine C1.out.mono ?_
      rintro e w1 ⟨rfl, hg1⟩
      have B1 := Lib.hid (Bt B0.out hg1.below)
      have b1 := Lib.hid (blk_below b0.out hg1.below)
      clear hg1
      go_wp2_with fail
      refine (C2.out _ B1.out).mono ?_
      rintro e w2 ⟨rfl, hg2⟩
      have B2 := Lib.hid (Bt B1.out hg2.below)
      obtain ⟨q0, q1, q2, q3⟩ := two_cells (blk_below b1.out hg2.below)
      have hql := cell_lt q0
      clear hg2
      go_wp2
      exact bodyPost_ret (v := .tuple #[qV x y, .nilIface]) (by simp [results, Tryz.results32, go_sem, *]) rfl ⟨rfl, by have := B2.out; exact Bs (Bs this (Nat.le_refl _) _) (Nat.le_refl _) _⟩
theorem eqQ_run (x1 x2 y1 y2 : Int) (w : World) : Sem.run Tryz.prog (binOp .eql 62 (.agg #[.int .u64 x1, .int .u64 x2]) (.agg #[.int .u64 y1, .int .u64 y2])) w = .ok (.bool (decide ((x1, x2) = (y1, y2)))) w := by
  have u3 := Tryz.underlying60
  have a3 := Tryz.isAgg60
  have z3 := Tryz.sizeOf60
  have hS : Tryz.prog.underlying 62 = some (.struct (Tryz.prog.fieldsOf 62)) := by kernel_rfl
  have hp : Tryz.prog.stoodInHeld 62 = false := by kernel_rfl
  rw [run_eql_struct, show (10000 : Nat) = 9999 + 1 from rfl, run_equalIn_agg w 9999 62 _ _ hS hp]
  simp only [Program.fieldsOf, Tryz.underlying62]
  go_simp
  by_cases h1 : x1 = y1 <;> by_cases h2 : x2 = y2 <;> simp [h1, h2]
theorem gdQ_run (op : BinOp) (a b : Operand) (xs ys : Array Value) (w : World) : Sem.run Tryz.prog (eqGuard op 62 a b (.agg xs) (.agg ys)) w = .ok () w :=
  run_eqGuard_agg w op 62 a b xs ys (by kernel_rfl)
set_option maxHeartbeats 2000000 in
set_option maxRecDepth 100000 in
theorem alive9_any (w : World) (a : Addr) (hE : ErrK w a) : Calls Tryz.prog 20 #[] w fun e w' => e = .returned (.bool true) ∧ RowKit.Below w.heap.size w w' := by
  have eq1 : ∀ W, Sem.run Tryz.prog (binOp .eql 62 (.agg #[.int .u64 1, .int .u64 2]) (.agg #[.int .u64 1, .int .u64 2])) W = .ok (.bool true) W := fun W => by rw [eqQ_run]; simp
  have gd1 := gdQ_run
  have S1 := Lib.hid ((sl_lit (enc := encI) (w := w) (cs := #[.int .i64 0]) (t := 3) (b := w.heap.size) [0] rfl rfl (by unfold maxLen; simp)).below (Ba (Below.refl _ _) (.cells #[.int .i64 1] 3)))
  have S2 := Lib.hid (sl_lit (enc := encI) (w := w.alloc (.cells #[.int .i64 0] 3)) (cs := #[.int .i64 1]) (t := 3) (b := w.heap.size + 1) [1] (by simp) rfl (by unfold maxLen; simp))
  have BB := Lib.hid (Ba (Ba (Below.refl _ w) (.cells #[.int .i64 0] 3)) (.cells #[.int .i64 1] 3))
  have C := Lib.hid (qof_call [0] [1] _ _ a _ S1.out S2.out (hE.below BB.out))
  have hq : qofV [0] [1] a = .tuple #[(.agg #[.int .u64 1, .int .u64 2]), .nilIface] := by unfold qofV; rfl
  rw [hq] at C
  have HE := Lib.hid hE
  have F1 : Hid (∀ W v, RowKit.Below w.heap.size w W → Sl encV W v [(0, 0, 0)] → Calls Tryz.prog 31 #[(.agg #[.int .u64 1, .int .u64 2]), v] W fun e w' => e = .returned (.bool true) ∧ RowKit.Below W.heap.size W w') := fun W v hb hv => qfits 1 2 (by decide) (by decide) [(0, 0, 0)] v W a hv ((rightB_iff _).1 (by decide +kernel)) (hE.below hb) (by decide)
  have F2 : Hid (∀ W v, RowKit.Below w.heap.size w W → Sl encV W v [(0, 0, 0), (1, 0, 0)] → Calls Tryz.prog 31 #[(.agg #[.int .u64 1, .int .u64 2]), v] W fun e w' => e = .returned (.bool false) ∧ RowKit.Below W.heap.size W w') := fun W v hb hv => qfits 1 2 (by decide) (by decide) [(0, 0, 0), (1, 0, 0)] v W a hv ((rightB_iff _).1 (by decide +kernel)) (hE.below hb) (by decide)
  clear hq hE S1 S2
  go_enter Tryz.func20, Tryz.ntmps20
  go_wp2_with fail
  refine C.out.mono ?_
  rintro e w1 ⟨rfl, hb1⟩
  have B1 := Lib.hid (Ba (Bt BB.out hb1) (.cells #[.int .u64 1, .int .u64 2] 62))
  have q1 := Lib.hid (heap_alloc_new w1 (.cells #[.int .u64 1, .int .u64 2] 62))
  have bA := Ba (Below.refl _ (w1.alloc (.cells #[.int .u64 1, .int .u64 2] 62))) (.cells #[.int .i64 0, .int .i64 0, .int .i64 0] 34)
  have BA := Lib.hid (Bt B1.out bA)
  have CF := Lib.hid (F1.out ((w1.alloc (.cells #[.int .u64 1, .int .u64 2] 62)).alloc (.cells #[.int .i64 0, .int .i64 0, .int .i64 0] 34)) (.slice (some ⟨w1.heap.size + 1, 0, none⟩) 1 1) BA.out (sl_lit (enc := encV) (w := w1.alloc (.cells #[.int .u64 1, .int .u64 2] 62)) (cs := #[.int .i64 0, .int .i64 0, .int .i64 0]) (t := 34) (b := w1.heap.size + 1) [(0, 0, 0)] (by simp) rfl (by unfold maxLen; simp)))
  have Q2 := Lib.hid (blk_below q1.out bA)
  clear hb1 C bA F1
  go_wp2_with fail
  refine CF.out.mono ?_
  rintro e w2 ⟨rfl, hb2⟩
  obtain ⟨q0, q3, _, _⟩ := two_cells (blk_below Q2.out hb2)
  have hql := cell_lt q0
  have bC := Ba (Below.refl _ w2) (.cells #[.int .i64 0, .int .i64 0, .int .i64 0, .int .i64 1, .int .i64 0, .int .i64 0] 34)
  have BC := Lib.hid (Bt BA.out (Bt hb2 bC))
  have CG := Lib.hid (F2.out (w2.alloc (.cells #[.int .i64 0, .int .i64 0, .int .i64 0, .int .i64 1, .int .i64 0, .int .i64 0] 34)) (.slice (some ⟨w2.heap.size, 0, none⟩) 2 2) BC.out (sl_lit (enc := encV) (w := w2) (cs := #[.int .i64 0, .int .i64 0, .int .i64 0, .int .i64 1, .int .i64 0, .int .i64 0]) (t := 34) (b := w2.heap.size) [(0, 0, 0), (1, 0, 0)] rfl rfl (by unfold maxLen; simp)))
  clear hb2 CF bC F2
  go_wp2_with fail
  refine CG.out.mono ?_
  rintro e w3 ⟨rfl, hb3⟩
  have B3 := Lib.hid (Bt BC.out hb3)
  go_wp2
  go_ret
  exact ⟨rfl, B3.out⟩
end Go.Proofs.YtaehendpdfpibaaGreatDoor

/-
  Pure: which entities answer a query; the masks' lists put together and brought in order are their handles.
-/
namespace Go.Proofs.YtaehendpdfpibaaGreatDoor
set_option linter.unusedSimpArgs false
set_option linter.unusedVariables false
open Go.RowKit Go.Sort Go.Lib Go.Shelf

/-- The entities that answer a query. -/
def ansE (L : List En) (a b : Nat) : List En := L.filter fun r => fitN (maskV r.2) a b
/-- The masks that do, and the handles of those masks, one mask after another. -/
def fitM (l : List Nat) (a b : Nat) : List Nat := l.filter fun m => fitN m a b
def catH (L : List En) (l : List Nat) : List Hd := l.flatMap fun m => inE L m
theorem ans_rise {L : List En} (hL : RiseE L) (a b : Nat) : Rise ltH (hds (ansE L a b)) := by
  unfold ansE RiseE hds Rise at *
  rw [List.pairwise_map] at *
  exact hL.filter _
theorem ans_srt {L : List En} (hL : RiseE L) (hm : ∀ r ∈ L, maskV r.2 < 1024) (a b : Nat) : srt ltH (catH L (fitM (mskE L) a b)) = hds (ansE L a b) := by
  refine srt_eq sto_hd (ans_rise hL a b) fun z => ?_
  unfold catH fitM ansE hds
  rw [List.mem_map, List.mem_flatMap]
  constructor
  · rintro ⟨r, hr, rfl⟩
    rw [List.mem_filter] at hr
    refine ⟨maskV r.2, List.mem_filter.2 ⟨(mem_mskE L _).2 ⟨hm r hr.1, r, hr.1, rfl⟩, hr.2⟩, (mem_inE L _ _).2 ⟨r.2, hr.1, rfl⟩⟩
  · rintro ⟨m, h1, h2⟩
    obtain ⟨h3, h4⟩ := List.mem_filter.1 h1
    obtain ⟨l, h5, rfl⟩ := (mem_inE L _ _).1 h2
    exact ⟨(z, l), List.mem_filter.2 ⟨h5, h4⟩, rfl⟩
theorem ans_good {L : List En} (hG : Good L) (a b : Nat) : srt ltH (catH L (fitM (mskE L) a b)) = hds (ansE L a b) := ans_srt hG.rise (fun _ h => hG.hOk h) a b
theorem fitM_step {l : List Nat} {k : Nat} (hk : k < l.length) (a b : Nat) : fitM (l.take (k + 1)) a b = if fitN l[k]! a b = true then fitM (l.take k) a b ++ [l[k]!] else fitM (l.take k) a b := by
  rw [getElem!_pos l k hk]
  unfold fitM
  rw [List.take_add_one, List.getElem?_eq_getElem hk, List.filter_append]
  cases e : fitN l[k] a b <;> simp [List.filter_cons, e]
theorem catH_step (L : List En) (l : List Nat) (m : Nat) : catH L (l ++ [m]) = catH L l ++ inE L m := by simp [catH]
/-- No mask twice: the lists together are no longer than the store's row. -/
theorem inE_lenL (L : List En) (m : Nat) : (inE L m).length ≤ L.length := by
  unfold inE hds
  rw [List.length_map]
  exact List.length_filter_le _ _
theorem catH_len (L : List En) : ∀ l : List Nat, (catH L l).length ≤ l.length * L.length := by
  intro l
  induction l with
  | nil => simp [catH]
  | cons m r ih =>
    have h1 := inE_lenL L m
    have : catH L (m :: r) = inE L m ++ catH L r := by simp [catH]
    rw [this, List.length_append, List.length_cons, Nat.succ_mul]
    omega
theorem fitM_len (l : List Nat) (a b : Nat) : (fitM l a b).length ≤ l.length := List.length_filter_le _ _
theorem len_ans (L : List En) (a b : Nat) : (ansE L a b).length ≤ L.length := List.length_filter_le _ _
/-- Each that answers is in the store, by its own handle. -/
theorem ans_ent {L : List En} (hL : RiseE L) {a b k : Nat} (hk : k < (ansE L a b).length) : fndE L (ansE L a b)[k]!.1 = some (ansE L a b)[k]!.2 := by
  rw [fndE_some hL, getElem!_pos _ k hk]
  have := List.getElem_mem hk
  exact (List.mem_filter.1 this).1
theorem ans_mem {L : List En} {a b k : Nat} (hk : k < (ansE L a b).length) : (ansE L a b)[k]! ∈ L ∧ fitN (maskV (ansE L a b)[k]!.2) a b = true := by
  rw [getElem!_pos _ k hk]
  exact List.mem_filter.1 (List.getElem_mem hk)
theorem entE_of {L : List En} {r : En} (h : fndE L r.1 = some r.2) : entE L r.1 = r ∧ takeEN L r.1 = 0 := by
  unfold entE takeEN
  rw [h, rowE_of h]
  exact ⟨rfl, rfl⟩
theorem ans_all (L : List En) : ansE L 0 0 = L := by
  unfold ansE
  exact List.filter_eq_self.2 fun r _ => fitN_none _
theorem ans_two (L : List En) (a b c d : Nat) : ansE L (a ||| c) (b ||| d) = L.filter fun r => fitN (maskV r.2) a b && fitN (maskV r.2) c d := by
  unfold ansE
  exact List.filter_congr fun r _ => fitN_both _ _ _ _ _
end Go.Proofs.YtaehendpdfpibaaGreatDoor

/-
  Queries of the program: which masks answer; Fits, Both, Handles, Count, Entities, Boxes.
-/
namespace Go.Proofs.YtaehendpdfpibaaGreatDoor
set_option linter.unusedSimpArgs false
set_option linter.unusedVariables false
open Go.RowKit Go.Sort Go.Lib Go.Shelf

section
variable {N : Nat → Prop} {base ps : Nat} {w w' : World} {L : List En} {A : Nat → Addr}
set_option maxHeartbeats 4000000 in
set_option maxRecDepth 100000 in
theorem qhandles (h : StoO N base w ps L) (a b : Nat) (ha : a < 18446744073709551616) (hb : b < 18446744073709551616) :
    Calls Tryz.prog 24 #[qV a b, psP ps] w fun e w' => ∃ v, e = .returned v ∧ Sl encH w' v (hds (ansE L a b)) ∧ RowKit.Below w.heap.size w w' := by
  have bb := Ba (Below.refl _ w) (qB a b)
  have B0 := Lib.hid bb
  have b0 := Lib.hid (heap_alloc_new w (qB a b))
  have S0 := Lib.hid (h.below bb)
  have HG := Lib.hid h.good
  have CM := Lib.hid (masksS S0.out)
  have CA : Hid (∀ m : Nat, m < 18446744073709551616 → ∀ W, Calls Tryz.prog 62 #[qV a b, .int .u64 m] W fun e w' => e = .returned (.bool (fitN m a b)) ∧ RowKit.Below W.heap.size W w') := fun m hm W => asks_call a b m ha hb hm W
  have hmn : (mskE L).length ≤ 32 := HG.out.msk
  have hml : ∀ k, k < (mskE L).length → (mskE L)[k]! < 1024 := fun k hk => by
    rw [getElem!_pos _ k hk]
    exact ((mem_mskE L _).1 (List.getElem_mem hk)).1
  have HML := Lib.hid hml
  have h128 := HG.out.len
  have HANS := Lib.hid (ans_good HG.out a b)
  obtain ⟨W, hW⟩ : ∃ W, W = w.alloc (qB a b) := ⟨_, rfl⟩
  rw [← hW] at B0 b0 S0 CM
  clear h bb ha hb hml
  go_enter Tryz.func24, Tryz.ntmps24
  go_wp2_with fail
  rw [← hW]
  clear hW
  refine CM.out.mono ?_
  rintro e w1 ⟨v1, rfl, ho1, hb1⟩
  obtain ⟨p1, c1, rfl, hc1, hc2, hp1⟩ := row_val ho1
  have HO1 := Lib.hid ho1
  have HP1 := Lib.hid hp1
  have hn2 : (mskE L).length ≤ 9223372036854775807 := by omega
  have B1 := Lib.hid (Bt B0.out hb1)
  have b1 := Lib.hid (blk_below b0.out hb1)
  have S1 := Lib.hid (S0.out.below hb1)
  obtain ⟨K, hK⟩ : ∃ K, K = mskE L := ⟨_, rfl⟩
  rw [← hK] at HO1 HP1 hn2 hmn HML HANS hc1
  rw [← hK]
  clear ho1 hp1 hb1 CM B0 b0 S0 hK
  go_wp2
  go_loopw [5, 11] (fun s5 s11 wr => ∃ k : Nat, s11 = .int .i64 k ∧ k ≤ K.length ∧ Hid (wr.ownsRow w1.heap.size 31 2 s5 (catH L (fitM (K.take k) a b)).length (flat encH (catH L (fitM (K.take k) a b)))) ∧ Hid (RowKit.Below w1.heap.size w1 wr)) (fun _ i _ => K.length - (intOf i).toNat)
  case atStart => exact ⟨0, rfl, Nat.zero_le _, Lib.hid (World.ownsRow_nil _ _ _ _), Lib.hid (Below.refl _ _)⟩
  case round =>
    obtain ⟨k, rfl, hk, HO, HB⟩ := hrel
    by_cases hkn : k < K.length
    · have hkz : (k : Int) < (K.length : Int) := by omega
      have HST := Lib.hid (fitM_step hkn a b)
      have hm1 := HML.out k hkn
      obtain ⟨g1, rfl, hg1, _⟩ := HP1.out (by omega)
      have d1 : w1.cell? ⟨g1, k, none⟩ = some (.int .u64 ((K[k]! : Nat) : Int)) := by
        have := cellsI HO1.out k (.int .u64 ((K[k]! : Nat) : Int)) (by rw [List.getElem?_map, List.getElem?_eq_getElem hkn, getElem!_pos K k hkn]; rfl)
        rwa [Nat.zero_add] at this
      replace d1 := Bc HB.out hg1 d1
      have hgr : g1 < wr.heap.size := Nat.lt_of_lt_of_le hg1 HB.out.size
      obtain ⟨q0, q1, _, _⟩ := two_cells (blk_below b1.out HB.out)
      have hql := cell_lt q0
      have CA1 := Lib.hid (CA.out K[k]! (by omega))
      have CI : Hid (∀ W, RowKit.Below w1.heap.size w1 W → Calls Tryz.prog 55 #[psP ps, .int .u64 ((K[k]! : Nat) : Int)] W fun e w' => ∃ v, e = .returned v ∧ Sl encH w' v (inE L K[k]!) ∧ RowKit.Below W.heap.size W w') := fun W hb => inS2 (S1.out.below hb) K[k]! (by omega)
      have HL1 := Lib.hid (inE_lenL L K[k]!)
      have HL2 := Lib.hid (Nat.le_trans (catH_len L (fitM (K.take k) a b)) (Nat.mul_le_mul (Nat.le_trans (fitM_len _ a b) (by rw [List.length_take]; exact Nat.le_trans (Nat.min_le_right _ _) hmn)) h128))
      have HCS := Lib.hid (catH_step L (fitM (K.take k) a b) K[k]!)
      generalize K[k]! = m at *
      cases hf : fitN m a b with
      | true =>
        have hst := HST.out
        rw [hf] at hst CA1
        simp only [if_true] at hst
        have HS1 := Lib.hid hst
        clear hst hf
        go_wp2_with fail
        refine (CA1.out _).mono ?_
        rintro e w5 ⟨rfl, hb5⟩
        have B5 := Lib.hid (Bt HB.out hb5)
        have O5 := Lib.hid (row_below HO.out hb5)
        clear hb5 d1 hgr q0 q1 hql
        go_wp2_with fail
        refine (CI.out _ B5.out).mono ?_
        rintro e w6 ⟨v6, rfl, hs6, hb6⟩
        have B6 := Lib.hid (Bt B5.out hb6)
        have O6 := Lib.hid (row_below O5.out hb6)
        have S6 := Lib.hid hs6
        clear hs6 hb6 B5 O5
        go_wp2_with (at_builtin; refine wpl_app2 apHd rfl _ _ rfl w1.heap.size (by rfl) (by rfl) O6.out rfl S6.out (by have := HL1.out; have := HL2.out; omega) B6.out.size ?_; intro v7 w7 hown7 hgrow7 hat7 hnil7; have O7 := Lib.hid hown7; have B7 := Lib.hid (grownB B6.out O6.out hgrow7); clear hown7 hgrow7 hat7 hnil7)
        go_roundw
        case measure => simp [intOf]; omega
        case rel => exact ⟨k + 1, by go_num, by omega, Lib.hid (by rw [HS1.out, HCS.out]; exact O7.out), B7⟩
      | false =>
        have hst := HST.out
        rw [hf] at hst CA1
        simp only [Bool.false_eq_true, if_false] at hst
        have HS1 := Lib.hid hst
        clear hst hf
        go_wp2_with fail
        refine (CA1.out _).mono ?_
        rintro e w5 ⟨rfl, hb5⟩
        have B5 := Lib.hid (Bt HB.out hb5)
        have O5 := Lib.hid (row_below HO.out hb5)
        clear hb5 d1 hgr q0 q1 hql
        go_wp2
        go_roundw
        case measure => simp [intOf]; omega
        case rel => exact ⟨k + 1, by go_num, by omega, Lib.hid (by rw [HS1.out]; exact O5.out), B5⟩
    · have hkk : k = K.length := by omega
      subst hkk
      have HO9 := HO.out
      rw [List.take_length] at HO9
      have CH := Lib.hid (handles_call _ _ wr (row_sl lenH HO9 rfl) (by
        have := Nat.le_trans (catH_len L (fitM K a b)) (Nat.mul_le_mul (Nat.le_trans (fitM_len _ a b) hmn) h128)
        omega))
      rw [HANS.out] at CH
      obtain ⟨p5, c5, rfl, _, _, _⟩ := row_val HO9
      clear HO9 HO
      go_wp2_with fail
      refine CH.out.mono ?_
      rintro e w5 ⟨v5, rfl, ho5, hb5⟩
      have S5 := Lib.hid (ho5.sl lenH)
      have B5 := Lib.hid (Bt B1.out (Bt HB.out hb5))
      clear ho5 hb5 CH
      go_wp2
      go_ret
      exact ⟨_, rfl, S5.out, B5.out⟩
set_option maxHeartbeats 1000000 in
theorem qcount (h : StoO N base w ps L) (a b : Nat) (ha : a < 18446744073709551616) (hb : b < 18446744073709551616) :
    Calls Tryz.prog 27 #[qV a b, psP ps] w fun e w' => e = .returned (.int .i64 (ansE L a b).length) ∧ RowKit.Below w.heap.size w w' := by
  have bb := Ba (Below.refl _ w) (qB a b)
  have B0 := Lib.hid bb
  have C := Lib.hid (qhandles (h.below bb) a b ha hb)
  have hlen : (hds (ansE L a b)).length = (ansE L a b).length := by simp [hds]
  obtain ⟨W, hW⟩ : ∃ W, W = w.alloc (qB a b) := ⟨_, rfl⟩
  have b0 := Lib.hid (heap_alloc_new w (qB a b))
  rw [← hW] at B0 C b0
  clear h bb
  go_enter Tryz.func27, Tryz.ntmps27
  go_wp2_with fail
  rw [← hW]
  clear hW
  refine C.out.mono ?_
  rintro e w1 ⟨v1, rfl, hs1, hb1⟩
  obtain ⟨p1, c1, rfl, _, _, _⟩ := hs1
  rw [hlen]
  have B1 := Lib.hid (Bt B0.out hb1)
  clear hb1
  go_wp2
  go_ret
  exact ⟨rfl, B1.out⟩
end
end Go.Proofs.YtaehendpdfpibaaGreatDoor
