/-
  MasksFits: which masks hold, meet and fit which.
-/
import Derived.Test.YtcmfkjjagffjnaaDoorMbo
import Derived.Test.YtcmfkjjagffjnaaDoorMof
namespace Go.Proofs.YtcmfkjjagffjnaaDoor
set_option linter.unusedSimpArgs false
set_option linter.unusedVariables false
open Go.RowKit Go.Sort Go.Lib Go.Shelf

theorem yields_ld {ops : Array Oper} {S : World → Prop} {op : Oper} {a : Act} (hw : Region.wanted op (yielded ops a.tmps) = true) (x : Operand) (ho : op.op = .load 32 x)
    (g : Nat) (hx : a.eval x = .pointer (some ⟨g, 0, none⟩)) (f : Nat → Bool) (t : TypeId) (hS : ∀ w, S w → w.heap[g]? = some (.cells (bv f) t (0, 0))) : YieldsIf Tryd.prog ops S op (.agg (bv f)) a :=
  .inl ⟨hw, fun w hw' => by
    unfold execOp
    simp only [ho, hx, Instr.loadAt, Instr.sureAddr, Sem.run_bind, Sem.run_pure, Result.andThen_ok, run_loadVar_row w g t 32 (bv f) (0, 0) _ (hS w hw') Tryd.underlying32 rfl (by rw [bv_size]; kernel_rfl)]⟩
theorem beSame {f : FuncId} {args : Array Value} {w : World} {r : Ending} (c : Calls Tryd.prog f args w fun e w' => e = r ∧ w = w') : Calls Tryd.prog f args w fun e w' => e = r ∧ RowKit.Below w.heap.size w w' :=
  c.mono fun e w' ⟨h1, h2⟩ => ⟨h1, by subst h2; exact Below.refl _ _⟩
theorem beGr {f : FuncId} {args : Array Value} {w : World} {r : Ending} (c : Calls Tryd.prog f args w fun e w' => e = r ∧ Gr w w') : Calls Tryd.prog f args w fun e w' => e = r ∧ RowKit.Below w.heap.size w w' :=
  c.mono fun e w' ⟨h1, h2⟩ => ⟨h1, h2.below⟩
theorem st_third (w : World) (b : Nat) (hb : b = w.heap.size) (f g : Nat → Bool) (t : TypeId) (o o' : Obj) : (storeCells ⟨b, 0, none⟩ (bv g).toList 0).run Tryd.prog (((w.alloc (.cells (bv f) t)).alloc o).alloc o') = .ok () (((w.alloc (.cells (bv g) t)).alloc o).alloc o') := by
  have h : (((w.alloc (.cells (bv f) t)).alloc o).alloc o').heap[b]? = some (.cells (bv f) t (0, 0)) := by
    subst hb
    show (((w.heap.push _).push o).push o')[w.heap.size]? = _
    simp [Array.getElem?_push]
    omega
  rw [st_row _ b f g t h, setRow_alloc_past _ b (by simp; omega), setRow_alloc_past _ b (by simp; omega), setRow_alloc_last w b hb]

set_option maxHeartbeats 4000000 in
set_option maxRecDepth 100000 in
theorem masksFits_walk (m a b : Nat) (hm : m < 18446744073709551616) (ha : a < 18446744073709551616) (hb : b < 18446744073709551616) (w : World) (A : Addr) (hE : ErrK w A) :
    Calls Tryd.prog 5 #[.int .u64 m, .int .u64 a, .int .u64 b] w fun e w' => e = .returned (.bool true) ∧ RowKit.Below w.heap.size w w' := by
  have HE := Lib.hid hE
  obtain ⟨f, hf⟩ : ∃ f : Nat → Bool, f = fun i => m.testBit i := ⟨_, rfl⟩
  obtain ⟨g, hg⟩ : ∃ g : Nat → Bool, g = fun i => a.testBit i := ⟨_, rfl⟩
  obtain ⟨h, hh⟩ : ∃ h : Nat → Bool, h = fun i => b.testBit i := ⟨_, rfl⟩
  obtain ⟨z, hzz⟩ : ∃ z : Nat → Bool, z = fun _ => false := ⟨_, rfl⟩
  have hz0 : #[.bool false, .bool false, .bool false, .bool false, .bool false, .bool false, .bool false, .bool false, .bool false, .bool false, .bool false, .bool false, .bool false, .bool false, .bool false, .bool false, .bool false, .bool false, .bool false, .bool false, .bool false, .bool false, .bool false, .bool false, .bool false, .bool false, .bool false, .bool false, .bool false, .bool false, .bool false, .bool false, .bool false, .bool false, .bool false, .bool false, .bool false, .bool false, .bool false, .bool false, .bool false, .bool false, .bool false, .bool false, .bool false, .bool false, .bool false, .bool false, .bool false, .bool false, .bool false, .bool false, .bool false, .bool false, .bool false, .bool false, .bool false, .bool false, .bool false, .bool false, .bool false, .bool false, .bool false, .bool false] = bv z := by rw [hzz]; exact bv_zero.symm
  have hs := bv_size
  have hzn : z = fun i => (0 : Nat).testBit i := by rw [hzz]; funext i; exact (Nat.zero_testBit i).symm
  have e1 : fitsB f g h 64 = fitN m a b := by rw [hf, hg, hh]; exact fits_same hm ha
  have e2 : fitsB f g z 64 = (m &&& a == a) := by rw [hf, hg, hzn, fits_same hm ha]; simp [fitN]
  have e3 : fitsB f z h 64 = !(m &&& b != 0) := by rw [hf, hzn, hh, fits_same hm (by decide)]; simp [fitN]
  obtain ⟨p, hp⟩ : ∃ p, p = fitN m a b := ⟨_, rfl⟩
  obtain ⟨q, hq⟩ : ∃ q, q = (m &&& a == a) := ⟨_, rfl⟩
  obtain ⟨r, hr⟩ : ∃ r, r = (m &&& b != 0) := ⟨_, rfl⟩
  obtain ⟨s, hs'⟩ : ∃ s, s = decide (m < a) := ⟨_, rfl⟩
  have hsi : decide ((m : Int) < (a : Int)) = s := by rw [hs']; exact decide_eq_decide.2 (by omega)
  have HS := Lib.hid hs'
  have C1 : Hid (∀ W, Calls Tryd.prog 27 #[.int .u64 m, .int .u64 a, .int .u64 b] W fun e w' => e = .returned (.bool p) ∧ RowKit.Below W.heap.size W w') := fun W => beSame (fitC_is hp.symm hm ha hb W)
  have C2 : Hid (∀ W, Calls Tryd.prog 28 #[.agg (bv f), .agg (bv g), .agg (bv h)] W fun e w' => e = .returned (.bool p) ∧ RowKit.Below W.heap.size W w') := fun W => by rw [hp, ← e1]; exact beGr (rfits_call f g h W)
  have C3 : Hid (∀ W, Calls Tryd.prog 29 #[.int .u64 m, .int .u64 a] W fun e w' => e = .returned (.bool q) ∧ RowKit.Below W.heap.size W w') := fun W => by rw [hq]; exact beSame (holds_any m a hm ha W)
  have C4 : Hid (∀ W, Calls Tryd.prog 28 #[.agg (bv f), .agg (bv g), .agg (bv z)] W fun e w' => e = .returned (.bool q) ∧ RowKit.Below W.heap.size W w') := fun W => by rw [hq, ← e2]; exact beGr (rfits_call f g z W)
  have C5 : Hid (∀ W, Calls Tryd.prog 30 #[.int .u64 m, .int .u64 b] W fun e w' => e = .returned (.bool r) ∧ RowKit.Below W.heap.size W w') := fun W => by rw [hr]; exact beSame (meets_any m b hm hb W)
  have C6 : Hid (∀ W, Calls Tryd.prog 28 #[.agg (bv f), .agg (bv z), .agg (bv h)] W fun e w' => e = .returned (.bool (!r)) ∧ RowKit.Below W.heap.size W w') := fun W => by rw [hr, ← e3]; exact beGr (rfits_call f z h W)
  have C7 : Hid (∀ W, Calls Tryd.prog 31 #[.int .u64 m, .int .u64 a] W fun e w' => e = .returned (.bool s) ∧ RowKit.Below W.heap.size W w') := fun W => by rw [hs']; exact beSame (mless_any m a W)
  have FM : Hid (∀ W, Calls Tryd.prog 15 #[.int .u64 m] W fun e w' => e = .returned (.agg (bv f)) ∧ Gr W w') := fun W => by rw [hf]; exact from_call m hm W
  have FA : Hid (∀ W, Calls Tryd.prog 15 #[.int .u64 a] W fun e w' => e = .returned (.agg (bv g)) ∧ Gr W w') := fun W => by rw [hg]; exact from_call a ha W
  have FB : Hid (∀ W, Calls Tryd.prog 15 #[.int .u64 b] W fun e w' => e = .returned (.agg (bv h)) ∧ Gr W w') := fun W => by rw [hh]; exact from_call b hb W
  clear hE hf hg hh hzz hzn e1 e2 e3 hp hq hr hs'
  go_enter Tryd.func5, Tryd.ntmps5
  go_wp2_with fail
  refine (alive_any _ A HE.out).mono ?_
  rintro e w1 ⟨rfl, hg1⟩
  have B1 := Lib.hid hg1.below
  clear hg1
  go_wp2_with fail
  refine (FM.out w1).mono ?_
  rintro e w2 ⟨rfl, hg2⟩
  have B2 := Lib.hid (Bt B1.out hg2.below)
  clear hg2 B1
  go_wp2_with fail
  refine (FA.out w2).mono ?_
  rintro e w3 ⟨rfl, hg3⟩
  have B3 := Lib.hid (Bt B2.out hg3.below)
  clear hg3 B2
  go_wp2_with fail
  refine (FB.out w3).mono ?_
  rintro e w4 ⟨rfl, hg4⟩
  have B4 := Lib.hid (Bt B3.out hg4.below)
  clear hg4 B3
  have t0 := fun f g t o o' => st_third w4 w4.heap.size rfl f g t o o'
  have t1 := fun (o : Obj) f g t (o' : Obj) => st_old (w4.alloc o) (w4.heap.size + 1) (by simp) f g t o'
  have t2 := fun (o o' : Obj) f g t => st_new ((w4.alloc o).alloc o') (w4.heap.size + 1 + 1) (by simp) f g t
  have t3 := fun (o o' o2 : Obj) f g t => st_new (((w4.alloc o).alloc o').alloc o2) (w4.heap.size + 1 + 1 + 1) (by simp) f g t
  go_wp2_with fail
  clear t0 t1 t2 t3 hz0 hs
  obtain ⟨M, hM⟩ : ∃ M, M = (((w4.alloc (.cells (bv f) 32)).alloc (.cells (bv g) 32)).alloc (.cells (bv h) 32)).alloc (.cells (bv z) 32) := ⟨_, rfl⟩
  rw [← hM]
  have X10 : Hid (M.heap[w4.heap.size + 1 + 1 + 1]? = some (.cells (bv z) 32 (0, 0)) ∧ w4.heap.size + 1 + 1 + 1 < M.heap.size) := by rw [hM]; exact ⟨heap_new _ _ (by simp) _, by simp⟩
  have X9 : Hid (M.heap[w4.heap.size + 1 + 1]? = some (.cells (bv h) 32 (0, 0)) ∧ w4.heap.size + 1 + 1 < M.heap.size) := by rw [hM]; exact heap_on ⟨heap_new _ _ (by simp) _, by simp⟩ (Ba (Below.refl _ _) _)
  have X8 : Hid (M.heap[w4.heap.size + 1]? = some (.cells (bv g) 32 (0, 0)) ∧ w4.heap.size + 1 < M.heap.size) := by rw [hM]; exact heap_on ⟨heap_new _ _ (by simp) _, by simp⟩ (Ba (Ba (Below.refl _ _) _) _)
  have X7 : Hid (M.heap[w4.heap.size]? = some (.cells (bv f) 32 (0, 0)) ∧ w4.heap.size < M.heap.size) := by rw [hM]; exact heap_on ⟨heap_new _ _ (by simp) _, by simp⟩ (Ba (Ba (Ba (Below.refl _ _) _) _) _)
  have BM : Hid (RowKit.Below w.heap.size w M) := by rw [hM]; exact Ba (Ba (Ba (Ba B4.out _) _) _) _
  clear hM B4
  have pp : (p == p) = true := by simp
  have qq : (q == q) = true := by simp
  have rr : (r == !!r) = true := by simp
  have ss : (s == s) = true := by simp
  refine wp_region_held_drew (S := (fun w' => Below (M).heap.size (M) w' ∧ ∀ b_1 o, b_1 < (M).heap.size → w'.cell? ⟨b_1, o, none⟩ = (M).cell? ⟨b_1, o, none⟩)) (by kernel_rfl) (keep0 _) (fun hHeld => ?_)
  (refine wpAnyH_take (i := 0) (v := ?_) rfl (by kernel_rfl) (by kernel_rfl) (by kernel_rfl) (fun _ _ _ h => h) (Or.inl ⟨by rfl, ?rt⟩) (by assumption) ?_; case rt => (intro w hSw; (try dsimp only at hSw); go_simp; (try with_reducible rfl))); (try simp only [Act.put, List.getElem_toArray, List.getElem_cons_succ, List.getElem_cons_zero, List.setIfInBounds_toArray, List.set_cons_zero, List.set_cons_succ])
  (refine wpAnyH_take (i := 1) (v := ?_) rfl (by kernel_rfl) (by kernel_rfl) (by kernel_rfl) (fun _ _ _ h => h) (Or.inl ⟨by rfl, ?rt⟩) (by assumption) ?_; case rt => (intro w hSw; (try dsimp only at hSw); go_simp; (try with_reducible rfl))); (try simp only [Act.put, List.getElem_toArray, List.getElem_cons_succ, List.getElem_cons_zero, List.setIfInBounds_toArray, List.set_cons_zero, List.set_cons_succ])
  (refine wpAnyH_take (i := 2) (v := ?_) rfl (by kernel_rfl) (by kernel_rfl) (by kernel_rfl) (fun _ _ _ h => h) (Or.inl ⟨by rfl, ?rt⟩) (by assumption) ?_; case rt => (intro w hSw; (try dsimp only at hSw); go_simp; (try with_reducible rfl))); (try simp only [Act.put, List.getElem_toArray, List.getElem_cons_succ, List.getElem_cons_zero, List.setIfInBounds_toArray, List.set_cons_zero, List.set_cons_succ])
  refine wpAnyH_take (i := 4) (v := .agg (bv f)) rfl (by kernel_rfl) (by kernel_rfl) (by kernel_rfl) (fun _ _ _ h => h) (yields_ld (by rfl) _ rfl (w4.heap.size) (by rfl) f 32 (fun w hw => (heap_on X7.out hw.1).1)) (by assumption) ?_; (try simp only [Act.put, List.getElem_toArray, List.getElem_cons_succ, List.getElem_cons_zero, List.setIfInBounds_toArray, List.set_cons_zero, List.set_cons_succ])
  refine wpAnyH_take (i := 5) (v := .agg (bv g)) rfl (by kernel_rfl) (by kernel_rfl) (by kernel_rfl) (fun _ _ _ h => h) (yields_ld (by rfl) _ rfl (w4.heap.size + 1) (by rfl) g 32 (fun w hw => (heap_on X8.out hw.1).1)) (by assumption) ?_; (try simp only [Act.put, List.getElem_toArray, List.getElem_cons_succ, List.getElem_cons_zero, List.setIfInBounds_toArray, List.set_cons_zero, List.set_cons_succ])
  refine wpAnyH_take (i := 6) (v := .agg (bv h)) rfl (by kernel_rfl) (by kernel_rfl) (by kernel_rfl) (fun _ _ _ h => h) (yields_ld (by rfl) _ rfl (w4.heap.size + 1 + 1) (by rfl) h 32 (fun w hw => (heap_on X9.out hw.1).1)) (by assumption) ?_; (try simp only [Act.put, List.getElem_toArray, List.getElem_cons_succ, List.getElem_cons_zero, List.setIfInBounds_toArray, List.set_cons_zero, List.set_cons_succ])
  (refine wpAnyH_ready (rs := [3]) (by kernel_rfl) (by simp) ?_; refine AllReadyH.cons rfl (fun K hK => ?_) AllReadyH.nil; go_simp; refine (C1.out _).mono ?_; rintro e w1 ⟨rfl, hb1⟩; refine hK.out _ _ (keepB (by assumption) hb1) (fun hHeld => ?_); clear hK K); (try simp only [Act.put, List.getElem_toArray, List.getElem_cons_succ, List.getElem_cons_zero, List.setIfInBounds_toArray, List.set_cons_zero, List.set_cons_succ])
  (refine wpAnyH_ready (rs := [7]) (by kernel_rfl) (by simp) ?_; refine AllReadyH.cons rfl (fun K hK => ?_) AllReadyH.nil; go_simp; refine (C2.out _).mono ?_; rintro e w1 ⟨rfl, hb1⟩; refine hK.out _ _ (keepB (by assumption) hb1) (fun hHeld => ?_); clear hK K); (try simp only [Act.put, List.getElem_toArray, List.getElem_cons_succ, List.getElem_cons_zero, List.setIfInBounds_toArray, List.set_cons_zero, List.set_cons_succ])
  (refine wpAnyH_take (i := 8) (v := ?_) rfl (by kernel_rfl) (by kernel_rfl) (by kernel_rfl) (fun _ _ _ h => h) (Or.inl ⟨by rfl, ?rt⟩) (by assumption) ?_; case rt => (intro w hSw; (try dsimp only at hSw); go_simp; (try with_reducible rfl))); (try simp only [Act.put, List.getElem_toArray, List.getElem_cons_succ, List.getElem_cons_zero, List.setIfInBounds_toArray, List.set_cons_zero, List.set_cons_succ])
  (refine wpAnyH_take (i := 9) (v := ?_) rfl (by kernel_rfl) (by kernel_rfl) (by kernel_rfl) (fun _ _ _ h => h) (Or.inl ⟨by rfl, ?rt⟩) (by assumption) ?_; case rt => (intro w hSw; (try dsimp only at hSw); go_simp; (try with_reducible rfl))); (try simp only [Act.put, List.getElem_toArray, List.getElem_cons_succ, List.getElem_cons_zero, List.setIfInBounds_toArray, List.set_cons_zero, List.set_cons_succ])
  (refine wpAnyH_take (i := 10) (v := ?_) rfl (by kernel_rfl) (by kernel_rfl) (by kernel_rfl) (fun _ _ _ h => h) (Or.inl ⟨by rfl, ?rt⟩) (by assumption) ?_; case rt => (intro w hSw; (try dsimp only at hSw); go_simp; (try with_reducible rfl))); (try simp only [Act.put, List.getElem_toArray, List.getElem_cons_succ, List.getElem_cons_zero, List.setIfInBounds_toArray, List.set_cons_zero, List.set_cons_succ])
  (refine wpAnyH_take (i := 11) (v := ?_) rfl (by kernel_rfl) (by kernel_rfl) (by kernel_rfl) (fun _ _ _ h => h) (Or.inl ⟨by rfl, ?rt⟩) (by assumption) ?_; case rt => (intro w hSw; (try dsimp only at hSw); go_simp; (try with_reducible rfl))); (try simp only [Act.put, List.getElem_toArray, List.getElem_cons_succ, List.getElem_cons_zero, List.setIfInBounds_toArray, List.set_cons_zero, List.set_cons_succ])
  refine wpAnyH_take (i := 13) (v := .agg (bv f)) rfl (by kernel_rfl) (by kernel_rfl) (by kernel_rfl) (fun _ _ _ h => h) (yields_ld (by rfl) _ rfl (w4.heap.size) (by rfl) f 32 (fun w hw => (heap_on X7.out hw.1).1)) (by assumption) ?_; (try simp only [Act.put, List.getElem_toArray, List.getElem_cons_succ, List.getElem_cons_zero, List.setIfInBounds_toArray, List.set_cons_zero, List.set_cons_succ])
  refine wpAnyH_take (i := 14) (v := .agg (bv g)) rfl (by kernel_rfl) (by kernel_rfl) (by kernel_rfl) (fun _ _ _ h => h) (yields_ld (by rfl) _ rfl (w4.heap.size + 1) (by rfl) g 32 (fun w hw => (heap_on X8.out hw.1).1)) (by assumption) ?_; (try simp only [Act.put, List.getElem_toArray, List.getElem_cons_succ, List.getElem_cons_zero, List.setIfInBounds_toArray, List.set_cons_zero, List.set_cons_succ])
  refine wpAnyH_take (i := 15) (v := .agg (bv z)) rfl (by kernel_rfl) (by kernel_rfl) (by kernel_rfl) (fun _ _ _ h => h) (yields_ld (by rfl) _ rfl (w4.heap.size + 1 + 1 + 1) (by rfl) z 32 (fun w hw => (heap_on X10.out hw.1).1)) (by assumption) ?_; (try simp only [Act.put, List.getElem_toArray, List.getElem_cons_succ, List.getElem_cons_zero, List.setIfInBounds_toArray, List.set_cons_zero, List.set_cons_succ])
  (refine wpAnyH_ready (rs := [12]) (by kernel_rfl) (by simp) ?_; refine AllReadyH.cons rfl (fun K hK => ?_) AllReadyH.nil; go_simp; refine (C3.out _).mono ?_; rintro e w1 ⟨rfl, hb1⟩; refine hK.out _ _ (keepB (by assumption) hb1) (fun hHeld => ?_); clear hK K); (try simp only [Act.put, List.getElem_toArray, List.getElem_cons_succ, List.getElem_cons_zero, List.setIfInBounds_toArray, List.set_cons_zero, List.set_cons_succ])
  (refine wpAnyH_ready (rs := [16]) (by kernel_rfl) (by simp) ?_; refine AllReadyH.cons rfl (fun K hK => ?_) AllReadyH.nil; go_simp; refine (C4.out _).mono ?_; rintro e w1 ⟨rfl, hb1⟩; refine hK.out _ _ (keepB (by assumption) hb1) (fun hHeld => ?_); clear hK K); (try simp only [Act.put, List.getElem_toArray, List.getElem_cons_succ, List.getElem_cons_zero, List.setIfInBounds_toArray, List.set_cons_zero, List.set_cons_succ])
  (refine wpAnyH_take (i := 17) (v := ?_) rfl (by kernel_rfl) (by kernel_rfl) (by kernel_rfl) (fun _ _ _ h => h) (Or.inl ⟨by rfl, ?rt⟩) (by assumption) ?_; case rt => (intro w hSw; (try dsimp only at hSw); go_simp; (try with_reducible rfl))); (try simp only [Act.put, List.getElem_toArray, List.getElem_cons_succ, List.getElem_cons_zero, List.setIfInBounds_toArray, List.set_cons_zero, List.set_cons_succ])
  (refine wpAnyH_take (i := 18) (v := ?_) rfl (by kernel_rfl) (by kernel_rfl) (by kernel_rfl) (fun _ _ _ h => h) (Or.inl ⟨by rfl, ?rt⟩) (by assumption) ?_; case rt => (intro w hSw; (try dsimp only at hSw); go_simp; (try with_reducible rfl))); (try simp only [Act.put, List.getElem_toArray, List.getElem_cons_succ, List.getElem_cons_zero, List.setIfInBounds_toArray, List.set_cons_zero, List.set_cons_succ])
  (refine wpAnyH_take (i := 19) (v := ?_) rfl (by kernel_rfl) (by kernel_rfl) (by kernel_rfl) (fun _ _ _ h => h) (Or.inl ⟨by rfl, ?rt⟩) (by assumption) ?_; case rt => (intro w hSw; (try dsimp only at hSw); go_simp; (try with_reducible rfl))); (try simp only [Act.put, List.getElem_toArray, List.getElem_cons_succ, List.getElem_cons_zero, List.setIfInBounds_toArray, List.set_cons_zero, List.set_cons_succ])
  (refine wpAnyH_take (i := 20) (v := ?_) rfl (by kernel_rfl) (by kernel_rfl) (by kernel_rfl) (fun _ _ _ h => h) (Or.inl ⟨by rfl, ?rt⟩) (by assumption) ?_; case rt => (intro w hSw; (try dsimp only at hSw); go_simp; (try with_reducible rfl))); (try simp only [Act.put, List.getElem_toArray, List.getElem_cons_succ, List.getElem_cons_zero, List.setIfInBounds_toArray, List.set_cons_zero, List.set_cons_succ])
  (refine wpAnyH_take (i := 21) (v := ?_) rfl (by kernel_rfl) (by kernel_rfl) (by kernel_rfl) (fun _ _ _ h => h) (Or.inl ⟨by rfl, ?rt⟩) (by assumption) ?_; case rt => (intro w hSw; (try dsimp only at hSw); go_simp; (try with_reducible rfl))); (try simp only [Act.put, List.getElem_toArray, List.getElem_cons_succ, List.getElem_cons_zero, List.setIfInBounds_toArray, List.set_cons_zero, List.set_cons_succ])
  refine wpAnyH_take (i := 23) (v := .agg (bv f)) rfl (by kernel_rfl) (by kernel_rfl) (by kernel_rfl) (fun _ _ _ h => h) (yields_ld (by rfl) _ rfl (w4.heap.size) (by rfl) f 32 (fun w hw => (heap_on X7.out hw.1).1)) (by assumption) ?_; (try simp only [Act.put, List.getElem_toArray, List.getElem_cons_succ, List.getElem_cons_zero, List.setIfInBounds_toArray, List.set_cons_zero, List.set_cons_succ])
  refine wpAnyH_take (i := 24) (v := .agg (bv z)) rfl (by kernel_rfl) (by kernel_rfl) (by kernel_rfl) (fun _ _ _ h => h) (yields_ld (by rfl) _ rfl (w4.heap.size + 1 + 1 + 1) (by rfl) z 32 (fun w hw => (heap_on X10.out hw.1).1)) (by assumption) ?_; (try simp only [Act.put, List.getElem_toArray, List.getElem_cons_succ, List.getElem_cons_zero, List.setIfInBounds_toArray, List.set_cons_zero, List.set_cons_succ])
  refine wpAnyH_take (i := 25) (v := .agg (bv h)) rfl (by kernel_rfl) (by kernel_rfl) (by kernel_rfl) (fun _ _ _ h => h) (yields_ld (by rfl) _ rfl (w4.heap.size + 1 + 1) (by rfl) h 32 (fun w hw => (heap_on X9.out hw.1).1)) (by assumption) ?_; (try simp only [Act.put, List.getElem_toArray, List.getElem_cons_succ, List.getElem_cons_zero, List.setIfInBounds_toArray, List.set_cons_zero, List.set_cons_succ])
  (refine wpAnyH_ready (rs := [22]) (by kernel_rfl) (by simp) ?_; refine AllReadyH.cons rfl (fun K hK => ?_) AllReadyH.nil; go_simp; refine (C5.out _).mono ?_; rintro e w1 ⟨rfl, hb1⟩; refine hK.out _ _ (keepB (by assumption) hb1) (fun hHeld => ?_); clear hK K); (try simp only [Act.put, List.getElem_toArray, List.getElem_cons_succ, List.getElem_cons_zero, List.setIfInBounds_toArray, List.set_cons_zero, List.set_cons_succ])
  (refine wpAnyH_ready (rs := [26]) (by kernel_rfl) (by simp) ?_; refine AllReadyH.cons rfl (fun K hK => ?_) AllReadyH.nil; go_simp; refine (C6.out _).mono ?_; rintro e w1 ⟨rfl, hb1⟩; refine hK.out _ _ (keepB (by assumption) hb1) (fun hHeld => ?_); clear hK K); (try simp only [Act.put, List.getElem_toArray, List.getElem_cons_succ, List.getElem_cons_zero, List.setIfInBounds_toArray, List.set_cons_zero, List.set_cons_succ])
  (refine wpAnyH_take (i := 27) (v := ?_) rfl (by kernel_rfl) (by kernel_rfl) (by kernel_rfl) (fun _ _ _ h => h) (Or.inl ⟨by rfl, ?rt⟩) (by assumption) ?_; case rt => (intro w hSw; (try dsimp only at hSw); go_simp; (try with_reducible rfl))); (try simp only [Act.put, List.getElem_toArray, List.getElem_cons_succ, List.getElem_cons_zero, List.setIfInBounds_toArray, List.set_cons_zero, List.set_cons_succ])
  (refine wpAnyH_take (i := 28) (v := ?_) rfl (by kernel_rfl) (by kernel_rfl) (by kernel_rfl) (fun _ _ _ h => h) (Or.inl ⟨by rfl, ?rt⟩) (by assumption) ?_; case rt => (intro w hSw; (try dsimp only at hSw); go_simp; (try with_reducible rfl))); (try simp only [Act.put, List.getElem_toArray, List.getElem_cons_succ, List.getElem_cons_zero, List.setIfInBounds_toArray, List.set_cons_zero, List.set_cons_succ])
  (refine wpAnyH_take (i := 29) (v := ?_) rfl (by kernel_rfl) (by kernel_rfl) (by kernel_rfl) (fun _ _ _ h => h) (Or.inl ⟨by rfl, ?rt⟩) (by assumption) ?_; case rt => (intro w hSw; (try dsimp only at hSw); go_simp; (try with_reducible rfl))); (try simp only [Act.put, List.getElem_toArray, List.getElem_cons_succ, List.getElem_cons_zero, List.setIfInBounds_toArray, List.set_cons_zero, List.set_cons_succ])
  (refine wpAnyH_take (i := 30) (v := ?_) rfl (by kernel_rfl) (by kernel_rfl) (by kernel_rfl) (fun _ _ _ h => h) (Or.inl ⟨by rfl, ?rt⟩) (by assumption) ?_; case rt => (intro w hSw; (try dsimp only at hSw); go_simp; (try with_reducible rfl))); (try simp only [Act.put, List.getElem_toArray, List.getElem_cons_succ, List.getElem_cons_zero, List.setIfInBounds_toArray, List.set_cons_zero, List.set_cons_succ])
  (refine wpAnyH_take (i := 31) (v := ?_) rfl (by kernel_rfl) (by kernel_rfl) (by kernel_rfl) (fun _ _ _ h => h) (Or.inl ⟨by rfl, ?rt⟩) (by assumption) ?_; case rt => (intro w hSw; (try dsimp only at hSw); go_simp; (try with_reducible rfl))); (try simp only [Act.put, List.getElem_toArray, List.getElem_cons_succ, List.getElem_cons_zero, List.setIfInBounds_toArray, List.set_cons_zero, List.set_cons_succ])
  (refine wpAnyH_take (i := 32) (v := ?_) rfl (by kernel_rfl) (by kernel_rfl) (by kernel_rfl) (fun _ _ _ h => h) (Or.inl ⟨by rfl, ?rt⟩) (by assumption) ?_; case rt => (intro w hSw; (try dsimp only at hSw); go_simp; (try with_reducible rfl))); (try simp only [Act.put, List.getElem_toArray, List.getElem_cons_succ, List.getElem_cons_zero, List.setIfInBounds_toArray, List.set_cons_zero, List.set_cons_succ])
  (refine wpAnyH_take (i := 34) (v := ?_) rfl (by kernel_rfl) (by kernel_rfl) (by kernel_rfl) (fun _ _ _ h => h) (Or.inl ⟨by rfl, ?rt⟩) (by assumption) ?_; case rt => (intro w hSw; (try dsimp only at hSw); go_simp; (try with_reducible rfl))); (try simp only [Act.put, List.getElem_toArray, List.getElem_cons_succ, List.getElem_cons_zero, List.setIfInBounds_toArray, List.set_cons_zero, List.set_cons_succ])
  (refine wpAnyH_take (i := 35) (v := ?_) rfl (by kernel_rfl) (by kernel_rfl) (by kernel_rfl) (fun _ _ _ h => h) (Or.inl ⟨by rfl, ?rt⟩) (by assumption) ?_; case rt => (intro w hSw; (try dsimp only at hSw); go_simp; (try with_reducible rfl))); (try simp only [Act.put, List.getElem_toArray, List.getElem_cons_succ, List.getElem_cons_zero, List.setIfInBounds_toArray, List.set_cons_zero, List.set_cons_succ])
  (refine wpAnyH_take (i := 36) (v := ?_) rfl (by kernel_rfl) (by kernel_rfl) (by kernel_rfl) (fun _ _ _ h => h) (Or.inl ⟨by rfl, ?rt⟩) (by assumption) ?_; case rt => (intro w hSw; (try dsimp only at hSw); go_simp; (try with_reducible rfl))); (try simp only [Act.put, List.getElem_toArray, List.getElem_cons_succ, List.getElem_cons_zero, List.setIfInBounds_toArray, List.set_cons_zero, List.set_cons_succ])
  (refine wpAnyH_ready (rs := [33]) (by kernel_rfl) (by simp) ?_; refine AllReadyH.cons rfl (fun K hK => ?_) AllReadyH.nil; go_simp; refine (C7.out _).mono ?_; rintro e w1 ⟨rfl, hb1⟩; refine hK.out _ _ (keepB (by assumption) hb1) (fun hHeld => ?_); clear hK K); (try simp only [Act.put, List.getElem_toArray, List.getElem_cons_succ, List.getElem_cons_zero, List.setIfInBounds_toArray, List.set_cons_zero, List.set_cons_succ])
  (refine wpAnyH_take (i := 37) (v := ?_) rfl (by kernel_rfl) (by kernel_rfl) (by kernel_rfl) (fun _ _ _ h => h) (Or.inl ⟨by rfl, ?rt⟩) (by assumption) ?_; case rt => (intro w hSw; (try dsimp only at hSw); go_simp; (try with_reducible rfl))); (try simp only [Act.put, List.getElem_toArray, List.getElem_cons_succ, List.getElem_cons_zero, List.setIfInBounds_toArray, List.set_cons_zero, List.set_cons_succ])
  (refine wpAnyH_take (i := 38) (v := ?_) rfl (by kernel_rfl) (by kernel_rfl) (by kernel_rfl) (fun _ _ _ h => h) (Or.inl ⟨by rfl, ?rt⟩) (by assumption) ?_; case rt => (intro w hSw; (try dsimp only at hSw); go_simp; (try with_reducible rfl))); (try simp only [Act.put, List.getElem_toArray, List.getElem_cons_succ, List.getElem_cons_zero, List.setIfInBounds_toArray, List.set_cons_zero, List.set_cons_succ])
  (refine wpAnyH_take (i := 39) (v := ?_) rfl (by kernel_rfl) (by kernel_rfl) (by kernel_rfl) (fun _ _ _ h => h) (Or.inl ⟨by rfl, ?rt⟩) (by assumption) ?_; case rt => (intro w hSw; (try dsimp only at hSw); go_simp; (try with_reducible rfl))); (try simp only [Act.put, List.getElem_toArray, List.getElem_cons_succ, List.getElem_cons_zero, List.setIfInBounds_toArray, List.set_cons_zero, List.set_cons_succ])
  refine wpAnyH_done (by kernel_rfl) ?_ _
  go_wp2
  go_ret
  exact ⟨ret_bool (by simp; exact HS.out), Bt BM.out hHeld.1⟩
end Go.Proofs.YtcmfkjjagffjnaaDoor
