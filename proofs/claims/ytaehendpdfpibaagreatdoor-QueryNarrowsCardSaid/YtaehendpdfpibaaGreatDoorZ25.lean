import Derived.Test.YtaehendpdfpibaaGreatDoorZ0
import Derived.Test.YtaehendpdfpibaaGreatDoorZ4
import Derived.Deep.WholeRow
import Derived.Laws.ResultCell
import Derived.Test.YtaehendpdfpibaaGreatDoorZ2

/-
  Meets and Fits; the reference's Kind; what fits.
-/
namespace Go.Proofs.YtaehendpdfpibaaGreatDoor
set_option linter.unusedSimpArgs false
set_option linter.unusedVariables false
open Go.RowKit Go.Sort Go.Lib Go.Shelf
theorem meets_any (a b : Nat) (ha : a < 18446744073709551616) (hb : b < 18446744073709551616) (w : World) : Calls Tryz.prog 121 #[.int .u64 a, .int .u64 b] w fun e w' => e = .returned (.bool (a &&& b != 0)) ∧ w = w' := by
  have h := u64_and_nat a b ha hb
  go_enter Tryz.func121, Tryz.ntmps121
  go_wp2
  go_ret
  exact ⟨ret_bool (neN0 _), rfl⟩
theorem fits_any (m a b : Nat) (hm : m < 18446744073709551616) (ha : a < 18446744073709551616) (hb : b < 18446744073709551616) (w : World) : Calls Tryz.prog 105 #[.int .u64 m, .int .u64 a, .int .u64 b] w fun e w' => e = .returned (.bool ((m &&& a == a) && !(m &&& b != 0))) ∧ w = w' := by
  go_enter Tryz.func105, Tryz.ntmps105
  go_wp2_with (first | (go_at_call 143; refine (holds_any _ _ hm ha _).mono ?_; rintro e w1 ⟨rfl, rfl⟩) | (go_at_call 121; refine (meets_any _ _ hm hb _).mono ?_; rintro e w1 ⟨rfl, rfl⟩))
  all_goals (go_ret; exact ⟨ret_bool (by simp_all), rfl⟩)
end Go.Proofs.YtaehendpdfpibaaGreatDoor

/-
  The reference's masks: rows of 64 yes and no, by value: From, Set, Number, Kinds, Fits.
-/
namespace Go.Proofs.YtaehendpdfpibaaGreatDoor
set_option linter.unusedSimpArgs false
set_option linter.unusedVariables false
open Go.RowKit Go.Sort Go.Lib Go.Shelf

/-- The cells of 64 yes and no. -/
def bv (f : Nat → Bool) : Array Value := ((List.range 64).map fun i => Value.bool (f i)).toArray
theorem bv_size (f : Nat → Bool) : (bv f).size = 64 := by simp [bv]
theorem bv_get (f : Nat → Bool) (i : Nat) (hi : i < 64) : (bv f)[i]? = some (.bool (f i)) := by simp [bv, hi]
theorem bv_set (f : Nat → Bool) (k : Nat) (b : Bool) : (bv f).setIfInBounds k (.bool b) = bv (putF b f k) := by
  apply Array.ext_getElem?
  intro i
  rcases Nat.lt_or_ge i 64 with hi | hi
  · rw [bv_get _ i hi, Array.getElem?_setIfInBounds]
    by_cases h : k = i
    · subst h
      simp [bv_size, hi, putF]
    · have h' : ¬ i = k := fun e => h e.symm
      rw [if_neg h, bv_get f i hi]
      simp [putF, h']
  · rw [Array.getElem?_eq_none (by simp [bv_size]; exact hi), Array.getElem?_eq_none (by simp [bv_size]; exact hi)]
theorem bv_congr {f g : Nat → Bool} (h : ∀ i, i < 64 → f i = g i) : bv f = bv g := by
  unfold bv
  congr 1
  exact List.map_congr_left fun i hi => by rw [h i (by simpa using hi)]
theorem bv_one (f : Nat → Bool) : (bv f).all (·.oneCell') = true := by
  simp [bv, Value.oneCell']
theorem bv_zero : bv (fun _ => false) = #[.bool false, .bool false, .bool false, .bool false, .bool false, .bool false, .bool false, .bool false, .bool false, .bool false, .bool false, .bool false, .bool false, .bool false, .bool false, .bool false, .bool false, .bool false, .bool false, .bool false, .bool false, .bool false, .bool false, .bool false, .bool false, .bool false, .bool false, .bool false, .bool false, .bool false, .bool false, .bool false, .bool false, .bool false, .bool false, .bool false, .bool false, .bool false, .bool false, .bool false, .bool false, .bool false, .bool false, .bool false, .bool false, .bool false, .bool false, .bool false, .bool false, .bool false, .bool false, .bool false, .bool false, .bool false, .bool false, .bool false, .bool false, .bool false, .bool false, .bool false, .bool false, .bool false, .bool false, .bool false] := rfl

theorem bv_all (f : Nat → Bool) : ∀ v ∈ (bv f).toList, v.oneCell' = true := fun v hv => (Array.all_eq_true_iff_forall_mem.1 (bv_one f)) v (by simpa using hv)

/-! ### A whole row, out of its block and into it, as the walk meets them. -/
theorem setRow_alloc_last (w : World) (b : Nat) (hb : b = w.heap.size) (c c' : Array Value) (t : TypeId) : (w.alloc (.cells c t)).setRow b c' = w.alloc (.cells c' t) := by
  subst hb
  exact World.setRow_alloc_new w c c' t
theorem setRow_alloc_past (w : World) (b : Nat) (hb : b < w.heap.size) (c' : Array Value) (o : Obj) : (w.alloc o).setRow b c' = (w.setRow b c').alloc o := by
  simp only [World.setRow, World.alloc]
  congr 1
  apply Array.ext_getElem?
  intro i
  rw [Array.getElem?_modify, Array.getElem?_push, Array.getElem?_push, Array.getElem?_modify, Array.size_modify]
  by_cases h : b = i
  · subst h
    simp [Nat.ne_of_lt hb]
  · simp [h]
theorem ld_row (W : World) (b : Nat) (f : Nat → Bool) (t : TypeId) (h : W.heap[b]? = some (.cells (bv f) t (0, 0))) : (loadCellsFrom ⟨b, 0, none⟩ 0 64 #[]).run Tryz.prog W = .ok (bv f) W := by
  have := run_loadCells_list (P := Tryz.prog) W ⟨b, 0, none⟩ (bv f).toList (fun j v hv => by
    have hadd : (⟨b, 0, none⟩ : Addr).add j = ⟨b, j, none⟩ := by unfold Addr.add; split <;> simp_all
    rw [hadd, cell_of_row W b j (bv f) t (0, 0) h]
    simpa using hv)
  rw [Array.length_toList, bv_size] at this
  simpa [loadCells] using this
theorem st_row (W : World) (b : Nat) (f g : Nat → Bool) (t : TypeId) (h : W.heap[b]? = some (.cells (bv f) t (0, 0))) : (storeCells ⟨b, 0, none⟩ (bv g).toList 0).run Tryz.prog W = .ok () (W.setRow b (bv g)) := by
  have := run_storeVar_row (P := Tryz.prog) W b t 170 (bv f) (bv g) h (by rw [bv_size]; kernel_rfl) (by rw [bv_size, bv_size]) (bv_one g)
  have hs : (Tryz.prog.info? 170).map (·.size) = some 64 := by kernel_rfl
  cases hq : Tryz.prog.info? 170 with
  | none => simp [hq] at hs
  | some i =>
    have hs' : i.size = 64 := by simpa [hq] using hs
    simpa [storeVar, sizeOf, typeInfo, hq, Value.cells, hs', bv_size] using this
/-- The newest block, and the one before. -/
theorem ld_new (w : World) (b : Nat) (hb : b = w.heap.size) (f : Nat → Bool) (t : TypeId) : (loadCellsFrom ⟨b, 0, none⟩ 0 64 #[]).run Tryz.prog (w.alloc (.cells (bv f) t)) = .ok (bv f) (w.alloc (.cells (bv f) t)) := by
  subst hb
  exact ld_row _ _ _ t (heap_alloc_last w _)
theorem heap_past (w : World) (b : Nat) (hb : b = w.heap.size) (o o' : Obj) : ((w.alloc o).alloc o').heap[b]? = some o := by
  subst hb
  show ((w.heap.push o).push o')[w.heap.size]? = some o
  simp [Array.getElem?_push]
theorem ld_old (w : World) (b : Nat) (hb : b = w.heap.size) (f : Nat → Bool) (t : TypeId) (o : Obj) : (loadCellsFrom ⟨b, 0, none⟩ 0 64 #[]).run Tryz.prog ((w.alloc (.cells (bv f) t)).alloc o) = .ok (bv f) ((w.alloc (.cells (bv f) t)).alloc o) :=
  ld_row _ _ _ t (heap_past w b hb _ _)
theorem st_new (w : World) (b : Nat) (hb : b = w.heap.size) (f g : Nat → Bool) (t : TypeId) : (storeCells ⟨b, 0, none⟩ (bv g).toList 0).run Tryz.prog (w.alloc (.cells (bv f) t)) = .ok () (w.alloc (.cells (bv g) t)) := by
  rw [st_row _ b f g t (by subst hb; exact heap_alloc_last w _), setRow_alloc_last w b hb]
theorem st_old (w : World) (b : Nat) (hb : b = w.heap.size) (f g : Nat → Bool) (t : TypeId) (o : Obj) : (storeCells ⟨b, 0, none⟩ (bv g).toList 0).run Tryz.prog ((w.alloc (.cells (bv f) t)).alloc o) = .ok () ((w.alloc (.cells (bv g) t)).alloc o) := by
  rw [st_row _ b f g t (heap_past w b hb _ _), setRow_alloc_past _ b (by simp; omega), setRow_alloc_last w b hb]

theorem heap_new (w : World) (b : Nat) (hb : b = w.heap.size) (o : Obj) : (w.alloc o).heap[b]? = some o := by
  subst hb
  exact heap_alloc_last w o
/-- A whole row loaded, at the list of a plain region's operations. -/
theorem wpl_ld {ops : Array Oper} {rest : List Oper} {o : Oper} {a : Act} {w : World} {Q : Exit → Act → World → Prop} (hgd : o.guard = none) (x : Operand) (ho : o.op = .load 170 x)
    (g : Nat) (hx : a.eval x = .pointer (some ⟨g, 0, none⟩)) (f : Nat → Bool) (t : TypeId) (hg : w.heap[g]? = some (.cells (bv f) t (0, 0)))
    (h : wpList Tryz.prog ops Q rest (a.put o.dst (.agg (bv f))) w) : wpList Tryz.prog ops Q (o :: rest) a w :=
  wpList_load_row hgd 170 x ho g hx t (bv f) (0, 0) _ hg Tryz.underlying170 rfl (by rw [bv_size]; kernel_rfl) h

set_option maxHeartbeats 2000000 in
set_option maxRecDepth 100000 in
theorem from_call (m : Nat) (hm : m < 18446744073709551616) (w : World) :
    Calls Tryz.prog 103 #[.int .u64 m] w fun e w' => e = .returned (.agg (bv fun i => m.testBit i)) ∧ Gr w w' := by
  have hz := bv_zero.symm
  have hs := bv_size
  have hst := fun (o : Obj) f g t => st_new (w.alloc o) (w.heap.size + 1) (by simp) f g t
  have hso := fun f g t (o : Obj) => st_old w w.heap.size rfl f g t o
  have hset := bv_set
  go_enter Tryz.func103, Tryz.ntmps103
  go_wp2
  go_loopw [0, 4] (fun s0 i wr => ∃ k q : Nat, k ≤ 64 ∧ i = .int .i64 k ∧ s0 = .int .u64 q ∧ q < 18446744073709551616 ∧ Hid (q = m / 2 ^ k) ∧ ∃ f : Nat → Bool, wr = (w.alloc (.cells (bv fun _ => false) 170)).alloc (.cells (bv f) 170) ∧ ∀ i, i < k → f i = m.testBit i) (fun _ i _ => 64 - (intOf i).toNat)
  case atStart => exact ⟨0, m, Nat.zero_le _, rfl, rfl, hm, Lib.hid (by simp), fun _ => false, rfl, fun i hi => absurd hi (Nat.not_lt_zero i)⟩
  case round =>
    obtain ⟨k, q, hk, rfl, rfl, hq, HQ, f, rfl, hf⟩ := hrel
    have HF := Lib.hid hf
    clear hf
    by_cases hk6 : k < 64
    · have hget := bv_get f k hk6
      have hkz : (k : Int) < 64 := by omega
      have n1 : IntKind.u64.wrap ((q : Int) / 2) = ((q / 2 : Nat) : Int) := by rw [IntKind.wrap_u64]; omega
      obtain ⟨q2, hq2⟩ : ∃ q2, q2 = q / 2 := ⟨_, rfl⟩
      obtain ⟨b, hb⟩ : ∃ b : Bool, b = m.testBit k := ⟨_, rfl⟩
      have n2 : ((q : Int) % 2 == 1) = b := by
        rw [hb, Nat.testBit_eq_decide_div_mod_eq, ← HQ.out]
        rw [Bool.eq_iff_iff]
        simp
        omega
      rw [← hq2] at n1
      have HB := Lib.hid hb
      have H2 := Lib.hid hq2
      clear hb hq2
      go_wp2
      go_roundw
      case measure => simp [intOf]; omega
      case rel =>
        refine ⟨k + 1, q2, by omega, by go_num, rfl, by rw [H2.out]; omega, Lib.hid (by rw [H2.out, HQ.out, Nat.pow_succ, Nat.div_div_eq_div_mul]), _, rfl, fun i hi => ?_⟩
        unfold putF
        by_cases h : i = k
        · rw [if_pos h, h]; exact HB.out
        · rw [if_neg h]; exact HF.out i (by omega)
    · have hkz : ¬ (k : Int) < 64 := by omega
      have hk64 : k = 64 := by omega
      subst hk64
      have he : bv f = bv (fun i => m.testBit i) := bv_congr HF.out
      have hh := heap_new (w.alloc (.cells (bv fun _ => false) 170)) (w.heap.size + 1) (by simp) (.cells (bv f) 170)
      have HE := Lib.hid he
      have HH := Lib.hid hh
      clear he hh
      go_wp2_with (refine wpl_ld rfl _ rfl (w.heap.size + 1) (by rfl) f 170 HH.out ?_)
      exact bodyPost_ret (v := .agg (bv f)) (results_cell_row rfl _ _ w.heap.size 170 (bv f) (0, 0) _ (by rfl) (heap_past w _ rfl _ _) Tryz.underlying170 rfl (by rw [bv_size]; kernel_rfl)) rfl ⟨by rw [HE.out], (by repeat (first | with_reducible exact Gr.refl _ | with_reducible assumption | with_reducible apply Gr.alloc | with_reducible apply Gr.drewN | with_reducible apply Gr.drew | with_reducible apply Gr.grow | (with_reducible refine Gr.trans ?_ (by assumption))))⟩
end Go.Proofs.YtaehendpdfpibaaGreatDoor

/-
  The reference's masks, on: Set, Number, Kinds, Fits; paddocknum's In.
-/
namespace Go.Proofs.YtaehendpdfpibaaGreatDoor
set_option linter.unusedSimpArgs false
set_option linter.unusedVariables false
open Go.RowKit Go.Sort Go.Lib Go.Shelf
def fitsB (f g h : Nat → Bool) (n : Nat) : Bool := (List.range n).all fun i => !(g i && !f i || h i && f i)
theorem fitsB_succ (f g h : Nat → Bool) (n : Nat) : fitsB f g h (n + 1) = (fitsB f g h n && !(g n && !f n || h n && f n)) := by
  unfold fitsB
  rw [List.range_succ, List.all_append]
  simp
theorem fitsB_no {f g h : Nat → Bool} {k : Nat} (hk : k < 64) (e : (!(g k && !f k || h k && f k)) = false) : fitsB f g h 64 = false := by
  unfold fitsB
  rw [Bool.eq_false_iff]
  intro hall
  have := List.all_eq_true.1 hall k (by simp; exact hk)
  rw [e] at this
  cases this

set_option maxHeartbeats 4000000 in
set_option maxRecDepth 100000 in
theorem rfits_call (f g h : Nat → Bool) (w : World) :
    Calls Tryz.prog 104 #[.agg (bv f), .agg (bv g), .agg (bv h)] w fun e w' => e = .returned (.bool (fitsB f g h 64)) ∧ Gr w w' := by
  have hs := bv_size
  go_enter Tryz.func104, Tryz.ntmps104
  go_wp2
  go_loopw [7] (fun i wr => ∃ k : Nat, k ≤ 64 ∧ i = .int .i64 k ∧ wr = ((w.alloc (.cells (bv f) 170)).alloc (.cells (bv g) 170)).alloc (.cells (bv h) 170) ∧ fitsB f g h k = true) (fun i _ => 64 - (intOf i).toNat)
  case atStart => exact ⟨0, Nat.zero_le _, rfl, rfl, rfl⟩
  case round =>
    obtain ⟨k, hk, rfl, rfl, hfit⟩ := hrel
    by_cases hk6 : k < 64
    · have hkz : (k : Int) < 64 := by omega
      have e1 : ∀ h' : k < (bv f).size, (bv f)[k]'h' = .bool (f k) := fun h' => by have := bv_get f k hk6; rw [Array.getElem?_eq_getElem h'] at this; exact Option.some.inj this
      have e2 : ∀ h' : k < (bv g).size, (bv g)[k]'h' = .bool (g k) := fun h' => by have := bv_get g k hk6; rw [Array.getElem?_eq_getElem h'] at this; exact Option.some.inj this
      have e3 : ∀ h' : k < (bv h).size, (bv h)[k]'h' = .bool (h k) := fun h' => by have := bv_get h k hk6; rw [Array.getElem?_eq_getElem h'] at this; exact Option.some.inj this
      have g1 := bv_get f k hk6
      have g2 := bv_get g k hk6
      have g3 := bv_get h k hk6
      have HN := Lib.hid (fun e => fitsB_no (f := f) (g := g) (h := h) (k := k) hk6 e)
      have HS := Lib.hid (fitsB_succ f g h k)
      have HF := Lib.hid hfit
      clear hfit
      cases hf : f k <;> cases hg : g k <;> cases hh : h k <;> rw [hf] at e1 g1 HN HS <;> rw [hg] at e2 g2 HN HS <;> rw [hh] at e3 g3 HN HS <;> clear hf hg hh
      all_goals first
        | (go_wp2
           go_roundw
           case measure => simp [intOf]; omega
           case rel => exact ⟨k + 1, by omega, by go_num, trivial, by rw [HS.out, HF.out]; rfl⟩)
        | (go_wp2
           go_ret
           exact ⟨by rw [HN.out rfl]; rfl, (by repeat (first | with_reducible exact Gr.refl _ | with_reducible assumption | with_reducible apply Gr.alloc | with_reducible apply Gr.drewN | with_reducible apply Gr.drew | with_reducible apply Gr.grow | (with_reducible refine Gr.trans ?_ (by assumption))))⟩)
    · have hk64 : k = 64 := by omega
      subst hk64
      have HF := Lib.hid hfit
      clear hfit
      go_wp2
      go_ret
      exact ⟨by rw [HF.out]; rfl, (by repeat (first | with_reducible exact Gr.refl _ | with_reducible assumption | with_reducible apply Gr.alloc | with_reducible apply Gr.drewN | with_reducible apply Gr.drew | with_reducible apply Gr.grow | (with_reducible refine Gr.trans ?_ (by assumption))))⟩

end Go.Proofs.YtaehendpdfpibaaGreatDoor

/-
  What masks fit two others: alone, together, turned into bits.
-/
namespace Go.Proofs.YtaehendpdfpibaaGreatDoor
set_option linter.unusedSimpArgs false
set_option linter.unusedVariables false
open Go.RowKit Go.Sort Go.Lib Go.Shelf
/-- Fits of a mask, two together. -/
def fitN (m a b : Nat) : Bool := (m &&& a == a) && !(m &&& b != 0)
theorem and_eq_iff (m a : Nat) : m &&& a = a ↔ ∀ i, a.testBit i = true → m.testBit i = true := by
  constructor
  · intro h i hi
    have := congrArg (fun q => q.testBit i) h
    simp only [Nat.testBit_and, hi, Bool.and_true] at this
    exact this
  · intro h
    refine Nat.eq_of_testBit_eq fun i => ?_
    rw [Nat.testBit_and]
    cases e : a.testBit i
    · simp
    · rw [h i e]; rfl
theorem and_zero_iff (m a : Nat) : m &&& a = 0 ↔ ∀ i, m.testBit i = true → a.testBit i = false := by
  constructor
  · intro h i hi
    have := congrArg (fun q => q.testBit i) h
    simpa [Nat.testBit_and, hi] using this
  · intro h
    refine Nat.eq_of_testBit_eq fun i => ?_
    rw [Nat.testBit_and, Nat.zero_testBit]
    cases e : m.testBit i
    · rfl
    · rw [h i e]; rfl
theorem fitN_iff (m a b : Nat) : fitN m a b = true ↔ (∀ i, a.testBit i = true → m.testBit i = true) ∧ ∀ i, m.testBit i = true → b.testBit i = false := by
  unfold fitN
  rw [← and_eq_iff, ← and_zero_iff]
  simp
theorem fitN_both (m a b c d : Nat) : fitN m (a ||| c) (b ||| d) = (fitN m a b && fitN m c d) := by
  rw [Bool.eq_iff_iff, Bool.and_eq_true, fitN_iff, fitN_iff, fitN_iff]
  simp only [Nat.testBit_or, Bool.or_eq_true, Bool.or_eq_false_iff]
  constructor
  · rintro ⟨h1, h2⟩
    exact ⟨⟨fun i hi => h1 i (.inl hi), fun i hi => (h2 i hi).1⟩, fun i hi => h1 i (.inr hi), fun i hi => (h2 i hi).2⟩
  · rintro ⟨⟨h1, h2⟩, h3, h4⟩
    exact ⟨fun i hi => hi.elim (h1 i) (h3 i), fun i hi => ⟨h2 i hi, h4 i hi⟩⟩
theorem fitN_self {m : Nat} (hm : m < 18446744073709551616) : fitN m m (18446744073709551615 - m) = true := by
  rw [fitN_iff]
  refine ⟨fun i h => h, fun i h => ?_⟩
  rw [show 18446744073709551615 - m = 2 ^ 64 - (m + 1) by omega, Nat.testBit_two_pow_sub_succ (by omega), h]
  simp
theorem fitN_none (m : Nat) : fitN m 0 0 = true := by simp [fitN]
/-- The reference's Fits, of numbers' bits. -/
theorem fitsB_iff (f g h : Nat → Bool) : fitsB f g h 64 = true ↔ (∀ i, i < 64 → g i = true → f i = true) ∧ ∀ i, i < 64 → f i = true → h i = false := by
  unfold fitsB
  rw [List.all_eq_true]
  constructor
  · intro hall
    refine ⟨fun i hi hg => ?_, fun i hi hf => ?_⟩
    · have := hall i (by simpa using hi)
      cases e : f i
      · simp [e, hg] at this
      · rfl
    · have := hall i (by simpa using hi)
      cases e : h i
      · rfl
      · simp [e, hf] at this
  · rintro ⟨h1, h2⟩ i hi
    have hi' : i < 64 := by simpa using hi
    cases e1 : f i
    · have : g i = false := by
        cases e2 : g i
        · rfl
        · rw [h1 i hi' e2] at e1; cases e1
      simp [this]
    · simp [h2 i hi' e1]
theorem fits_same {m a b : Nat} (hm : m < 18446744073709551616) (ha : a < 18446744073709551616) : fitsB (fun i => m.testBit i) (fun i => a.testBit i) (fun i => b.testBit i) 64 = fitN m a b := by
  rw [Bool.eq_iff_iff, fitsB_iff, fitN_iff]
  constructor
  · rintro ⟨h1, h2⟩
    refine ⟨fun i hi => ?_, fun i hi => ?_⟩
    · rcases Nat.lt_or_ge i 64 with h | h
      · exact h1 i h hi
      · rw [lt64 ha h] at hi; cases hi
    · rcases Nat.lt_or_ge i 64 with h | h
      · exact h2 i h hi
      · rw [lt64 hm h] at hi; cases hi
  · rintro ⟨h1, h2⟩
    exact ⟨fun i _ hi => h1 i hi, fun i _ hi => h2 i hi⟩
end Go.Proofs.YtaehendpdfpibaaGreatDoor

/-
  plane.Of and the reference's Of of a right position and a right extent; Box and Blocks (written by mkvo.py).
-/
namespace Go.Proofs.YtaehendpdfpibaaGreatDoor
set_option linter.unusedSimpArgs false
set_option linter.unusedVariables false
open Go.RowKit Go.Sort Go.Lib Go.Shelf

def btw (n lo hi : Int) : Bool := decide (lo ≤ n) && decide (n ≤ hi)
theorem between_any (n lo hi : Int) (w : World) : Calls Tryz.prog 165 #[.int .i64 n, .int .i64 lo, .int .i64 hi] w fun e w' => e = .returned (.bool (btw n lo hi)) ∧ w = w' := by
  go_enter Tryz.func165, Tryz.ntmps165
  go_wp2
  all_goals (go_ret; exact ⟨ret_bool (by simp [btw, *] <;> omega), rfl⟩)
def inB (n m : Int) : Bool := decide (n ≤ m) && decide (-m ≤ n)
theorem pin_any (n m : Int) (w : World) (h0 : 0 ≤ m) (h1 : m ≤ 4611686018427387904) : Calls Tryz.prog 110 #[.int .i64 n, .int .i64 m] w fun e w' => e = .returned (.bool (inB n m)) ∧ w = w' := by
  go_enter Tryz.func110, Tryz.ntmps110
  go_wp2
  all_goals (go_ret; exact ⟨ret_bool (by simp [inB, *] <;> omega), rfl⟩)
def bothB (x y lo hi : Int) : Bool := btw x lo hi && btw y lo hi
theorem both_any (x y lo hi : Int) (w : World) : Calls Tryz.prog 149 #[.agg #[.int .i64 x, .int .i64 y], .int .i64 lo, .int .i64 hi] w fun e w' => e = .returned (.bool (bothB x y lo hi)) ∧ Gr w w' := by
  go_enter Tryz.func149, Tryz.ntmps149
  go_wp2_with (go_at_call 165; refine (between_any _ _ _ _).mono ?_; rintro e w' ⟨rfl, rfl⟩)
  all_goals (go_ret; exact ⟨ret_bool (by simp [bothB, *]), (by repeat (first | with_reducible exact Gr.refl _ | with_reducible assumption | with_reducible apply Gr.alloc | with_reducible apply Gr.drewN | with_reducible apply Gr.drew | with_reducible apply Gr.grow | (with_reducible refine Gr.trans ?_ (by assumption))))⟩)
theorem bz3 {a w : World} {o1 o2 o3 : Obj} (h : RowKit.Below (((a.alloc o1).alloc o2).alloc o3).heap.size (((a.alloc o1).alloc o2).alloc o3) w) : a.heap.size < w.heap.size ∧ a.heap.size + 1 < w.heap.size ∧ a.heap.size + 1 + 1 < w.heap.size := by
  have := h.size
  simp at this
  omega
/-- A right position and a right extent. -/
def okPE (x y u v : Int) : Prop := (-1048576 ≤ x ∧ x ≤ 1048576) ∧ (-1048576 ≤ y ∧ y ≤ 1048576) ∧ (0 ≤ u ∧ u ≤ 1048576) ∧ (0 ≤ v ∧ v ≤ 1048576)

set_option maxHeartbeats 1000000 in
theorem of_yes (x y u v : Int) (w : World) (h : okPE x y u v) :
    Calls Tryz.prog 109 #[.agg #[.int .i64 x, .int .i64 y], .agg #[.int .i64 u, .int .i64 v]] w fun e w' => e = .returned (.tuple #[.agg #[.int .i64 (x - u), .int .i64 (y - v), .int .i64 (x + u), .int .i64 (y + v)], .nilIface]) ∧ RowKit.Below w.heap.size w w' := by
  obtain ⟨⟨a1, a2⟩, ⟨a3, a4⟩, ⟨a5, a6⟩, a7, a8⟩ := h
  have k1 : bothB x y (-1048576) 1048576 = true := by simp [bothB, btw, *]
  have k2 : bothB u v 0 1048576 = true := by simp [bothB, btw, *]
  go_enter Tryz.func109, Tryz.ntmps109
  go_wp2_with (first
    | (go_at_call_of 149 (Value.agg #[.int .i64 x, .int .i64 y]); refine (both_any _ _ _ _ _).mono ?_; rintro e w1 ⟨rfl, hg1⟩; have hb1 := hg1.below; clear hg1; obtain ⟨hc1, hf1⟩ := bcell hb1; obtain ⟨hz1, hy1, hx1⟩ := bz3 hb1)
    | (go_at_call_of 149 (Value.agg #[.int .i64 u, .int .i64 v]); refine (both_any _ _ _ _ _).mono ?_; rintro e w2 ⟨rfl, hg2⟩; have hb2 := hg2.below; clear hg2; obtain ⟨hc2, hf2⟩ := bcell hb2; have hz2 : w.heap.size < w2.heap.size := (Nat.lt_of_lt_of_le hz1 hb2.size); have hy2 : w.heap.size + 1 < w2.heap.size := (Nat.lt_of_lt_of_le hy1 hb2.size); have hx2 : w.heap.size + 1 + 1 < w2.heap.size := (Nat.lt_of_lt_of_le hx1 hb2.size)))
  exact bodyPost_ret (v := .tuple #[.agg #[.int .i64 (x - u), .int .i64 (y - v), .int .i64 (x + u), .int .i64 (y + v)], .nilIface]) (by simp [results, Tryz.results109, go_sem, *]) rfl ⟨rfl, (by repeat (first | with_reducible exact Below.refl _ _ | with_reducible assumption | with_reducible apply Ba | with_reducible apply Bd | with_reducible apply Bn | with_reducible apply Bg | (with_reducible refine Bs ?_ (by first | (simp; done) | (simp; omega)) _) | (with_reducible refine Bt ?_ (by assumption)) | (with_reducible refine Bt ?_ (Gr.below (by assumption)))))⟩

set_option maxHeartbeats 1000000 in
theorem rof_yes (x y u v : Int) (w : World) (h : okPE x y u v) :
    Calls Tryz.prog 65 #[.agg #[.int .i64 x, .int .i64 y], .agg #[.int .i64 u, .int .i64 v]] w fun e w' => e = .returned (.tuple #[.agg #[.int .i64 (x - u), .int .i64 (y - v), .int .i64 (x + u), .int .i64 (y + v)], .bool true]) ∧ RowKit.Below w.heap.size w w' := by
  obtain ⟨⟨a1, a2⟩, ⟨a3, a4⟩, ⟨a5, a6⟩, a7, a8⟩ := h
  have k1 : inB x 1048576 = true := by simp [inB]; omega
  have k2 : inB y 1048576 = true := by simp [inB]; omega
  have k3 : inB u 1048576 = true := by simp [inB]; omega
  have k4 : inB v 1048576 = true := by simp [inB]; omega
  go_enter Tryz.func65, Tryz.ntmps65
  go_wp2_with (go_at_call 110; refine (pin_any _ _ _ (by omega) (by omega)).mono ?_; rintro e w' ⟨rfl, rfl⟩)
  exact bodyPost_ret (v := .tuple #[.agg #[.int .i64 (x - u), .int .i64 (y - v), .int .i64 (x + u), .int .i64 (y + v)], .bool true]) (by simp [results, Tryz.results65, go_sem, *]) rfl ⟨rfl, (by repeat (first | with_reducible exact Below.refl _ _ | with_reducible assumption | with_reducible apply Ba | with_reducible apply Bd | with_reducible apply Bn | with_reducible apply Bg | (with_reducible refine Bs ?_ (by first | (simp; done) | (simp; omega)) _) | (with_reducible refine Bt ?_ (by assumption)) | (with_reducible refine Bt ?_ (Gr.below (by assumption)))))⟩

def boxA (l : List Vl) : Value := match boxV l with | some (a, b, c, d) => .agg #[.int .i64 a, .int .i64 b, .int .i64 c, .int .i64 d] | none => .agg #[.int .i64 0, .int .i64 0, .int .i64 0, .int .i64 0]
def boxB (l : List Vl) : Bool := (boxV l).isSome
theorem boxA_no {l : List Vl} (h : boxV l = none) : boxA l = .agg #[.int .i64 0, .int .i64 0, .int .i64 0, .int .i64 0] := by unfold boxA; rw [h]
theorem boxA_yes {l : List Vl} {a b c d : Int} (h : boxV l = some (a, b, c, d)) : boxA l = .agg #[.int .i64 a, .int .i64 b, .int .i64 c, .int .i64 d] := by unfold boxA; rw [h]

/-- What Find finds of a kind: none, or a component of the row. -/
theorem fnd_cases (l : List Vl) (k : Int) : (findV l k = none ∧ fndV l k = (0, 0, 0) ∧ hasK l k = false) ∨ ∃ a b, findV l k = some (k, a, b) ∧ fndV l k = (k, a, b) ∧ hasK l k = true ∧ (k, a, b) ∈ l := by
  unfold fndV hasK
  cases h : findV l k with
  | none => exact .inl ⟨rfl, rfl, rfl⟩
  | some x =>
    obtain ⟨hm, rfl⟩ := find_some h
    exact .inr ⟨x.2.1, x.2.2, rfl, rfl, rfl, hm⟩

set_option maxHeartbeats 1000000 in
set_option maxRecDepth 100000 in
theorem box_call (l : List Vl) (v : Value) (w : World) (hl : Sl encV w v l) (hr : ∀ x ∈ l, chk x = 0) : Calls Tryz.prog 64 #[v] w fun e w' => e = .returned (.tuple #[boxA l, .bool (boxB l)]) ∧ RowKit.Below w.heap.size w w' := by
  have HL := Lib.hid hl
  have F0 : Hid (∀ W, Sl encV W v l → Calls Tryz.prog 108 #[v, .int .i64 0] W fun e w' => e = .returned (.tuple #[aggV (fndV l 0), .bool (hasK l 0)]) ∧ Gr W w') := fun W h => find_call l v 0 W h
  have F1 : Hid (∀ W, Sl encV W v l → Calls Tryz.prog 108 #[v, .int .i64 1] W fun e w' => e = .returned (.tuple #[aggV (fndV l 1), .bool (hasK l 1)]) ∧ Gr W w') := fun W h => find_call l v 1 W h
  have hbx : boxV l = match findV l 0, findV l 1 with | some p, some e => some (p.2.1 - e.2.1, p.2.2 - e.2.2, p.2.1 + e.2.1, p.2.2 + e.2.2) | _, _ => none := rfl
  have hbb : boxB l = (boxV l).isSome := rfl
  rw [hbb]
  rcases fnd_cases l 0 with ⟨e0, e1, e2⟩ | ⟨a, b, e0, e1, e2, e3⟩
  · have hno : boxV l = none := by rw [hbx, e0]
    rw [boxA_no hno, hno]
    rw [e1, e2] at F0
    rcases fnd_cases l 1 with ⟨d0, d1, d2⟩ | ⟨c, d, d0, d1, d2, d3⟩
    · rw [d1, d2] at F1
      clear hno hbx hbb hr hl e0 e1 e2 d0 d1 d2
      simp only [aggV] at F0 F1
      go_enter Tryz.func64, Tryz.ntmps64
      go_wp2_with fail
      refine Calls.mono (F0.out _ (HL.out.below ?bb)) ?_
      (case bb => exact (by repeat (first | with_reducible exact Below.refl _ _ | with_reducible assumption | with_reducible apply Ba | with_reducible apply Bd | with_reducible apply Bn | with_reducible apply Bg | (with_reducible refine Bs ?_ (by first | (simp; done) | (simp; omega)) _) | (with_reducible refine Bt ?_ (by assumption)) | (with_reducible refine Bt ?_ (Gr.below (by assumption))))))
      rintro e w1 ⟨rfl, hg1⟩
      have y0 : w1.cell? ⟨w.heap.size, 0, none⟩ = some (.int .i64 0) := Bc hg1.below (by simp) (by simp)
      have y1 : w1.cell? ⟨w.heap.size, 1, none⟩ = some (.int .i64 0) := Bc hg1.below (by simp) (by simp)
      have y2 : w1.cell? ⟨w.heap.size, 2, none⟩ = some (.int .i64 0) := Bc hg1.below (by simp) (by simp)
      have y3 : w1.cell? ⟨w.heap.size, 3, none⟩ = some (.int .i64 0) := Bc hg1.below (by simp) (by simp)
      have f0 : w1.frozen? ⟨w.heap.size, 0, none⟩ = false := Bf hg1.below (by simp) (by simp)
      have f1 : w1.frozen? ⟨w.heap.size, 1, none⟩ = false := Bf hg1.below (by simp) (by simp)
      have f2 : w1.frozen? ⟨w.heap.size, 2, none⟩ = false := Bf hg1.below (by simp) (by simp)
      have f3 : w1.frozen? ⟨w.heap.size, 3, none⟩ = false := Bf hg1.below (by simp) (by simp)
      have hl1 : w.heap.size < w1.heap.size := Bl hg1.below (by simp)
      go_wp2_with fail
      refine Calls.mono (F1.out _ (HL.out.below ?bb)) ?_
      (case bb => exact (by repeat (first | with_reducible exact Below.refl _ _ | with_reducible assumption | with_reducible apply Ba | with_reducible apply Bd | with_reducible apply Bn | with_reducible apply Bg | (with_reducible refine Bs ?_ (by first | (simp; done) | (simp; omega)) _) | (with_reducible refine Bt ?_ (by assumption)) | (with_reducible refine Bt ?_ (Gr.below (by assumption))))))
      rintro e w2 ⟨rfl, hg2⟩
      have b2 := (show RowKit.Below w1.heap.size w1 w2 from (by repeat (first | with_reducible exact Below.refl _ _ | with_reducible assumption | with_reducible apply Ba | with_reducible apply Bd | with_reducible apply Bn | with_reducible apply Bg | (with_reducible refine Bs ?_ (by first | (simp; done) | (simp; omega)) _) | (with_reducible refine Bt ?_ (by assumption)) | (with_reducible refine Bt ?_ (Gr.below (by assumption))))))
      have y20 : w2.cell? ⟨w.heap.size, 0, none⟩ = some (.int .i64 0) := Bc b2 hl1 y0
      have y21 : w2.cell? ⟨w.heap.size, 1, none⟩ = some (.int .i64 0) := Bc b2 hl1 y1
      have y22 : w2.cell? ⟨w.heap.size, 2, none⟩ = some (.int .i64 0) := Bc b2 hl1 y2
      have y23 : w2.cell? ⟨w.heap.size, 3, none⟩ = some (.int .i64 0) := Bc b2 hl1 y3
      have f20 : w2.frozen? ⟨w.heap.size, 0, none⟩ = false := Bf b2 hl1 f0
      have f21 : w2.frozen? ⟨w.heap.size, 1, none⟩ = false := Bf b2 hl1 f1
      have f22 : w2.frozen? ⟨w.heap.size, 2, none⟩ = false := Bf b2 hl1 f2
      have f23 : w2.frozen? ⟨w.heap.size, 3, none⟩ = false := Bf b2 hl1 f3
      have hl2 : w.heap.size < w2.heap.size := Bl b2 hl1
      have hm2 : w1.heap.size < w2.heap.size := Bl hg2.below (by simp)
      have v20 : w2.cell? ⟨w1.heap.size, 0, none⟩ = some (.int .i64 0) := Bc hg2.below (by simp) (by simp)
      have v21 : w2.cell? ⟨w1.heap.size, 1, none⟩ = some (.int .i64 0) := Bc hg2.below (by simp) (by simp)
      have v22 : w2.cell? ⟨w1.heap.size, 2, none⟩ = some (.int .i64 0) := Bc hg2.below (by simp) (by simp)
      clear b2
      go_wp2
      exact bodyPost_ret (v := .tuple #[.agg #[.int .i64 0, .int .i64 0, .int .i64 0, .int .i64 0], .bool false]) (by simp [results, Tryz.results64, go_sem, *]) rfl ⟨rfl, (by repeat (first | with_reducible exact Below.refl _ _ | with_reducible assumption | with_reducible apply Ba | with_reducible apply Bd | with_reducible apply Bn | with_reducible apply Bg | (with_reducible refine Bs ?_ (by first | (simp; done) | (simp; omega)) _) | (with_reducible refine Bt ?_ (by assumption)) | (with_reducible refine Bt ?_ (Gr.below (by assumption)))))⟩
    · rw [d1, d2] at F1
      clear hno hbx hbb hr hl e0 e1 e2 d0 d1 d2 d3
      simp only [aggV] at F0 F1
      go_enter Tryz.func64, Tryz.ntmps64
      go_wp2_with fail
      refine Calls.mono (F0.out _ (HL.out.below ?bb)) ?_
      (case bb => exact (by repeat (first | with_reducible exact Below.refl _ _ | with_reducible assumption | with_reducible apply Ba | with_reducible apply Bd | with_reducible apply Bn | with_reducible apply Bg | (with_reducible refine Bs ?_ (by first | (simp; done) | (simp; omega)) _) | (with_reducible refine Bt ?_ (by assumption)) | (with_reducible refine Bt ?_ (Gr.below (by assumption))))))
      rintro e w1 ⟨rfl, hg1⟩
      have y0 : w1.cell? ⟨w.heap.size, 0, none⟩ = some (.int .i64 0) := Bc hg1.below (by simp) (by simp)
      have y1 : w1.cell? ⟨w.heap.size, 1, none⟩ = some (.int .i64 0) := Bc hg1.below (by simp) (by simp)
      have y2 : w1.cell? ⟨w.heap.size, 2, none⟩ = some (.int .i64 0) := Bc hg1.below (by simp) (by simp)
      have y3 : w1.cell? ⟨w.heap.size, 3, none⟩ = some (.int .i64 0) := Bc hg1.below (by simp) (by simp)
      have f0 : w1.frozen? ⟨w.heap.size, 0, none⟩ = false := Bf hg1.below (by simp) (by simp)
      have f1 : w1.frozen? ⟨w.heap.size, 1, none⟩ = false := Bf hg1.below (by simp) (by simp)
      have f2 : w1.frozen? ⟨w.heap.size, 2, none⟩ = false := Bf hg1.below (by simp) (by simp)
      have f3 : w1.frozen? ⟨w.heap.size, 3, none⟩ = false := Bf hg1.below (by simp) (by simp)
      have hl1 : w.heap.size < w1.heap.size := Bl hg1.below (by simp)
      go_wp2_with fail
      refine Calls.mono (F1.out _ (HL.out.below ?bb)) ?_
      (case bb => exact (by repeat (first | with_reducible exact Below.refl _ _ | with_reducible assumption | with_reducible apply Ba | with_reducible apply Bd | with_reducible apply Bn | with_reducible apply Bg | (with_reducible refine Bs ?_ (by first | (simp; done) | (simp; omega)) _) | (with_reducible refine Bt ?_ (by assumption)) | (with_reducible refine Bt ?_ (Gr.below (by assumption))))))
      rintro e w2 ⟨rfl, hg2⟩
      have b2 := (show RowKit.Below w1.heap.size w1 w2 from (by repeat (first | with_reducible exact Below.refl _ _ | with_reducible assumption | with_reducible apply Ba | with_reducible apply Bd | with_reducible apply Bn | with_reducible apply Bg | (with_reducible refine Bs ?_ (by first | (simp; done) | (simp; omega)) _) | (with_reducible refine Bt ?_ (by assumption)) | (with_reducible refine Bt ?_ (Gr.below (by assumption))))))
      have y20 : w2.cell? ⟨w.heap.size, 0, none⟩ = some (.int .i64 0) := Bc b2 hl1 y0
      have y21 : w2.cell? ⟨w.heap.size, 1, none⟩ = some (.int .i64 0) := Bc b2 hl1 y1
      have y22 : w2.cell? ⟨w.heap.size, 2, none⟩ = some (.int .i64 0) := Bc b2 hl1 y2
      have y23 : w2.cell? ⟨w.heap.size, 3, none⟩ = some (.int .i64 0) := Bc b2 hl1 y3
      have f20 : w2.frozen? ⟨w.heap.size, 0, none⟩ = false := Bf b2 hl1 f0
      have f21 : w2.frozen? ⟨w.heap.size, 1, none⟩ = false := Bf b2 hl1 f1
      have f22 : w2.frozen? ⟨w.heap.size, 2, none⟩ = false := Bf b2 hl1 f2
      have f23 : w2.frozen? ⟨w.heap.size, 3, none⟩ = false := Bf b2 hl1 f3
      have hl2 : w.heap.size < w2.heap.size := Bl b2 hl1
      have hm2 : w1.heap.size < w2.heap.size := Bl hg2.below (by simp)
      have v20 : w2.cell? ⟨w1.heap.size, 0, none⟩ = some (.int .i64 0) := Bc hg2.below (by simp) (by simp)
      have v21 : w2.cell? ⟨w1.heap.size, 1, none⟩ = some (.int .i64 0) := Bc hg2.below (by simp) (by simp)
      have v22 : w2.cell? ⟨w1.heap.size, 2, none⟩ = some (.int .i64 0) := Bc hg2.below (by simp) (by simp)
      clear b2
      go_wp2
      exact bodyPost_ret (v := .tuple #[.agg #[.int .i64 0, .int .i64 0, .int .i64 0, .int .i64 0], .bool false]) (by simp [results, Tryz.results64, go_sem, *]) rfl ⟨rfl, (by repeat (first | with_reducible exact Below.refl _ _ | with_reducible assumption | with_reducible apply Ba | with_reducible apply Bd | with_reducible apply Bn | with_reducible apply Bg | (with_reducible refine Bs ?_ (by first | (simp; done) | (simp; omega)) _) | (with_reducible refine Bt ?_ (by assumption)) | (with_reducible refine Bt ?_ (Gr.below (by assumption)))))⟩
  · rw [e1, e2] at F0
    rcases fnd_cases l 1 with ⟨d0, d1, d2⟩ | ⟨c, d, d0, d1, d2, d3⟩
    · have hno : boxV l = none := by rw [hbx, e0, d0]
      rw [boxA_no hno, hno]
      rw [d1, d2] at F1
      clear hno hbx hbb hr hl e0 e1 e2 e3 d0 d1 d2
      simp only [aggV] at F0 F1
      go_enter Tryz.func64, Tryz.ntmps64
      go_wp2_with fail
      refine Calls.mono (F0.out _ (HL.out.below ?bb)) ?_
      (case bb => exact (by repeat (first | with_reducible exact Below.refl _ _ | with_reducible assumption | with_reducible apply Ba | with_reducible apply Bd | with_reducible apply Bn | with_reducible apply Bg | (with_reducible refine Bs ?_ (by first | (simp; done) | (simp; omega)) _) | (with_reducible refine Bt ?_ (by assumption)) | (with_reducible refine Bt ?_ (Gr.below (by assumption))))))
      rintro e w1 ⟨rfl, hg1⟩
      have y0 : w1.cell? ⟨w.heap.size, 0, none⟩ = some (.int .i64 0) := Bc hg1.below (by simp) (by simp)
      have y1 : w1.cell? ⟨w.heap.size, 1, none⟩ = some (.int .i64 0) := Bc hg1.below (by simp) (by simp)
      have y2 : w1.cell? ⟨w.heap.size, 2, none⟩ = some (.int .i64 0) := Bc hg1.below (by simp) (by simp)
      have y3 : w1.cell? ⟨w.heap.size, 3, none⟩ = some (.int .i64 0) := Bc hg1.below (by simp) (by simp)
      have f0 : w1.frozen? ⟨w.heap.size, 0, none⟩ = false := Bf hg1.below (by simp) (by simp)
      have f1 : w1.frozen? ⟨w.heap.size, 1, none⟩ = false := Bf hg1.below (by simp) (by simp)
      have f2 : w1.frozen? ⟨w.heap.size, 2, none⟩ = false := Bf hg1.below (by simp) (by simp)
      have f3 : w1.frozen? ⟨w.heap.size, 3, none⟩ = false := Bf hg1.below (by simp) (by simp)
      have hl1 : w.heap.size < w1.heap.size := Bl hg1.below (by simp)
      go_wp2_with fail
      refine Calls.mono (F1.out _ (HL.out.below ?bb)) ?_
      (case bb => exact (by repeat (first | with_reducible exact Below.refl _ _ | with_reducible assumption | with_reducible apply Ba | with_reducible apply Bd | with_reducible apply Bn | with_reducible apply Bg | (with_reducible refine Bs ?_ (by first | (simp; done) | (simp; omega)) _) | (with_reducible refine Bt ?_ (by assumption)) | (with_reducible refine Bt ?_ (Gr.below (by assumption))))))
      rintro e w2 ⟨rfl, hg2⟩
      have b2 := (show RowKit.Below w1.heap.size w1 w2 from (by repeat (first | with_reducible exact Below.refl _ _ | with_reducible assumption | with_reducible apply Ba | with_reducible apply Bd | with_reducible apply Bn | with_reducible apply Bg | (with_reducible refine Bs ?_ (by first | (simp; done) | (simp; omega)) _) | (with_reducible refine Bt ?_ (by assumption)) | (with_reducible refine Bt ?_ (Gr.below (by assumption))))))
      have y20 : w2.cell? ⟨w.heap.size, 0, none⟩ = some (.int .i64 0) := Bc b2 hl1 y0
      have y21 : w2.cell? ⟨w.heap.size, 1, none⟩ = some (.int .i64 0) := Bc b2 hl1 y1
      have y22 : w2.cell? ⟨w.heap.size, 2, none⟩ = some (.int .i64 0) := Bc b2 hl1 y2
      have y23 : w2.cell? ⟨w.heap.size, 3, none⟩ = some (.int .i64 0) := Bc b2 hl1 y3
      have f20 : w2.frozen? ⟨w.heap.size, 0, none⟩ = false := Bf b2 hl1 f0
      have f21 : w2.frozen? ⟨w.heap.size, 1, none⟩ = false := Bf b2 hl1 f1
      have f22 : w2.frozen? ⟨w.heap.size, 2, none⟩ = false := Bf b2 hl1 f2
      have f23 : w2.frozen? ⟨w.heap.size, 3, none⟩ = false := Bf b2 hl1 f3
      have hl2 : w.heap.size < w2.heap.size := Bl b2 hl1
      have hm2 : w1.heap.size < w2.heap.size := Bl hg2.below (by simp)
      have v20 : w2.cell? ⟨w1.heap.size, 0, none⟩ = some (.int .i64 0) := Bc hg2.below (by simp) (by simp)
      have v21 : w2.cell? ⟨w1.heap.size, 1, none⟩ = some (.int .i64 a) := Bc hg2.below (by simp) (by simp)
      have v22 : w2.cell? ⟨w1.heap.size, 2, none⟩ = some (.int .i64 b) := Bc hg2.below (by simp) (by simp)
      clear b2
      go_wp2
      exact bodyPost_ret (v := .tuple #[.agg #[.int .i64 0, .int .i64 0, .int .i64 0, .int .i64 0], .bool false]) (by simp [results, Tryz.results64, go_sem, *]) rfl ⟨rfl, (by repeat (first | with_reducible exact Below.refl _ _ | with_reducible assumption | with_reducible apply Ba | with_reducible apply Bd | with_reducible apply Bn | with_reducible apply Bg | (with_reducible refine Bs ?_ (by first | (simp; done) | (simp; omega)) _) | (with_reducible refine Bt ?_ (by assumption)) | (with_reducible refine Bt ?_ (Gr.below (by assumption)))))⟩
    · have hyes : boxV l = some (a - c, b - d, a + c, b + d) := by rw [hbx, e0, d0]
      rw [boxA_yes hyes, hyes]
      rw [d1, d2] at F1
      have p1 := chk_pos.1 (hr _ e3)
      have p2 := chk_ext.1 (hr _ d3)
      have FO : Hid (∀ W, Calls Tryz.prog 109 #[.agg #[.int .i64 a, .int .i64 b], .agg #[.int .i64 c, .int .i64 d]] W fun e w' => e = .returned (.tuple #[.agg #[.int .i64 (a - c), .int .i64 (b - d), .int .i64 (a + c), .int .i64 (b + d)], .nilIface]) ∧ RowKit.Below W.heap.size W w') := fun W => of_yes a b c d W ⟨p1.1, p1.2, p2.1, p2.2⟩
      clear hyes hbx hbb hr hl e0 e1 e2 e3 d0 d1 d2 d3 p1 p2
      generalize a - c = q1 at *
      generalize b - d = q2 at *
      generalize a + c = q3 at *
      generalize b + d = q4 at *
      simp only [aggV] at F0 F1
      go_enter Tryz.func64, Tryz.ntmps64
      go_wp2_with fail
      refine Calls.mono (F0.out _ (HL.out.below ?bb)) ?_
      (case bb => exact (by repeat (first | with_reducible exact Below.refl _ _ | with_reducible assumption | with_reducible apply Ba | with_reducible apply Bd | with_reducible apply Bn | with_reducible apply Bg | (with_reducible refine Bs ?_ (by first | (simp; done) | (simp; omega)) _) | (with_reducible refine Bt ?_ (by assumption)) | (with_reducible refine Bt ?_ (Gr.below (by assumption))))))
      rintro e w1 ⟨rfl, hg1⟩
      have y0 : w1.cell? ⟨w.heap.size, 0, none⟩ = some (.int .i64 0) := Bc hg1.below (by simp) (by simp)
      have y1 : w1.cell? ⟨w.heap.size, 1, none⟩ = some (.int .i64 0) := Bc hg1.below (by simp) (by simp)
      have y2 : w1.cell? ⟨w.heap.size, 2, none⟩ = some (.int .i64 0) := Bc hg1.below (by simp) (by simp)
      have y3 : w1.cell? ⟨w.heap.size, 3, none⟩ = some (.int .i64 0) := Bc hg1.below (by simp) (by simp)
      have f0 : w1.frozen? ⟨w.heap.size, 0, none⟩ = false := Bf hg1.below (by simp) (by simp)
      have f1 : w1.frozen? ⟨w.heap.size, 1, none⟩ = false := Bf hg1.below (by simp) (by simp)
      have f2 : w1.frozen? ⟨w.heap.size, 2, none⟩ = false := Bf hg1.below (by simp) (by simp)
      have f3 : w1.frozen? ⟨w.heap.size, 3, none⟩ = false := Bf hg1.below (by simp) (by simp)
      have hl1 : w.heap.size < w1.heap.size := Bl hg1.below (by simp)
      go_wp2_with fail
      refine Calls.mono (F1.out _ (HL.out.below ?bb)) ?_
      (case bb => exact (by repeat (first | with_reducible exact Below.refl _ _ | with_reducible assumption | with_reducible apply Ba | with_reducible apply Bd | with_reducible apply Bn | with_reducible apply Bg | (with_reducible refine Bs ?_ (by first | (simp; done) | (simp; omega)) _) | (with_reducible refine Bt ?_ (by assumption)) | (with_reducible refine Bt ?_ (Gr.below (by assumption))))))
      rintro e w2 ⟨rfl, hg2⟩
      have b2 := (show RowKit.Below w1.heap.size w1 w2 from (by repeat (first | with_reducible exact Below.refl _ _ | with_reducible assumption | with_reducible apply Ba | with_reducible apply Bd | with_reducible apply Bn | with_reducible apply Bg | (with_reducible refine Bs ?_ (by first | (simp; done) | (simp; omega)) _) | (with_reducible refine Bt ?_ (by assumption)) | (with_reducible refine Bt ?_ (Gr.below (by assumption))))))
      have y20 : w2.cell? ⟨w.heap.size, 0, none⟩ = some (.int .i64 0) := Bc b2 hl1 y0
      have y21 : w2.cell? ⟨w.heap.size, 1, none⟩ = some (.int .i64 0) := Bc b2 hl1 y1
      have y22 : w2.cell? ⟨w.heap.size, 2, none⟩ = some (.int .i64 0) := Bc b2 hl1 y2
      have y23 : w2.cell? ⟨w.heap.size, 3, none⟩ = some (.int .i64 0) := Bc b2 hl1 y3
      have f20 : w2.frozen? ⟨w.heap.size, 0, none⟩ = false := Bf b2 hl1 f0
      have f21 : w2.frozen? ⟨w.heap.size, 1, none⟩ = false := Bf b2 hl1 f1
      have f22 : w2.frozen? ⟨w.heap.size, 2, none⟩ = false := Bf b2 hl1 f2
      have f23 : w2.frozen? ⟨w.heap.size, 3, none⟩ = false := Bf b2 hl1 f3
      have hl2 : w.heap.size < w2.heap.size := Bl b2 hl1
      have hm2 : w1.heap.size < w2.heap.size := Bl hg2.below (by simp)
      have v20 : w2.cell? ⟨w1.heap.size, 0, none⟩ = some (.int .i64 0) := Bc hg2.below (by simp) (by simp)
      have v21 : w2.cell? ⟨w1.heap.size, 1, none⟩ = some (.int .i64 a) := Bc hg2.below (by simp) (by simp)
      have v22 : w2.cell? ⟨w1.heap.size, 2, none⟩ = some (.int .i64 b) := Bc hg2.below (by simp) (by simp)
      clear b2
      go_wp2_with fail
      refine (FO.out _).mono ?_
      rintro e w3 ⟨rfl, hb3⟩
      have b3 := (show RowKit.Below w2.heap.size w2 w3 from (by repeat (first | with_reducible exact Below.refl _ _ | with_reducible assumption | with_reducible apply Ba | with_reducible apply Bd | with_reducible apply Bn | with_reducible apply Bg | (with_reducible refine Bs ?_ (by first | (simp; done) | (simp; omega)) _) | (with_reducible refine Bt ?_ (by assumption)) | (with_reducible refine Bt ?_ (Gr.below (by assumption))))))
      have y30 : w3.cell? ⟨w.heap.size, 0, none⟩ = some (.int .i64 0) := Bc b3 hl2 y20
      have y31 : w3.cell? ⟨w.heap.size, 1, none⟩ = some (.int .i64 0) := Bc b3 hl2 y21
      have y32 : w3.cell? ⟨w.heap.size, 2, none⟩ = some (.int .i64 0) := Bc b3 hl2 y22
      have y33 : w3.cell? ⟨w.heap.size, 3, none⟩ = some (.int .i64 0) := Bc b3 hl2 y23
      have f30 : w3.frozen? ⟨w.heap.size, 0, none⟩ = false := Bf b3 hl2 f20
      have f31 : w3.frozen? ⟨w.heap.size, 1, none⟩ = false := Bf b3 hl2 f21
      have f32 : w3.frozen? ⟨w.heap.size, 2, none⟩ = false := Bf b3 hl2 f22
      have f33 : w3.frozen? ⟨w.heap.size, 3, none⟩ = false := Bf b3 hl2 f23
      have hl3 : w.heap.size < w3.heap.size := Bl b3 hl2
      clear b3
      go_wp2
      go_region
      go_wp2
      exact bodyPost_ret (v := .tuple #[.agg #[.int .i64 q1, .int .i64 q2, .int .i64 q3, .int .i64 q4], .bool true]) (by simp [results, Tryz.results64, go_sem, *]) rfl ⟨rfl, (by repeat (first | with_reducible exact Below.refl _ _ | with_reducible assumption | with_reducible apply Ba | with_reducible apply Bd | with_reducible apply Bn | with_reducible apply Bg | (with_reducible refine Bs ?_ (by first | (simp; done) | (simp; omega)) _) | (with_reducible refine Bt ?_ (by assumption)) | (with_reducible refine Bt ?_ (Gr.below (by assumption)))))⟩

set_option maxHeartbeats 1000000 in
set_option maxRecDepth 100000 in
theorem rbox_call (l : List Vl) (v : Value) (w : World) (hl : Sl encV w v l) (hr : ∀ x ∈ l, chk x = 0) : Calls Tryz.prog 29 #[v] w fun e w' => e = .returned (.tuple #[boxA l, .bool (boxB l)]) ∧ RowKit.Below w.heap.size w w' := by
  have HL := Lib.hid hl
  have F0 : Hid (∀ W, Sl encV W v l → Calls Tryz.prog 58 #[v, .int .i64 0] W fun e w' => e = .returned (.tuple #[aggV (fndV l 0), .bool (hasK l 0)]) ∧ Gr W w') := fun W h => rfind_call l v 0 W h
  have F1 : Hid (∀ W, Sl encV W v l → Calls Tryz.prog 58 #[v, .int .i64 1] W fun e w' => e = .returned (.tuple #[aggV (fndV l 1), .bool (hasK l 1)]) ∧ Gr W w') := fun W h => rfind_call l v 1 W h
  have hbx : boxV l = match findV l 0, findV l 1 with | some p, some e => some (p.2.1 - e.2.1, p.2.2 - e.2.2, p.2.1 + e.2.1, p.2.2 + e.2.2) | _, _ => none := rfl
  have hbb : boxB l = (boxV l).isSome := rfl
  rw [hbb]
  rcases fnd_cases l 0 with ⟨e0, e1, e2⟩ | ⟨a, b, e0, e1, e2, e3⟩
  · have hno : boxV l = none := by rw [hbx, e0]
    rw [boxA_no hno, hno]
    rw [e1, e2] at F0
    rcases fnd_cases l 1 with ⟨d0, d1, d2⟩ | ⟨c, d, d0, d1, d2, d3⟩
    · rw [d1, d2] at F1
      clear hno hbx hbb hr hl e0 e1 e2 d0 d1 d2
      simp only [aggV] at F0 F1
      go_enter Tryz.func29, Tryz.ntmps29
      go_wp2_with fail
      refine Calls.mono (F0.out _ (HL.out.below ?bb)) ?_
      (case bb => exact (by repeat (first | with_reducible exact Below.refl _ _ | with_reducible assumption | with_reducible apply Ba | with_reducible apply Bd | with_reducible apply Bn | with_reducible apply Bg | (with_reducible refine Bs ?_ (by first | (simp; done) | (simp; omega)) _) | (with_reducible refine Bt ?_ (by assumption)) | (with_reducible refine Bt ?_ (Gr.below (by assumption))))))
      rintro e w1 ⟨rfl, hg1⟩
      have y0 : w1.cell? ⟨w.heap.size, 0, none⟩ = some (.int .i64 0) := Bc hg1.below (by simp) (by simp)
      have y1 : w1.cell? ⟨w.heap.size, 1, none⟩ = some (.int .i64 0) := Bc hg1.below (by simp) (by simp)
      have y2 : w1.cell? ⟨w.heap.size, 2, none⟩ = some (.int .i64 0) := Bc hg1.below (by simp) (by simp)
      have y3 : w1.cell? ⟨w.heap.size, 3, none⟩ = some (.int .i64 0) := Bc hg1.below (by simp) (by simp)
      have f0 : w1.frozen? ⟨w.heap.size, 0, none⟩ = false := Bf hg1.below (by simp) (by simp)
      have f1 : w1.frozen? ⟨w.heap.size, 1, none⟩ = false := Bf hg1.below (by simp) (by simp)
      have f2 : w1.frozen? ⟨w.heap.size, 2, none⟩ = false := Bf hg1.below (by simp) (by simp)
      have f3 : w1.frozen? ⟨w.heap.size, 3, none⟩ = false := Bf hg1.below (by simp) (by simp)
      have hl1 : w.heap.size < w1.heap.size := Bl hg1.below (by simp)
      go_wp2_with fail
      refine Calls.mono (F1.out _ (HL.out.below ?bb)) ?_
      (case bb => exact (by repeat (first | with_reducible exact Below.refl _ _ | with_reducible assumption | with_reducible apply Ba | with_reducible apply Bd | with_reducible apply Bn | with_reducible apply Bg | (with_reducible refine Bs ?_ (by first | (simp; done) | (simp; omega)) _) | (with_reducible refine Bt ?_ (by assumption)) | (with_reducible refine Bt ?_ (Gr.below (by assumption))))))
      rintro e w2 ⟨rfl, hg2⟩
      have b2 := (show RowKit.Below w1.heap.size w1 w2 from (by repeat (first | with_reducible exact Below.refl _ _ | with_reducible assumption | with_reducible apply Ba | with_reducible apply Bd | with_reducible apply Bn | with_reducible apply Bg | (with_reducible refine Bs ?_ (by first | (simp; done) | (simp; omega)) _) | (with_reducible refine Bt ?_ (by assumption)) | (with_reducible refine Bt ?_ (Gr.below (by assumption))))))
      have y20 : w2.cell? ⟨w.heap.size, 0, none⟩ = some (.int .i64 0) := Bc b2 hl1 y0
      have y21 : w2.cell? ⟨w.heap.size, 1, none⟩ = some (.int .i64 0) := Bc b2 hl1 y1
      have y22 : w2.cell? ⟨w.heap.size, 2, none⟩ = some (.int .i64 0) := Bc b2 hl1 y2
      have y23 : w2.cell? ⟨w.heap.size, 3, none⟩ = some (.int .i64 0) := Bc b2 hl1 y3
      have f20 : w2.frozen? ⟨w.heap.size, 0, none⟩ = false := Bf b2 hl1 f0
      have f21 : w2.frozen? ⟨w.heap.size, 1, none⟩ = false := Bf b2 hl1 f1
      have f22 : w2.frozen? ⟨w.heap.size, 2, none⟩ = false := Bf b2 hl1 f2
      have f23 : w2.frozen? ⟨w.heap.size, 3, none⟩ = false := Bf b2 hl1 f3
      have hl2 : w.heap.size < w2.heap.size := Bl b2 hl1
      have hm2 : w1.heap.size < w2.heap.size := Bl hg2.below (by simp)
      have v20 : w2.cell? ⟨w1.heap.size, 0, none⟩ = some (.int .i64 0) := Bc hg2.below (by simp) (by simp)
      have v21 : w2.cell? ⟨w1.heap.size, 1, none⟩ = some (.int .i64 0) := Bc hg2.below (by simp) (by simp)
      have v22 : w2.cell? ⟨w1.heap.size, 2, none⟩ = some (.int .i64 0) := Bc hg2.below (by simp) (by simp)
      clear b2
      go_wp2
      exact bodyPost_ret (v := .tuple #[.agg #[.int .i64 0, .int .i64 0, .int .i64 0, .int .i64 0], .bool false]) (by simp [results, Tryz.results29, go_sem, *]) rfl ⟨rfl, (by repeat (first | with_reducible exact Below.refl _ _ | with_reducible assumption | with_reducible apply Ba | with_reducible apply Bd | with_reducible apply Bn | with_reducible apply Bg | (with_reducible refine Bs ?_ (by first | (simp; done) | (simp; omega)) _) | (with_reducible refine Bt ?_ (by assumption)) | (with_reducible refine Bt ?_ (Gr.below (by assumption)))))⟩
    · rw [d1, d2] at F1
      clear hno hbx hbb hr hl e0 e1 e2 d0 d1 d2 d3
      simp only [aggV] at F0 F1
      go_enter Tryz.func29, Tryz.ntmps29
      go_wp2_with fail
      refine Calls.mono (F0.out _ (HL.out.below ?bb)) ?_
      (case bb => exact (by repeat (first | with_reducible exact Below.refl _ _ | with_reducible assumption | with_reducible apply Ba | with_reducible apply Bd | with_reducible apply Bn | with_reducible apply Bg | (with_reducible refine Bs ?_ (by first | (simp; done) | (simp; omega)) _) | (with_reducible refine Bt ?_ (by assumption)) | (with_reducible refine Bt ?_ (Gr.below (by assumption))))))
      rintro e w1 ⟨rfl, hg1⟩
      have y0 : w1.cell? ⟨w.heap.size, 0, none⟩ = some (.int .i64 0) := Bc hg1.below (by simp) (by simp)
      have y1 : w1.cell? ⟨w.heap.size, 1, none⟩ = some (.int .i64 0) := Bc hg1.below (by simp) (by simp)
      have y2 : w1.cell? ⟨w.heap.size, 2, none⟩ = some (.int .i64 0) := Bc hg1.below (by simp) (by simp)
      have y3 : w1.cell? ⟨w.heap.size, 3, none⟩ = some (.int .i64 0) := Bc hg1.below (by simp) (by simp)
      have f0 : w1.frozen? ⟨w.heap.size, 0, none⟩ = false := Bf hg1.below (by simp) (by simp)
      have f1 : w1.frozen? ⟨w.heap.size, 1, none⟩ = false := Bf hg1.below (by simp) (by simp)
      have f2 : w1.frozen? ⟨w.heap.size, 2, none⟩ = false := Bf hg1.below (by simp) (by simp)
      have f3 : w1.frozen? ⟨w.heap.size, 3, none⟩ = false := Bf hg1.below (by simp) (by simp)
      have hl1 : w.heap.size < w1.heap.size := Bl hg1.below (by simp)
      go_wp2_with fail
      refine Calls.mono (F1.out _ (HL.out.below ?bb)) ?_
      (case bb => exact (by repeat (first | with_reducible exact Below.refl _ _ | with_reducible assumption | with_reducible apply Ba | with_reducible apply Bd | with_reducible apply Bn | with_reducible apply Bg | (with_reducible refine Bs ?_ (by first | (simp; done) | (simp; omega)) _) | (with_reducible refine Bt ?_ (by assumption)) | (with_reducible refine Bt ?_ (Gr.below (by assumption))))))
      rintro e w2 ⟨rfl, hg2⟩
      have b2 := (show RowKit.Below w1.heap.size w1 w2 from (by repeat (first | with_reducible exact Below.refl _ _ | with_reducible assumption | with_reducible apply Ba | with_reducible apply Bd | with_reducible apply Bn | with_reducible apply Bg | (with_reducible refine Bs ?_ (by first | (simp; done) | (simp; omega)) _) | (with_reducible refine Bt ?_ (by assumption)) | (with_reducible refine Bt ?_ (Gr.below (by assumption))))))
      have y20 : w2.cell? ⟨w.heap.size, 0, none⟩ = some (.int .i64 0) := Bc b2 hl1 y0
      have y21 : w2.cell? ⟨w.heap.size, 1, none⟩ = some (.int .i64 0) := Bc b2 hl1 y1
      have y22 : w2.cell? ⟨w.heap.size, 2, none⟩ = some (.int .i64 0) := Bc b2 hl1 y2
      have y23 : w2.cell? ⟨w.heap.size, 3, none⟩ = some (.int .i64 0) := Bc b2 hl1 y3
      have f20 : w2.frozen? ⟨w.heap.size, 0, none⟩ = false := Bf b2 hl1 f0
      have f21 : w2.frozen? ⟨w.heap.size, 1, none⟩ = false := Bf b2 hl1 f1
      have f22 : w2.frozen? ⟨w.heap.size, 2, none⟩ = false := Bf b2 hl1 f2
      have f23 : w2.frozen? ⟨w.heap.size, 3, none⟩ = false := Bf b2 hl1 f3
      have hl2 : w.heap.size < w2.heap.size := Bl b2 hl1
      have hm2 : w1.heap.size < w2.heap.size := Bl hg2.below (by simp)
      have v20 : w2.cell? ⟨w1.heap.size, 0, none⟩ = some (.int .i64 0) := Bc hg2.below (by simp) (by simp)
      have v21 : w2.cell? ⟨w1.heap.size, 1, none⟩ = some (.int .i64 0) := Bc hg2.below (by simp) (by simp)
      have v22 : w2.cell? ⟨w1.heap.size, 2, none⟩ = some (.int .i64 0) := Bc hg2.below (by simp) (by simp)
      clear b2
      go_wp2
      exact bodyPost_ret (v := .tuple #[.agg #[.int .i64 0, .int .i64 0, .int .i64 0, .int .i64 0], .bool false]) (by simp [results, Tryz.results29, go_sem, *]) rfl ⟨rfl, (by repeat (first | with_reducible exact Below.refl _ _ | with_reducible assumption | with_reducible apply Ba | with_reducible apply Bd | with_reducible apply Bn | with_reducible apply Bg | (with_reducible refine Bs ?_ (by first | (simp; done) | (simp; omega)) _) | (with_reducible refine Bt ?_ (by assumption)) | (with_reducible refine Bt ?_ (Gr.below (by assumption)))))⟩
  · rw [e1, e2] at F0
    rcases fnd_cases l 1 with ⟨d0, d1, d2⟩ | ⟨c, d, d0, d1, d2, d3⟩
    · have hno : boxV l = none := by rw [hbx, e0, d0]
      rw [boxA_no hno, hno]
      rw [d1, d2] at F1
      clear hno hbx hbb hr hl e0 e1 e2 e3 d0 d1 d2
      simp only [aggV] at F0 F1
      go_enter Tryz.func29, Tryz.ntmps29
      go_wp2_with fail
      refine Calls.mono (F0.out _ (HL.out.below ?bb)) ?_
      (case bb => exact (by repeat (first | with_reducible exact Below.refl _ _ | with_reducible assumption | with_reducible apply Ba | with_reducible apply Bd | with_reducible apply Bn | with_reducible apply Bg | (with_reducible refine Bs ?_ (by first | (simp; done) | (simp; omega)) _) | (with_reducible refine Bt ?_ (by assumption)) | (with_reducible refine Bt ?_ (Gr.below (by assumption))))))
      rintro e w1 ⟨rfl, hg1⟩
      have y0 : w1.cell? ⟨w.heap.size, 0, none⟩ = some (.int .i64 0) := Bc hg1.below (by simp) (by simp)
      have y1 : w1.cell? ⟨w.heap.size, 1, none⟩ = some (.int .i64 0) := Bc hg1.below (by simp) (by simp)
      have y2 : w1.cell? ⟨w.heap.size, 2, none⟩ = some (.int .i64 0) := Bc hg1.below (by simp) (by simp)
      have y3 : w1.cell? ⟨w.heap.size, 3, none⟩ = some (.int .i64 0) := Bc hg1.below (by simp) (by simp)
      have f0 : w1.frozen? ⟨w.heap.size, 0, none⟩ = false := Bf hg1.below (by simp) (by simp)
      have f1 : w1.frozen? ⟨w.heap.size, 1, none⟩ = false := Bf hg1.below (by simp) (by simp)
      have f2 : w1.frozen? ⟨w.heap.size, 2, none⟩ = false := Bf hg1.below (by simp) (by simp)
      have f3 : w1.frozen? ⟨w.heap.size, 3, none⟩ = false := Bf hg1.below (by simp) (by simp)
      have hl1 : w.heap.size < w1.heap.size := Bl hg1.below (by simp)
      go_wp2_with fail
      refine Calls.mono (F1.out _ (HL.out.below ?bb)) ?_
      (case bb => exact (by repeat (first | with_reducible exact Below.refl _ _ | with_reducible assumption | with_reducible apply Ba | with_reducible apply Bd | with_reducible apply Bn | with_reducible apply Bg | (with_reducible refine Bs ?_ (by first | (simp; done) | (simp; omega)) _) | (with_reducible refine Bt ?_ (by assumption)) | (with_reducible refine Bt ?_ (Gr.below (by assumption))))))
      rintro e w2 ⟨rfl, hg2⟩
      have b2 := (show RowKit.Below w1.heap.size w1 w2 from (by repeat (first | with_reducible exact Below.refl _ _ | with_reducible assumption | with_reducible apply Ba | with_reducible apply Bd | with_reducible apply Bn | with_reducible apply Bg | (with_reducible refine Bs ?_ (by first | (simp; done) | (simp; omega)) _) | (with_reducible refine Bt ?_ (by assumption)) | (with_reducible refine Bt ?_ (Gr.below (by assumption))))))
      have y20 : w2.cell? ⟨w.heap.size, 0, none⟩ = some (.int .i64 0) := Bc b2 hl1 y0
      have y21 : w2.cell? ⟨w.heap.size, 1, none⟩ = some (.int .i64 0) := Bc b2 hl1 y1
      have y22 : w2.cell? ⟨w.heap.size, 2, none⟩ = some (.int .i64 0) := Bc b2 hl1 y2
      have y23 : w2.cell? ⟨w.heap.size, 3, none⟩ = some (.int .i64 0) := Bc b2 hl1 y3
      have f20 : w2.frozen? ⟨w.heap.size, 0, none⟩ = false := Bf b2 hl1 f0
      have f21 : w2.frozen? ⟨w.heap.size, 1, none⟩ = false := Bf b2 hl1 f1
      have f22 : w2.frozen? ⟨w.heap.size, 2, none⟩ = false := Bf b2 hl1 f2
      have f23 : w2.frozen? ⟨w.heap.size, 3, none⟩ = false := Bf b2 hl1 f3
      have hl2 : w.heap.size < w2.heap.size := Bl b2 hl1
      have hm2 : w1.heap.size < w2.heap.size := Bl hg2.below (by simp)
      have v20 : w2.cell? ⟨w1.heap.size, 0, none⟩ = some (.int .i64 0) := Bc hg2.below (by simp) (by simp)
      have v21 : w2.cell? ⟨w1.heap.size, 1, none⟩ = some (.int .i64 a) := Bc hg2.below (by simp) (by simp)
      have v22 : w2.cell? ⟨w1.heap.size, 2, none⟩ = some (.int .i64 b) := Bc hg2.below (by simp) (by simp)
      clear b2
      go_wp2
      exact bodyPost_ret (v := .tuple #[.agg #[.int .i64 0, .int .i64 0, .int .i64 0, .int .i64 0], .bool false]) (by simp [results, Tryz.results29, go_sem, *]) rfl ⟨rfl, (by repeat (first | with_reducible exact Below.refl _ _ | with_reducible assumption | with_reducible apply Ba | with_reducible apply Bd | with_reducible apply Bn | with_reducible apply Bg | (with_reducible refine Bs ?_ (by first | (simp; done) | (simp; omega)) _) | (with_reducible refine Bt ?_ (by assumption)) | (with_reducible refine Bt ?_ (Gr.below (by assumption)))))⟩
    · have hyes : boxV l = some (a - c, b - d, a + c, b + d) := by rw [hbx, e0, d0]
      rw [boxA_yes hyes, hyes]
      rw [d1, d2] at F1
      have p1 := chk_pos.1 (hr _ e3)
      have p2 := chk_ext.1 (hr _ d3)
      have FO : Hid (∀ W, Calls Tryz.prog 65 #[.agg #[.int .i64 a, .int .i64 b], .agg #[.int .i64 c, .int .i64 d]] W fun e w' => e = .returned (.tuple #[.agg #[.int .i64 (a - c), .int .i64 (b - d), .int .i64 (a + c), .int .i64 (b + d)], .bool true]) ∧ RowKit.Below W.heap.size W w') := fun W => rof_yes a b c d W ⟨p1.1, p1.2, p2.1, p2.2⟩
      clear hyes hbx hbb hr hl e0 e1 e2 e3 d0 d1 d2 d3 p1 p2
      generalize a - c = q1 at *
      generalize b - d = q2 at *
      generalize a + c = q3 at *
      generalize b + d = q4 at *
      simp only [aggV] at F0 F1
      go_enter Tryz.func29, Tryz.ntmps29
      go_wp2_with fail
      refine Calls.mono (F0.out _ (HL.out.below ?bb)) ?_
      (case bb => exact (by repeat (first | with_reducible exact Below.refl _ _ | with_reducible assumption | with_reducible apply Ba | with_reducible apply Bd | with_reducible apply Bn | with_reducible apply Bg | (with_reducible refine Bs ?_ (by first | (simp; done) | (simp; omega)) _) | (with_reducible refine Bt ?_ (by assumption)) | (with_reducible refine Bt ?_ (Gr.below (by assumption))))))
      rintro e w1 ⟨rfl, hg1⟩
      have y0 : w1.cell? ⟨w.heap.size, 0, none⟩ = some (.int .i64 0) := Bc hg1.below (by simp) (by simp)
      have y1 : w1.cell? ⟨w.heap.size, 1, none⟩ = some (.int .i64 0) := Bc hg1.below (by simp) (by simp)
      have y2 : w1.cell? ⟨w.heap.size, 2, none⟩ = some (.int .i64 0) := Bc hg1.below (by simp) (by simp)
      have y3 : w1.cell? ⟨w.heap.size, 3, none⟩ = some (.int .i64 0) := Bc hg1.below (by simp) (by simp)
      have f0 : w1.frozen? ⟨w.heap.size, 0, none⟩ = false := Bf hg1.below (by simp) (by simp)
      have f1 : w1.frozen? ⟨w.heap.size, 1, none⟩ = false := Bf hg1.below (by simp) (by simp)
      have f2 : w1.frozen? ⟨w.heap.size, 2, none⟩ = false := Bf hg1.below (by simp) (by simp)
      have f3 : w1.frozen? ⟨w.heap.size, 3, none⟩ = false := Bf hg1.below (by simp) (by simp)
      have hl1 : w.heap.size < w1.heap.size := Bl hg1.below (by simp)
      go_wp2_with fail
      refine Calls.mono (F1.out _ (HL.out.below ?bb)) ?_
      (case bb => exact (by repeat (first | with_reducible exact Below.refl _ _ | with_reducible assumption | with_reducible apply Ba | with_reducible apply Bd | with_reducible apply Bn | with_reducible apply Bg | (with_reducible refine Bs ?_ (by first | (simp; done) | (simp; omega)) _) | (with_reducible refine Bt ?_ (by assumption)) | (with_reducible refine Bt ?_ (Gr.below (by assumption))))))
      rintro e w2 ⟨rfl, hg2⟩
      have b2 := (show RowKit.Below w1.heap.size w1 w2 from (by repeat (first | with_reducible exact Below.refl _ _ | with_reducible assumption | with_reducible apply Ba | with_reducible apply Bd | with_reducible apply Bn | with_reducible apply Bg | (with_reducible refine Bs ?_ (by first | (simp; done) | (simp; omega)) _) | (with_reducible refine Bt ?_ (by assumption)) | (with_reducible refine Bt ?_ (Gr.below (by assumption))))))
      have y20 : w2.cell? ⟨w.heap.size, 0, none⟩ = some (.int .i64 0) := Bc b2 hl1 y0
      have y21 : w2.cell? ⟨w.heap.size, 1, none⟩ = some (.int .i64 0) := Bc b2 hl1 y1
      have y22 : w2.cell? ⟨w.heap.size, 2, none⟩ = some (.int .i64 0) := Bc b2 hl1 y2
      have y23 : w2.cell? ⟨w.heap.size, 3, none⟩ = some (.int .i64 0) := Bc b2 hl1 y3
      have f20 : w2.frozen? ⟨w.heap.size, 0, none⟩ = false := Bf b2 hl1 f0
      have f21 : w2.frozen? ⟨w.heap.size, 1, none⟩ = false := Bf b2 hl1 f1
      have f22 : w2.frozen? ⟨w.heap.size, 2, none⟩ = false := Bf b2 hl1 f2
      have f23 : w2.frozen? ⟨w.heap.size, 3, none⟩ = false := Bf b2 hl1 f3
      have hl2 : w.heap.size < w2.heap.size := Bl b2 hl1
      have hm2 : w1.heap.size < w2.heap.size := Bl hg2.below (by simp)
      have v20 : w2.cell? ⟨w1.heap.size, 0, none⟩ = some (.int .i64 0) := Bc hg2.below (by simp) (by simp)
      have v21 : w2.cell? ⟨w1.heap.size, 1, none⟩ = some (.int .i64 a) := Bc hg2.below (by simp) (by simp)
      have v22 : w2.cell? ⟨w1.heap.size, 2, none⟩ = some (.int .i64 b) := Bc hg2.below (by simp) (by simp)
      clear b2
      go_wp2_with fail
      refine (FO.out _).mono ?_
      rintro e w3 ⟨rfl, hb3⟩
      have b3 := (show RowKit.Below w2.heap.size w2 w3 from (by repeat (first | with_reducible exact Below.refl _ _ | with_reducible assumption | with_reducible apply Ba | with_reducible apply Bd | with_reducible apply Bn | with_reducible apply Bg | (with_reducible refine Bs ?_ (by first | (simp; done) | (simp; omega)) _) | (with_reducible refine Bt ?_ (by assumption)) | (with_reducible refine Bt ?_ (Gr.below (by assumption))))))
      have y30 : w3.cell? ⟨w.heap.size, 0, none⟩ = some (.int .i64 0) := Bc b3 hl2 y20
      have y31 : w3.cell? ⟨w.heap.size, 1, none⟩ = some (.int .i64 0) := Bc b3 hl2 y21
      have y32 : w3.cell? ⟨w.heap.size, 2, none⟩ = some (.int .i64 0) := Bc b3 hl2 y22
      have y33 : w3.cell? ⟨w.heap.size, 3, none⟩ = some (.int .i64 0) := Bc b3 hl2 y23
      have f30 : w3.frozen? ⟨w.heap.size, 0, none⟩ = false := Bf b3 hl2 f20
      have f31 : w3.frozen? ⟨w.heap.size, 1, none⟩ = false := Bf b3 hl2 f21
      have f32 : w3.frozen? ⟨w.heap.size, 2, none⟩ = false := Bf b3 hl2 f22
      have f33 : w3.frozen? ⟨w.heap.size, 3, none⟩ = false := Bf b3 hl2 f23
      have hl3 : w.heap.size < w3.heap.size := Bl b3 hl2
      clear b3
      go_wp2
      exact bodyPost_ret (v := .tuple #[.agg #[.int .i64 q1, .int .i64 q2, .int .i64 q3, .int .i64 q4], .bool true]) (by simp [results, Tryz.results29, go_sem, *]) rfl ⟨rfl, (by repeat (first | with_reducible exact Below.refl _ _ | with_reducible assumption | with_reducible apply Ba | with_reducible apply Bd | with_reducible apply Bn | with_reducible apply Bg | (with_reducible refine Bs ?_ (by first | (simp; done) | (simp; omega)) _) | (with_reducible refine Bt ?_ (by assumption)) | (with_reducible refine Bt ?_ (Gr.below (by assumption)))))⟩

def blkB (l : List Vl) : Bool := boxB l && hasK l 3
end Go.Proofs.YtaehendpdfpibaaGreatDoor
