/-
  The reference's masks: rows of 64 yes and no, by value: From, Set, Number, Kinds, Fits.
-/
import Derived.Test.YtaehendpdfpibaaDoorKn
import Derived.Test.YtaehendpdfpibaaDoorMk9
import Derived.Deep.WholeRow
namespace Go.Proofs.YtaehendpdfpibaaDoor
set_option linter.unusedSimpArgs false
set_option linter.unusedVariables false
open Go.RowKit Go.Sort Go.Lib Go.Shelf

/-- The cells of 64 yes and no. -/
def bv (f : Nat → Bool) : Array Value := ((List.range 64).map fun i => Value.bool (f i)).toArray
theorem bv_size (f : Nat → Bool) : (bv f).size = 64 := by simp [bv]
theorem bv_get (f : Nat → Bool) (i : Nat) (hi : i < 64) : (bv f)[i]? = some (.bool (f i)) := by simp [bv, hi]
theorem bv_set (f : Nat → Bool) (k : Nat) (b : Bool) : (bv f).setIfInBounds k (.bool b) = bv (putF b f k) := by
  apply Array.ext_getElem?
  intro i
  rcases Nat.lt_or_ge i 64 with hi | hi
  · rw [bv_get _ i hi, Array.getElem?_setIfInBounds]
    by_cases h : k = i
    · subst h
      simp [bv_size, hi, putF]
    · have h' : ¬ i = k := fun e => h e.symm
      rw [if_neg h, bv_get f i hi]
      simp [putF, h']
  · rw [Array.getElem?_eq_none (by simp [bv_size]; exact hi), Array.getElem?_eq_none (by simp [bv_size]; exact hi)]
theorem bv_congr {f g : Nat → Bool} (h : ∀ i, i < 64 → f i = g i) : bv f = bv g := by
  unfold bv
  congr 1
  exact List.map_congr_left fun i hi => by rw [h i (by simpa using hi)]
theorem bv_one (f : Nat → Bool) : (bv f).all (·.oneCell') = true := by
  simp [bv, Value.oneCell']
theorem bv_zero : bv (fun _ => false) = #[.bool false, .bool false, .bool false, .bool false, .bool false, .bool false, .bool false, .bool false, .bool false, .bool false, .bool false, .bool false, .bool false, .bool false, .bool false, .bool false, .bool false, .bool false, .bool false, .bool false, .bool false, .bool false, .bool false, .bool false, .bool false, .bool false, .bool false, .bool false, .bool false, .bool false, .bool false, .bool false, .bool false, .bool false, .bool false, .bool false, .bool false, .bool false, .bool false, .bool false, .bool false, .bool false, .bool false, .bool false, .bool false, .bool false, .bool false, .bool false, .bool false, .bool false, .bool false, .bool false, .bool false, .bool false, .bool false, .bool false, .bool false, .bool false, .bool false, .bool false, .bool false, .bool false, .bool false, .bool false] := rfl

theorem bv_all (f : Nat → Bool) : ∀ v ∈ (bv f).toList, v.oneCell' = true := fun v hv => (Array.all_eq_true_iff_forall_mem.1 (bv_one f)) v (by simpa using hv)

/-! ### A whole row, out of its block and into it, as the walk meets them. -/
theorem setRow_alloc_last (w : World) (b : Nat) (hb : b = w.heap.size) (c c' : Array Value) (t : TypeId) : (w.alloc (.cells c t)).setRow b c' = w.alloc (.cells c' t) := by
  subst hb
  exact World.setRow_alloc_new w c c' t
theorem setRow_alloc_past (w : World) (b : Nat) (hb : b < w.heap.size) (c' : Array Value) (o : Obj) : (w.alloc o).setRow b c' = (w.setRow b c').alloc o := by
  simp only [World.setRow, World.alloc]
  congr 1
  apply Array.ext_getElem?
  intro i
  rw [Array.getElem?_modify, Array.getElem?_push, Array.getElem?_push, Array.getElem?_modify, Array.size_modify]
  by_cases h : b = i
  · subst h
    simp [Nat.ne_of_lt hb]
  · simp [h]
theorem ld_row (W : World) (b : Nat) (f : Nat → Bool) (t : TypeId) (h : W.heap[b]? = some (.cells (bv f) t (0, 0))) : (loadCellsFrom ⟨b, 0, none⟩ 0 64 #[]).run Tryd.prog W = .ok (bv f) W := by
  have := run_loadCells_list (P := Tryd.prog) W ⟨b, 0, none⟩ (bv f).toList (fun j v hv => by
    have hadd : (⟨b, 0, none⟩ : Addr).add j = ⟨b, j, none⟩ := by unfold Addr.add; split <;> simp_all
    rw [hadd, cell_of_row W b j (bv f) t (0, 0) h]
    simpa using hv)
  rw [Array.length_toList, bv_size] at this
  simpa [loadCells] using this
theorem st_row (W : World) (b : Nat) (f g : Nat → Bool) (t : TypeId) (h : W.heap[b]? = some (.cells (bv f) t (0, 0))) : (storeCells ⟨b, 0, none⟩ (bv g).toList 0).run Tryd.prog W = .ok () (W.setRow b (bv g)) := by
  have := run_storeVar_row (P := Tryd.prog) W b t 46 (bv f) (bv g) h (by rw [bv_size]; kernel_rfl) (by rw [bv_size, bv_size]) (bv_one g)
  have hs : (Tryd.prog.info? 46).map (·.size) = some 64 := by kernel_rfl
  cases hq : Tryd.prog.info? 46 with
  | none => simp [hq] at hs
  | some i =>
    have hs' : i.size = 64 := by simpa [hq] using hs
    simpa [storeVar, sizeOf, typeInfo, hq, Value.cells, hs', bv_size] using this
/-- The newest block, and the one before. -/
theorem ld_new (w : World) (b : Nat) (hb : b = w.heap.size) (f : Nat → Bool) (t : TypeId) : (loadCellsFrom ⟨b, 0, none⟩ 0 64 #[]).run Tryd.prog (w.alloc (.cells (bv f) t)) = .ok (bv f) (w.alloc (.cells (bv f) t)) := by
  subst hb
  exact ld_row _ _ _ t (heap_alloc_last w _)
theorem heap_past (w : World) (b : Nat) (hb : b = w.heap.size) (o o' : Obj) : ((w.alloc o).alloc o').heap[b]? = some o := by
  subst hb
  show ((w.heap.push o).push o')[w.heap.size]? = some o
  simp [Array.getElem?_push]
theorem ld_old (w : World) (b : Nat) (hb : b = w.heap.size) (f : Nat → Bool) (t : TypeId) (o : Obj) : (loadCellsFrom ⟨b, 0, none⟩ 0 64 #[]).run Tryd.prog ((w.alloc (.cells (bv f) t)).alloc o) = .ok (bv f) ((w.alloc (.cells (bv f) t)).alloc o) :=
  ld_row _ _ _ t (heap_past w b hb _ _)
theorem st_new (w : World) (b : Nat) (hb : b = w.heap.size) (f g : Nat → Bool) (t : TypeId) : (storeCells ⟨b, 0, none⟩ (bv g).toList 0).run Tryd.prog (w.alloc (.cells (bv f) t)) = .ok () (w.alloc (.cells (bv g) t)) := by
  rw [st_row _ b f g t (by subst hb; exact heap_alloc_last w _), setRow_alloc_last w b hb]
theorem st_old (w : World) (b : Nat) (hb : b = w.heap.size) (f g : Nat → Bool) (t : TypeId) (o : Obj) : (storeCells ⟨b, 0, none⟩ (bv g).toList 0).run Tryd.prog ((w.alloc (.cells (bv f) t)).alloc o) = .ok () ((w.alloc (.cells (bv g) t)).alloc o) := by
  rw [st_row _ b f g t (heap_past w b hb _ _), setRow_alloc_past _ b (by simp; omega), setRow_alloc_last w b hb]

theorem heap_new (w : World) (b : Nat) (hb : b = w.heap.size) (o : Obj) : (w.alloc o).heap[b]? = some o := by
  subst hb
  exact heap_alloc_last w o
/-- A whole row loaded, at the list of a plain region's operations. -/
theorem wpl_ld {ops : Array Oper} {rest : List Oper} {o : Oper} {a : Act} {w : World} {Q : Exit → Act → World → Prop} (hgd : o.guard = none) (x : Operand) (ho : o.op = .load 46 x)
    (g : Nat) (hx : a.eval x = .pointer (some ⟨g, 0, none⟩)) (f : Nat → Bool) (t : TypeId) (hg : w.heap[g]? = some (.cells (bv f) t (0, 0)))
    (h : wpList Tryd.prog ops Q rest (a.put o.dst (.agg (bv f))) w) : wpList Tryd.prog ops Q (o :: rest) a w :=
  wpList_load_row hgd 46 x ho g hx t (bv f) (0, 0) _ hg Tryd.underlying46 rfl (by rw [bv_size]; kernel_rfl) h

set_option maxHeartbeats 2000000 in
set_option maxRecDepth 100000 in
theorem from_call (m : Nat) (hm : m < 18446744073709551616) (w : World) :
    Calls Tryd.prog 22 #[.int .u64 m] w fun e w' => e = .returned (.agg (bv fun i => m.testBit i)) ∧ Gr w w' := by
  have hz := bv_zero.symm
  have hs := bv_size
  have hst := fun (o : Obj) f g t => st_new (w.alloc o) (w.heap.size + 1) (by simp) f g t
  have hso := fun f g t (o : Obj) => st_old w w.heap.size rfl f g t o
  have hset := bv_set
  go_enter Tryd.func22, Tryd.ntmps22
  go_wp2
  go_loopw [0, 4] (fun s0 i wr => ∃ k q : Nat, k ≤ 64 ∧ i = .int .i64 k ∧ s0 = .int .u64 q ∧ q < 18446744073709551616 ∧ Hid (q = m / 2 ^ k) ∧ ∃ f : Nat → Bool, wr = (w.alloc (.cells (bv fun _ => false) 46)).alloc (.cells (bv f) 46) ∧ ∀ i, i < k → f i = m.testBit i) (fun _ i _ => 64 - (intOf i).toNat)
  case atStart => exact ⟨0, m, Nat.zero_le _, rfl, rfl, hm, Lib.hid (by simp), fun _ => false, rfl, fun i hi => absurd hi (Nat.not_lt_zero i)⟩
  case round =>
    obtain ⟨k, q, hk, rfl, rfl, hq, HQ, f, rfl, hf⟩ := hrel
    have HF := Lib.hid hf
    clear hf
    by_cases hk6 : k < 64
    · have hget := bv_get f k hk6
      have hkz : (k : Int) < 64 := by omega
      have n1 : IntKind.u64.wrap ((q : Int) / 2) = ((q / 2 : Nat) : Int) := by rw [IntKind.wrap_u64]; omega
      obtain ⟨q2, hq2⟩ : ∃ q2, q2 = q / 2 := ⟨_, rfl⟩
      obtain ⟨b, hb⟩ : ∃ b : Bool, b = m.testBit k := ⟨_, rfl⟩
      have n2 : ((q : Int) % 2 == 1) = b := by
        rw [hb, Nat.testBit_eq_decide_div_mod_eq, ← HQ.out]
        rw [Bool.eq_iff_iff]
        simp
        omega
      rw [← hq2] at n1
      have HB := Lib.hid hb
      have H2 := Lib.hid hq2
      clear hb hq2
      go_wp2
      go_roundw
      case measure => simp [intOf]; omega
      case rel =>
        refine ⟨k + 1, q2, by omega, by go_num, rfl, by rw [H2.out]; omega, Lib.hid (by rw [H2.out, HQ.out, Nat.pow_succ, Nat.div_div_eq_div_mul]), _, rfl, fun i hi => ?_⟩
        unfold putF
        by_cases h : i = k
        · rw [if_pos h, h]; exact HB.out
        · rw [if_neg h]; exact HF.out i (by omega)
    · have hkz : ¬ (k : Int) < 64 := by omega
      have hk64 : k = 64 := by omega
      subst hk64
      have he : bv f = bv (fun i => m.testBit i) := bv_congr HF.out
      have hh := heap_new (w.alloc (.cells (bv fun _ => false) 46)) (w.heap.size + 1) (by simp) (.cells (bv f) 46)
      have HE := Lib.hid he
      have HH := Lib.hid hh
      clear he hh
      go_wp2_with (refine wpl_ld rfl _ rfl (w.heap.size + 1) (by rfl) f 46 HH.out ?_)
      exact bodyPost_ret (v := .agg (bv f)) (results_cell_row rfl _ _ w.heap.size 46 (bv f) (0, 0) _ (by rfl) (heap_past w _ rfl _ _) Tryd.underlying46 rfl (by rw [bv_size]; kernel_rfl)) rfl ⟨by rw [HE.out], (by repeat (first | with_reducible exact Gr.refl _ | with_reducible assumption | with_reducible apply Gr.alloc | with_reducible apply Gr.drewN | with_reducible apply Gr.drew | with_reducible apply Gr.grow | (with_reducible refine Gr.trans ?_ (by assumption))))⟩
end Go.Proofs.YtaehendpdfpibaaDoor
