/-
  The reference's Copy: a pool of its own, of any slots and free places.
-/
import Derived.Test.YthodmicoejnfaaaDoorRe
namespace Go.Proofs.YthodmicoejnfaaaDoor
set_option linter.unusedSimpArgs false
set_option linter.unusedVariables false
open Go.RowKit Go.Sort Go.Lib Go.Shelf

section
variable {pa : Nat} {S : List Slt} {Fr : List Int} {w : World}

/-- An empty row in a block that holds nothing. -/
theorem row_emp {α : Type} {enc : α → List Value} {et k base b : Nat} (h : w.heap[b]? = some (.cells #[] et (0, 0))) (hb : base ≤ b) : w.ownsRow base et k (.slice (some ⟨b, 0, none⟩) 0 0) 0 (flat enc []) :=
  ⟨by simp [flat], .inr ⟨b, 0, #[], rfl, hb, h, Nat.le_refl _, Nat.zero_le _, by simp, by simp [flat]⟩⟩

section
variable {α : Type} {enc : α → List Value} {st et k : Nat} {z : Value} {bytes : Nat}
theorem step_app3 (A : Ap enc st et k z bytes) {w : World} {ops : Array Oper} {o : Oper} {a : Act} {K : Act → World → Prop} {Q : Exit → Act → World → Prop} {E : Prop} (hgd : o.guard = none) (s x : Operand) (ho : o.op = .call { callee := .builtin .append, args := #[s, x], argTypes := #[st, st] }) (base : Nat)
    {v vx : Value} {n : Nat} {la lb : List α} (hs : a.eval s = v) (hx : a.eval x = vx) (hown : w.ownsRow base et k v n (flat enc la)) (hn : n = la.length) (hX : Sl enc w vx lb) (hlen : la.length + lb.length ≤ 1000000) (hbase : base ≤ w.heap.size)
    (h : ∀ v' w', w'.ownsRow base et k v' (la ++ lb).length (flat enc (la ++ lb)) → w.grownBy w' v.ownBlock → (v'.ownBlock = v.ownBlock ∨ v'.ownBlock = some w.heap.size) → w.ownsRow base et k v n (flat enc la) → K (a.put o.dst v') w') :
    if Region.wanted o (yielded ops a.tmps) = true then Oper.wp Tryd.prog o a w K Q else E :=
  step_app2 A hgd s x ho base hs hx hown hn hX hlen hbase fun v' w' a b c _ => h v' w' a b c hown
/-- A row behind an append onto one of another type. -/
theorem row_pass {wA Wy wB : World} {b0 b1 etA kA nA etB kB nB : Nat} {vA vB : Value} {xA xB : List Value} (own : wA.ownsRow b0 etA kA vA nA xA) (pre : Wy.ownsRow b1 etB kB vB nB xB) (hg : Wy.grownBy wB vB.ownBlock) (hb : RowKit.Below wA.heap.size wA Wy) (ht : etA ≠ etB) : wB.ownsRow b0 etA kA vA nA xA := by
  have o2 := row_below own hb
  refine row_keep o2 (fun g e => hg.block g (row_lt o2 e) (fun e2 => ?_))
  obtain ⟨c, hc⟩ := row_type o2 e
  obtain ⟨c2, hc2⟩ := row_type pre e2.symm
  exact type_apart hc hc2 ht rfl
end
theorem heap_top {W : World} {b : Nat} {o : Obj} (h : b = W.heap.size) : (W.alloc o).heap[b]? = some o := by subst h; exact heap_alloc_new W o
theorem far_emp {W w' : World} {b b2 n c : Nat} {o : Obj} (hg : W.grownBy w' (Value.slice (some ⟨b2, 0, none⟩) n c).ownBlock) (hb : W.heap[b]? = some o) (hne : b ≠ b2) : w'.heap[b]? = some o :=
  (hg.block b (Array.getElem?_eq_some_iff.1 hb).1 (by simp [Value.ownBlock]; omega)).trans hb
theorem below_emp {w W w' : World} {b n c : Nat} (hW : RowKit.Below w.heap.size w W) (hg : W.grownBy w' (Value.slice (some ⟨b, 0, none⟩) n c).ownBlock) (hb : w.heap.size ≤ b) : RowKit.Below w.heap.size w w' :=
  ⟨hg.os.trans hW.os, hg.tape.trans hW.tape, hg.output.trans hW.output, Nat.le_trans hW.size hg.size, fun k hk => (hg.block k (Nat.lt_of_lt_of_le hk hW.size) (by simp [Value.ownBlock]; omega)).trans (hW.block k hk)⟩
theorem drew_heap (W : World) : W.drew.heap = W.heap := rfl

set_option maxHeartbeats 4000000 in
set_option maxRecDepth 100000 in
theorem copy_call (vs vf : Value) (h0 : w.heap[pa]? = some (.cells #[vs, vf] 37 (0, 0))) (hs : Sl encS w vs S) (hf : Sl encI w vf Fr) (h1 : S.length ≤ 1000) (h2 : Fr.length ≤ 1000) :
    Calls Tryd.prog 14 #[.pointer (some ⟨pa, 0, none⟩)] w (PoolNew 37 w S Fr) := by
  obtain ⟨c0, c1, _, _⟩ := two_cells h0
  have hpl : pa < w.heap.size := (Array.getElem?_eq_some_iff.1 h0).1
  have HS := Lib.hid (fun W (h : RowKit.Below w.heap.size w W) => hs.below h)
  have HF := Lib.hid (fun W (h : RowKit.Below w.heap.size w W) => hf.below h)
  have L1 := Lib.hid (show (0 : Nat) + S.length ≤ 1000000 by omega)
  have L2 := Lib.hid (show (0 : Nat) + Fr.length ≤ 1000000 by omega)
  obtain ⟨p1, k1, rfl, _, _, _⟩ := hs
  obtain ⟨p2, k2, rfl, _, _, _⟩ := hf
  clear h0
  go_enter Tryd.func14, Tryd.ntmps14
  go_wp2_with fail
  have sk : ∀ W, RowKit.Below w.heap.size w W → RowKit.Below w.heap.size w W ∧ W.cell? ⟨pa, 0, none⟩ = some (.slice p1 S.length k1) ∧ W.cell? ⟨pa, 1, none⟩ = some (.slice p2 Fr.length k2) := fun W h => ⟨h, Bc h hpl c0, Bc h hpl c1⟩
  have SK := Lib.hid sk
  clear sk
  go_region_held3 (fun W => RowKit.Below w.heap.size w W ∧ W.cell? ⟨pa, 0, none⟩ = some (.slice p1 S.length k1) ∧ W.cell? ⟨pa, 1, none⟩ = some (.slice p2 Fr.length k2)) (exact SK.out _ (by repeat (first | with_reducible exact Below.refl _ _ | with_reducible assumption | with_reducible apply Ba | with_reducible apply Bd | with_reducible apply Bn))) (first
    | ((refine step_app3 apS rfl (.tmp 3) (.tmp 7) rfl w.heap.size (by rfl) (by rfl) (row_emp ?_ ?_) rfl (HS.out _ ?_) L1.out ?_ ?_; ((try rw [drew_heap]); first | exact heap_alloc_new _ _ | exact blk_below (heap_alloc_new _ _) (Ba (Below.refl _ _) _) | (focus (refine heap_top ?_; simp; done)) | (refine far_emp hgB ?_ ?_; (rw [drew_heap]); (first | exact heap_alloc_new _ _ | exact blk_below (heap_alloc_new _ _) (Ba (Below.refl _ _) _) | (focus (refine heap_top ?_; simp; done))); omega)); (first | exact Nat.le_refl _ | (focus (simp; done)) | exact hbs | (focus (simp; omega))); (focus (repeat (first | with_reducible exact Below.refl _ _ | with_reducible assumption | with_reducible apply Ba | with_reducible apply Bd | with_reducible apply Bn))); (refine RowKit.Below.size (B := w.heap.size) ?_); (focus (repeat (first | with_reducible exact Below.refl _ _ | with_reducible assumption | with_reducible apply Ba | with_reducible apply Bd | with_reducible apply Bn))); intro vA wA ownA hgA hatA preA; obtain ⟨pA, cA, rfl, _, _, _⟩ := row_val ownA; have hbb : RowKit.Below w.heap.size w wA := (by (refine below_emp ?_ hgA ?_; (focus (repeat (first | with_reducible exact Below.refl _ _ | with_reducible assumption | with_reducible apply Ba | with_reducible apply Bd | with_reducible apply Bn))); (first | exact Nat.le_refl _ | (focus (simp; done)) | exact hbs | (focus (simp; omega))))); have hbs := hbb.size))
    | ((refine step_app3 apI rfl (.tmp 9) (.tmp 13) rfl w.heap.size (by rfl) (by rfl) (row_emp ?_ ?_) rfl (HF.out _ ?_) L2.out ?_ ?_; ((try rw [drew_heap]); first | exact heap_alloc_new _ _ | exact blk_below (heap_alloc_new _ _) (Ba (Below.refl _ _) _) | (focus (refine heap_top ?_; simp; done)) | (refine far_emp hgA ?_ ?_; (rw [drew_heap]); (first | exact heap_alloc_new _ _ | exact blk_below (heap_alloc_new _ _) (Ba (Below.refl _ _) _) | (focus (refine heap_top ?_; simp; done))); omega)); (first | exact Nat.le_refl _ | (focus (simp; done)) | exact hbs | (focus (simp; omega))); (focus (repeat (first | with_reducible exact Below.refl _ _ | with_reducible assumption | with_reducible apply Ba | with_reducible apply Bd | with_reducible apply Bn))); (refine RowKit.Below.size (B := w.heap.size) ?_); (focus (repeat (first | with_reducible exact Below.refl _ _ | with_reducible assumption | with_reducible apply Ba | with_reducible apply Bd | with_reducible apply Bn))); intro vB wB ownB hgB hatB preB; obtain ⟨pB, cB, rfl, _, _, _⟩ := row_val ownB; have hbb : RowKit.Below w.heap.size w wB := (by (refine below_emp ?_ hgB ?_; (focus (repeat (first | with_reducible exact Below.refl _ _ | with_reducible assumption | with_reducible apply Ba | with_reducible apply Bd | with_reducible apply Bn))); (first | exact Nat.le_refl _ | (focus (simp; done)) | exact hbs | (focus (simp; omega))))); have hbs := hbb.size)))
  all_goals
    rw [List.nil_append] at ownA ownB
    go_wp2
    go_ret
    refine ⟨_, rfl, ?_⟩
    first
      | (have oA := row_pass ownA preB hgB (by (repeat (first | with_reducible exact Below.refl _ _ | with_reducible assumption | with_reducible apply Ba | with_reducible apply Bd | with_reducible apply Bn))) (by decide); exact ⟨(pool_made hbb oA ownB 37).at, Ba hbb _⟩)
      | (have oB := row_pass ownB preA hgA (by (repeat (first | with_reducible exact Below.refl _ _ | with_reducible assumption | with_reducible apply Ba | with_reducible apply Bd | with_reducible apply Bn))) (by decide); exact ⟨(pool_made hbb ownA oB 37).at, Ba hbb _⟩)
end
end Go.Proofs.YthodmicoejnfaaaDoor
