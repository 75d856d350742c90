/-
  Package axis: the pairs, collected and in order.
-/
import Derived.Test.YtbodefigeiaodaaDoorPr11
import Derived.RangeFuncBox
import Derived.RangeFuncNested
namespace Go.Proofs.YtbodefigeiaodaaDoor
set_option linter.unusedSimpArgs false
set_option linter.unusedVariables false
open Go.RowKit Go.Sort Go.Lib Go.Shelf Go.Maps

section
variable {α : Type} {enc : α → List Value} {st et k : Nat} {z : Value} {bytes : Nat}
/-- An append in a fence. -/
theorem wpli_app (A : Ap enc st et k z bytes) {F : Fence} {N : Nat} {w : World} {ops : Array Oper} {rest : List Oper} {o : Oper} {a : Act} {Q : Exit → Act → World → Prop} (hgd : o.guard = none) (s x : Operand) (ho : o.op = .call { callee := .builtin .append, args := #[s, x], argTypes := #[st, st] }) (base : Nat)
    {v vx : Value} {n : Nat} {la lb : List α} (hs : a.eval s = v) (hx : a.eval x = vx) (hown : w.ownsRow base et k v n (flat enc la)) (hn : n = la.length) (hX : Sl enc w vx lb) (hlen : la.length + lb.length ≤ 1000000) (hbase : base ≤ w.heap.size)
    (h : ∀ v' w', w'.ownsRow base et k v' (la ++ lb).length (flat enc (la ++ lb)) → w.grownBy w' v.ownBlock → (v'.ownBlock = v.ownBlock ∨ v'.ownBlock = some w.heap.size) → wpListIn F N Tryd.prog ops Q rest (a.put o.dst v') w') : wpListIn F N Tryd.prog ops Q (o :: rest) a w := by
  obtain ⟨v', w', hr, h2, h3, h4, _⟩ := app_run2 A o.type base hown hn hX hlen hbase
  refine wpListIn_plain hgd fun K' hK' => ?_
  unfold Oper.wpIn
  refine ⟨by simp [Oper.about, ho, resolve, Target.leads], ?_⟩
  rw [Oper.semAt_plain F _ _ (by rw [ho]; intro c hc'; cases hc')]
  unfold execOp
  simp only [ho, resolve, invoke, builtin, Sem.run_bind, Sem.run_pure, Result.andThen_ok, List.map_toArray, List.map_cons, List.map_nil, hs, hx, hr]
  exact hK' _ _ (h v' w' h2 h3 h4)
end
/-- A box holds a slice that owns what has come. -/
def HoldB (n0 B : Nat) (t : TypeId) (g : List Pr) (W : World) : Prop := ∃ v, Boxed W B t v ∧ W.ownsRow n0 68 4 v g.length (flat encP g)
theorem holdB_kept {n0 B : Nat} {t : TypeId} {g : List Pr} {W W' : World} {row : Option Nat} (h : HoldB n0 B t g W) (hg : W.grownBy W' row) (hr : ∀ r, row = some r → ∃ o : Obj, W.heap[r]? = some o ∧ o.isCells = false) : HoldB n0 B t g W' := by
  obtain ⟨v, h1, h2⟩ := h
  refine ⟨v, h1.kept hg (fun e => ?_), row_keep h2 (fun b hb => hg.block b (row_lt h2 hb) (fun e => ?_))⟩
  · obtain ⟨o, ho, hc⟩ := hr B e.symm
    rw [show W.heap[B]? = _ from h1] at ho
    cases ho
    cases hc
  · obtain ⟨cs, hcs⟩ := row_type h2 hb
    obtain ⟨o, ho, hc⟩ := hr b e.symm
    rw [hcs] at ho
    cases ho
    cases hc
theorem row_base0 {w : World} {b0 et k n : Nat} {v : Value} {xs : List Value} (h : w.ownsRow b0 et k v n xs) {g : Nat} (hg : v.ownBlock = some g) : b0 ≤ g := by
  rcases h.2 with ⟨rfl, _⟩ | ⟨g', cap, cur, rfl, hb, hh, _⟩
  · simp [Value.ownBlock] at hg
  · simp only [Value.ownBlock, Option.some.injEq] at hg
    subst hg
    exact hb
/-- Between two rounds of a loop that collects pairs. -/
def ICol (n0 : Nat) (w : World) (pre : List Pr) (W : World) : Prop := HoldB n0 n0 50 pre W ∧ RowKit.Below n0 w W
theorem icol_own {n0 B : Nat} {w : World} (hn : n0 ≤ w.heap.size) (hB : n0 ≤ B) : OwnFrom B (ICol n0 w) := fun s W W' row hs hg hr =>
  ⟨holdB_kept hs.1 hg (fun r e => (hr r e).2), (ownFrom_below (β := Unit) hn hB) () W W' row hs.2 hg hr⟩
/-- The loop variable's box. -/
def AxP (B : Nat) (T : Nat → Pr → Act) (x : Pr) (a' : Act) (W : World) : Prop := ∃ Bx, B ≤ Bx ∧ W.heap[Bx]? = some (.cells #[.int .i64 x.1.1, .int .i64 x.1.2, .int .i64 x.2.1, .int .i64 x.2.2] 68 (0, 0)) ∧ a' = T Bx x
theorem axp_own {B B' : Nat} {T : Nat → Pr → Act} {x : Pr} {a' : Act} : OwnFrom B' (fun (_ : Unit) (W : World) => AxP B T x a' W) := fun u W W' row hs hg hr => by
  obtain ⟨Bx, h1, h2, h3⟩ := hs
  exact ⟨Bx, h1, (hg.block Bx (Array.getElem?_eq_some_iff.1 h2).1 (fun e => by
    obtain ⟨o, ho', hc⟩ := (hr Bx e.symm).2
    rw [h2] at ho'
    cases ho'
    cases hc)).trans h2, h3⟩
theorem ICol.bel {n0 : Nat} {w : World} {pre : List Pr} {W W' : World} (h : ICol n0 w pre W) (hb : RowKit.Below W.heap.size W W') (hn : n0 ≤ W.heap.size) : ICol n0 w pre W' := by
  obtain ⟨⟨v, h1, h2⟩, h3⟩ := h
  exact ⟨⟨v, blk_below h1 hb, row_below h2 hb⟩, h3.trans (hb.mono hn)⟩
/-- One more is appended, and the box is stored into. -/
theorem ICol.app {n0 : Nat} {w : World} {pre : List Pr} {W w1 : World} {v v' : Value} {x : Pr} (hbx : Boxed W n0 50 v) (hrow : W.ownsRow n0 68 4 v pre.length (flat encP pre)) (hB : RowKit.Below n0 w W) (hn : n0 ≤ W.heap.size) (hown : w1.ownsRow n0 68 4 v' (pre ++ [x]).length (flat encP (pre ++ [x]))) (hg : W.grownBy w1 v.ownBlock) :
    ICol n0 w (pre ++ [x]) (w1.setCell ⟨n0, 0, none⟩ v') ∧ KeepsOthers W (w1.setCell ⟨n0, 0, none⟩ v') ∧ Boxed w1 n0 50 v := by
  have hvn : some n0 ≠ v.ownBlock := fun e => by
    obtain ⟨cs, hc⟩ := row_type hrow e.symm
    exact type_apart hbx hc (by decide) rfl
  have hb1 : Boxed w1 n0 50 v := hbx.kept hg hvn
  have hvn' : v'.ownBlock ≠ some n0 := fun e => by
    obtain ⟨cs, hc⟩ := row_type hown e
    exact type_apart hb1 hc (by decide) rfl
  refine ⟨⟨⟨v', hb1.set v', row_keep hown (fun g hg' => heap_setCell_other w1 ⟨n0, 0, none⟩ g v' (fun e => hvn' (by rw [← show g = n0 from e]; exact hg')))⟩, ?_⟩, ?_, hb1⟩
  · refine (hB.trans ?_).setCell (Nat.le_refl _) v'
    refine ⟨hg.os, hg.tape, hg.output, hg.size, fun k hk => hg.block k (by omega) (fun e => ?_)⟩
    have := row_base0 hrow e.symm
    omega
  · exact (KeepsOthers.of_grownBy hg (fun j o ej hj => by
      obtain ⟨cs, hc⟩ := row_type hrow (show v.ownBlock = some j from ej)
      rw [hc] at hj
      cases hj
      rfl)).trans (KeepsOthers.setCell _ _ _)

attribute [local go_sem] Oper.semAt_some
set_option maxHeartbeats 2000000 in
set_option maxRecDepth 100000 in
theorem appendSeqP (Bm b c : Nat) (f : Pr → Option Unit) (hc : c ≤ 100000) (w : World) (hBm : Bm < w.heap.size) (hm : w.cell? ⟨Bm, 0, none⟩ = some (.map (some b))) (hmap : MapQ w b c f) :
    Calls Tryd.prog 65 #[.slice none 0 0, .func (.func KeysF) #[] #[.pointer (some ⟨Bm, 0, none⟩)]] w fun e W' => ∃ v ss, e = .returned v ∧ KeysOf f ss ∧ ss.length ≤ c ∧ W'.ownsRow w.heap.size 68 4 v ss.length (flat encP ss) ∧ RowKit.Below w.heap.size w W' := by
  refine callsIn_wide (n := 6).1 ?_
  refine callsIn_of_wp_marks Tryd.func65 rfl trivial ?_ rfl
  simp only [Tryd.ntmps65, List.size_toArray, List.length_cons, List.length_nil, Nat.reduceAdd, Nat.reduceSub, Array.replicate_succ, Array.replicate_zero, List.push_toArray, List.append_toArray, List.nil_append, List.cons_append]
  obtain ⟨w1, hw1⟩ : ∃ w1, w1 = w.alloc (.cells #[.slice none 0 0] 50) := ⟨_, rfl⟩
  have bO : Boxed w1 w.heap.size 50 (.slice none 0 0) := by rw [hw1]; exact Boxed.new w 50 (.slice none 0 0)
  have hB0 : RowKit.Below w.heap.size w w1 := by rw [hw1]; exact (Below.refl _ w).alloc (Nat.le_refl _) _
  have hseq := keysU_stops Fence.wide 5 trivial rfl (by omega) Bm b c f w1 (Nat.lt_of_lt_of_le hBm hB0.size) ((hB0.cell (p := ⟨Bm, 0, none⟩) hBm).trans hm) (hmap.below hB0)
  have hseq := Lib.hid hseq
  have BO := Lib.hid bO
  have HB0 := Lib.hid hB0
  have hsz : w1.heap.size = w.heap.size + 1 := by rw [hw1]; simp
  have hwn := World.ownsRow_nil w1 w.heap.size 68 4
  clear bO hB0 hm hmap
  gi_wp2
  rw [← hw1]
  have HW1 := Lib.hid hw1
  clear hw1
  refine wpIn_rangeFunc_ownH (α := Pr) rfl (by omega) (gf := KeysF) (lb := #[.pointer (some ⟨Bm, 0, none⟩)]) rfl trivial (enters_of Tryd.func77 (by kernel_rfl) rfl)
    (seqStopsA_iff.1 (seqStops_iff.1 hseq.out)) walksK_t walksK_b (Below.refl _ _) (fun _ => rfl)
    (ICol w.heap.size w)
    (fun _ _ _ => False)
    (icol_own (Nat.le_refl _) (by omega))
    (fun _ _ _ _ _ hs _ _ => hs)
    ⟨⟨_, BO.out, hwn⟩, HB0.out⟩
    (fun z a' W => AxP w1.heap.size (fun Bx q => { tmps := #[.slice none 0 0, .func (.func KeysF) #[] #[.pointer (some ⟨Bm, 0, none⟩)], .pointer (some ⟨w.heap.size, 0, none⟩), undef, .slice none 0 0, .pointer (some ⟨Bx, 0, none⟩), .func (.func KeysF) #[] #[.pointer (some ⟨Bm, 0, none⟩)], mP q, undef, undef, undef, undef, undef], defers := [] }) z a' W)
    (fun z a' => axp_own) ?assign ?body ?done ?stop
  case assign =>
    intro l pre z W K1 hI hK1
    unfold mP at hK1 ⊢
    gi_wp2
    refine hK1 _ _ ((KeepsOthers.alloc W _).from _) (KeepsWalks.alloc W _) (hI.bel (Ba (Below.refl _ W) _) hI.2.size) ⟨W.heap.size, ?_, heap_alloc_new W _, rfl⟩
    obtain ⟨⟨v, h1, h2⟩, h3⟩ := hI
    have := h1.lt
    omega
  case body =>
    rintro l pre z a' W hl ⟨r, hr⟩ ⟨⟨v, hv, hrow⟩, hB⟩ ⟨Bx, hBx, hbx, rfl⟩ hlt
    obtain ⟨⟨z1, z2⟩, z3, z4⟩ := z
    unfold mP
    dsimp only at hbx ⊢
    have a1 : W.cell? ⟨Bx, 0, none⟩ = some (.int .i64 z1) := by simp [World.cell?, hbx]
    have a2 : W.cell? ⟨Bx, 1, none⟩ = some (.int .i64 z2) := by simp [World.cell?, hbx]
    have a3 : W.cell? ⟨Bx, 2, none⟩ = some (.int .i64 z3) := by simp [World.cell?, hbx]
    have a4 : W.cell? ⟨Bx, 3, none⟩ = some (.int .i64 z4) := by simp [World.cell?, hbx]
    have hc1 := hv.cell
    have l1 := cell_lt a1
    have l0 := cell_lt hc1
    have n01 : w.heap.size ≠ W.heap.size := by omega
    have HR := Lib.hid (hrow.alloc (.cells #[.int .i64 z1, .int .i64 z2, .int .i64 z3, .int .i64 z4] 68))
    have HV := Lib.hid (blk_below (show W.heap[w.heap.size]? = _ from hv) (Ba (Below.refl _ W) (.cells #[.int .i64 z1, .int .i64 z2, .int .i64 z3, .int .i64 z4] 68)))
    have S3 := Lib.hid (sl_lit (enc := encP) (w := W) (cs := #[.int .i64 z1, .int .i64 z2, .int .i64 z3, .int .i64 z4]) (t := 68) (b := W.heap.size) [((z1, z2), (z3, z4))] (by simp) rfl (by unfold maxLen; simp))
    have HB := Lib.hid (hB.trans ((Ba (Below.refl _ W) (.cells #[.int .i64 z1, .int .i64 z2, .int .i64 z3, .int .i64 z4] 68)).mono hB.size))
    have hle : w.heap.size ≤ (W.alloc (.cells #[.int .i64 z1, .int .i64 z2, .int .i64 z3, .int .i64 z4] 68)).heap.size := by simp; omega
    have hpl : pre.length ≤ 100000 := by omega
    have HW := Lib.hid (KeepsOthers.alloc W (.cells #[.int .i64 z1, .int .i64 z2, .int .i64 z3, .int .i64 z4] 68))
    clear hrow hv hB hbx hr
    gi_wp2_with (gi_at_builtin; refine wpli_app apP rfl _ _ rfl w.heap.size (by rfl) (by rfl) HR.out rfl S3.out (by simp; omega) hle ?_; intro v2 w2 hown2 hgrow2 hat2; have hall := ICol.app (x := ((z1, z2), (z3, z4))) (show Boxed _ _ _ _ from HV.out) HR.out HB.out hle hown2 hgrow2; have hcb := hall.2.2.cell; have hfb := hall.2.2.frozen; have HALL := Lib.hid hall; have hlb := cell_lt hcb; obtain ⟨p2, cc2, hv2, _, _, _⟩ := row_val hown2; obtain ⟨nn, hnn⟩ : ∃ nn, nn = (pre ++ [((z1, z2), (z3, z4))]).length := ⟨_, rfl⟩; rw [← hnn] at hv2; rw [hv2] at HALL ⊢; clear hall hown2 hgrow2 hat2 hnn)
    exact ⟨(HW.out.trans HALL.out.2.1).from _, (HW.out.trans HALL.out.2.1).walks, HALL.out.1⟩
  case done =>
    rintro D ys W hD hks ⟨⟨v, hv, hrow⟩, hB⟩ hK
    have hc1 := hv.cell
    have HK := Lib.hid hK
    have HR := Lib.hid hrow
    have HB := Lib.hid hB
    have HKS := Lib.hid hks
    clear hK hrow hB hks
    gi_wp2
    refine ⟨by simp, .inl ⟨_, _, rfl, run_takeDeferred HK.out, ?_⟩⟩
    refine ⟨_, results_tmp rfl _ _ _, v, ys, rfl, HKS.out.1, HKS.out.2, row_keep HR.out (fun g hg => World.putObj_heap_other (fun e => ?_)), HB.out.trans (belowK_b (w := w) (Nat.le_refl _) W D _ _ (by omega) HK.out rfl rfl)⟩
    obtain ⟨cs, hc⟩ := row_type HR.out hg
    rw [e, HK.out] at hc
    cases hc
  case stop =>
    rintro D c pre W _ _ h _
    exact h.elim
end Go.Proofs.YtbodefigeiaodaaDoor
