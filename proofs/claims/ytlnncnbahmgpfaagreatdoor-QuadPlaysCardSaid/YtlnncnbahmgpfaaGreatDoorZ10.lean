import Derived.Test.YtlnncnbahmgpfaaGreatDoorZ38
import Derived.Test.YtlnncnbahmgpfaaGreatDoorZ6
import Derived.Test.YtlnncnbahmgpfaaGreatDoorZ28

/-
  Package quad: which boxes meet one.
-/
namespace Go.Proofs.YtlnncnbahmgpfaaGreatDoor
set_option linter.unusedSimpArgs false
set_option linter.unusedVariables false
open Go.RowKit Go.Sort Go.Lib Go.Shelf

/-- Cells a walk for a box goes into. -/
def entQ (q : Bx4) (c : Cl) : Bool := rightC c && meets4 (looseC c) q
theorem ok_loose {c : Cl} (h : rightC c = true) : okR (looseC c) = true := by
  obtain ⟨c1, c2, c3⟩ := c
  unfold rightC at h
  simp only [Bool.and_eq_true, decide_eq_true_eq] at h
  obtain ⟨d, rfl⟩ : ∃ d : Nat, c1 = (d : Int) := ⟨c1.toNat, by omega⟩
  rw [okR_iff]
  unfold looseC
  dsimp only
  simp only [Int.toNat_natCast] at h ⊢
  have hd : d ≤ 8 := by omega
  obtain ⟨s1, s2, s3, s4, s5⟩ := side_pw hd
  have he := side_even hd
  have m1 : 0 ≤ c2 * sideI d ∧ c2 * sideI d + sideI d ≤ 4194304 := by
    have h2 := Int.mul_le_mul_of_nonneg_right (show c2 + 1 ≤ pwI d by omega) (show 0 ≤ sideI d by omega)
    have h3 := Int.mul_nonneg (show 0 ≤ c2 by omega) (show 0 ≤ sideI d by omega)
    rw [Int.mul_comm (pwI d), Int.add_mul] at h2
    omega
  have m2 : 0 ≤ c3 * sideI d ∧ c3 * sideI d + sideI d ≤ 4194304 := by
    have h2 := Int.mul_le_mul_of_nonneg_right (show c3 + 1 ≤ pwI d by omega) (show 0 ≤ sideI d by omega)
    have h3 := Int.mul_nonneg (show 0 ≤ c3 by omega) (show 0 ≤ sideI d by omega)
    rw [Int.mul_comm (pwI d), Int.add_mul] at h2
    omega
  omega
set_option maxHeartbeats 1000000 in
set_option maxRecDepth 100000 in
theorem meet1_call {eR eN eF : TypeId × Value} (k : Nat) (x y a b c d : Int) (bq : Nat) (w : World) (hr : rightC ((k : Int), x, y) = true) (hq : okR (a, b, c, d) = true)
    (h2 : w.cell? ⟨bq, 0, none⟩ = some (.int .i64 a) ∧ w.cell? ⟨bq, 1, none⟩ = some (.int .i64 b) ∧ w.cell? ⟨bq, 2, none⟩ = some (.int .i64 c) ∧ w.cell? ⟨bq, 3, none⟩ = some (.int .i64 d)) :
    Calls Tryz.prog 32 #[clV ((k : Int), x, y), .pointer (some ⟨bq, 0, none⟩)] w fun e w' => e = .returned (.bool (meets4 (looseC ((k : Int), x, y)) (a, b, c, d))) ∧ RowKit.Below w.heap.size w w' := by
  have LC := Lib.hid (fun W => qLoose_call (k : Int) x y W hr)
  have MI := meets_is (looseC ((k : Int), x, y)) (a, b, c, d) (ok_loose hr) hq
  have MC := Lib.hid (fun l1 l2 l3 l4 W => meets_any l1 l2 l3 l4 a b c d W)
  obtain ⟨l1, l2, l3, l4, hL⟩ : ∃ l1 l2 l3 l4, looseC ((k : Int), x, y) = (l1, l2, l3, l4) := ⟨_, _, _, _, rfl⟩
  rw [hL] at LC MI ⊢
  have MC2 := Lib.hid (fun W => MC.out l1 l2 l3 l4 W)
  dsimp only at MI
  rw [MI] at MC2
  generalize meets4 (l1, l2, l3, l4) (a, b, c, d) = r at *
  obtain ⟨q1, q2, q3, q4⟩ := h2
  have hbq := cell_lt q1
  clear MC MI hL hr hq
  go_enter Tryz.func32, Tryz.ntmps32
  go_wp2_with fail
  refine (LC.out _).mono ?_
  rintro e w1 ⟨rfl, hb1⟩
  have b1 := Bt (Ba (Below.refl _ w) (.cells #[.int .i64 k, .int .i64 x, .int .i64 y] 55)) hb1
  have B1 := Lib.hid b1
  replace q1 := Bc b1 hbq q1
  replace q2 := Bc b1 hbq q2
  replace q3 := Bc b1 hbq q3
  replace q4 := Bc b1 hbq q4
  replace hbq := Bl b1 hbq
  clear b1 hb1
  go_wp2_with fail
  refine (MC2.out _).mono ?_
  rintro e w2 ⟨rfl, hb2⟩
  have B2 := Lib.hid (by have := B1.out; exact (by repeat (first | with_reducible exact Below.refl _ _ | with_reducible assumption | with_reducible apply Ba | with_reducible apply Bd | with_reducible apply Bn | with_reducible apply Bg | (with_reducible refine Bs ?_ (by first | (simp; done) | (simp; omega)) _) | (with_reducible refine Bt ?_ (by assumption)) | (with_reducible refine Bt ?_ (Gr.below (by assumption))))) : RowKit.Below w.heap.size w w2)
  clear hb2
  go_wp2
  go_ret
  exact ⟨rfl, B2.out⟩
end Go.Proofs.YtlnncnbahmgpfaaGreatDoor

/-
  Package quad: a list that a walk's functions collect.
-/
namespace Go.Proofs.YtlnncnbahmgpfaaGreatDoor
set_option linter.unusedSimpArgs false
set_option linter.unusedVariables false
open Go.RowKit Go.Sort Go.Lib Go.Shelf

section
variable {α : Type} {enc : α → List Value} {et k st lv : Nat} {l : List α} {x : α} {Y : Nat → Prop} {W Wm w1 : World} {v v' : Value}
/-- A variable holds a row of the functions' own. -/
def LV (enc : α → List Value) (et k st lv : Nat) (l : List α) (Y : Nat → Prop) (W : World) : Prop :=
  ∃ v, W.heap[lv]? = some (.cells #[v] st (0, 0)) ∧ W.ownsRow (lv + 1) et k v l.length (flat enc l) ∧ (∀ b, Y b ↔ (b = lv ∨ v.ownBlock = some b)) ∧ lv < W.heap.size
theorem LV.below (h : LV enc et k st lv l Y W) (hb : RowKit.Below W.heap.size W w1) : LV enc et k st lv l Y w1 := by
  obtain ⟨v, h1, h2, h3, h4⟩ := h
  exact ⟨v, blk_below h1 hb, row_below h2 hb, h3, Nat.lt_of_lt_of_le h4 hb.size⟩
theorem LV.new (w : World) : LV (α := α) enc et k st w.heap.size [] (fun b => b = w.heap.size) (w.alloc (.cells #[.slice none 0 0] st)) :=
  ⟨_, heap_alloc_new w _, World.ownsRow_nil _ _ _ _, fun b => ⟨fun e => .inl e, fun e => e.elim id fun e => by simp [Value.ownBlock] at e⟩, by simp⟩
/-- One more is appended. -/
theorem LV.app (h1 : W.heap[lv]? = some (.cells #[v] st (0, 0))) (h2 : W.ownsRow (lv + 1) et k v l.length (flat enc l)) (h3 : ∀ b, Y b ↔ (b = lv ∨ v.ownBlock = some b)) (hb : RowKit.Below W.heap.size W Wm)
    (hown : w1.ownsRow (lv + 1) et k v' (l ++ [x]).length (flat enc (l ++ [x]))) (hg : Wm.grownBy w1 v.ownBlock) (hor : v'.ownBlock = v.ownBlock ∨ v'.ownBlock = some Wm.heap.size) :
    ∃ Y', LV enc et k st lv (l ++ [x]) Y' (w1.setCell ⟨lv, 0, none⟩ v') ∧ Tch Y W (w1.setCell ⟨lv, 0, none⟩ v') ∧ ∀ b, Y' b → (Y b ∨ W.heap.size ≤ b) ∧ b < (w1.setCell ⟨lv, 0, none⟩ v').heap.size := by
  have hlv : lv < W.heap.size := (Array.getElem?_eq_some_iff.1 h1).1
  have hne : some lv ≠ v.ownBlock := fun e => by have := row_base0 h2 e.symm; omega
  have hne' : v'.ownBlock ≠ some lv := fun e => by have := row_base0 hown e; omega
  have k1 : w1.heap[lv]? = some (.cells #[v] st (0, 0)) := (hg.block lv (Nat.lt_of_lt_of_le hlv hb.size) hne).trans (blk_below h1 hb)
  have k2 : (w1.setCell ⟨lv, 0, none⟩ v').heap[lv]? = some (.cells #[v'] st (0, 0)) := heap_setCell_same w1 lv 0 _ st v' k1
  have ho2 : (w1.setCell ⟨lv, 0, none⟩ v').ownsRow (lv + 1) et k v' (l ++ [x]).length (flat enc (l ++ [x])) := row_keep hown fun g hg' => heap_setCell_other w1 ⟨lv, 0, none⟩ g v' (fun e => hne' (by rw [← show g = lv from e]; exact hg'))
  have hT : Tch Y W (w1.setCell ⟨lv, 0, none⟩ v') := by
    refine ((Tch.of hb : Tch Y W Wm).more (⟨hg.os, hg.tape, hg.output, hg.size, fun j hj hn => hg.block j hj (fun e => hn ((h3 j).2 (.inr e.symm)))⟩ : Tch Y Wm w1)).more (Tch.set w1 (M := Y) (p := ⟨lv, 0, none⟩) ((h3 lv).2 (.inl rfl)) v')
  refine ⟨fun b => b = lv ∨ v'.ownBlock = some b, ⟨v', k2, ho2, fun b => Iff.rfl, (Array.getElem?_eq_some_iff.1 k2).1⟩, hT, fun b e => ?_⟩
  rcases e with e | e
  · subst e
    exact ⟨.inl ((h3 _).2 (.inl rfl)), (Array.getElem?_eq_some_iff.1 k2).1⟩
  · refine ⟨?_, row_lt ho2 e⟩
    rcases hor with c | c
    · exact .inl ((h3 b).2 (.inr (c ▸ e)))
    · rw [c] at e
      cases e
      exact .inr hb.size
end
/-- The handles of the boxes that meet one, so far. -/
def metL (q : Bx4) (s : List Ev) : List Hd := ((tellL s).filter fun b => meets4 b.2 q).map (·.1)
theorem metL_ask (q : Bx4) (s : List Ev) (c : Cl) : metL q (s ++ [.ask c]) = metL q s := by unfold metL; rw [tellL_ask]
theorem metL_tell (q : Bx4) (s : List Ev) (b : Bxd) : metL q (s ++ [.tell b]) = metL q s ++ (if meets4 b.2 q = true then [b.1] else []) := by
  unfold metL
  rw [tellL_tell, List.filter_append, List.map_append]
  congr 1
  by_cases h : meets4 b.2 q = true <;> simp [h]
/-- What holds within Meeting's walk. -/
def IMt (lv bq : Nat) (q : Bx4) : Inv := fun s Y W => LV encH 28 2 47 lv (metL q s) Y W ∧ W.heap[bq]? = some (.cells #[.int .i64 q.1, .int .i64 q.2.1, .int .i64 q.2.2.1, .int .i64 q.2.2.2] 30 (0, 0)) ∧ bq < lv
theorem imt_stab (lv bq : Nat) (q : Bx4) : Stab (IMt lv bq q) := fun s Y W W' ⟨h1, h2, h3⟩ hb => ⟨h1.below hb, blk_below h2 hb, h3⟩
set_option maxHeartbeats 2000000 in
set_option maxRecDepth 100000 in
theorem meet2_call (lv bq : Nat) (q : Bx4) (hq : okR q = true) (s : List Ev) (Y : Nat → Prop) (W : World) (b : Bxd) (hb : okR b.2 = true) (hi : IMt lv bq q s Y W) (ho : OwnB Y W) (hlen : (metL q s).length ≤ 10000) :
    Calls Tryz.prog 35 #[.agg #[.int .i64 b.1.1, .int .i64 b.1.2], .agg #[.int .i64 b.2.1, .int .i64 b.2.2.1, .int .i64 b.2.2.2.1, .int .i64 b.2.2.2.2], .pointer (some ⟨bq, 0, none⟩), .pointer (some ⟨lv, 0, none⟩)] W fun e w' => (∃ r, e = .returned r) ∧ Cb (IMt lv bq q) (s ++ [Ev.tell b]) Y W w' := by
  have MI := meets_is b.2 q hb hq
  have MC := Lib.hid (fun W => meets_any b.2.1 b.2.2.1 b.2.2.2.1 b.2.2.2.2 q.1 q.2.1 q.2.2.1 q.2.2.2 W)
  rw [MI] at MC
  have HM := Lib.hid (metL_tell q s b)
  have HI := Lib.hid hi
  have HIs := Lib.hid (Cb.refl hi ho)
  have HO := Lib.hid ho
  obtain ⟨⟨v, h1, h2, h3, h4⟩, h5, h6⟩ := hi
  obtain ⟨q1, q2, q3, q4⟩ := cells4 h5
  have hbq := cell_lt q1
  obtain ⟨⟨x, y⟩, b1, b2, b3, b4⟩ := b
  obtain ⟨a1, a2, a3, a4⟩ := q
  dsimp only at MC q1 q2 q3 q4 h5 ⊢ HM
  have H1 := Lib.hid h1
  have H2 := Lib.hid h2
  have H3 := Lib.hid h3
  clear MI hb hq h2 h3 h5 ho
  have hn0 : bq ≠ lv := by omega
  cases hm : meets4 (b1, b2, b3, b4) (a1, a2, a3, a4) with
  | false =>
    rw [hm] at MC
    rw [hm, if_neg (by simp), List.append_nil] at HM
    clear h1
    go_enter Tryz.func35, Tryz.ntmps35
    go_wp2_with fail
    refine (MC.out _).mono ?_
    rintro e w1 ⟨rfl, hb1⟩
    have B1 := Lib.hid (by exact (by repeat (first | with_reducible exact Below.refl _ _ | with_reducible assumption | with_reducible apply Ba | with_reducible apply Bd | with_reducible apply Bn | with_reducible apply Bg | (with_reducible refine Bs ?_ (by first | (simp; done) | (simp; omega)) _) | (with_reducible refine Bt ?_ (by assumption)) | (with_reducible refine Bt ?_ (Gr.below (by assumption))))) : RowKit.Below W.heap.size W w1)
    go_wp2
    first | go_end0 | refine bodyPost_ret (results_none rfl _ _ _) rfl ?_
    have hc : Cb (IMt lv bq (a1, a2, a3, a4)) (s ++ [Ev.tell ((x, y), (b1, b2, b3, b4))]) Y W W := by
      obtain ⟨Y', _, t1, o1⟩ := HIs.out
      exact ⟨Y, ⟨by rw [HM.out]; exact HI.out.1, HI.out.2⟩, Tch.refl _ _, fun z e => ⟨.inl e, HO.out z e⟩⟩
    exact ⟨⟨_, rfl⟩, Cb.below (imt_stab _ _ _) hc B1.out⟩
  | true =>
    rw [hm] at MC
    rw [hm, if_pos rfl] at HM
    obtain ⟨c1, -⟩ := one_cell h1
    clear h1
    go_enter Tryz.func35, Tryz.ntmps35
    go_wp2_with fail
    refine (MC.out _).mono ?_
    rintro e w1 ⟨rfl, hb1⟩
    have b1' := Bt (Ba (Ba (Below.refl _ W) (.cells #[.int .i64 x, .int .i64 y] 28)) (.cells #[.int .i64 b1, .int .i64 b2, .int .i64 b3, .int .i64 b4] 30)) hb1
    have B1 := Lib.hid b1'
    have k1 := (three_blk (w := W) (o1 := .cells #[.int .i64 x, .int .i64 y] 28) (o2 := .cells #[.int .i64 b1, .int .i64 b2, .int .i64 b3, .int .i64 b4] 30) hb1).1
    have x1 : w1.cell? ⟨W.heap.size, 0, none⟩ = some (.int .i64 x) ∧ w1.cell? ⟨W.heap.size, 1, none⟩ = some (.int .i64 y) := ⟨(blk_cell k1 0).trans rfl, (blk_cell k1 1).trans rfl⟩
    obtain ⟨x1, x2⟩ := x1
    have hxl := cell_lt x1
    replace c1 := Bc b1' h4 c1
    have hlv1 : lv < w1.heap.size := Bl b1' h4
    have H11 := Lib.hid (blk_below H1.out b1')
    have O3 := Lib.hid ((row_below H2.out b1').alloc (.cells #[.int .i64 x, .int .i64 y] 28))
    have S3 := Lib.hid (sl_lit (enc := encH) (w := w1) (cs := #[.int .i64 x, .int .i64 y]) (t := 28) (b := w1.heap.size) [(x, y)] rfl rfl (by unfold maxLen; simp))
    have HL := Lib.hid hlen
    have B2 := Lib.hid (Ba b1' (.cells #[.int .i64 x, .int .i64 y] 28))
    clear k1 hb1 b1' hlen q1 q2 q3 q4
    go_wp2_with (at_builtin; (refine wpl_app2 apH rfl _ _ rfl (lv + 1) (by rfl) (by rfl) O3.out rfl S3.out (by have := HL.out; simp; omega) (by simp; omega) ?_; intro v3 w3 hown3 hgrow3 hor3 hnil3; obtain ⟨p3, cap3, rfl, hx3, hy3, hz3⟩ := row_val hown3; clear hx3 hy3 hz3; have k9 : w3.cell? ⟨lv, 0, none⟩ = some v ∧ w3.frozen? ⟨lv, 0, none⟩ = false := one_cell ((hgrow3.block lv (by simp; omega) (fun e => by have := row_base0 H2.out e.symm; omega)).trans (blk_below H11.out (Ba (Below.refl _ _) _))); obtain ⟨k9, k8⟩ := k9; have HG := Lib.hid hgrow3; have HN := Lib.hid hown3; have HOR := Lib.hid hor3; clear hgrow3 hown3 hor3 hnil3; fail_if_success done))
    first | go_end0 | refine bodyPost_ret (results_none rfl _ _ _) rfl ?_
    have hbm : RowKit.Below W.heap.size W (w1.alloc (.cells #[.int .i64 x, .int .i64 y] 28)) := B2.out
    obtain ⟨Y', l1, l2, l3⟩ := LV.app H1.out H2.out H3.out hbm HN.out HG.out HOR.out
    simp only [List.length_append, List.length_singleton] at l1 l2 l3
    refine ⟨⟨_, rfl⟩, Y', ⟨by rw [HM.out]; exact l1, ?_, HI.out.2.2⟩, l2, l3⟩
    refine l2.blk HI.out.2.1 (fun e => ?_)
    rcases (H3.out bq).1 e with c | c
    · exact hn0 c
    · have := row_base0 H2.out c
      omega
end Go.Proofs.YtlnncnbahmgpfaaGreatDoor
