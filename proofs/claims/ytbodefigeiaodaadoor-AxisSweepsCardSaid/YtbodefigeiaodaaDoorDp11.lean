/-
  Package axis: an axis as a whole; Drop.
-/
import Derived.Test.YtbodefigeiaodaaDoorMt11
import Derived.Test.YtbodefigeiaodaaDoorPw11
import Derived.Test.YtbodefigeiaodaaDoorErrK
namespace Go.Proofs.YtbodefigeiaodaaDoor
set_option linter.unusedSimpArgs false
set_option linter.unusedVariables false
open Go.RowKit Go.Sort Go.Lib Go.Shelf

/-- At block pa is an axis whose spans are L; its blocks are among M. -/
def AxAt (w : World) (M : Nat → Prop) (pa : Nat) (L : List Spn) : Prop :=
  ∃ mp sp v K, AxIs w M pa mp sp v L K (endsL L) ∧ KOf L K ∧ Once L ∧ ∀ b ∈ L, HdOk b.1
section
variable {pa mp sp : Nat} {L L' : List Spn} {K : List Pr} {E E' : List En} {M R : Nat → Prop} {w w' w1 : World} {v v' : Value}
theorem AxAt.kept (h : AxAt w R pa L) (t : Tch M w w') (hd : ∀ b, R b → ¬ M b) : AxAt w' R pa L := by
  obtain ⟨mp, sp, v, K, h1, h2⟩ := h
  exact ⟨mp, sp, v, K, h1.kept t hd, h2⟩
theorem AxAt.below (h : AxAt w R pa L) (t : RowKit.Below w.heap.size w w') : AxAt w' R pa L := by
  obtain ⟨mp, sp, v, K, h1, h2⟩ := h
  exact ⟨mp, sp, v, K, h1.below t, h2⟩
theorem AxAt.mono {M' : Nat → Prop} (h : AxAt w M pa L) (hM : ∀ b, M b → M' b) : AxAt w M' pa L := by
  obtain ⟨mp, sp, v, K, h1, h2⟩ := h
  exact ⟨mp, sp, v, K, h1.mono hM, h2⟩
theorem AxAt.lt (h : AxAt w M pa L) : pa < w.heap.size := by
  obtain ⟨mp, sp, v, K, h1, h2⟩ := h
  exact h1.lt
/-- Its own four blocks. -/
def own4 (pa mp sp : Nat) (v : Value) : Nat → Prop := fun b => b = pa ∨ b = mp ∨ b = sp ∨ v.ownBlock = some b
theorem AxIs.tight (h : AxIs w M pa mp sp v L K E) : AxIs w (own4 pa mp sp v) pa mp sp v L K E ∧ ∀ b, own4 pa mp sp v b → M b ∧ b < w.heap.size :=
  ⟨⟨⟨h.1.1, .inl rfl, .inr (.inl rfl), .inr (.inr (.inl rfl)), h.1.2.2.2.2⟩, h.2.1, h.2.2.1, ⟨h.2.2.2.1, fun g hg => .inr (.inr (.inr hg))⟩⟩, fun b e => by
    rcases e with rfl | rfl | rfl | e
    · exact ⟨h.1.2.1, h.lt⟩
    · exact ⟨h.1.2.2.1, h.mlt⟩
    · exact ⟨h.1.2.2.2.1, h.slt⟩
    · exact ⟨h.2.2.2.2 b e, row_lt h.2.2.2.1 e⟩⟩
/-- The slice of ends is stored, behind a change of its row. -/
theorem AxIs.putE (h : AxIs w R pa mp sp v L K E) (hr : RowAt encE 55 4 w1 R v' E') (t : Tch (fun b => v.ownBlock = some b) w w1) :
    AxIs (w1.setCell ⟨pa, 2, none⟩ v') R pa mp sp v' L K E' ∧ Tch R w (w1.setCell ⟨pa, 2, none⟩ v') := by
  have hpv : v.ownBlock ≠ some pa := fun e => by
    obtain ⟨cs, hc⟩ := row_type h.2.2.2.1 e
    exact type_apart h.1.1 hc tAE rfl
  obtain ⟨es, c, hme⟩ := h.2.1.is
  obtain ⟨es2, c2, hme2⟩ := h.2.2.1.is
  have hmv := row_not_map h.2.2.2 hme
  have hsv := row_not_map h.2.2.2 hme2
  have hhd := t.blk h.1.1 hpv
  have hpv' : v'.ownBlock ≠ some pa := fun e => by
    obtain ⟨cs, hc⟩ := row_type hr.1 e
    exact type_apart hhd hc tAE rfl
  have e := heap_setCell_same w1 pa 2 #[.map (some mp), .map (some sp), v] 79 v' hhd
  refine ⟨⟨⟨by simpa using e, h.1.2⟩, (h.2.1.kept t hmv).blk (heap_setCell_other w1 ⟨pa, 2, none⟩ mp v' h.pm.symm), (h.2.2.1.kept t hsv).blk (heap_setCell_other w1 ⟨pa, 2, none⟩ sp v' h.ps.symm), ⟨row_keep hr.1 (fun g hg => heap_setCell_other w1 ⟨pa, 2, none⟩ g v' (fun e => hpv' (show v'.ownBlock = some pa from by rw [← show g = pa from e]; exact hg))), hr.2⟩⟩, ?_⟩
  exact (t.mono (fun b e => h.2.2.2.2 b e)).more (Tch.set w1 h.1.2.1 v')
end
theorem kp_trans {mp B : Nat} {X Y Z : World} (h : KpM mp B X Y) (k : KpM mp B Y Z) : KpM mp B X Z := h.more k
theorem kp_put {mp B : Nat} (W : World) (l : Nat) (o : Obj) (hl : B ≤ l) : KpM mp B W (W.putObj l o) := by
  have hg := grownBy_putObj' W l o
  exact ⟨hg.os, hg.tape, hg.output, hg.size, fun k hk hn => hg.block k hk (fun e => by cases e; exact hn (.inr hl))⟩
theorem kp_grown {mp B : Nat} {W W' : World} {row : Option Nat} (hg : W.grownBy W' row) (hr : ∀ r, row = some r → B ≤ r) : KpM mp B W W' :=
  ⟨hg.os, hg.tape, hg.output, hg.size, fun k hk hn => hg.block k hk (fun e => by cases e; exact hn (.inr (hr _ rfl)))⟩
theorem kp_from {mp B : Nat} {W W' : World} (hmp : mp < B) (t : Tch (fun k => k = mp ∨ (B ≤ k ∧ False)) W W') : KeepsFrom B W W' :=
  ⟨t.size, fun k o hB hk _ => t.blk hk (fun e => e.elim (fun e => by omega) (fun e => e.2.elim))⟩
/-- The set of pairs, less those of h with each of xs. -/
def partsK (K : List Pr) (h : Hd) (xs : List Hd) : List Pr := xs.foldl (fun K x => partK K (norm (h, x))) K
def joinsK (K : List Pr) (h : Hd) (xs : List Hd) : List Pr := xs.foldl (fun K x => joinK K (norm (h, x))) K
theorem mem_partsK (h : Hd) (q : Pr) : ∀ (xs : List Hd) (K : List Pr), q ∈ partsK K h xs ↔ q ∈ K ∧ ¬ ∃ x ∈ xs, q = norm (h, x)
  | [], K => by simp [partsK]
  | x :: r, K => by
    rw [show partsK K h (x :: r) = partsK (partK K (norm (h, x))) h r from rfl, mem_partsK h q r, mem_partK]
    simp only [List.mem_cons, exists_eq_or_imp, not_or]
    exact ⟨fun ⟨⟨a, b⟩, c⟩ => ⟨a, b, c⟩, fun ⟨a, b, c⟩ => ⟨⟨a, b⟩, c⟩⟩
theorem nodup_partsK (h : Hd) : ∀ (xs : List Hd) (K : List Pr), K.Nodup → (partsK K h xs).Nodup
  | [], _, hK => hK
  | _ :: r, _, hK => nodup_partsK h r _ (nodup_partK hK)
theorem mem_joinsK (h : Hd) (q : Pr) : ∀ (xs : List Hd) (K : List Pr), q ∈ joinsK K h xs ↔ q ∈ K ∨ ∃ x ∈ xs, q = norm (h, x)
  | [], K => by simp [joinsK]
  | x :: r, K => by
    rw [show joinsK K h (x :: r) = joinsK (joinK K (norm (h, x))) h r from rfl, mem_joinsK h q r, mem_joinK]
    simp only [List.mem_cons, exists_eq_or_imp, or_assoc]
theorem nodup_joinsK (h : Hd) : ∀ (xs : List Hd) (K : List Pr), K.Nodup → (joinsK K h xs).Nodup
  | [], _, hK => hK
  | _ :: r, _, hK => nodup_joinsK h r _ (nodup_joinK hK)
theorem partsK_snoc (K : List Pr) (h : Hd) (xs : List Hd) (x : Hd) : partsK K h (xs ++ [x]) = partK (partsK K h xs) (norm (h, x)) := by simp [partsK]
theorem joinsK_snoc (K : List Pr) (h : Hd) (xs : List Hd) (x : Hd) : joinsK K h (xs ++ [x]) = joinK (joinsK K h xs) (norm (h, x)) := by simp [joinsK]
/-- Between two rounds: the set of pairs is what g makes of the handles that have come; but for it nothing below B has changed. -/
def IPr (mp B : Nat) (w6 : World) (g : List Hd → List Pr) {L : List Spn} {s : IV} (pre : List (Met L s)) (W : World) : Prop :=
  KpM mp B w6 W ∧ MapQ W mp (g (pre.map (fun x => x.1))).length (prF (g (pre.map (fun x => x.1))))
theorem ipr_own {mp B : Nat} {w6 : World} {g : List Hd → List Pr} {L : List Spn} {s : IV} (hmp : mp < B) : OwnFrom B (IPr mp B w6 g (L := L) (s := s)) := fun pre W W' row hs hg hr =>
  ⟨kp_trans hs.1 (kp_grown hg (fun r e => (hr r e).1)), hs.2.blk (hg.block mp hs.2.lt (fun e => by have := (hr mp e.symm).1; omega))⟩
theorem IPr.bel {mp B : Nat} {w6 : World} {g : List Hd → List Pr} {L : List Spn} {s : IV} {pre : List (Met L s)} {W W' : World} (h : IPr mp B w6 g pre W) (hb : RowKit.Below W.heap.size W W') : IPr mp B w6 g pre W' :=
  ⟨h.1.more (Tch.of hb), h.2.below hb⟩
theorem tch_final {M R R2 : Nat → Prop} {w wr Wf : World} (h1 : Tch R w wr) (h2 : Tch R2 wr Wf) (hR : ∀ b, b < w.heap.size → R b → M b) (hR2 : ∀ b, b < w.heap.size → R2 b → M b) : Tch M w Wf :=
  ⟨h2.os.trans h1.os, h2.tape.trans h1.tape, h2.output.trans h1.output, Nat.le_trans h1.size h2.size, fun k hk hn => (h2.block k (h1.lt hk) (fun e => hn (hR2 k hk e))).trans (h1.block k hk (fun e => hn (hR k hk e)))⟩
/-- The loop variable's box, and the frame that holds its place. -/
def AxR (B : Nat) (T : Nat → Hd → Act) (x : Hd) (a' : Act) (W : World) : Prop := ∃ Bx, B ≤ Bx ∧ W.heap[Bx]? = some (.cells #[.int .i64 x.1, .int .i64 x.2] 28 (0, 0)) ∧ a' = T Bx x
theorem axr_own {B : Nat} {T : Nat → Hd → Act} {x : Hd} {a' : Act} : OwnFrom B (fun (_ : Unit) (W : World) => AxR B T x a' W) := fun u W W' row hs hg hr => by
  obtain ⟨Bx, h1, h2, h3⟩ := hs
  exact ⟨Bx, h1, (hg.block Bx (Array.getElem?_eq_some_iff.1 h2).1 (fun e => by
    obtain ⟨o, ho', hc⟩ := (hr Bx e.symm).2
    rw [h2] at ho'
    cases ho'
    cases hc)).trans h2, h3⟩
/-- Behind Drop's loop. -/
theorem KOf.drop {L : List Spn} {K : List Pr} (ho : Once L) {s : Spn} (hs : s ∈ L) (h : KOf L K) {xs : List (Met (without L s.1) s.2)} (hx : AllIn xs) : KOf (without L s.1) (partsK K s.1 (xs.map (·.1))) := by
  refine ⟨nodup_partsK _ _ _ h.1, fun q => ?_⟩
  rw [mem_partsK, h.2, PM.drop ho hs]
  refine and_congr_right fun _ => not_congr ?_
  constructor
  · rintro ⟨x, hxm, rfl⟩
    obtain ⟨y, hy, rfl⟩ := List.mem_map.1 hxm
    obtain ⟨b, hb, e1, e2⟩ := y.2
    exact ⟨b, hb, e2, by rw [e1]⟩
  · rintro ⟨b, hb, hm, rfl⟩
    exact ⟨b.1, List.mem_map.2 ⟨⟨b.1, b, hb, rfl, hm⟩, hx _, rfl⟩, rfl⟩
/-- Behind Put's loop. -/
theorem KOf.put {L : List Spn} {K : List Pr} {s : Spn} (hs : ∀ b ∈ L, b.1 ≠ s.1) (h : KOf L K) {xs : List (Met L s.2)} (hx : AllIn xs) : KOf (L ++ [s]) (joinsK K s.1 (xs.map (·.1))) := by
  refine ⟨nodup_joinsK _ _ _ h.1, fun q => ?_⟩
  rw [mem_joinsK, h.2, PM.put hs]
  refine or_congr_right ?_
  constructor
  · rintro ⟨x, hxm, rfl⟩
    obtain ⟨y, hy, rfl⟩ := List.mem_map.1 hxm
    obtain ⟨b, hb, e1, e2⟩ := y.2
    exact ⟨b, hb, e2, by rw [e1]⟩
  · rintro ⟨b, hb, hm, rfl⟩
    exact ⟨b.1, List.mem_map.2 ⟨⟨b.1, b, hb, rfl, hm⟩, hx _, rfl⟩, rfl⟩

section
variable {pa : Nat} {L : List Spn} {M : Nat → Prop} {w : World}
theorem three_blk {w : World} {o1 o2 : Obj} {w3 : World} (h : RowKit.Below ((w.alloc o1).alloc o2).heap.size ((w.alloc o1).alloc o2) w3) : w3.heap[w.heap.size]? = some o1 ∧ w3.heap[w.heap.size + 1]? = some o2 := by
  have k1 := blk_below (heap_alloc_new w o1) (Ba (Below.refl _ _) o2)
  have k2 := heap_alloc_new (w.alloc o1) o2
  rw [show (w.alloc o1).heap.size = w.heap.size + 1 by simp] at k2
  exact ⟨blk_below k1 h, blk_below k2 h⟩
set_option maxHeartbeats 1000000 in
set_option maxRecDepth 100000 in
theorem drop_none (h : AxAt w M pa L) (x y : Int) (hx : HdOk (x, y)) (hn : spF L (x, y) = none) (t : TypeId) (u : Value) (hE : w.cell? ⟨2, 0, none⟩ = some (.iface t u)) :
    Calls Tryd.prog 15 #[.pointer (some ⟨pa, 0, none⟩), .agg #[.int .i64 x, .int .i64 y]] w fun e w' => e = .returned (.iface t u) ∧ RowKit.Below w.heap.size w w' := by
  obtain ⟨mp, sp, v, K, hI, -, -, -⟩ := h
  have HH := Lib.hid hI.head
  have HL : Hid (∀ W, RowKit.Below w.heap.size w W → (Instr.lookup MapST (.map (some sp)) (.agg #[.int .i64 x, .int .i64 y]) true).run Tryd.prog W = .ok (.tuple #[.agg #[.int .i64 0, .int .i64 0], .bool false]) W) := fun W hb => by
    have := (hI.2.2.1.below hb).look2 mptS (x, y) hx
    rw [hn] at this
    exact this
  have HE := Lib.hid hE
  clear hI hE hn hx
  go_enter Tryd.func15, Tryd.ntmps15
  go_wp2_with fail
  have bb := Ba (Ba (Below.refl _ w) (.cells #[.pointer (some ⟨pa, 0, none⟩)] 24)) (.cells #[.int .i64 x, .int .i64 y] 28)
  have hlk := HL.out _ bb.drew
  have hlk2 := HL.out _ (Ba bb (.cells #[.int .i64 0, .int .i64 0] 84)).drew
  have hlk3 := HL.out _ (Ba bb.drew (.cells #[.int .i64 0, .int .i64 0] 84))
  obtain ⟨⟨_, c1, _⟩, _⟩ := three_cells (blk_below HH.out bb)
  have hl := cell_lt c1
  have hE1 := Bc bb (cell_lt HE.out) HE.out
  have hlg := cell_lt hE1
  have hE2 := Bc (Ba bb.drew (.cells #[.int .i64 0, .int .i64 0] 84)) (cell_lt HE.out) HE.out
  have hlg2 := cell_lt hE2
  obtain ⟨⟨_, c1b, _⟩, _⟩ := three_cells (blk_below HH.out (Ba bb (.cells #[.int .i64 0, .int .i64 0] 84)))
  have hl2 := cell_lt c1b
  have hE3 := Bc (Ba bb (.cells #[.int .i64 0, .int .i64 0] 84)) (cell_lt HE.out) HE.out
  clear bb
  go_region
  all_goals go_wp2
  all_goals go_ret
  all_goals exact ⟨rfl, (by repeat (first | with_reducible exact Below.refl _ _ | with_reducible assumption | with_reducible apply Ba | with_reducible apply Bd | with_reducible apply Bn | with_reducible apply Bg | (with_reducible refine Bs ?_ (by first | (simp; done) | (simp; omega)) _) | (with_reducible refine Bt ?_ (by assumption)) | (with_reducible refine Bt ?_ (Gr.below (by assumption)))))⟩
end
end Go.Proofs.YtbodefigeiaodaaDoor
