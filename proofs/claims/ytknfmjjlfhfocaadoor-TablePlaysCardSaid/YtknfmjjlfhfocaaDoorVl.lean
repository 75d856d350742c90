/-
  The library at components: slices.Clone, SortFunc, IndexFunc, ContainsFunc, DeleteFunc, BinarySearchFunc (written by mkvl.py out of the texts at handles).
-/
import Derived.Test.YtknfmjjlfhfocaaDoorVf

import Derived.Lib.SlicesCompact
import Derived.Lib.SliceRun
import Derived.Lib.SlKept
import Derived.Sort.WalkB12
import Derived.Shelf.RegionOpenPlain
namespace Go.Proofs.YtknfmjjlfhfocaaDoor
set_option linter.unusedSimpArgs false
set_option linter.unusedVariables false
open Go.RowKit Go.Sort Go.Lib Go.Shelf

theorem set3 {w : World} {b off : Nat} {d : Array Vl} (h : HoldsK encV 3 w b off d) {i : Nat} (hi : i < d.size) (x : Vl) : HoldsK encV 3 (((w.setCell ⟨b, off + i * 3, none⟩ (.int .i64 x.1)).setCell ⟨b, off + i * 3 + 1, none⟩ (.int .i64 x.2.1)).setCell ⟨b, off + i * 3 + 2, none⟩ (.int .i64 x.2.2)) b off (d.setIfInBounds i x) :=
  hkSet h lenV hi x
theorem at3 {w : World} {b off : Nat} {d : Array Vl} (h : HoldsK encV 3 w b off d) {i : Nat} (hi : i < d.size) :
    (w.cell? ⟨b, off + i * 3, none⟩ = some (.int .i64 d[i]!.1) ∧ w.cell? ⟨b, off + i * 3 + 1, none⟩ = some (.int .i64 d[i]!.2.1) ∧ w.cell? ⟨b, off + i * 3 + 2, none⟩ = some (.int .i64 d[i]!.2.2)) ∧ w.frozen? ⟨b, off + i * 3, none⟩ = false ∧ w.frozen? ⟨b, off + i * 3 + 1, none⟩ = false ∧ w.frozen? ⟨b, off + i * 3 + 2, none⟩ = false := by
  have c0 := Go.Sort.HoldsK.cell h hi (show 0 < 3 by omega)
  have c1 := Go.Sort.HoldsK.cell h hi (show 1 < 3 by omega)
  have c2 := Go.Sort.HoldsK.cell h hi (show 2 < 3 by omega)
  exact ⟨⟨c0.1, c1.1, c2.1⟩, c0.2, c1.2, c2.2⟩

/-- A block that keeps its shape. -/
def Shp (g : Nat) (w w' : World) : Prop := ∀ cur et fr, w.heap[g]? = some (.cells cur et fr) → ∃ cur', w'.heap[g]? = some (.cells cur' et fr) ∧ cur'.size = cur.size
theorem Shp.refl (g : Nat) (w : World) : Shp g w w := fun cur _ _ h => ⟨cur, h, rfl⟩
theorem Shp.trans {g : Nat} {a b c : World} (h : Shp g a b) (k : Shp g b c) : Shp g a c := fun cur et fr hc => by
  obtain ⟨c1, h1, e1⟩ := h cur et fr hc
  obtain ⟨c2, h2, e2⟩ := k c1 et fr h1
  exact ⟨c2, h2, e2.trans e1⟩
theorem Shp.below {g : Nat} {w w' : World} (h : RowKit.Below w.heap.size w w') (hg : g < w.heap.size) : Shp g w w' := fun cur _ _ hc => ⟨cur, (h.block g hg).trans hc, rfl⟩
theorem Shp.set (g : Nat) (w : World) (p : Addr) (u : Value) : Shp g w (w.setCell p u) := fun cur et fr hc => by
  by_cases e : g = p.block
  · subst e
    refine ⟨if p.spot.isSome then cur else cur.setIfInBounds p.off u, ?_, ?_⟩
    · simp [World.setCell, Array.getElem?_modify, hc]
    · split <;> simp
  · exact ⟨cur, (heap_setCell_other w p g u e).trans hc, rfl⟩
theorem Shp.sets (g b : Nat) : ∀ (vs : List Value) (o : Nat) (w : World), Shp g w (w.setCells b o vs)
  | [], _, w => Shp.refl g w
  | v :: r, o, w => (Shp.set g w ⟨b, o, none⟩ v).trans (Shp.sets g b r (o + 1) _)

/-- A run of stores of one element, over and over: zero values from place i on. -/
theorem HoldsK.lay {α : Type} [Inhabited α] {enc : α → List Value} {k : Nat} (hk : ∀ x, (enc x).length = k) {w : World} {b off : Nat} {d : Array α} (h : HoldsK enc k w b off d) (z : α) : ∀ (m i : Nat), i + m ≤ d.size → ∃ d' : Array α, d'.size = d.size ∧ (∀ j, j < i → d'[j]! = d[j]!) ∧ HoldsK enc k (w.setCells b (off + i * k) (flat enc (List.replicate m z))) b off d' := by
  intro m i hm
  induction m generalizing w d i with
  | zero => exact ⟨d, rfl, fun _ _ => rfl, h⟩
  | succ m ih =>
    have h1 := hkSet h hk (show i < d.size by omega) z
    obtain ⟨d', hs, hlow, hH⟩ := ih h1 (i + 1) (by simp; omega)
    refine ⟨d', by rw [hs]; simp, fun j hj => by rw [hlow j (by omega), getElem!_set_other d i j z (by omega)], ?_⟩
    have e : flat enc (List.replicate (m + 1) z) = enc z ++ flat enc (List.replicate m z) := by simp [flat, List.replicate_succ]
    rw [e]
    have app : ∀ (xs ys : List Value) (W : World) (o : Nat), W.setCells b o (xs ++ ys) = (W.setCells b o xs).setCells b (o + xs.length) ys := by
      intro xs
      induction xs with
      | nil => intro ys W o; rfl
      | cons x xs ihx =>
        intro ys W o
        simp only [List.cons_append, World.setCells, List.length_cons]
        rw [ihx]
        congr 1
        omega
    rw [app, hk, show off + i * k + k = off + (i + 1) * k by rw [Nat.add_mul]; omega]
    exact hH
theorem Below.setCells {B : Nat} {a w : World} (h : RowKit.Below B a w) {b : Nat} (hb : B ≤ b) : ∀ (vs : List Value) (o : Nat), RowKit.Below B a (w.setCells b o vs) := by
  intro vs
  induction vs generalizing w with
  | nil => intro o; exact h
  | cons v r ih => intro o; exact ih (h.setCell (p := ⟨b, o, none⟩) hb v) (o + 1)

theorem zero_flat {α : Type} [Inhabited α] {enc : α → List Value} {k : Nat} (hk : ∀ x, (enc x).length = k) (k0 : 0 < k) (z : α) (n : Nat) : (Builtin.zeroCells (enc z).toArray n).toList = flat enc (List.replicate n z) := by
  apply List.ext_getElem?
  intro j
  have hs : (enc z).toArray.size = k := by simp [hk]
  by_cases hj : j < n * k
  · have hq : j / k < n := Nat.div_lt_of_lt_mul (by rw [Nat.mul_comm]; exact hj)
    have hm : j % k < k := Nat.mod_lt _ k0
    have e : j / k * k + j % k = j := by rw [Nat.mul_comm]; exact Nat.div_add_mod j k
    have g := flat_get hk (List.replicate n z) (j / k) (j % k) (by simpa using hq) hm
    have gz : (List.replicate n z)[j / k]! = z := by rw [getElem!_pos _ _ (by simpa using hq)]; simp
    rw [e, gz] at g
    rw [g]
    simp only [Builtin.zeroCells, hs, Array.toList_map, Array.toList_range, List.getElem?_map]
    rw [List.getElem?_range hj]
    simp only [Option.map_some]
    have hm' : j % k < (enc z).toArray.size := by rw [hs]; exact hm
    rw [getElem!_pos (enc z).toArray (j % k) hm', List.getElem?_eq_getElem (l := enc z) (by rw [hk]; exact hm)]
    simp
  · rw [List.getElem?_eq_none (by simp [Builtin.zeroCells, hs]; omega), List.getElem?_eq_none (by rw [flat_len hk]; simp; omega)]

/-- 'clear(s[i:])' at elements of k cells. -/
theorem clear_run {α : Type} [Inhabited α] {enc : α → List Value} {k : Nat} (hk : ∀ x, (enc x).length = k) (k0 : 0 < k) (h1 : ∀ x, ∀ v ∈ enc x, v.oneCell' = true) (P : Program) {t e : TypeId} {zv : Value} (z : α) (ht : P.underlying t = some (.slice e)) (hv : ∀ w, (zeroValue e).run P w = .ok zv w) (hz : zv.cells = (enc z).toArray)
    {w : World} {b off : Nat} {d : Array α} (h : HoldsK enc k w b off d) (i : Nat) (hi : i < d.size) (c : Nat) (ty : TypeId) :
    (Builtin.clear_ #[t] ty #[.slice (some ⟨b, off + i * k, none⟩) (d.size - i) c]).run P w = .ok (.tuple #[]) (w.setCells b (off + i * k) (flat enc (List.replicate (d.size - i) z))) := by
  have hb : i * k + (d.size - i) * k = d.size * k := by rw [← Nat.add_mul]; congr 1; omega
  have hst := stores_of_holds (W := w) (blk := b) (off := off) (F := flatK enc k d) P h (i * k) (flat enc (List.replicate (d.size - i) z)) (by rw [flat_len hk, size_flatK]; simp; omega) (flat_one h1 _)
  obtain ⟨m, hm⟩ : ∃ m, d.size - i = m + 1 := ⟨d.size - i - 1, by omega⟩
  rw [hm] at hst ⊢
  simp only [Builtin.clear_]
  simp [run_underlying ht, hv, hz, zero_flat hk k0, hst]

section
variable {α : Type} [Inhabited α] {enc : α → List Value} {k : Nat}
theorem below_putRow {α : Type} [Inhabited α] {enc : α → Value} {B : Nat} {w : World} {b o : Nat} {d : Array α} (hB : B ≤ b) : RowKit.Below B w (putRow enc w b o d) := by
  refine ⟨rfl, rfl, rfl, ?_, fun j hj => ?_⟩
  · simp [putRow, mapBlock]
  · simp only [putRow, mapBlock, Array.getElem?_modify]
    rw [if_neg (by omega)]
theorem below_sortWorldK {B : Nat} {w : World} {b o n : Nat} {d : Array α} {os : Array Obj} (hB : B ≤ b) (hs : B ≤ w.heap.size) : RowKit.Below B w (sortWorldK enc k w b o n d os) := by
  unfold sortWorldK
  have h1 : RowKit.Below B w (putRowK enc k (Sort.ahead w n) b o d) := by
    have : RowKit.Below B (Sort.ahead w n) (putRowK enc k (Sort.ahead w n) b o d) := below_putRow hB
    exact ⟨this.os, this.tape, this.output, this.size, this.block⟩
  exact ⟨h1.os, h1.tape, h1.output, by rw [size_grow]; exact Nat.le_trans h1.size (Nat.le_add_right _ _), fun j hj => (heap_grow_old _ os (Nat.lt_of_lt_of_le (Nat.lt_of_lt_of_le hj hs) h1.size)).trans (h1.block j hj)⟩
end

set_option maxHeartbeats 1000000 in
set_option maxRecDepth 100000 in
/-- slices.Clone. -/
theorem cloneV_call (l : List Vl) (v : Value) (w : World) (hl : Sl encV w v l) (hlen : l.length ≤ 100000) :
    Calls Tryd.prog 73 #[v] w fun e w' => ∃ v', e = .returned v' ∧ Own w.heap.size encV 3 w' v' l ∧ (w'.ownsRow w.heap.size 41 3 v' l.length (flat encV l)) ∧ RowKit.Below w.heap.size w w' := by
  obtain ⟨p, cap, rfl, h1, h2, h⟩ := hl
  cases p with
  | none =>
    have h0 : l.length = 0 := by
      rcases Nat.eq_zero_or_pos l.length with h0 | h0
      · exact h0
      · obtain ⟨g, o, e, _⟩ := h h0; cases e
    have hl0 : l = [] := List.length_eq_zero_iff.1 h0
    subst hl0
    have q22 : ∀ (w : World) (a : Option Addr) (n c n' c' : Nat), (binOp .eql 39 (.slice a n c) (.slice none n' c')).run Tryd.prog w = .ok (.bool a.isNone) w := fun w a n c n' c' => Lib.run_eql_slice_nil w _ _ a n c n' c' Tryd.underlying39
    go_enter Tryd.func73, Tryd.ntmps73
    go_wp2
    go_ret
    exact ⟨_, rfl, ⟨none, 0, rfl, Nat.le_refl _, Nat.zero_le _, fun h => absurd h (by simp)⟩, World.ownsRow_nil _ _ _ _, (by repeat (first | with_reducible exact Below.refl _ _ | with_reducible assumption | with_reducible apply Ba | with_reducible apply Bd | with_reducible apply Bn | with_reducible apply Bg | (with_reducible refine Bs ?_ (by first | (simp; done) | (simp; omega)) _) | (with_reducible refine Bt ?_ (by assumption)) | (with_reducible refine Bt ?_ (Gr.below (by assumption)))))⟩
  | some ad =>
    have HS := Lib.hid (show Sl encV w (.slice (some ad) l.length cap) l from ⟨_, cap, rfl, h1, h2, h⟩)
    have O1 := Lib.hid (show (w.alloc (.cells #[] 41)).ownsRow w.heap.size 41 3 (.slice (some ⟨w.heap.size, 0, none⟩) 0 0) 0 (flat encV []) from World.ownsRow_made _ #[] 0 (Nat.le_refl _) (Nat.zero_le _) (by simp))
    have A1 := Lib.hid (Ba (Below.refl _ w) (.cells #[] 41))
    have S1 := Lib.hid (HS.out.below A1.out)
    clear h
    have q22 : ∀ (w : World) (a : Option Addr) (n c n' c' : Nat), (binOp .eql 39 (.slice a n c) (.slice none n' c')).run Tryd.prog w = .ok (.bool a.isNone) w := fun w a n c n' c' => Lib.run_eql_slice_nil w _ _ a n c n' c' Tryd.underlying39
    go_enter Tryd.func73, Tryd.ntmps73
    go_wp2_with (at_builtin; refine wpl_app apV rfl _ _ rfl w.heap.size (by rfl) (by rfl) O1.out rfl S1.out (by simp; omega) A1.out.size ?_; intro v1 w1 hown1 hgrow1 hnil1)
    have b1 := grownB A1.out O1.out hgrow1
    go_ret
    have e : [] ++ l = l := List.nil_append l
    rw [e] at hown1
    simp only [List.length_nil, Nat.zero_add] at hown1
    exact ⟨v1, rfl, own_of_row lenV hown1 rfl, hown1, b1⟩

def ltK (x y : Vl) : Bool := decide (x.1 < y.1)
theorem cmpV_lt (x y : Vl) : decide (cmpV x y < 0) = ltK x y := by
  unfold cmpV ltK Lib.compareInt
  (repeat' split) <;> simp_all <;> omega
theorem swoV : SWO (ltOf cmpV) := by
  have e : ltOf cmpV = ltK := funext fun x => funext fun y => cmpV_lt x y
  rw [e]
  refine ⟨fun x => by simp [ltK], fun x y z h1 h2 => ?_, fun x y z h1 h2 => ?_⟩
  · simp only [ltK, decide_eq_true_eq] at *; omega
  · simp only [ltK, decide_eq_false_iff_not] at *; omega

/-- What wrong answers, wherever nothing below B0 has turned since w0. -/
def PredW (B0 : Nat) (w0 : World) (p : Vl → Bool) : Prop := ∀ W, RowKit.Below B0 w0 W → ∀ x1 x2 x3 : Int, Calls Tryd.prog 62 #[.agg #[.int .i64 x1, .int .i64 x2, .int .i64 x3]] W fun e w' => e = .returned (.bool (p (x1, x2, x3))) ∧ Gr W w'

set_option maxHeartbeats 2000000 in
set_option maxRecDepth 100000 in
theorem indexW_call (p : Vl → Bool) (l : List Vl) (v : Value) (w : World) (hp : PredW w.heap.size w p) (hl : Sl encV w v l) :
    Calls Tryd.prog 71 #[v, .func (.func 62) #[] #[]] w fun e w' => (∃ r : Int, e = .returned (.int .i64 r) ∧ (r ≥ 0 ↔ l.any p = true)) ∧ Gr w w' := by
  obtain ⟨pa, cap, rfl, hl1, hl2, hl3⟩ := hl
  have HL := Lib.hid hl3
  have HP := Lib.hid hp
  have hbig : l.length ≤ 9223372036854775807 := by unfold maxLen at hl2; omega
  clear hl3 hl2 hp
  go_enter Tryd.func71, Tryd.ntmps71
  go_wp2
  go_loopg [8] l.length (fun gk s8 wr => ∃ k : Nat, s8 = .int .i64 k ∧ k ≤ l.length ∧ l.length - k ≤ gk ∧ Gr w wr ∧ Hid (∀ j, j < k → p l[j]! = false))
  case atStart => exact ⟨0, rfl, Nat.zero_le _, by omega, Gr.refl _, fun j hj => absurd hj (Nat.not_lt_zero _)⟩
  case round =>
    obtain ⟨k, rfl, hk, hgk, hg, I⟩ := hrel
    by_cases hkn : k < l.length
    · obtain ⟨g, o, rfl, hg1, hg2⟩ := HL.out (by omega)
      obtain ⟨c1', c2', c3'⟩ := atV hg2 hkn
      have c1 : wr.cell? ⟨g, o + k * 3, none⟩ = _ := Bc hg.below hg1 c1'
      have c2 : wr.cell? ⟨g, o + k * 3 + 1, none⟩ = _ := Bc hg.below hg1 c2'
      have c3 : wr.cell? ⟨g, o + k * 3 + 2, none⟩ = _ := Bc hg.below hg1 c3'
      have HPr := Lib.hid (fun a b c => HP.out wr hg.below a b c)
      have HG := Lib.hid hg
      have hmem : l[k]! ∈ l := by rw [getElem!_pos l k hkn]; exact List.getElem_mem hkn
      generalize hx : l[k]! = x at c1 c2 c3 hmem
      obtain ⟨x1, x2, x3⟩ := x
      dsimp only at c1 c2 c3
      have X := Lib.hid hx
      have HM := Lib.hid hmem
      clear hg hx hmem c1' c2' c3' hg2
      cases hpx : p (x1, x2, x3)
      · have HPX := Lib.hid hpx
        go_wp2_with (first | (go_at_call 62; refine (HPr.out _ _ _).mono ?_; rintro e w1 ⟨rfl, hg1⟩) | (go_at_fn 62; refine (HPr.out _ _ _).mono ?_; rintro e w1 ⟨rfl, hg1⟩))
        go_roundg (l.length - (k + 1))
        case measure => omega
        case rel =>
          refine ⟨k + 1, by go_num, by omega, Nat.le_refl _, HG.out.trans hg1, (show Hid _ from fun j hj => ?_)⟩
          by_cases e : j = k
          · subst e; rw [X.out]; exact HPX.out
          · exact I.out j (by omega)
      · have HPX := Lib.hid hpx
        go_wp2_with (first | (go_at_call 62; refine (HPr.out _ _ _).mono ?_; rintro e w1 ⟨rfl, hg1⟩) | (go_at_fn 62; refine (HPr.out _ _ _).mono ?_; rintro e w1 ⟨rfl, hg1⟩))
        go_ret
        exact ⟨⟨_, rfl, ⟨fun _ => List.any_eq_true.2 ⟨_, HM.out, HPX.out⟩, fun _ => by omega⟩⟩, HG.out.trans hg1⟩
    · have HG := Lib.hid hg
      have HA := Lib.hid (show l.any p = false by
        rw [List.any_eq_false]
        intro x hx
        obtain ⟨j, hj, rfl⟩ := List.getElem_of_mem hx
        have := I.out j (by omega)
        rw [getElem!_pos l j hj] at this
        simpa using this)
      clear hg
      go_wp2
      go_ret
      exact ⟨⟨-1, rfl, ⟨fun h => absurd h (by omega), fun h => by rw [HA.out] at h; cases h⟩⟩, HG.out⟩

set_option maxHeartbeats 1000000 in
theorem containsV_call (p : Vl → Bool) (l : List Vl) (v : Value) (w : World) (hp : PredW w.heap.size w p) (hl : Sl encV w v l) :
    Calls Tryd.prog 61 #[v, .func (.func 62) #[] #[]] w fun e w' => e = .returned (.bool (l.any p)) ∧ Gr w w' := by
  have HI := Lib.hid (indexW_call p l v w hp hl)
  clear hp hl
  obtain ⟨q, hq⟩ : ∃ q, q = l.any p := ⟨_, rfl⟩
  rw [← hq] at HI ⊢
  clear hq
  go_enter Tryd.func61, Tryd.ntmps61
  go_wp2_with fail
  refine HI.out.mono ?_
  rintro e w1 ⟨⟨r, rfl, hr⟩, hg1⟩
  have HR := Lib.hid hr
  clear hr
  go_wp2
  go_ret
  refine ⟨ret_bool ?_, (by repeat (first | with_reducible exact Gr.refl _ | with_reducible assumption | with_reducible apply Gr.alloc | with_reducible apply Gr.drewN | with_reducible apply Gr.drew | with_reducible apply Gr.grow | (with_reducible refine Gr.trans ?_ (by assumption))))⟩
  have := HR.out
  cases q
  · simp at this; simp; omega
  · simp at this; simp; omega

end Go.Proofs.YtknfmjjlfhfocaaDoor
