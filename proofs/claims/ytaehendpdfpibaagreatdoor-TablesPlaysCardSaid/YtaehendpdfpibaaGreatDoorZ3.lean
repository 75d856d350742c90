import Derived.Test.YtaehendpdfpibaaGreatDoorZ2
import Derived.Lib.SlicesCompact
import Derived.Lib.SliceRun
import Derived.Lib.SlKept
import Derived.Sort.WalkB12
import Derived.Shelf.RegionOpenPlain

/-
  The library at components: slices.Clone, SortFunc, IndexFunc, ContainsFunc, DeleteFunc, BinarySearchFunc (written by mkvl.py out of the texts at handles).
-/
namespace Go.Proofs.YtaehendpdfpibaaGreatDoor
set_option linter.unusedSimpArgs false
set_option linter.unusedVariables false
open Go.RowKit Go.Sort Go.Lib Go.Shelf

theorem set3 {w : World} {b off : Nat} {d : Array Vl} (h : HoldsK encV 3 w b off d) {i : Nat} (hi : i < d.size) (x : Vl) : HoldsK encV 3 (((w.setCell ⟨b, off + i * 3, none⟩ (.int .i64 x.1)).setCell ⟨b, off + i * 3 + 1, none⟩ (.int .i64 x.2.1)).setCell ⟨b, off + i * 3 + 2, none⟩ (.int .i64 x.2.2)) b off (d.setIfInBounds i x) :=
  hkSet h lenV hi x
theorem at3 {w : World} {b off : Nat} {d : Array Vl} (h : HoldsK encV 3 w b off d) {i : Nat} (hi : i < d.size) :
    (w.cell? ⟨b, off + i * 3, none⟩ = some (.int .i64 d[i]!.1) ∧ w.cell? ⟨b, off + i * 3 + 1, none⟩ = some (.int .i64 d[i]!.2.1) ∧ w.cell? ⟨b, off + i * 3 + 2, none⟩ = some (.int .i64 d[i]!.2.2)) ∧ w.frozen? ⟨b, off + i * 3, none⟩ = false ∧ w.frozen? ⟨b, off + i * 3 + 1, none⟩ = false ∧ w.frozen? ⟨b, off + i * 3 + 2, none⟩ = false := by
  have c0 := Go.Sort.HoldsK.cell h hi (show 0 < 3 by omega)
  have c1 := Go.Sort.HoldsK.cell h hi (show 1 < 3 by omega)
  have c2 := Go.Sort.HoldsK.cell h hi (show 2 < 3 by omega)
  exact ⟨⟨c0.1, c1.1, c2.1⟩, c0.2, c1.2, c2.2⟩

/-- A block that keeps its shape. -/
def Shp (g : Nat) (w w' : World) : Prop := ∀ cur et fr, w.heap[g]? = some (.cells cur et fr) → ∃ cur', w'.heap[g]? = some (.cells cur' et fr) ∧ cur'.size = cur.size
theorem Shp.refl (g : Nat) (w : World) : Shp g w w := fun cur _ _ h => ⟨cur, h, rfl⟩
theorem Shp.trans {g : Nat} {a b c : World} (h : Shp g a b) (k : Shp g b c) : Shp g a c := fun cur et fr hc => by
  obtain ⟨c1, h1, e1⟩ := h cur et fr hc
  obtain ⟨c2, h2, e2⟩ := k c1 et fr h1
  exact ⟨c2, h2, e2.trans e1⟩
theorem Shp.below {g : Nat} {w w' : World} (h : RowKit.Below w.heap.size w w') (hg : g < w.heap.size) : Shp g w w' := fun cur _ _ hc => ⟨cur, (h.block g hg).trans hc, rfl⟩
theorem Shp.set (g : Nat) (w : World) (p : Addr) (u : Value) : Shp g w (w.setCell p u) := fun cur et fr hc => by
  by_cases e : g = p.block
  · subst e
    refine ⟨if p.spot.isSome then cur else cur.setIfInBounds p.off u, ?_, ?_⟩
    · simp [World.setCell, Array.getElem?_modify, hc]
    · split <;> simp
  · exact ⟨cur, (heap_setCell_other w p g u e).trans hc, rfl⟩
theorem Shp.sets (g b : Nat) : ∀ (vs : List Value) (o : Nat) (w : World), Shp g w (w.setCells b o vs)
  | [], _, w => Shp.refl g w
  | v :: r, o, w => (Shp.set g w ⟨b, o, none⟩ v).trans (Shp.sets g b r (o + 1) _)

/-- A run of stores of one element, over and over: zero values from place i on. -/
theorem HoldsK.lay {α : Type} [Inhabited α] {enc : α → List Value} {k : Nat} (hk : ∀ x, (enc x).length = k) {w : World} {b off : Nat} {d : Array α} (h : HoldsK enc k w b off d) (z : α) : ∀ (m i : Nat), i + m ≤ d.size → ∃ d' : Array α, d'.size = d.size ∧ (∀ j, j < i → d'[j]! = d[j]!) ∧ HoldsK enc k (w.setCells b (off + i * k) (flat enc (List.replicate m z))) b off d' := by
  intro m i hm
  induction m generalizing w d i with
  | zero => exact ⟨d, rfl, fun _ _ => rfl, h⟩
  | succ m ih =>
    have h1 := hkSet h hk (show i < d.size by omega) z
    obtain ⟨d', hs, hlow, hH⟩ := ih h1 (i + 1) (by simp; omega)
    refine ⟨d', by rw [hs]; simp, fun j hj => by rw [hlow j (by omega), getElem!_set_other d i j z (by omega)], ?_⟩
    have e : flat enc (List.replicate (m + 1) z) = enc z ++ flat enc (List.replicate m z) := by simp [flat, List.replicate_succ]
    rw [e]
    have app : ∀ (xs ys : List Value) (W : World) (o : Nat), W.setCells b o (xs ++ ys) = (W.setCells b o xs).setCells b (o + xs.length) ys := by
      intro xs
      induction xs with
      | nil => intro ys W o; rfl
      | cons x xs ihx =>
        intro ys W o
        simp only [List.cons_append, World.setCells, List.length_cons]
        rw [ihx]
        congr 1
        omega
    rw [app, hk, show off + i * k + k = off + (i + 1) * k by rw [Nat.add_mul]; omega]
    exact hH
theorem Below.setCells {B : Nat} {a w : World} (h : RowKit.Below B a w) {b : Nat} (hb : B ≤ b) : ∀ (vs : List Value) (o : Nat), RowKit.Below B a (w.setCells b o vs) := by
  intro vs
  induction vs generalizing w with
  | nil => intro o; exact h
  | cons v r ih => intro o; exact ih (h.setCell (p := ⟨b, o, none⟩) hb v) (o + 1)

theorem zero_flat {α : Type} [Inhabited α] {enc : α → List Value} {k : Nat} (hk : ∀ x, (enc x).length = k) (k0 : 0 < k) (z : α) (n : Nat) : (Builtin.zeroCells (enc z).toArray n).toList = flat enc (List.replicate n z) := by
  apply List.ext_getElem?
  intro j
  have hs : (enc z).toArray.size = k := by simp [hk]
  by_cases hj : j < n * k
  · have hq : j / k < n := Nat.div_lt_of_lt_mul (by rw [Nat.mul_comm]; exact hj)
    have hm : j % k < k := Nat.mod_lt _ k0
    have e : j / k * k + j % k = j := by rw [Nat.mul_comm]; exact Nat.div_add_mod j k
    have g := flat_get hk (List.replicate n z) (j / k) (j % k) (by simpa using hq) hm
    have gz : (List.replicate n z)[j / k]! = z := by rw [getElem!_pos _ _ (by simpa using hq)]; simp
    rw [e, gz] at g
    rw [g]
    simp only [Builtin.zeroCells, hs, Array.toList_map, Array.toList_range, List.getElem?_map]
    rw [List.getElem?_range hj]
    simp only [Option.map_some]
    have hm' : j % k < (enc z).toArray.size := by rw [hs]; exact hm
    rw [getElem!_pos (enc z).toArray (j % k) hm', List.getElem?_eq_getElem (l := enc z) (by rw [hk]; exact hm)]
    simp
  · rw [List.getElem?_eq_none (by simp [Builtin.zeroCells, hs]; omega), List.getElem?_eq_none (by rw [flat_len hk]; simp; omega)]

/-- 'clear(s[i:])' at elements of k cells. -/
theorem clear_run {α : Type} [Inhabited α] {enc : α → List Value} {k : Nat} (hk : ∀ x, (enc x).length = k) (k0 : 0 < k) (h1 : ∀ x, ∀ v ∈ enc x, v.oneCell' = true) (P : Program) {t e : TypeId} {zv : Value} (z : α) (ht : P.underlying t = some (.slice e)) (hv : ∀ w, (zeroValue e).run P w = .ok zv w) (hz : zv.cells = (enc z).toArray)
    {w : World} {b off : Nat} {d : Array α} (h : HoldsK enc k w b off d) (i : Nat) (hi : i < d.size) (c : Nat) (ty : TypeId) :
    (Builtin.clear_ #[t] ty #[.slice (some ⟨b, off + i * k, none⟩) (d.size - i) c]).run P w = .ok (.tuple #[]) (w.setCells b (off + i * k) (flat enc (List.replicate (d.size - i) z))) := by
  have hb : i * k + (d.size - i) * k = d.size * k := by rw [← Nat.add_mul]; congr 1; omega
  have hst := stores_of_holds (W := w) (blk := b) (off := off) (F := flatK enc k d) P h (i * k) (flat enc (List.replicate (d.size - i) z)) (by rw [flat_len hk, size_flatK]; simp; omega) (flat_one h1 _)
  obtain ⟨m, hm⟩ : ∃ m, d.size - i = m + 1 := ⟨d.size - i - 1, by omega⟩
  rw [hm] at hst ⊢
  simp only [Builtin.clear_]
  simp [run_underlying ht, hv, hz, zero_flat hk k0, hst]

section
variable {α : Type} [Inhabited α] {enc : α → List Value} {k : Nat}
theorem below_putRow {α : Type} [Inhabited α] {enc : α → Value} {B : Nat} {w : World} {b o : Nat} {d : Array α} (hB : B ≤ b) : RowKit.Below B w (putRow enc w b o d) := by
  refine ⟨rfl, rfl, rfl, ?_, fun j hj => ?_⟩
  · simp [putRow, mapBlock]
  · simp only [putRow, mapBlock, Array.getElem?_modify]
    rw [if_neg (by omega)]
theorem below_sortWorldK {B : Nat} {w : World} {b o n : Nat} {d : Array α} {os : Array Obj} (hB : B ≤ b) (hs : B ≤ w.heap.size) : RowKit.Below B w (sortWorldK enc k w b o n d os) := by
  unfold sortWorldK
  have h1 : RowKit.Below B w (putRowK enc k (Sort.ahead w n) b o d) := by
    have : RowKit.Below B (Sort.ahead w n) (putRowK enc k (Sort.ahead w n) b o d) := below_putRow hB
    exact ⟨this.os, this.tape, this.output, this.size, this.block⟩
  exact ⟨h1.os, h1.tape, h1.output, by rw [size_grow]; exact Nat.le_trans h1.size (Nat.le_add_right _ _), fun j hj => (heap_grow_old _ os (Nat.lt_of_lt_of_le (Nat.lt_of_lt_of_le hj hs) h1.size)).trans (h1.block j hj)⟩
end

set_option maxHeartbeats 1000000 in
set_option maxRecDepth 100000 in
/-- slices.Clone. -/
theorem cloneV_call (l : List Vl) (v : Value) (w : World) (hl : Sl encV w v l) (hlen : l.length ≤ 100000) :
    Calls Tryz.prog 138 #[v] w fun e w' => ∃ v', e = .returned v' ∧ Own w.heap.size encV 3 w' v' l ∧ (w'.ownsRow w.heap.size 34 3 v' l.length (flat encV l)) ∧ RowKit.Below w.heap.size w w' := by
  obtain ⟨p, cap, rfl, h1, h2, h⟩ := hl
  cases p with
  | none =>
    have h0 : l.length = 0 := by
      rcases Nat.eq_zero_or_pos l.length with h0 | h0
      · exact h0
      · obtain ⟨g, o, e, _⟩ := h h0; cases e
    have hl0 : l = [] := List.length_eq_zero_iff.1 h0
    subst hl0
    have q22 : ∀ (w : World) (a : Option Addr) (n c n' c' : Nat), (binOp .eql 32 (.slice a n c) (.slice none n' c')).run Tryz.prog w = .ok (.bool a.isNone) w := fun w a n c n' c' => Lib.run_eql_slice_nil w _ _ a n c n' c' Tryz.underlying32
    go_enter Tryz.func138, Tryz.ntmps138
    go_wp2
    go_ret
    exact ⟨_, rfl, ⟨none, 0, rfl, Nat.le_refl _, Nat.zero_le _, fun h => absurd h (by simp)⟩, World.ownsRow_nil _ _ _ _, (by repeat (first | with_reducible exact Below.refl _ _ | with_reducible assumption | with_reducible apply Ba | with_reducible apply Bd | with_reducible apply Bn | with_reducible apply Bg | (with_reducible refine Bs ?_ (by first | (simp; done) | (simp; omega)) _) | (with_reducible refine Bt ?_ (by assumption)) | (with_reducible refine Bt ?_ (Gr.below (by assumption)))))⟩
  | some ad =>
    have HS := Lib.hid (show Sl encV w (.slice (some ad) l.length cap) l from ⟨_, cap, rfl, h1, h2, h⟩)
    have O1 := Lib.hid (show (w.alloc (.cells #[] 34)).ownsRow w.heap.size 34 3 (.slice (some ⟨w.heap.size, 0, none⟩) 0 0) 0 (flat encV []) from World.ownsRow_made _ #[] 0 (Nat.le_refl _) (Nat.zero_le _) (by simp))
    have A1 := Lib.hid (Ba (Below.refl _ w) (.cells #[] 34))
    have S1 := Lib.hid (HS.out.below A1.out)
    clear h
    have q22 : ∀ (w : World) (a : Option Addr) (n c n' c' : Nat), (binOp .eql 32 (.slice a n c) (.slice none n' c')).run Tryz.prog w = .ok (.bool a.isNone) w := fun w a n c n' c' => Lib.run_eql_slice_nil w _ _ a n c n' c' Tryz.underlying32
    go_enter Tryz.func138, Tryz.ntmps138
    go_wp2_with (at_builtin; refine wpl_app apV rfl _ _ rfl w.heap.size (by rfl) (by rfl) O1.out rfl S1.out (by simp; omega) A1.out.size ?_; intro v1 w1 hown1 hgrow1 hnil1)
    have b1 := grownB A1.out O1.out hgrow1
    go_ret
    have e : [] ++ l = l := List.nil_append l
    rw [e] at hown1
    simp only [List.length_nil, Nat.zero_add] at hown1
    exact ⟨v1, rfl, own_of_row lenV hown1 rfl, hown1, b1⟩

def ltK (x y : Vl) : Bool := decide (x.1 < y.1)
theorem cmpV_lt (x y : Vl) : decide (cmpV x y < 0) = ltK x y := by
  unfold cmpV ltK Lib.compareInt
  (repeat' split) <;> simp_all <;> omega
theorem swoV : SWO (ltOf cmpV) := by
  have e : ltOf cmpV = ltK := funext fun x => funext fun y => cmpV_lt x y
  rw [e]
  refine ⟨fun x => by simp [ltK], fun x y z h1 h2 => ?_, fun x y z h1 h2 => ?_⟩
  · simp only [ltK, decide_eq_true_eq] at *; omega
  · simp only [ltK, decide_eq_false_iff_not] at *; omega

/-- What the closure answers, wherever nothing below B0 has turned since w0. -/
def PredD (B0 : Nat) (w0 : World) (cv : Value) (p : Vl → Bool) : Prop := ∀ W, RowKit.Below B0 w0 W → ∀ x1 x2 x3 : Int, Calls Tryz.prog 139 #[.agg #[.int .i64 x1, .int .i64 x2, .int .i64 x3], cv] W fun e w' => e = .returned (.bool (p (x1, x2, x3))) ∧ Gr W w'

set_option maxHeartbeats 2000000 in
set_option maxRecDepth 100000 in
theorem indexVD_call (B0 : Nat) (w0 : World) (cv : Value) (p : Vl → Bool) (hp : PredD B0 w0 cv p) (blk cap : Nat) (d : Array Vl) (w : World) (hH : HoldsK encV 3 w blk 0 d) (hblk : blk < w.heap.size) (hs : B0 ≤ w.heap.size) (hb0 : RowKit.Below B0 w0 w) (hsz : d.size ≤ 1000000) :
    Calls Tryz.prog 150 #[.slice (some ⟨blk, 0, none⟩) d.size cap, .func (.func 139) #[] #[cv]] w fun e w' => (∃ r : Int, e = .returned (.int .i64 r) ∧ ((r = -1 ∧ ∀ j, j < d.size → p d[j]! = false) ∨ ∃ k0, k0 < d.size ∧ r = (k0 : Int) ∧ p d[k0]! = true ∧ ∀ j, j < k0 → p d[j]! = false)) ∧ Gr w w' := by
  have HP := Lib.hid hp
  have HH := Lib.hid hH
  have HB := Lib.hid hb0
  clear hp hH hb0
  go_enter Tryz.func150, Tryz.ntmps150
  go_wp2
  go_loopg [8] d.size (fun gk s8 wr => ∃ k : Nat, s8 = .int .i64 k ∧ k ≤ d.size ∧ d.size - k ≤ gk ∧ Gr w wr ∧ Hid (∀ j, j < k → p d[j]! = false))
  case atStart => exact ⟨0, rfl, Nat.zero_le _, by omega, Gr.refl _, fun j hj => absurd hj (Nat.not_lt_zero _)⟩
  case round =>
    obtain ⟨k, rfl, hk, hgk, hg, I⟩ := hrel
    by_cases hkn : k < d.size
    · have hHr := hkBelow HH.out hblk hg.below
      obtain ⟨⟨c1, c2, c3⟩, _, _⟩ := at3 hHr hkn
      simp only [Nat.zero_add] at c1 c2 c3
      have HPr := Lib.hid (fun a b c => HP.out wr (HB.out.trans (hg.below.mono hs)) a b c)
      have HG := Lib.hid hg
      generalize hx : d[k]! = x at c1 c2 c3
      obtain ⟨x1, x2, x3⟩ := x
      dsimp only at c1 c2 c3
      have X := Lib.hid hx
      clear hHr hg hx
      cases hpx : p (x1, x2, x3)
      · have HPX := Lib.hid hpx
        go_wp2_with (first | (go_at_call 139; refine (HPr.out _ _ _).mono ?_; rintro e w1 ⟨rfl, hg1⟩) | (go_at_fn 139; refine (HPr.out _ _ _).mono ?_; rintro e w1 ⟨rfl, hg1⟩))
        go_roundg (d.size - (k + 1))
        case measure => omega
        case rel =>
          refine ⟨k + 1, by go_num, by omega, Nat.le_refl _, HG.out.trans hg1, (show Hid _ from fun j hj => ?_)⟩
          by_cases e : j = k
          · subst e; rw [X.out]; exact HPX.out
          · exact I.out j (by omega)
      · have HPX := Lib.hid hpx
        go_wp2_with (first | (go_at_call 139; refine (HPr.out _ _ _).mono ?_; rintro e w1 ⟨rfl, hg1⟩) | (go_at_fn 139; refine (HPr.out _ _ _).mono ?_; rintro e w1 ⟨rfl, hg1⟩))
        go_ret
        exact ⟨⟨_, rfl, .inr ⟨k, hkn, rfl, by rw [X.out]; exact HPX.out, I.out⟩⟩, HG.out.trans hg1⟩
    · have HG := Lib.hid hg
      clear hg
      go_wp2
      go_ret
      exact ⟨⟨-1, rfl, .inl ⟨rfl, fun j hj => I.out j (by omega)⟩⟩, HG.out⟩

/-- What wrong answers, wherever nothing below B0 has turned since w0. -/
def PredW (B0 : Nat) (w0 : World) (p : Vl → Bool) : Prop := ∀ W, RowKit.Below B0 w0 W → ∀ x1 x2 x3 : Int, Calls Tryz.prog 116 #[.agg #[.int .i64 x1, .int .i64 x2, .int .i64 x3]] W fun e w' => e = .returned (.bool (p (x1, x2, x3))) ∧ Gr W w'

set_option maxHeartbeats 2000000 in
set_option maxRecDepth 100000 in
theorem indexW_call (p : Vl → Bool) (l : List Vl) (v : Value) (w : World) (hp : PredW w.heap.size w p) (hl : Sl encV w v l) :
    Calls Tryz.prog 150 #[v, .func (.func 116) #[] #[]] w fun e w' => (∃ r : Int, e = .returned (.int .i64 r) ∧ (r ≥ 0 ↔ l.any p = true)) ∧ Gr w w' := by
  obtain ⟨pa, cap, rfl, hl1, hl2, hl3⟩ := hl
  have HL := Lib.hid hl3
  have HP := Lib.hid hp
  have hbig : l.length ≤ 9223372036854775807 := by unfold maxLen at hl2; omega
  clear hl3 hl2 hp
  go_enter Tryz.func150, Tryz.ntmps150
  go_wp2
  go_loopg [8] l.length (fun gk s8 wr => ∃ k : Nat, s8 = .int .i64 k ∧ k ≤ l.length ∧ l.length - k ≤ gk ∧ Gr w wr ∧ Hid (∀ j, j < k → p l[j]! = false))
  case atStart => exact ⟨0, rfl, Nat.zero_le _, by omega, Gr.refl _, fun j hj => absurd hj (Nat.not_lt_zero _)⟩
  case round =>
    obtain ⟨k, rfl, hk, hgk, hg, I⟩ := hrel
    by_cases hkn : k < l.length
    · obtain ⟨g, o, rfl, hg1, hg2⟩ := HL.out (by omega)
      obtain ⟨c1', c2', c3'⟩ := atV hg2 hkn
      have c1 : wr.cell? ⟨g, o + k * 3, none⟩ = _ := Bc hg.below hg1 c1'
      have c2 : wr.cell? ⟨g, o + k * 3 + 1, none⟩ = _ := Bc hg.below hg1 c2'
      have c3 : wr.cell? ⟨g, o + k * 3 + 2, none⟩ = _ := Bc hg.below hg1 c3'
      have HPr := Lib.hid (fun a b c => HP.out wr hg.below a b c)
      have HG := Lib.hid hg
      have hmem : l[k]! ∈ l := by rw [getElem!_pos l k hkn]; exact List.getElem_mem hkn
      generalize hx : l[k]! = x at c1 c2 c3 hmem
      obtain ⟨x1, x2, x3⟩ := x
      dsimp only at c1 c2 c3
      have X := Lib.hid hx
      have HM := Lib.hid hmem
      clear hg hx hmem c1' c2' c3' hg2
      cases hpx : p (x1, x2, x3)
      · have HPX := Lib.hid hpx
        go_wp2_with (first | (go_at_call 116; refine (HPr.out _ _ _).mono ?_; rintro e w1 ⟨rfl, hg1⟩) | (go_at_fn 116; refine (HPr.out _ _ _).mono ?_; rintro e w1 ⟨rfl, hg1⟩))
        go_roundg (l.length - (k + 1))
        case measure => omega
        case rel =>
          refine ⟨k + 1, by go_num, by omega, Nat.le_refl _, HG.out.trans hg1, (show Hid _ from fun j hj => ?_)⟩
          by_cases e : j = k
          · subst e; rw [X.out]; exact HPX.out
          · exact I.out j (by omega)
      · have HPX := Lib.hid hpx
        go_wp2_with (first | (go_at_call 116; refine (HPr.out _ _ _).mono ?_; rintro e w1 ⟨rfl, hg1⟩) | (go_at_fn 116; refine (HPr.out _ _ _).mono ?_; rintro e w1 ⟨rfl, hg1⟩))
        go_ret
        exact ⟨⟨_, rfl, ⟨fun _ => List.any_eq_true.2 ⟨_, HM.out, HPX.out⟩, fun _ => by omega⟩⟩, HG.out.trans hg1⟩
    · have HG := Lib.hid hg
      have HA := Lib.hid (show l.any p = false by
        rw [List.any_eq_false]
        intro x hx
        obtain ⟨j, hj, rfl⟩ := List.getElem_of_mem hx
        have := I.out j (by omega)
        rw [getElem!_pos l j hj] at this
        simpa using this)
      clear hg
      go_wp2
      go_ret
      exact ⟨⟨-1, rfl, ⟨fun h => absurd h (by omega), fun h => by rw [HA.out] at h; cases h⟩⟩, HG.out⟩

set_option maxHeartbeats 1000000 in
theorem containsV_call (p : Vl → Bool) (l : List Vl) (v : Value) (w : World) (hp : PredW w.heap.size w p) (hl : Sl encV w v l) :
    Calls Tryz.prog 115 #[v, .func (.func 116) #[] #[]] w fun e w' => e = .returned (.bool (l.any p)) ∧ Gr w w' := by
  have HI := Lib.hid (indexW_call p l v w hp hl)
  clear hp hl
  obtain ⟨q, hq⟩ : ∃ q, q = l.any p := ⟨_, rfl⟩
  rw [← hq] at HI ⊢
  clear hq
  go_enter Tryz.func115, Tryz.ntmps115
  go_wp2_with fail
  refine HI.out.mono ?_
  rintro e w1 ⟨⟨r, rfl, hr⟩, hg1⟩
  have HR := Lib.hid hr
  clear hr
  go_wp2
  go_ret
  refine ⟨ret_bool ?_, (by repeat (first | with_reducible exact Gr.refl _ | with_reducible assumption | with_reducible apply Gr.alloc | with_reducible apply Gr.drewN | with_reducible apply Gr.drew | with_reducible apply Gr.grow | (with_reducible refine Gr.trans ?_ (by assumption))))⟩
  have := HR.out
  cases q
  · simp at this; simp; omega
  · simp at this; simp; omega

set_option maxHeartbeats 4000000 in
set_option maxRecDepth 100000 in
theorem deleteVD_call (B0 : Nat) (w0 : World) (cv : Value) (p : Vl → Bool) (hp : PredD B0 w0 cv p) (blk cap : Nat) (d : Array Vl) (w : World) (hH : HoldsK encV 3 w blk 0 d) (hblk : blk < w.heap.size) (hBb : B0 ≤ blk) (hb0 : RowKit.Below B0 w0 w) (hsz : d.size ≤ 1000000) (hcap : d.size ≤ cap) (hcm : cap ≤ 9223372036854775807) :
    Calls Tryz.prog 137 #[.slice (some ⟨blk, 0, none⟩) d.size cap, .func (.func 139) #[] #[cv]] w fun e w' =>
      e = .returned (.slice (some ⟨blk, 0, none⟩) (d.toList.filter fun x => !p x).length cap) ∧ (∃ d' : Array Vl, d'.size = d.size ∧ (∀ j, j < (d.toList.filter fun x => !p x).length → (d.toList.filter fun x => !p x)[j]? = some d'[j]!) ∧ HoldsK encV 3 w' blk 0 d') ∧ w.heap.size ≤ w'.heap.size ∧ RowKit.Below B0 w0 w' ∧ Shp blk w w' := by
  have hI := indexVD_call B0 w0 cv p hp blk cap d w hH hblk (by omega) hb0 hsz
  obtain ⟨kp, HK⟩ : ∃ kp : Nat → Bool, Hid (kp = fun j => !p d[j]!) := ⟨_, rfl⟩
  have hfil : (d.toList.filter fun x => !p x) = keptUpTo kp d d.size := by rw [HK.out]; exact (keptUpTo_filter (fun x => !p x) d).symm
  rw [hfil]
  have HP := Lib.hid hp
  have HH := Lib.hid hH
  have HB := Lib.hid hb0
  have HI := Lib.hid hI
  clear hp hH hb0 hI hfil
  go_enter Tryz.func137, Tryz.ntmps137
  go_wp2_with fail
  refine HI.out.mono ?_
  rintro e w1 ⟨⟨r, rfl, hr⟩, hg1⟩
  have HH1 := Lib.hid (hkBelow HH.out hblk hg1.below)
  have HB1 := Lib.hid (HB.out.trans (hg1.below.mono (by omega)))
  have hs1 := hg1.below.size
  have SH1 := Lib.hid (Shp.below hg1.below hblk)
  clear hg1
  rcases hr with ⟨rfl, hall⟩ | ⟨k0, hk0, rfl, ht, hall⟩
  · have hkeep : ∀ j, j < d.size → kp j = true := fun j hj => by rw [HK.out]; show (!p d[j]!) = true; rw [hall j hj]; rfl
    have e3 := Lib.hid (show keptUpTo kp d d.size = d.toList by rw [keptUpTo_all kp d _ hkeep, range_map_get])
    clear hall hkeep
    go_wp2
    go_ret
    refine ⟨by rw [e3.out]; simp, ⟨d, rfl, fun j hj => ?_, HH1.out⟩, hs1, HB1.out, SH1.out⟩
    rw [e3.out] at hj ⊢
    have hj' : j < d.size := by simpa using hj
    rw [getElem!_pos d j hj']
    simp [hj']
  · have hkeep : ∀ j, j < k0 → kp j = true := fun j hj => by rw [HK.out]; show (!p d[j]!) = true; rw [hall j hj]; rfl
    have hdrop : kp k0 = false := by rw [HK.out]; show (!p d[k0]!) = false; rw [ht]; rfl
    have hne1 : ((k0 : Int) == -1) = false := beq_eq_false_iff_ne.2 (by omega)
    have HKE := Lib.hid hkeep
    have HDR := Lib.hid hdrop
    clear hkeep hdrop hall ht
    go_wp2_with fail
    go_loopg [5, 6] d.size (fun gg s5 s6 wr => ∃ (i j : Nat) (dk : Array Vl), s5 = .int .i64 i ∧ s6 = .int .i64 j ∧ j ≤ d.size ∧ d.size - j ≤ gg ∧ w.heap.size ≤ wr.heap.size ∧ RowKit.Below B0 w0 wr ∧ HoldsK encV 3 wr blk 0 dk ∧ Hid (Shp blk w wr) ∧ Hid (KeptInv kp d j i dk))
    case atStart => exact ⟨k0, k0 + 1, d, rfl, by go_num, by omega, by omega, hs1, HB1.out, HH1.out, SH1.out, KeptInv.start HKE.out HDR.out⟩
    case round =>
      obtain ⟨i, j, dk, rfl, rfl, hjd, hgg, hsw, hb, hHk, SHR, I2⟩ := hrel
      have hij := I2.out.lt
      have hds := I2.out.size
      have HB2 := Lib.hid hb
      have hblw : blk < wr.heap.size := by omega
      by_cases hlt : j < d.size
      · obtain ⟨⟨c1, c2, c3⟩, _, _⟩ := at3 hHk (show j < dk.size by omega)
        obtain ⟨⟨c5, c6, c7⟩, f5, f6, f7⟩ := at3 hHk (show i < dk.size by omega)
        rw [I2.out.high j (by omega)] at c1 c2 c3
        simp only [Nat.zero_add] at c1 c2 c3 c5 c6 c7 f5 f6 f7
        generalize hu : d[j]! = u at c1 c2 c3
        obtain ⟨u1, u2, u3⟩ := u
        dsimp only at c1 c2 c3
        have U := Lib.hid hu
        have HKD := Lib.hid hds
        have A3 := Lib.hid ((HB2.out).alloc (show B0 ≤ wr.heap.size by omega) (.cells #[.int .i64 u1, .int .i64 u2, .int .i64 u3] 34))
        have HK3 := Lib.hid (hkBelow hHk hblw (Ba (Below.refl _ wr) (.cells #[.int .i64 u1, .int .i64 u2, .int .i64 u3] 34)))
        have HPr := Lib.hid (fun a b c => HP.out _ A3.out a b c)
        have hne : blk ≠ wr.heap.size := by omega
        clear hu hHk hb hds c5 c6 c7 f5 f6 f7
        cases hq : p (u1, u2, u3)
        · have HQ := Lib.hid hq
          go_wp2_with (first | (go_at_call 139; refine (HPr.out _ _ _).mono ?_; rintro e w2 ⟨rfl, hg2⟩; have b2 := hg2.below; have HK4 := Lib.hid (hkBelow HK3.out (by simp; omega) b2); have k5 := at3 HK4.out (show i < dk.size by have := HKD.out; omega); simp only [Nat.zero_add] at k5; obtain ⟨⟨c5, c6, c7⟩, f5, f6, f7⟩ := k5; have d1 : w2.cell? ⟨wr.heap.size, 0, none⟩ = some (.int .i64 u1) := Bc b2 (by simp) (by simp); have d2 : w2.cell? ⟨wr.heap.size, 1, none⟩ = some (.int .i64 u2) := Bc b2 (by simp) (by simp); have d3 : w2.cell? ⟨wr.heap.size, 2, none⟩ = some (.int .i64 u3) := Bc b2 (by simp) (by simp); have hbl2 : blk < w2.heap.size := by have := b2.size; simp at this; omega) | (go_at_fn 139; refine (HPr.out _ _ _).mono ?_; rintro e w2 ⟨rfl, hg2⟩; have b2 := hg2.below; have HK4 := Lib.hid (hkBelow HK3.out (by simp; omega) b2); have k5 := at3 HK4.out (show i < dk.size by have := HKD.out; omega); simp only [Nat.zero_add] at k5; obtain ⟨⟨c5, c6, c7⟩, f5, f6, f7⟩ := k5; have d1 : w2.cell? ⟨wr.heap.size, 0, none⟩ = some (.int .i64 u1) := Bc b2 (by simp) (by simp); have d2 : w2.cell? ⟨wr.heap.size, 1, none⟩ = some (.int .i64 u2) := Bc b2 (by simp) (by simp); have d3 : w2.cell? ⟨wr.heap.size, 2, none⟩ = some (.int .i64 u3) := Bc b2 (by simp) (by simp); have hbl2 : blk < w2.heap.size := by have := b2.size; simp at this; omega))
          go_roundg (d.size - (j + 1))
          case measure => omega
          case rel =>
            have hb4 := A3.out.trans (b2.mono (show B0 ≤ (wr.alloc (.cells #[.int .i64 u1, .int .i64 u2, .int .i64 u3] 34)).heap.size by simp; omega))
            refine ⟨i + 1, j + 1, dk.setIfInBounds i (u1, u2, u3), by go_num, by go_num, by omega, Nat.le_refl _, ?_, ((hb4.setCell (p := ⟨blk, i * 3, none⟩) hBb _).setCell (p := ⟨blk, i * 3 + 1, none⟩) hBb _).setCell (p := ⟨blk, i * 3 + 2, none⟩) hBb _, ?_, (show Hid _ from ((((SHR.out.trans (Shp.below (Ba (Below.refl _ wr) _) hblw)).trans (Shp.below b2 (by simp; omega))).trans (Shp.set _ _ _ _)).trans (Shp.set _ _ _ _)).trans (Shp.set _ _ _ _)), (show Hid _ from ?_)⟩
            · have := b2.size
              simp [World.setCell] at this ⊢
              omega
            · have := set3 HK4.out (show i < dk.size by have := HKD.out; omega) (u1, u2, u3)
              simp only [Nat.zero_add] at this
              exact this
            · have := I2.out.keep hlt (by rw [HK.out]; show (!p d[j]!) = true; rw [U.out, HQ.out]; rfl)
              rwa [U.out] at this
        · have HQ := Lib.hid hq
          go_wp2_with (first | (go_at_call 139; refine (HPr.out _ _ _).mono ?_; rintro e w2 ⟨rfl, hg2⟩) | (go_at_fn 139; refine (HPr.out _ _ _).mono ?_; rintro e w2 ⟨rfl, hg2⟩))
          go_roundg (d.size - (j + 1))
          case measure => omega
          case rel =>
            have b2 := hg2.below
            refine ⟨i, j + 1, dk, rfl, by go_num, by omega, Nat.le_refl _, by have := b2.size; simp at this; omega, A3.out.trans (b2.mono (by simp; omega)), hkBelow HK3.out (by simp; omega) b2, (show Hid _ from (SHR.out.trans (Shp.below (Ba (Below.refl _ wr) _) hblw)).trans (Shp.below b2 (by simp; omega))), (show Hid _ from I2.out.skip (by rw [HK.out]; show (!p d[j]!) = false; rw [U.out, HQ.out]; rfl))⟩
      · have hjd' : j = d.size := by omega
        have hi2 : i < dk.size := by omega
        have hcl : ∀ ty, (Builtin.clear_ #[32] ty #[.slice (some ⟨blk, i * 3, none⟩) (d.size - i) (cap - i)]).run Tryz.prog wr = .ok (.tuple #[]) (wr.setCells blk (i * 3) (flat encV (List.replicate (d.size - i) (0, 0, 0)))) := fun ty => by
          have := clear_run lenV (by omega) oneV Tryz.prog (0, 0, 0) Tryz.underlying32 Tryz.zeroValue34 rfl hHk i hi2 (cap - i) ty
          rwa [Nat.zero_add, hds] at this
        obtain ⟨d', hs', hlow, hH'⟩ := HoldsK.lay lenV hHk (0, 0, 0) (d.size - i) i (by omega)
        rw [Nat.zero_add] at hH'
        have JD := Lib.hid hjd'
        have L := Lib.hid hlow
        have HH' := Lib.hid hH'
        have HKD := Lib.hid hds
        have HS' := Lib.hid hs'
        have hlt' : ¬ (j : Int) < (d.size : Int) := by omega
        clear hHk hb hjd' hlow hH' hds hs'
        go_wp2
        go_ret
        have hI2 := I2.out
        rw [JD.out] at hI2
        refine ⟨by rw [hI2.len]; rfl, ⟨d', by rw [HS'.out, HKD.out], fun t ht => ?_, HH'.out⟩, ?_, Below.setCells HB2.out hBb _ _, SHR.out.trans (Shp.sets _ _ _ _ _)⟩
        · rw [hI2.len] at ht
          rw [hI2.low t ht, L.out t ht]
        · exact Nat.le_trans hsw (Below.setCells (Below.refl 0 wr) (Nat.zero_le blk) _ _).size
end Go.Proofs.YtaehendpdfpibaaGreatDoor

/-
  slices.BinarySearchFunc at components.
-/
namespace Go.Proofs.YtaehendpdfpibaaGreatDoor
set_option linter.unusedSimpArgs false
set_option linter.unusedVariables false
open Go.RowKit Go.Sort Go.Lib Go.Shelf

theorem rise_atK {l : List Vl} (hr : RiseK l) {i j : Nat} (hij : i ≤ j) (hj : j < l.length) {k : Int} (h : ¬ l[i]!.1 < k) : ¬ l[j]!.1 < k := by
  by_cases e : i = j
  · subst e; exact h
  · have hl := List.pairwise_iff_getElem.1 hr i j (by omega) hj (by omega)
    rw [getElem!_pos l i (by omega)] at h
    rw [getElem!_pos l j hj]
    omega
theorem cmpV_agg (a b c d e f : Int) (w : World) : Calls Tryz.prog 123 #[.agg #[.int .i64 a, .int .i64 b, .int .i64 c], .agg #[.int .i64 d, .int .i64 e, .int .i64 f]] w fun x w' => x = .returned (.int .i64 (cmpV (a, b, c) (d, e, f))) ∧ Gr w w' := cmpV_call (a, b, c) (d, e, f) w
theorem cmp_negK {x y : Vl} : (x.1 < y.1 → cmpV x y < 0) ∧ (¬ x.1 < y.1 → ¬ cmpV x y < 0) := by
  have := cmpV_lt x y
  unfold ltK at this
  constructor
  · intro h; rw [decide_eq_true h] at this; exact of_decide_eq_true this
  · intro h; rw [decide_eq_false h] at this; exact of_decide_eq_false this

set_option maxHeartbeats 2000000 in
set_option maxRecDepth 100000 in
theorem searchV_call (l : List Vl) (v : Value) (x1 x2 x3 : Int) (w : World) (hl : Sl encV w v l) (hr : RiseK l) (hlen : l.length ≤ 100000) :
    Calls Tryz.prog 122 #[v, .agg #[.int .i64 x1, .int .i64 x2, .int .i64 x3], .func (.func 123) #[] #[]] w fun e w' => (∃ b, e = .returned (.tuple #[.int .i64 (lessK x1 l : Nat), .bool b])) ∧ Gr w w' := by
  obtain ⟨p, cap, rfl, h1, h2, h⟩ := hl
  have hcm : cap ≤ 9223372036854775807 := by unfold maxLen at h2; omega
  have HL := Lib.hid h
  have HR := Lib.hid hr
  clear h h2 hr
  have mixed : Tryz.prog.follows .mixedOrders = true := by kernel_rfl
  obtain ⟨R1, hR1⟩ : ∃ R1, R1 = lessK x1 l := ⟨_, rfl⟩
  rw [← hR1]
  have HR1 := Lib.hid hR1
  clear hR1
  go_enter Tryz.func122, Tryz.ntmps122
  go_wp2
  go_loopg [9, 10] l.length (fun kx s9 s10 wr => ∃ lo hi : Nat, s9 = .int .i64 lo ∧ s10 = .int .i64 hi ∧ lo ≤ hi ∧ hi ≤ l.length ∧ hi - lo ≤ kx ∧ Gr (w.alloc (.cells #[.int .i64 x1, .int .i64 x2, .int .i64 x3] 34)) wr ∧
    Hid ((∀ t, t < lo → l[t]!.1 < x1) ∧ (∀ t, hi ≤ t → t < l.length → ¬ l[t]!.1 < x1)))
  case atStart => exact ⟨0, l.length, rfl, rfl, Nat.zero_le _, Nat.le_refl _, by omega, (by repeat (first | with_reducible exact Gr.refl _ | with_reducible assumption | with_reducible apply Gr.alloc | with_reducible apply Gr.drewN | with_reducible apply Gr.drew | with_reducible apply Gr.grow | (with_reducible refine Gr.trans ?_ (by assumption)))), ⟨fun t ht => absurd ht (Nat.not_lt_zero _), fun t h1 h2 => by omega⟩⟩
  case round =>
    obtain ⟨lo, hi, rfl, rfl, hlh, hin, hgk, hg, I⟩ := hrel
    have hb1 := hg.below
    have hlw : w.heap.size < wr.heap.size := by have := hb1.size; simp at this; omega
    have d1 : wr.cell? ⟨w.heap.size, 0, none⟩ = some (.int .i64 x1) := (hb1.cell (p := ⟨w.heap.size, 0, none⟩) (by simp)).trans (by simp)
    have d2 : wr.cell? ⟨w.heap.size, 1, none⟩ = some (.int .i64 x2) := (hb1.cell (p := ⟨w.heap.size, 1, none⟩) (by simp)).trans (by simp)
    have d3 : wr.cell? ⟨w.heap.size, 2, none⟩ = some (.int .i64 x3) := (hb1.cell (p := ⟨w.heap.size, 2, none⟩) (by simp)).trans (by simp)
    have HG := Lib.hid hg
    have e3 := cell_grown (show (⟨w.heap.size, 0, none⟩ : Addr).block < wr.heap.size from hlw) d1
    have e4 := cell_grown (show (⟨w.heap.size, 1, none⟩ : Addr).block < wr.heap.size from hlw) d2
    have e5 := cell_grown (show (⟨w.heap.size, 2, none⟩ : Addr).block < wr.heap.size from hlw) d3
    have cat : ∀ i, i < l.length → ∃ g o, p = some ⟨g, o, none⟩ ∧ (wr.cell? ⟨g, o + i * 3, none⟩ = some (.int .i64 l[i]!.1) ∧ wr.cell? ⟨g, o + i * 3 + 1, none⟩ = some (.int .i64 l[i]!.2.1) ∧ wr.cell? ⟨g, o + i * 3 + 2, none⟩ = some (.int .i64 l[i]!.2.2)) ∧ g < wr.heap.size := fun i hi => by
      obtain ⟨g, o, rfl, hgl, hc⟩ := HL.out (by omega)
      obtain ⟨c1, c2, c3⟩ := atV hc hi
      have hbl : RowKit.Below w.heap.size w wr := Bt (Ba (Below.refl _ w) _) hb1
      exact ⟨g, o, rfl, ⟨Bc hbl hgl c1, Bc hbl hgl c2, Bc hbl hgl c3⟩, by omega⟩
    have CAT := Lib.hid cat
    clear cat hb1 hg
    by_cases hlt : lo < hi
    · obtain ⟨g, o, rfl, ⟨c1, c2, c3⟩, hgw⟩ := CAT.out ((lo + hi) / 2) (by omega)
      generalize hy : l[(lo + hi) / 2]! = y at c1 c2 c3
      obtain ⟨y1, y2, y3⟩ := y
      dsimp only at c1 c2 c3
      have Y := Lib.hid hy
      clear hy
      have i0 : (0 : Int) ≤ ((lo : Int) + (hi : Int)) / 2 := by omega
      have i1 : ((lo : Int) + (hi : Int)) / 2 < (l.length : Int) := by omega
      have i2 : (((lo : Int) + (hi : Int)) / 2).toNat = (lo + hi) / 2 := by omega
      have e1 := cell_grown (show (⟨g, o + (lo + hi) / 2 * 3, none⟩ : Addr).block < wr.heap.size from hgw) c1
      have e2 := cell_grown (show (⟨g, o + (lo + hi) / 2 * 3 + 1, none⟩ : Addr).block < wr.heap.size from hgw) c2
      have e6 := cell_grown (show (⟨g, o + (lo + hi) / 2 * 3 + 2, none⟩ : Addr).block < wr.heap.size from hgw) c3
      by_cases hb : y1 < x1
      · have hc := (cmp_negK (x := (y1, y2, y3)) (y := (x1, x2, x3))).1 hb
        have HBB := Lib.hid hb
        clear hb
        go_wp2_with fail
        go_quiet_grown (first | (go_at_call 123; refine Calls.grown_of (cmpV_agg _ _ _ _ _ _ _)) | (go_at_fn 123; refine Calls.grown_of (cmpV_agg _ _ _ _ _ _ _)))
        go_wp2
        go_roundg (hi - ((lo + hi) / 2 + 1))
        case measure => omega
        case rel =>
          refine ⟨(lo + hi) / 2 + 1, hi, by rw [show ((lo : Int) + (hi : Int)) / 2 + 1 = (((lo + hi) / 2 + 1 : Nat) : Int) by omega], rfl, by omega, hin, Nat.le_refl _, HG.out.drewN.grow, ⟨fun t ht => ?_, I.out.2⟩⟩
          by_cases e : l[t]!.1 < x1
          · exact e
          · have := rise_atK HR.out (show t ≤ (lo + hi) / 2 by omega) (show (lo + hi) / 2 < l.length by omega) e
            rw [Y.out] at this
            exact absurd HBB.out this
      · have hc := (cmp_negK (x := (y1, y2, y3)) (y := (x1, x2, x3))).2 hb
        have HBB := Lib.hid hb
        clear hb
        go_wp2_with fail
        go_quiet_grown (first | (go_at_call 123; refine Calls.grown_of (cmpV_agg _ _ _ _ _ _ _)) | (go_at_fn 123; refine Calls.grown_of (cmpV_agg _ _ _ _ _ _ _)))
        go_wp2
        go_roundg ((lo + hi) / 2 - lo)
        case measure => omega
        case rel => exact ⟨lo, (lo + hi) / 2, rfl, by rw [show ((lo : Int) + (hi : Int)) / 2 = (((lo + hi) / 2 : Nat) : Int) by omega], by omega, by omega, Nat.le_refl _, HG.out.drewN.grow, ⟨I.out.1, fun t ht htn => by have := rise_atK HR.out ht htn (k := x1) (by rw [Y.out]; have := HBB.out; dsimp only; omega); omega⟩⟩
    · obtain rfl : hi = lo := by omega
      have hh : lessK x1 l = hi := lessK_at hin I.out.1 (fun h => I.out.2 hi (Nat.le_refl _) h)
      have E1 := Lib.hid (show R1 = hi by rw [HR1.out, hh])
      clear hh
      by_cases hn : hi < l.length
      · obtain ⟨g, o, rfl, ⟨c1, c2, c3⟩, hgw⟩ := CAT.out hi hn
        generalize l[hi]! = y at c1 c2 c3
        obtain ⟨y1, y2, y3⟩ := y
        dsimp only at c1 c2 c3
        have e1 := cell_grown (show (⟨g, o + hi * 3, none⟩ : Addr).block < wr.heap.size from hgw) c1
        have e2 := cell_grown (show (⟨g, o + hi * 3 + 1, none⟩ : Addr).block < wr.heap.size from hgw) c2
        have e6 := cell_grown (show (⟨g, o + hi * 3 + 2, none⟩ : Addr).block < wr.heap.size from hgw) c3
        clear HR I
        go_wp2_with fail
        go_quiet_grown (first | (go_at_call 123; refine Calls.grown_of (cmpV_agg _ _ _ _ _ _ _)) | (go_at_fn 123; refine Calls.grown_of (cmpV_agg _ _ _ _ _ _ _)))
        go_wp2
        go_ret2
        exact ⟨⟨cmpV (y1, y2, y3) (x1, x2, x3) == 0, by rw [E1.out]; rfl⟩, (Gr.refl w).alloc _ |>.trans HG.out.drewN.grow⟩
      · have hz : ¬ (hi : Int) < (l.length : Int) := by omega
        clear e4 e5 HR I
        go_wp2_with fail
        go_region
        go_wp2
        go_ret2
        exact ⟨⟨false, by rw [E1.out]; rfl⟩, ((Gr.refl w).alloc _).trans HG.out.drew⟩
end Go.Proofs.YtaehendpdfpibaaGreatDoor
