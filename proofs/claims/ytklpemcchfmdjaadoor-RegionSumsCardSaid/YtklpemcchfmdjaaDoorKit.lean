/-
  Rows of handles, pairs and numbers in memory: what a slice holds, what the call owns; a world that has only grown.
-/
import Derived.Test.YtklpemcchfmdjaaDoorProg
import Derived.Test.YtklpemcchfmdjaaDoorSrt
import Derived.Shelf.SlSortCmp.KitK
import Derived.WalkKit
import Derived.WalkSpells
import Derived.WalkLawsBesides
import Derived.KernelRfl
import Derived.Deep.RegionHeld3
import Derived.Deep.QuietTactic
import Derived.Deep.AppendLies
import Derived.BigQuiet
import Derived.RegionTactic
import Derived.Lib.Hide
namespace Go.Proofs.YtklpemcchfmdjaaDoor
set_option linter.unusedSimpArgs false
set_option linter.unusedVariables false
open Go.RowKit Go.Sort Go.Lib Go.Shelf

/-! ### Steps of 'Below' from the heap's own size on. -/
theorem Bt {a w w' : World} (h : Below a.heap.size a w) (k : Below w.heap.size w w') : Below a.heap.size a w' := h.trans (k.mono h.size)
theorem Ba {a w : World} (h : Below a.heap.size a w) (o : Obj) : Below a.heap.size a (w.alloc o) := h.alloc h.size o
theorem Bd {a w : World} (h : Below a.heap.size a w) : Below a.heap.size a w.drew := h.drew
theorem Bn {a w : World} {n : Nat} (h : Below a.heap.size a w) : Below a.heap.size a (w.drewN n) := ⟨h.os, h.tape, h.output, h.size, h.block⟩
theorem Bs {a w : World} {p : Addr} (h : Below a.heap.size a w) (hp : a.heap.size ≤ p.block) (u : Value) : Below a.heap.size a (w.setCell p u) := h.setCell hp u
theorem Bg {a w : World} {os : Array Obj} (h : Below a.heap.size a w) : Below a.heap.size a (grow w os) :=
  ⟨h.os, h.tape, h.output, by rw [size_grow]; exact Nat.le_trans h.size (Nat.le_add_right _ _), fun k hk => (heap_grow_old w os (Nat.lt_of_lt_of_le hk h.size)).trans (h.block k hk)⟩
theorem cell_lt {w : World} {b o : Nat} {v : Value} (h : w.cell? ⟨b, o, none⟩ = some v) : b < w.heap.size := by
  rcases Nat.lt_or_ge b w.heap.size with h' | h'
  · exact h'
  · simp [World.cell?, Array.getElem?_eq_none h'] at h
theorem bcell {W w1 : World} (hb : Below W.heap.size W w1) : (∀ b o, b < W.heap.size → w1.cell? ⟨b, o, none⟩ = W.cell? ⟨b, o, none⟩) ∧ (∀ b o, b < W.heap.size → w1.frozen? ⟨b, o, none⟩ = W.frozen? ⟨b, o, none⟩) :=
  ⟨fun b o h => hb.cell (p := ⟨b, o, none⟩) h, fun b o h => hb.frozen (p := ⟨b, o, none⟩) h⟩
theorem Bc {W W1 : World} {b o : Nat} {v : Value} (hb : Below W.heap.size W W1) (hl : b < W.heap.size) (hc : W.cell? ⟨b, o, none⟩ = some v) : W1.cell? ⟨b, o, none⟩ = some v := (hb.cell (p := ⟨b, o, none⟩) hl).trans hc
theorem Bf {W W1 : World} {b o : Nat} {v : Bool} (hb : Below W.heap.size W W1) (hl : b < W.heap.size) (hc : W.frozen? ⟨b, o, none⟩ = v) : W1.frozen? ⟨b, o, none⟩ = v := (hb.frozen (p := ⟨b, o, none⟩) hl).trans hc
theorem Bl {W W1 : World} {b : Nat} (hb : Below W.heap.size W W1) (hl : b < W.heap.size) : b < W1.heap.size := Nat.lt_of_lt_of_le hl hb.size
theorem keep0 (W0 : World) : Below W0.heap.size W0 W0.drew ∧ ∀ b o, b < W0.heap.size → W0.drew.cell? ⟨b, o, none⟩ = W0.cell? ⟨b, o, none⟩ := ⟨Bd (Below.refl _ _), fun _ _ _ => rfl⟩
theorem keepB {W0 w1 w2 : World} (h : Below W0.heap.size W0 w1 ∧ ∀ b o, b < W0.heap.size → w1.cell? ⟨b, o, none⟩ = W0.cell? ⟨b, o, none⟩) (hb : Below w1.heap.size w1 w2) :
    Below W0.heap.size W0 w2 ∧ ∀ b o, b < W0.heap.size → w2.cell? ⟨b, o, none⟩ = W0.cell? ⟨b, o, none⟩ :=
  ⟨Bt h.1 hb, fun b o hl => (hb.cell (p := ⟨b, o, none⟩) (Bl h.1 hl)).trans (h.2 b o hl)⟩

/-! ### A world that has only grown. -/
def Gr (w w' : World) : Prop := ∃ q os, w' = grow (w.drewN q) os
theorem drewN_grow (w : World) (os : Array Obj) (q : Nat) : (grow w os).drewN q = grow (w.drewN q) os := rfl
theorem drewN_drewN (w : World) (p q : Nat) : (w.drewN p).drewN q = w.drewN (p + q) := by simp [World.drewN, Nat.add_assoc]
theorem Gr.refl (w : World) : Gr w w := ⟨0, #[], by rw [grow_empty]; rfl⟩
theorem Gr.alloc {a w : World} (h : Gr a w) (o : Obj) : Gr a (w.alloc o) := by
  obtain ⟨q, os, rfl⟩ := h
  exact ⟨q, _, by rw [alloc_eq_grow, grow_grow]⟩
theorem Gr.drewN {a w : World} (h : Gr a w) {n : Nat} : Gr a (w.drewN n) := by
  obtain ⟨q, os, rfl⟩ := h
  exact ⟨q + n, os, by rw [drewN_grow, drewN_drewN]⟩
theorem Gr.drew {a w : World} (h : Gr a w) : Gr a w.drew := h.drewN (n := 1)
theorem Gr.grow {a w : World} (h : Gr a w) {os : Array Obj} : Gr a (grow w os) := by
  obtain ⟨q, os, rfl⟩ := h
  exact ⟨q, _, by rw [grow_grow]⟩
theorem Gr.trans {a b c : World} (h : Gr a b) (k : Gr b c) : Gr a c := by
  obtain ⟨q, os, rfl⟩ := k
  exact (h.drewN).grow
theorem Gr.below {w w' : World} (h : Gr w w') : Below w.heap.size w w' := by
  obtain ⟨q, os, rfl⟩ := h
  exact Bg (Bn (Below.refl _ w))

/-- What a region that draws its order keeps where all that is called only grows the world. -/
theorem gkeep0 (W0 : World) : Gr W0 W0.drew ∧ ∀ b o, b < W0.heap.size → W0.drew.cell? ⟨b, o, none⟩ = W0.cell? ⟨b, o, none⟩ := ⟨(Gr.refl _).drew, fun _ _ _ => rfl⟩
theorem gkeepOf {W0 w' : World} (h : Gr W0 w') : Gr W0 w' ∧ ∀ b o, b < W0.heap.size → w'.cell? ⟨b, o, none⟩ = W0.cell? ⟨b, o, none⟩ := ⟨h, fun b o hl => h.below.cell (p := ⟨b, o, none⟩) hl⟩
theorem gkeepG {W0 w1 w2 : World} (h : Gr W0 w1 ∧ ∀ b o, b < W0.heap.size → w1.cell? ⟨b, o, none⟩ = W0.cell? ⟨b, o, none⟩) (g : Gr w1 w2) :
    Gr W0 w2 ∧ ∀ b o, b < W0.heap.size → w2.cell? ⟨b, o, none⟩ = W0.cell? ⟨b, o, none⟩ := gkeepOf (h.1.trans g)
theorem gkeepA {W0 w1 : World} (h : Gr W0 w1 ∧ ∀ b o, b < W0.heap.size → w1.cell? ⟨b, o, none⟩ = W0.cell? ⟨b, o, none⟩) (o1 : Obj) :
    Gr W0 (w1.alloc o1) ∧ ∀ b o, b < W0.heap.size → (w1.alloc o1).cell? ⟨b, o, none⟩ = W0.cell? ⟨b, o, none⟩ := gkeepOf (h.1.alloc o1)

/-! ### The elements' cells. -/
def encH (x : Hd) : List Value := [.int .i64 x.1, .int .i64 x.2]
def encP (p : Pr) : List Value := [.int .i64 p.1.1, .int .i64 p.1.2, .int .i64 p.2.1, .int .i64 p.2.2]
theorem lenH (x : Hd) : (encH x).length = 2 := rfl
theorem lenP (x : Pr) : (encP x).length = 4 := rfl
theorem oneH (x : Hd) : ∀ v ∈ encH x, v.oneCell' = true := fun v hv => by simp [encH] at hv; rcases hv with rfl | rfl <;> rfl
theorem oneP (x : Pr) : ∀ v ∈ encP x, v.oneCell' = true := fun v hv => by simp [encP] at hv; rcases hv with rfl | rfl | rfl | rfl <;> rfl

def encI (x : Int) : List Value := [.int .i64 x]
theorem lenI (x : Int) : (encI x).length = 1 := rfl
theorem oneI (x : Int) : ∀ v ∈ encI x, v.oneCell' = true := fun v hv => by simp [encI] at hv; subst hv; rfl

section
variable {α : Type} [Inhabited α] {enc : α → List Value} {k : Nat} {w w' : World} {b off : Nat}

theorem hkBelow {B : Nat} {d : Array α} (h : HoldsK enc k w b off d) (hb : b < B) (hB : Below B w w') : HoldsK enc k w' b off d := fun j hj =>
  ⟨(hB.cell (p := ⟨b, off + j, none⟩) hb).trans (h j hj).1, (hB.frozen (p := ⟨b, off + j, none⟩) hb).trans (h j hj).2⟩
theorem hkLt {d : Array α} (h : HoldsK enc k w b off d) (hk : 0 < k) (hd : 0 < d.size) : b < w.heap.size :=
  cell_lt (h 0 (by rw [size_flatK]; exact Nat.mul_pos hd hk)).1

theorem setMany_one (hk : ∀ x, (enc x).length = k) (d : Array α) (i : Nat) (hi : i < d.size) (x : α) : setMany (flatK enc k d) (i * k) (enc x) = flatK enc k (d.setIfInBounds i x) := by
  refine ext_get! (by simp) fun t ht => ?_
  have ht' : t < d.size * k := by simpa using ht
  have k0 : 0 < k := by
    rcases Nat.eq_zero_or_pos k with h | h
    · subst h; simp at ht'
    · exact h
  rw [get_setMany _ _ _ t (by simpa using ht'), get_flatK _ _ _ t ht', get_flatK _ _ _ t (by simpa using ht'), hk]
  by_cases a : t / k = i
  · rw [if_pos ((blk_iff k i t k0).2 a), a, getElem!_set_same d i x hi]
    congr 1
    subst a
    rw [Nat.mod_eq_sub_div_mul]
  · rw [if_neg (fun h => a ((blk_iff k i t k0).1 h)), getElem!_set_other d i (t / k) x a]

/-- A store of a whole element. -/
theorem hkSet {d : Array α} (h : HoldsK enc k w b off d) (hk : ∀ x, (enc x).length = k) {i : Nat} (hi : i < d.size) (x : α) : HoldsK enc k (w.setCells b (off + i * k) (enc x)) b off (d.setIfInBounds i x) := by
  have hb : i * k + k ≤ d.size * k := by
    have := Nat.mul_le_mul_right k (show i + 1 ≤ d.size from hi); rwa [Nat.add_mul, Nat.one_mul] at this
  have := holds_setCells_c (W := w) (blk := b) (off := off) (F := flatK enc k d) h (i * k) (enc x) (by rw [hk, size_flatK]; exact hb)
  rw [setMany_one hk d i hi x] at this
  exact this
theorem hkDrew {d : Array α} (h : HoldsK enc k w b off d) : HoldsK enc k w.drew b off d := h
theorem hkFar {d : Array α} (h : HoldsK enc k w b off d) {p : Addr} (hp : p.block ≠ b) (u : Value) : HoldsK enc k (w.setCell p u) b off d := fun j hj => by
  have e : (w.setCell p u).heap[b]? = w.heap[b]? := Below.heap_setCell w p u b (Ne.symm hp)
  exact ⟨(World.cell?_of_block (w := w) (a := ⟨b, off + j, none⟩) e).trans (h j hj).1, (World.frozen?_of_block (w := w) (a := ⟨b, off + j, none⟩) e).trans (h j hj).2⟩

/-- The cells of a list, one behind the other. -/
def flat (enc : α → List Value) (l : List α) : List Value := l.flatMap enc
omit [Inhabited α] in
theorem flat_len (hk : ∀ x, (enc x).length = k) : ∀ l : List α, (flat enc l).length = l.length * k
  | [] => by simp [flat]
  | x :: r => by
    have := flat_len hk r
    simp only [flat, List.flatMap_cons, List.length_append, hk, List.length_cons] at this ⊢
    rw [this, Nat.add_mul]
    omega
theorem flat_get (hk : ∀ x, (enc x).length = k) : ∀ (l : List α) (i c : Nat), i < l.length → c < k → (flat enc l)[i * k + c]? = (enc l[i]!)[c]?
  | [], _, _, h, _ => absurd h (Nat.not_lt_zero _)
  | x :: r, 0, c, _, hc => by
    simp only [flat, List.flatMap_cons, Nat.zero_mul, Nat.zero_add]
    rw [List.getElem?_append_left (by rw [hk]; exact hc)]
    simp
  | x :: r, i + 1, c, h, hc => by
    have ih := flat_get hk r i c (by simpa using h) hc
    simp only [flat, List.flatMap_cons] at ih ⊢
    rw [List.getElem?_append_right (by rw [hk, Nat.add_mul]; omega), hk, show (i + 1) * k + c - k = i * k + c by rw [Nat.add_mul]; omega, ih]
    simp
omit [Inhabited α] in
theorem flat_one (h1 : ∀ x, ∀ v ∈ enc x, v.oneCell' = true) (l : List α) : ∀ u ∈ flat enc l, u.oneCell' = true := fun u hu => by
  obtain ⟨x, _, hx⟩ := List.mem_flatMap.1 hu
  exact h1 x u hx
omit [Inhabited α] in
theorem flat_append (a c : List α) : flat enc (a ++ c) = flat enc a ++ flat enc c := by simp [flat]
omit [Inhabited α] in
theorem flat_take (hk : ∀ x, (enc x).length = k) : ∀ (l : List α) (n : Nat), (flat enc l).take (n * k) = flat enc (l.take n)
  | [], n => by simp [flat]
  | x :: r, 0 => by simp [flat]
  | x :: r, n + 1 => by
    have ih := flat_take hk r n
    simp only [flat, List.flatMap_cons, List.take_succ_cons] at ih ⊢
    rw [List.take_append, hk, show (n + 1) * k - k = n * k by rw [Nat.add_mul]; omega, ih, List.take_of_length_le (by rw [hk, Nat.add_mul]; omega)]
omit [Inhabited α] in
theorem flat_drop (hk : ∀ x, (enc x).length = k) : ∀ (l : List α) (n : Nat), (flat enc l).drop (n * k) = flat enc (l.drop n)
  | [], n => by simp [flat]
  | x :: r, 0 => by simp [flat]
  | x :: r, n + 1 => by
    have ih := flat_drop hk r n
    simp only [flat, List.flatMap_cons, List.drop_succ_cons] at ih ⊢
    rw [List.drop_append, hk, show (n + 1) * k - k = n * k by rw [Nat.add_mul]; omega, ih, List.drop_of_length_le (by rw [hk, Nat.add_mul]; omega), List.nil_append]

theorem arr_get (l : List α) (i : Nat) : l.toArray[i]! = l[i]! := by simp

/-- The row holds a list: out of its cells. -/
theorem holds_of_flat (hk : ∀ x, (enc x).length = k) {l : List α} (h : ∀ j u, (flat enc l)[j]? = some u → w.cell? ⟨b, off + j, none⟩ = some u ∧ w.frozen? ⟨b, off + j, none⟩ = false) : HoldsK enc k w b off l.toArray := fun j hj => by
  have hj' : j < l.length * k := by simpa using hj
  have k0 : 0 < k := by
    rcases Nat.eq_zero_or_pos k with e | e
    · subst e; simp at hj'
    · exact e
  have hq : j / k < l.length := Nat.div_lt_of_lt_mul (by rw [Nat.mul_comm]; exact hj')
  have hm : j % k < k := Nat.mod_lt _ k0
  have e : j / k * k + j % k = j := by rw [Nat.mul_comm]; exact Nat.div_add_mod j k
  have g := flat_get hk l (j / k) (j % k) hq hm
  rw [e, List.getElem?_eq_getElem (l := enc l[j / k]!) (by rw [hk]; exact hm)] at g
  have := h j _ g
  rw [get_flatK _ _ _ j (by simpa using hj'), arr_get, getElem!_pos (enc l[j / k]!) (j % k) (by rw [hk]; exact hm)]
  exact this
theorem flat_of_holds (hk : ∀ x, (enc x).length = k) {l : List α} (h : HoldsK enc k w b off l.toArray) : ∀ j u, (flat enc l)[j]? = some u → w.cell? ⟨b, off + j, none⟩ = some u ∧ w.frozen? ⟨b, off + j, none⟩ = false := fun j u hu => by
  have hj' : j < l.length * k := by rw [← flat_len hk]; exact (List.getElem?_eq_some_iff.1 hu).1
  have k0 : 0 < k := by
    rcases Nat.eq_zero_or_pos k with e | e
    · subst e; simp at hj'
    · exact e
  have hq : j / k < l.length := Nat.div_lt_of_lt_mul (by rw [Nat.mul_comm]; exact hj')
  have hm : j % k < k := Nat.mod_lt _ k0
  have e : j / k * k + j % k = j := by rw [Nat.mul_comm]; exact Nat.div_add_mod j k
  have g := flat_get hk l (j / k) (j % k) hq hm
  rw [e, hu, List.getElem?_eq_getElem (by rw [hk]; exact hm)] at g
  have := h j (by simpa using hj')
  rw [get_flatK _ _ _ j (by simpa using hj'), arr_get, getElem!_pos (enc l[j / k]!) (j % k) (by rw [hk]; exact hm)] at this
  rw [Option.some.inj g]
  exact this

/-- A SLICE THAT HOLDS THE LIST l (to be read). -/
def Sl (enc : α → List Value) (w : World) (v : Value) (l : List α) : Prop :=
  ∃ p cap, v = .slice p l.length cap ∧ l.length ≤ cap ∧ cap ≤ maxLen ∧ (0 < l.length → ∃ g o, p = some ⟨g, o, none⟩ ∧ g < w.heap.size ∧ ∀ j u, (flat enc l)[j]? = some u → w.cell? ⟨g, o + j, none⟩ = some u)
/-- A SLICE OF THE CALL's OWN, from block 'base' on, that holds the list l, and may be written. -/
def Own (base : Nat) (enc : α → List Value) (k : Nat) (w : World) (v : Value) (l : List α) : Prop :=
  ∃ p cap, v = .slice p l.length cap ∧ l.length ≤ cap ∧ cap ≤ maxLen ∧ (0 < l.length → ∃ g, p = some ⟨g, 0, none⟩ ∧ base ≤ g ∧ g < w.heap.size ∧ HoldsK enc k w g 0 l.toArray)

omit [Inhabited α] in
theorem Sl.below {v : Value} {l : List α} (h : Sl enc w v l) (hB : Below w.heap.size w w') : Sl enc w' v l := by
  obtain ⟨p, cap, rfl, h1, h2, h⟩ := h
  refine ⟨p, cap, rfl, h1, h2, fun hl => ?_⟩
  obtain ⟨g, o, rfl, h3, h4⟩ := h hl
  exact ⟨g, o, rfl, Bl hB h3, fun j u hu => Bc hB h3 (h4 j u hu)⟩
theorem Own.below {base : Nat} {v : Value} {l : List α} (h : Own base enc k w v l) (hB : Below w.heap.size w w') : Own base enc k w' v l := by
  obtain ⟨p, cap, rfl, h1, h2, h⟩ := h
  refine ⟨p, cap, rfl, h1, h2, fun hl => ?_⟩
  obtain ⟨g, rfl, h3, h4, h5⟩ := h hl
  exact ⟨g, rfl, h3, Bl hB h4, hkBelow h5 h4 hB⟩
theorem Own.mono {base base' : Nat} {v : Value} {l : List α} (h : Own base enc k w v l) (hb : base' ≤ base) : Own base' enc k w v l := by
  obtain ⟨p, cap, rfl, h1, h2, h⟩ := h
  refine ⟨p, cap, rfl, h1, h2, fun hl => ?_⟩
  obtain ⟨g, rfl, h3, h4⟩ := h hl
  exact ⟨g, rfl, by omega, h4⟩
theorem Own.sl {base : Nat} (hk : ∀ x, (enc x).length = k) {v : Value} {l : List α} (h : Own base enc k w v l) : Sl enc w v l := by
  obtain ⟨p, cap, rfl, h1, h2, h⟩ := h
  refine ⟨p, cap, rfl, h1, h2, fun hl => ?_⟩
  obtain ⟨g, rfl, h3, h4, h5⟩ := h hl
  exact ⟨g, 0, rfl, h4, fun j u hu => (flat_of_holds hk h5 j u hu).1⟩
omit [Inhabited α] in
theorem Sl.nil (p : Option Addr) (cap : Nat) (h : cap ≤ maxLen) : Sl enc w (.slice p 0 cap) ([] : List α) := ⟨p, cap, rfl, Nat.zero_le _, h, fun h => absurd h (Nat.lt_irrefl _)⟩
/-- What append owns is the call's own. -/
theorem own_of_row {base : Nat} {e : TypeId} (hk : ∀ x, (enc x).length = k) {v : Value} {n : Nat} {l : List α} (h : w.ownsRow base e k v n (flat enc l)) (hn : n = l.length) : Own base enc k w v l := by
  subst hn
  obtain ⟨_, h⟩ := h
  rcases h with ⟨rfl, h⟩ | ⟨g, cap, cur, rfl, hb, hh, hc, hm, hs, ht⟩
  · have hl : l = [] := List.length_eq_zero_iff.1 h
    subst hl
    exact ⟨none, 0, rfl, Nat.le_refl _, Nat.zero_le _, fun h => absurd h (Nat.lt_irrefl _)⟩
  · have hg : g < w.heap.size := by
      rcases Nat.lt_or_ge g w.heap.size with h' | h'
      · exact h'
      · rw [Array.getElem?_eq_none h'] at hh; cases hh
    refine ⟨_, cap, rfl, hc, hm, fun _ => ⟨g, rfl, hb, hg, holds_of_flat hk fun j u hu => ?_⟩⟩
    have hj : j < l.length * k := by rw [← flat_len hk]; exact (List.getElem?_eq_some_iff.1 hu).1
    rw [← ht, List.getElem?_take, if_pos hj] at hu
    refine ⟨?_, ?_⟩
    · simp only [World.cell?, hh, Nat.zero_add]
      simpa using hu
    · simp [World.frozen?, hh]
/-- What is owned by the append's words, from a base on, stays so. -/
theorem row_below {base : Nat} {e : TypeId} {v : Value} {n : Nat} {xs : List Value} (h : w.ownsRow base e k v n xs) (hB : Below w.heap.size w w') : w'.ownsRow base e k v n xs := by
  obtain ⟨h0, h⟩ := h
  refine ⟨h0, ?_⟩
  rcases h with h | ⟨g, cap, cur, rfl, hb, hh, r⟩
  · exact .inl h
  · have hg : g < w.heap.size := by
      rcases Nat.lt_or_ge g w.heap.size with h' | h'
      · exact h'
      · rw [Array.getElem?_eq_none h'] at hh; cases hh
    exact .inr ⟨g, cap, cur, rfl, hb, (hB.block g hg).trans hh, r⟩
theorem row_mono {base base' : Nat} {e : TypeId} {v : Value} {n : Nat} {xs : List Value} (h : w.ownsRow base e k v n xs) (hb : base' ≤ base) : w.ownsRow base' e k v n xs := by
  obtain ⟨h0, h⟩ := h
  refine ⟨h0, ?_⟩
  rcases h with h | ⟨g, cap, cur, rfl, hg, r⟩
  · exact .inl h
  · exact .inr ⟨g, cap, cur, rfl, by omega, r⟩

/-- A list's element out of a slice's cells. -/
theorem sl_at (hk : ∀ x, (enc x).length = k) {l : List α} {g o : Nat} (h : ∀ j u, (flat enc l)[j]? = some u → w.cell? ⟨g, o + j, none⟩ = some u) {i : Nat} (hi : i < l.length) : ∀ c u, (enc l[i]!)[c]? = some u → w.cell? ⟨g, o + i * k + c, none⟩ = some u := fun c u hu => by
  have hc : c < k := by have := (List.getElem?_eq_some_iff.1 hu).1; rwa [hk] at this
  rw [Nat.add_assoc]
  exact h _ u ((flat_get hk l i c hi hc).trans hu)
end

theorem atH {w : World} {l : List Hd} {g o : Nat} (h : ∀ j u, (flat encH l)[j]? = some u → w.cell? ⟨g, o + j, none⟩ = some u) {i : Nat} (hi : i < l.length) :
    w.cell? ⟨g, o + i * 2, none⟩ = some (.int .i64 l[i]!.1) ∧ w.cell? ⟨g, o + i * 2 + 1, none⟩ = some (.int .i64 l[i]!.2) :=
  ⟨sl_at lenH h hi 0 _ rfl, sl_at lenH h hi 1 _ rfl⟩
theorem atP {w : World} {l : List Pr} {g o : Nat} (h : ∀ j u, (flat encP l)[j]? = some u → w.cell? ⟨g, o + j, none⟩ = some u) {i : Nat} (hi : i < l.length) :
    w.cell? ⟨g, o + i * 4, none⟩ = some (.int .i64 l[i]!.1.1) ∧ w.cell? ⟨g, o + i * 4 + 1, none⟩ = some (.int .i64 l[i]!.1.2) ∧ w.cell? ⟨g, o + i * 4 + 2, none⟩ = some (.int .i64 l[i]!.2.1) ∧ w.cell? ⟨g, o + i * 4 + 3, none⟩ = some (.int .i64 l[i]!.2.2) :=
  ⟨sl_at lenP h hi 0 _ rfl, sl_at lenP h hi 1 _ rfl, sl_at lenP h hi 2 _ rfl, sl_at lenP h hi 3 _ rfl⟩

theorem atI {w : World} {l : List Int} {g o : Nat} (h : ∀ j u, (flat encI l)[j]? = some u → w.cell? ⟨g, o + j, none⟩ = some u) {i : Nat} (hi : i < l.length) :
    w.cell? ⟨g, o + i, none⟩ = some (.int .i64 l[i]!) := by
  have := sl_at lenI h hi 0 _ rfl
  rwa [Nat.mul_one] at this
theorem holdsI {w : World} {b off : Nat} {d : Array Int} : HoldsK encI 1 w b off d ↔ Holds (Value.int .i64) w b off d := by
  constructor
  · intro h i hi
    have := Go.Sort.HoldsK.cell h hi (show 0 < 1 by omega)
    simpa [encI] using this
  · intro h j hj
    have hj' : j < d.size := by simpa using hj
    have := h j hj'
    rw [get_flatK _ _ _ j (by simpa using hj')]
    simpa [encI, Nat.mod_one] using this

end Go.Proofs.YtklpemcchfmdjaaDoor
