/-
  A table in memory: its block, its map of columns, its columns; rows of a mask's kinds.
-/
import Derived.Test.YtknfmjjlfhfocaaDoorCV
import Derived.Test.YtknfmjjlfhfocaaDoorCH
import Derived.Test.YtknfmjjlfhfocaaDoorMpp
import Derived.Test.YtknfmjjlfhfocaaDoorKn
namespace Go.Proofs.YtknfmjjlfhfocaaDoor
set_option linter.unusedSimpArgs false
set_option linter.unusedVariables false
open Go.RowKit Go.Sort Go.Lib Go.Shelf

abbrev ColHT (w : World) (M : Nat → Prop) (pa : Nat) (L : List Hd) (m : Int) : Prop := ColAt encH 38 2 111 w M pa L m
abbrev ColVT (w : World) (M : Nat → Prop) (pa : Nat) (L : List Vl) (m : Int) : Prop := ColAt encV 41 3 109 w M pa L m

theorem far3_tch (w : World) (b : Nat) (u1 u2 u3 : Value) : Tch (fun x => x = b) w (((w.setCell ⟨b, 0, none⟩ u1).setCell ⟨b, 1, none⟩ u2).setCell ⟨b, 2, none⟩ u3) :=
  ((Tch.set (M := fun x => x = b) (p := ⟨b, 0, none⟩) w rfl u1).more (Tch.set (M := fun x => x = b) (p := ⟨b, 1, none⟩) _ rfl u2)).more (Tch.set (M := fun x => x = b) (p := ⟨b, 2, none⟩) _ rfl u3)
/-- A slice that holds the list l, in a block of N (to be read). -/
def SlN {α : Type} (N : Nat → Prop) (enc : α → List Value) (w : World) (v : Value) (l : List α) : Prop :=
  ∃ p cap, v = .slice p l.length cap ∧ l.length ≤ cap ∧ cap ≤ maxLen ∧ (0 < l.length → ∃ g o, p = some ⟨g, o, none⟩ ∧ g < w.heap.size ∧ N g ∧ ∀ j u, (flat enc l)[j]? = some u → w.cell? ⟨g, o + j, none⟩ = some u)
section
variable {α : Type} {enc : α → List Value} {N N' X : Nat → Prop} {w w' : World} {v : Value} {l : List α}
theorem SlN.sl (h : SlN N enc w v l) : Sl enc w v l := by
  obtain ⟨p, cap, rfl, h1, h2, h⟩ := h
  exact ⟨p, cap, rfl, h1, h2, fun hl => by obtain ⟨g, o, e, h3, _, h4⟩ := h hl; exact ⟨g, o, e, h3, h4⟩⟩
theorem SlN.kept (h : SlN N enc w v l) (t : Tch X w w') (hd : ∀ b, N b → ¬ X b) : SlN N enc w' v l := by
  obtain ⟨p, cap, rfl, h1, h2, h⟩ := h
  exact ⟨p, cap, rfl, h1, h2, fun hl => by
    obtain ⟨g, o, e, h3, h5, h4⟩ := h hl
    exact ⟨g, o, e, Nat.lt_of_lt_of_le h3 t.size, h5, fun j u hu => t.cell h3 (hd g h5) (h4 j u hu)⟩⟩
theorem SlN.below (h : SlN N enc w v l) (t : RowKit.Below w.heap.size w w') : SlN N enc w' v l := h.kept (X := fun _ => False) (Tch.of t) (fun _ _ e => e)
theorem SlN.mono (h : SlN N enc w v l) (hN : ∀ b, N b → N' b) : SlN N' enc w v l := by
  obtain ⟨p, cap, rfl, h1, h2, h⟩ := h
  exact ⟨p, cap, rfl, h1, h2, fun hl => by obtain ⟨g, o, e, h3, h5, h4⟩ := h hl; exact ⟨g, o, e, h3, hN g h5, h4⟩⟩
theorem SlN.nil (p : Option Addr) (cap : Nat) (h : cap ≤ maxLen) : SlN N enc w (.slice p 0 cap) ([] : List α) := ⟨p, cap, rfl, Nat.zero_le _, h, fun h => absurd h (Nat.lt_irrefl _)⟩
theorem SlN.of [Inhabited α] {base k et : Nat} (hk : ∀ x, (enc x).length = k) {n : Nat} (h : w.ownsRow base et k v n (flat enc l)) (hn : n = l.length) : SlN (fun b => base ≤ b) enc w v l := by
  obtain ⟨p, cap, rfl, h1, h2, hh⟩ := own_of_row hk h hn
  exact ⟨p, cap, rfl, h1, h2, fun hl => by
    obtain ⟨g, rfl, h3, h4, h5⟩ := hh hl
    exact ⟨g, 0, rfl, h4, h3, fun j u hu => (flat_of_holds hk h5 j u hu).1⟩⟩
/-- What is read out of blocks that are older than a world is not in its new blocks, and so on. -/
theorem Sl.slN (h : Sl enc w v l) : SlN (fun b => b < w.heap.size) enc w v l := by
  obtain ⟨p, cap, rfl, h1, h2, h⟩ := h
  exact ⟨p, cap, rfl, h1, h2, fun hl => by obtain ⟨g, o, e, h3, h4⟩ := h hl; exact ⟨g, o, e, h3, h3, h4⟩⟩
end
/-- At pt is a table of mask q: its handles' column at ph, its map at pm, the column of kind k where f leads; in the blocks M. -/
def TabM (w : World) (M : Nat → Prop) (pt ph pm q : Nat) (f : Int → Option Nat) (H : List Hd) (C : Int → List Vl) : Prop :=
  ∃ (MH : Nat → Prop) (MC : Int → Nat → Prop),
    w.heap[pt]? = some (.cells #[.pointer (some ⟨ph, 0, none⟩), .map (some pm), .int .u64 q] 90 (0, 0)) ∧ MapP w pm 64 f ∧
    ColHT w MH ph H 128 ∧ (∀ k g, f k = some g → ColVT w (MC k) g (C k) 128) ∧
    (∀ b, MH b → M b ∧ b ≠ pt ∧ b ≠ pm ∧ ∀ k, ¬ MC k b) ∧ (∀ k b, MC k b → M b ∧ b ≠ pt ∧ b ≠ pm ∧ ¬ MH b ∧ ∀ k', MC k' b → k' = k) ∧
    M pt ∧ M pm ∧ ∀ b, M b → b < w.heap.size

section
variable {w w' : World} {M X : Nat → Prop} {pt ph pm q : Nat} {f : Int → Option Nat} {H H' : List Hd} {C C' : Int → List Vl}
theorem TabM.head (h : TabM w M pt ph pm q f H C) : w.heap[pt]? = some (.cells #[.pointer (some ⟨ph, 0, none⟩), .map (some pm), .int .u64 q] 90 (0, 0)) := by
  obtain ⟨MH, MC, h1, _⟩ := h
  exact h1
theorem TabM.map (h : TabM w M pt ph pm q f H C) : MapP w pm 64 f := by
  obtain ⟨MH, MC, _, h1, _⟩ := h
  exact h1
theorem TabM.handles (h : TabM w M pt ph pm q f H C) : ∃ MH, ColHT w MH ph H 128 := by
  obtain ⟨MH, MC, _, _, h1, _⟩ := h
  exact ⟨MH, h1⟩
theorem TabM.col (h : TabM w M pt ph pm q f H C) {k : Int} {g : Nat} (hk : f k = some g) : ∃ MC, ColVT w MC g (C k) 128 := by
  obtain ⟨MH, MC, _, _, _, h1, _⟩ := h
  exact ⟨MC k, h1 k g hk⟩
theorem TabM.lt (h : TabM w M pt ph pm q f H C) : ∀ b, M b → b < w.heap.size := by
  obtain ⟨MH, MC, _, _, _, _, _, _, _, _, h1⟩ := h
  exact h1
theorem TabM.mt (h : TabM w M pt ph pm q f H C) : M pt := by
  obtain ⟨MH, MC, _, _, _, _, _, _, h1, _⟩ := h
  exact h1
theorem TabM.mm (h : TabM w M pt ph pm q f H C) : M pm := by
  obtain ⟨MH, MC, _, _, _, _, _, _, _, h1, _⟩ := h
  exact h1
/-- A change elsewhere. -/
theorem TabM.kept (h : TabM w M pt ph pm q f H C) (t : Tch X w w') (hd : ∀ b, M b → ¬ X b) : TabM w' M pt ph pm q f H C := by
  obtain ⟨MH, MC, h1, h2, h3, h4, h5, h6, h7, h8, h9⟩ := h
  exact ⟨MH, MC, t.blk h1 (hd _ h7), h2.blk (t.block pm h2.lt (hd _ h8)), h3.kept t (fun b e => hd b (h5 b e).1), fun k g e => (h4 k g e).kept t (fun b e => hd b (h6 k b e).1), h5, h6, h7, h8, fun b e => Nat.lt_of_lt_of_le (h9 b e) t.size⟩
theorem TabM.below (h : TabM w M pt ph pm q f H C) (t : RowKit.Below w.heap.size w w') : TabM w' M pt ph pm q f H C := h.kept (X := fun _ => False) (Tch.of t) (fun _ _ e => e)
theorem TabM.congr (h : TabM w M pt ph pm q f H C) (eH : H = H') (eC : ∀ k, (f k).isSome = true → C k = C' k) : TabM w M pt ph pm q f H' C' := by
  obtain ⟨MH, MC, h1, h2, h3, h4, h5, h6, h7⟩ := h
  exact ⟨MH, MC, h1, h2, eH ▸ h3, fun k g e => by rw [← eC k (by rw [e]; rfl)]; exact h4 k g e, h5, h6, h7⟩
theorem New.lt (h : ∀ b, M b → b < w.heap.size) (hs : w.heap.size ≤ w'.heap.size) : ∀ b, New M w w' b → b < w'.heap.size := fun b e => e.elim (fun e => Nat.lt_of_lt_of_le (h b e) hs) (fun e => e.2)
/-- The table's blocks that its calls write. -/
def Mc (M : Nat → Prop) (pt pm : Nat) : Nat → Prop := fun b => M b ∧ b ≠ pt ∧ b ≠ pm
theorem Mc.of {M : Nat → Prop} {pt pm : Nat} : ∀ b, Mc M pt pm b → M b := fun b e => e.1
theorem TabM.mono {M' : Nat → Prop} (h : TabM w M pt ph pm q f H C) (hM : ∀ b, M b → M' b) (hl : ∀ b, M' b → b < w.heap.size) : TabM w M' pt ph pm q f H C := by
  obtain ⟨MH, MC, h1, h2, h3, h4, h5, h6, h7, h8, h9⟩ := h
  exact ⟨MH, MC, h1, h2, h3, h4, fun b e => ⟨hM b (h5 b e).1, (h5 b e).2⟩, fun k b e => ⟨hM b (h6 k b e).1, (h6 k b e).2⟩, hM _ h7, hM _ h8, hl⟩
/-- The handles' column is asked. -/
theorem TabM.askH (h : TabM w M pt ph pm q f H C) {P : Ending → Prop} {fn : FuncId} {args : Array Value}
    (hc : ∀ MH, ColHT w MH ph H 128 → Calls Tryd.prog fn args w fun e w' => P e ∧ ColHT w' (New MH w w') ph H' 128 ∧ Tch MH w w') :
    Calls Tryd.prog fn args w fun e w' => P e ∧ TabM w' (New M w w') pt ph pm q f H' C ∧ Tch (Mc M pt pm) w w' := by
  obtain ⟨MH, MC, h1, h2, h3, h4, h5, h6, h7, h8, h9⟩ := h
  refine (hc _ h3).mono fun e w' ⟨he, hp, ht⟩ => ⟨he, ⟨New MH w w', MC, ht.blk h1 (fun e => (h5 _ e).2.1 rfl), h2.blk (ht.block pm h2.lt (fun e => (h5 _ e).2.2.1 rfl)), hp, fun k g e => (h4 k g e).kept ht (fun b e1 e2 => (h6 k b e1).2.2.2.1 e2), fun b e => ?_, fun k b e => ?_, .inl h7, .inl h8, New.lt h9 ht.size⟩, ht.mono fun b e => ⟨(h5 b e).1, (h5 b e).2.1, (h5 b e).2.2.1⟩⟩
  · rcases e with e | e
    · exact ⟨.inl (h5 b e).1, (h5 b e).2⟩
    · exact ⟨.inr e, fun q => by have := h9 _ h7; omega, fun q => by have := h9 _ h8; omega, fun k q => by have := h9 _ (h6 k b q).1; omega⟩
  · refine ⟨.inl (h6 k b e).1, (h6 k b e).2.1, (h6 k b e).2.2.1, fun q => ?_, (h6 k b e).2.2.2.2⟩
    rcases q with q | q
    · exact (h6 k b e).2.2.2.1 q
    · have := h9 _ (h6 k b e).1; omega
/-- The column of a kind is asked. -/
theorem TabM.askC (h : TabM w M pt ph pm q f H C) {k : Int} {g : Nat} (hk : f k = some g) {L' : List Vl} {P : Ending → Prop} {fn : FuncId} {args : Array Value}
    (hc : ∀ MC, ColVT w MC g (C k) 128 → Calls Tryd.prog fn args w fun e w' => P e ∧ ColVT w' (New MC w w') g L' 128 ∧ Tch MC w w') :
    Calls Tryd.prog fn args w fun e w' => P e ∧ TabM w' (New M w w') pt ph pm q f H (fun x => if x = k then L' else C x) ∧ Tch (Mc M pt pm) w w' := by
  obtain ⟨MH, MC, h1, h2, h3, h4, h5, h6, h7, h8, h9⟩ := h
  refine (hc _ (h4 k g hk)).mono fun e w' ⟨he, hp, ht⟩ => ⟨he, ⟨MH, fun x => if x = k then New (MC k) w w' else MC x, ht.blk h1 (fun e => (h6 _ _ e).2.1 rfl), h2.blk (ht.block pm h2.lt (fun e => (h6 _ _ e).2.2.1 rfl)), h3.kept ht (fun b e1 e2 => (h5 b e1).2.2.2 k e2), fun x g' e => ?_, fun b e => ?_, fun x b e => ?_, .inl h7, .inl h8, New.lt h9 ht.size⟩, ht.mono fun b e => ⟨(h6 k b e).1, (h6 k b e).2.1, (h6 k b e).2.2.1⟩⟩
  · show ColVT w' (if x = k then New (MC k) w w' else MC x) g' (if x = k then L' else C x) 128
    by_cases c : x = k
    · subst c
      rw [hk] at e
      obtain rfl := Option.some.inj e
      rw [if_pos rfl, if_pos rfl]
      exact hp
    · rw [if_neg c, if_neg c]
      exact (h4 x g' e).kept ht (fun b e1 e2 => c ((h6 k b e2).2.2.2.2 x e1))
  · refine ⟨.inl (h5 b e).1, (h5 b e).2.1, (h5 b e).2.2.1, fun x q => ?_⟩
    replace q : (if x = k then New (MC k) w w' else MC x) b := q
    by_cases c : x = k
    · rw [if_pos c] at q
      rcases q with q | q
      · exact (h5 b e).2.2.2 k q
      · have := h9 _ (h5 b e).1; omega
    · rw [if_neg c] at q
      exact (h5 b e).2.2.2 x q
  · have key : ∀ y, (if y = k then New (MC k) w w' else MC y) b → (w.heap.size ≤ b ∧ y = k) ∨ MC y b := fun y q => by
      by_cases c : y = k
      · rw [if_pos c] at q
        rcases q with q | q
        · exact .inr (c ▸ q)
        · exact .inl ⟨q.1, c⟩
      · rw [if_neg c] at q
        exact .inr q
    replace e : (if x = k then New (MC k) w w' else MC x) b := e
    by_cases c : MC x b
    · refine ⟨.inl (h6 x b c).1, (h6 x b c).2.1, (h6 x b c).2.2.1, (h6 x b c).2.2.2.1, fun y q => ?_⟩
      rcases key y q with q | q
      · have := h9 _ (h6 x b c).1; omega
      · exact (h6 x b c).2.2.2.2 y q
    · have d : w.heap.size ≤ b ∧ x = k := (key x e).resolve_right c
      have e' := e
      rw [if_pos d.2] at e'
      refine ⟨e'.imp (fun q => (h6 k b q).1) id, fun q => ?_, fun q => ?_, fun q => ?_, fun y q => ?_⟩
      · have := h9 _ h7; omega
      · have := h9 _ h8; omega
      · have := h9 _ (h5 b q).1; omega
      · rcases key y q with q | q
        · exact q.2.trans d.2.symm
        · have := h9 _ (h6 y b q).1; omega
end

/-! ### Rows of a mask's kinds. -/
abbrev En := Hd × List Vl
def EntOk (q : Nat) (r : En) : Prop := r.2.map (fun x => x.1) = Ks q ∧ ∀ x ∈ r.2, chk x = 0
def colK (R : List En) (k : Int) : List Vl := R.map fun r => fndV r.2 k
theorem ent_right {q : Nat} {r : En} (h : EntOk q r) : RightV r.2 := ⟨by have := Ks_rise q; rw [← h.1, List.pairwise_map] at this; exact this, h.2⟩
theorem ent_of {q : Nat} {l : List Vl} {h : Hd} (hr : rightB l = true) (hm : maskV l = q) : EntOk q (h, l) := by
  have hR := (rightB_iff l).1 hr
  have hq : q < 1024 := hm ▸ mask_lt hR
  exact ⟨(row_of_mask hR hq).1 hm, hR.2⟩
theorem find_of_mem {l : List Vl} (hr : RightV l) {x : Vl} (hx : x ∈ l) : fndV l x.1 = x := by unfold fndV; rw [find_rise hr.1 hx]; rfl
theorem has_of_mem {l : List Vl} (hr : RightV l) {x : Vl} (hx : x ∈ l) : hasK l x.1 = true := by unfold hasK; rw [find_rise hr.1 hx]; rfl
theorem has_iff {q : Nat} {r : En} (h : EntOk q r) (k : Int) : hasK r.2 k = decide (k ∈ Ks q) := by
  by_cases c : k ∈ Ks q
  · rw [decide_eq_true c]
    rw [← h.1, List.mem_map] at c
    obtain ⟨x, hx, rfl⟩ := c
    exact has_of_mem (ent_right h) hx
  · rw [decide_eq_false c]
    unfold hasK
    cases e : findV r.2 k with
    | none => rfl
    | some x =>
      obtain ⟨h1, h2⟩ := find_some e
      exact absurd (by rw [← h.1, ← h2]; exact List.mem_map_of_mem h1) c
/-- A row is its components by its kinds. -/
theorem ent_vals {q : Nat} {r : En} (h : EntOk q r) : (Ks q).map (fun k => fndV r.2 k) = r.2 := by
  rw [← h.1, List.map_map]
  refine (List.map_congr_left fun x hx => ?_).trans (List.map_id' _)
  exact find_of_mem (ent_right h) hx
theorem ent_len {q : Nat} {r : En} (h : EntOk q r) : r.2.length = (Ks q).length := by rw [← h.1, List.length_map]
theorem ent_put {q : Nat} {r : En} (h : EntOk q r) {v : Vl} (hv : chk v = 0) (hk : v.1 ∈ Ks q) : EntOk q (r.1, putV r.2 v) := by
  have hR := putV_right (ent_right h) hv
  refine ⟨rise_int (List.pairwise_map.2 hR.1) (Ks_rise q) fun k => ?_, hR.2⟩
  rw [List.mem_map]
  constructor
  · rintro ⟨x, hx, rfl⟩
    rcases (mem_putV _ _ _).1 hx with e | e
    · rw [e]; exact hk
    · rw [← h.1]; exact List.mem_map_of_mem e.1
  · intro hk'
    by_cases c : k = v.1
    · exact ⟨v, (mem_putV _ _ _).2 (.inl rfl), c.symm⟩
    · rw [← h.1, List.mem_map] at hk'
      obtain ⟨x, hx, rfl⟩ := hk'
      exact ⟨x, (mem_putV _ _ _).2 (.inr ⟨hx, c⟩), rfl⟩
theorem put_fnd {q : Nat} {r : En} (h : EntOk q r) {v : Vl} (hv : chk v = 0) (hk : v.1 ∈ Ks q) {k : Int} (hk2 : k ∈ Ks q) : fndV (putV r.2 v) k = if k = v.1 then v else fndV r.2 k := by
  have hR := putV_right (ent_right h) hv
  by_cases c : k = v.1
  · rw [if_pos c, c]
    exact find_of_mem hR ((mem_putV _ _ _).2 (.inl rfl))
  · rw [if_neg c]
    rw [← h.1, List.mem_map] at hk2
    obtain ⟨x, hx, rfl⟩ := hk2
    rw [find_of_mem (ent_right h) hx]
    exact find_of_mem hR ((mem_putV _ _ _).2 (.inr ⟨hx, c⟩))

/-- A table of the rows R. -/
def Tab (w : World) (M : Nat → Prop) (pt q : Nat) (R : List En) : Prop :=
  ∃ ph pm f, TabM w M pt ph pm q f (R.map fun r => r.1) (colK R) ∧ q < 1024 ∧ (∀ k, (f k).isSome = decide (k ∈ Ks q)) ∧ (∀ r ∈ R, EntOk q r) ∧ R.length ≤ 128
section
variable {w w' : World} {M X : Nat → Prop} {pt q : Nat} {R : List En}
theorem Tab.kept (h : Tab w M pt q R) (t : Tch X w w') (hd : ∀ b, M b → ¬ X b) : Tab w' M pt q R := by
  obtain ⟨ph, pm, f, h1, h2⟩ := h
  exact ⟨ph, pm, f, h1.kept t hd, h2⟩
theorem Tab.below (h : Tab w M pt q R) (t : RowKit.Below w.heap.size w w') : Tab w' M pt q R := h.kept (X := fun _ => False) (Tch.of t) (fun _ _ e => e)
theorem Tab.mono {M' : Nat → Prop} (h : Tab w M pt q R) (hM : ∀ b, M b → M' b) (hl : ∀ b, M' b → b < w.heap.size) : Tab w M' pt q R := by
  obtain ⟨ph, pm, f, h1, h2⟩ := h
  exact ⟨ph, pm, f, h1.mono hM hl, h2⟩
/-- What a later world's call has made is new since an earlier one. -/
theorem Tab.into {w2 w3 : World} (h : Tab w3 (New M w2 w3) pt q R) (hl : ∀ b, M b → b < w.heap.size) (h1 : w.heap.size ≤ w2.heap.size) (h2 : w2.heap.size ≤ w3.heap.size) : Tab w3 (New M w w3) pt q R :=
  h.mono (fun b e => e.imp id fun e => ⟨by omega, e.2⟩) (New.lt hl (by omega))
theorem Tab.lt (h : Tab w M pt q R) : ∀ b, M b → b < w.heap.size := by
  obtain ⟨ph, pm, f, h1, _⟩ := h
  exact h1.lt
theorem Tab.size (h : Tab w M pt q R) : R.length ≤ 128 := by
  obtain ⟨ph, pm, f, _, _, _, _, h1⟩ := h
  exact h1
theorem Tab.ok (h : Tab w M pt q R) : ∀ r ∈ R, EntOk q r := by
  obtain ⟨ph, pm, f, _, _, _, h1, _⟩ := h
  exact h1
theorem Tab.hq (h : Tab w M pt q R) : q < 1024 := by
  obtain ⟨ph, pm, f, _, h1, _⟩ := h
  exact h1
theorem Tab.mt (h : Tab w M pt q R) : M pt := by
  obtain ⟨ph, pm, f, h1, _⟩ := h
  exact h1.mt
end

/-- The errors' variables that the code reads. -/
structure Er7 (w : World) (A : Nat → Addr) : Prop where
  er : Er w A
  full : w.cell? ⟨2, 0, none⟩ = some (.iface 141 (.pointer (some (A 1))))
  form : w.cell? ⟨6, 0, none⟩ = some (.iface 141 (.pointer (some (A 6))))
theorem Er7.below {w w' : World} {A : Nat → Addr} (h : Er7 w A) (hb : RowKit.Below w.heap.size w w') : Er7 w' A :=
  ⟨h.er.below hb, Bc hb (cell_lt h.full) h.full, Bc hb (cell_lt h.form) h.form⟩
/-- An error of a number. -/
abbrev errC (A : Nat → Addr) (n : Nat) : Value := .iface 141 (.pointer (some (A n)))
end Go.Proofs.YtknfmjjlfhfocaaDoor
