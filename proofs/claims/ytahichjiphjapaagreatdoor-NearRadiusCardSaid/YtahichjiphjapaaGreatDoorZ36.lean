import Derived.Test.YtahichjiphjapaaGreatDoorZ1
import Derived.Test.YtahichjiphjapaaGreatDoorZ4
import Derived.Test.YtahichjiphjapaaGreatDoorZ0

/-
  A tree in memory: nodes, their rows, what is below them.
-/
namespace Go.Proofs.YtahichjiphjapaaGreatDoor
set_option linter.unusedSimpArgs false
set_option linter.unusedVariables false
open Go.RowKit Go.Sort Go.Lib Go.Shelf

/-- A handle's and its box's six cells. -/
def encHB (y : Bxd) : List Value := [.int .i64 y.1.1, .int .i64 y.1.2, .int .i64 y.2.1, .int .i64 y.2.2.1, .int .i64 y.2.2.2.1, .int .i64 y.2.2.2.2]
theorem lenHB (y : Bxd) : (encHB y).length = 6 := rfl
theorem oneHB (y : Bxd) : ∀ v ∈ encHB y, v.oneCell' = true := fun v hv => by simp [encHB] at hv; rcases hv with rfl | rfl | rfl | rfl | rfl | rfl <;> rfl
theorem apHB : Ap encHB 79 96 6 (.agg #[.int .i64 0, .int .i64 0, .int .i64 0, .int .i64 0, .int .i64 0, .int .i64 0]) 48 :=
  ⟨Tryz.underlying79, info_parts (by kernel_rfl), by decide, by decide, by decide, lenHB, oneHB⟩
theorem atHB {w : World} {l : List Bxd} {g o : Nat} (h : ∀ j u, (flat encHB l)[j]? = some u → w.cell? ⟨g, o + j, none⟩ = some u) {i : Nat} (hi : i < l.length) :
    w.cell? ⟨g, o + i * 6, none⟩ = some (.int .i64 l[i]!.1.1) ∧ w.cell? ⟨g, o + i * 6 + 1, none⟩ = some (.int .i64 l[i]!.1.2) ∧ w.cell? ⟨g, o + i * 6 + 2, none⟩ = some (.int .i64 l[i]!.2.1) ∧ w.cell? ⟨g, o + i * 6 + 3, none⟩ = some (.int .i64 l[i]!.2.2.1) ∧ w.cell? ⟨g, o + i * 6 + 4, none⟩ = some (.int .i64 l[i]!.2.2.2.1) ∧ w.cell? ⟨g, o + i * 6 + 5, none⟩ = some (.int .i64 l[i]!.2.2.2.2) :=
  ⟨sl_at lenHB h hi 0 _ rfl, sl_at lenHB h hi 1 _ rfl, sl_at lenHB h hi 2 _ rfl, sl_at lenHB h hi 3 _ rfl, sl_at lenHB h hi 4 _ rfl, sl_at lenHB h hi 5 _ rfl⟩
abbrev RowN (w : World) (M : Nat → Prop) (v : Value) (l : List Bxd) : Prop := RowAt encHB 96 6 w M v l
/-- A pointer to a node, or nil. -/
def aV (p : Option Nat) : Option Addr := p.map fun b => ⟨b, 0, none⟩
abbrev pV (p : Option Nat) : Value := .pointer (aV p)
abbrev Q4 := Option Nat × Option Nat × Option Nat × Option Nat
def ndC (rv : Value) (q : Q4) : Array Value := #[rv, pV q.1, pV q.2.1, pV q.2.2.1, pV q.2.2.2]
def ndV (rv : Value) (q : Q4) : Value := .agg (ndC rv q)
/-- What a pointer leads to, n levels at most. -/
def PtrV (w : World) (M : Nat → Prop) : Nat → Rw → Option Nat → Prop
  | 0, R, p => p = none ∧ noR R
  | _ + 1, R, none => noR R
  | n + 1, R, some b => ¬ noR R ∧ M b ∧ ∃ (rv : Value) (q : Q4), w.heap[b]? = some (.cells (ndC rv q) 83 (0, 0)) ∧ RowN w M rv (R []) ∧
      PtrV w M n (subR R 0) q.1 ∧ PtrV w M n (subR R 1) q.2.1 ∧ PtrV w M n (subR R 2) q.2.2.1 ∧ PtrV w M n (subR R 3) q.2.2.2
/-- A node: its row, what is below. -/
def NdV (w : World) (M : Nat → Prop) (n : Nat) (R : Rw) (rv : Value) (q : Q4) : Prop :=
  RowN w M rv (R []) ∧ PtrV w M n (subR R 0) q.1 ∧ PtrV w M n (subR R 1) q.2.1 ∧ PtrV w M n (subR R 2) q.2.2.1 ∧ PtrV w M n (subR R 3) q.2.2.2
/-- A node's value. -/
def IsNd (w : World) (M : Nat → Prop) (n : Nat) (R : Rw) (v : Value) : Prop := ∃ rv q, v = ndV rv q ∧ NdV w M n R rv q
def Q4.at (q : Q4) (i : Nat) : Option Nat := if i = 0 then q.1 else if i = 1 then q.2.1 else if i = 2 then q.2.2.1 else q.2.2.2
def Q4.put (q : Q4) (i : Nat) (p : Option Nat) : Q4 := if i = 0 then (p, q.2) else if i = 1 then (q.1, p, q.2.2) else if i = 2 then (q.1, q.2.1, p, q.2.2.2) else (q.1, q.2.1, q.2.2.1, p)
/-- Rows by quarters alone. -/
def Dig (R : Rw) : Prop := ∀ u, (∃ i ∈ u, 4 ≤ i) → R u = []
section
variable {w w' : World} {M X : Nat → Prop}
theorem Dig.sub {R : Rw} (h : Dig R) (i : Nat) : Dig (subR R i) := fun u ⟨j, hj, hl⟩ => h _ ⟨j, List.mem_cons_of_mem _ hj, hl⟩
theorem Dig.set {R : Rw} (h : Dig R) {p : List Nat} (hp : ∀ i ∈ p, i < 4) (l : List Bxd) : Dig (setR R p l) := fun u ⟨j, hj, hl⟩ => by
  unfold setR
  split
  · rename_i e
    rw [e] at hj
    have := hp j hj
    omega
  · exact h u ⟨j, hj, hl⟩
theorem RowsOf.dig {R : Rw} {B : List Bxd} (h : RowsOf R B) : Dig R := fun u ⟨j, hj, hl⟩ => by
  cases e : R u with
  | nil => rfl
  | cons b r =>
    have := ((h.mem u b).1 (by rw [e]; exact List.mem_cons_self)).2
    have := wayB_lt b.2 j (by rw [this]; exact hj)
    omega
theorem noR_iff {R : Rw} (hD : Dig R) : noR R ↔ R [] = [] ∧ noR (subR R 0) ∧ noR (subR R 1) ∧ noR (subR R 2) ∧ noR (subR R 3) := by
  constructor
  · intro h
    exact ⟨h _, fun u => h _, fun u => h _, fun u => h _, fun u => h _⟩
  · rintro ⟨h0, h1, h2, h3, h4⟩ u
    cases u with
    | nil => exact h0
    | cons i u =>
      rcases (show i = 0 ∨ i = 1 ∨ i = 2 ∨ i = 3 ∨ 4 ≤ i by omega) with rfl | rfl | rfl | rfl | h
      · exact h1 u
      · exact h2 u
      · exact h3 u
      · exact h4 u
      · exact hD _ ⟨i, List.mem_cons_self, h⟩
theorem PtrV.none_iff : ∀ {n : Nat} {R : Rw} {p : Option Nat}, PtrV w M n R p → (p = none ↔ noR R)
  | 0, R, p, h => ⟨fun _ => h.2, fun _ => h.1⟩
  | n + 1, R, none, h => ⟨fun _ => h, fun _ => rfl⟩
  | n + 1, R, some b, h => ⟨fun e => (by cases e), fun e => absurd e h.1⟩
theorem PtrV.no {n : Nat} {R : Rw} (h : noR R) : PtrV w M n R none := by
  cases n with
  | zero => exact ⟨rfl, h⟩
  | succ n => exact h
theorem PtrV.some_iff {n : Nat} {R : Rw} {b : Nat} : PtrV w M (n + 1) R (some b) ↔ ¬ noR R ∧ M b ∧ ∃ (rv : Value) (q : Q4), w.heap[b]? = some (.cells (ndC rv q) 83 (0, 0)) ∧ NdV w M n R rv q := Iff.rfl
theorem PtrV.kept (t : Tch X w w') (hX : ∀ b, M b → ¬ X b) : ∀ {n : Nat} {R : Rw} {p : Option Nat}, PtrV w M n R p → PtrV w' M n R p
  | 0, R, p, h => h
  | n + 1, R, none, h => h
  | n + 1, R, some b, h => by
    obtain ⟨h1, h2, rv, q, h3, h4, h5, h6, h7, h8⟩ := h
    exact ⟨h1, h2, rv, q, t.blk h3 (hX b h2), h4.kept t hX, PtrV.kept t hX h5, PtrV.kept t hX h6, PtrV.kept t hX h7, PtrV.kept t hX h8⟩
theorem PtrV.mono {M' : Nat → Prop} (hM : ∀ b, M b → M' b) : ∀ {n : Nat} {R : Rw} {p : Option Nat}, PtrV w M n R p → PtrV w M' n R p
  | 0, R, p, h => h
  | n + 1, R, none, h => h
  | n + 1, R, some b, h => by
    obtain ⟨h1, h2, rv, q, h3, h4, h5, h6, h7, h8⟩ := h
    exact ⟨h1, hM b h2, rv, q, h3, h4.mono hM, PtrV.mono hM h5, PtrV.mono hM h6, PtrV.mono hM h7, PtrV.mono hM h8⟩
theorem NdV.kept {n : Nat} {R : Rw} {rv : Value} {q : Q4} (h : NdV w M n R rv q) (t : Tch X w w') (hX : ∀ b, M b → ¬ X b) : NdV w' M n R rv q :=
  ⟨h.1.kept t hX, h.2.1.kept t hX, h.2.2.1.kept t hX, h.2.2.2.1.kept t hX, h.2.2.2.2.kept t hX⟩
theorem NdV.mono {M' : Nat → Prop} (hM : ∀ b, M b → M' b) {n : Nat} {R : Rw} {rv : Value} {q : Q4} (h : NdV w M n R rv q) : NdV w M' n R rv q :=
  ⟨h.1.mono hM, h.2.1.mono hM, h.2.2.1.mono hM, h.2.2.2.1.mono hM, h.2.2.2.2.mono hM⟩
theorem NdV.below {n : Nat} {R : Rw} {rv : Value} {q : Q4} (h : NdV w M n R rv q) (b : RowKit.Below w.heap.size w w') : NdV w' M n R rv q :=
  h.kept (X := fun _ => False) (Tch.of b) fun _ _ e => e
theorem PtrV.below {n : Nat} {R : Rw} {p : Option Nat} (h : PtrV w M n R p) (b : RowKit.Below w.heap.size w w') : PtrV w' M n R p :=
  h.kept (X := fun _ => False) (Tch.of b) fun _ _ e => e
theorem NdV.val {n : Nat} {R : Rw} {rv : Value} {q : Q4} (h : NdV w M n R rv q) : ∃ p cap, rv = .slice p (R []).length cap ∧ (R []).length ≤ cap ∧ cap ≤ maxLen := by
  obtain ⟨p, cap, e, h1, h2, _⟩ := row_val h.1.1
  exact ⟨p, cap, e, h1, h2⟩
theorem IsNd.below {n : Nat} {R : Rw} {v : Value} (h : IsNd w M n R v) (b : RowKit.Below w.heap.size w w') : IsNd w' M n R v := by
  obtain ⟨rv, q, e, h⟩ := h
  exact ⟨rv, q, e, h.below b⟩
theorem IsNd.mono {M' : Nat → Prop} (hM : ∀ b, M b → M' b) {n : Nat} {R : Rw} {v : Value} (h : IsNd w M n R v) : IsNd w M' n R v := by
  obtain ⟨rv, q, e, h⟩ := h
  exact ⟨rv, q, e, h.mono hM⟩
theorem NdV.at {n : Nat} {R : Rw} {rv : Value} {q : Q4} (h : NdV w M n R rv q) {i : Nat} (hi : i < 4) : PtrV w M n (subR R i) (q.at i) := by
  rcases (show i = 0 ∨ i = 1 ∨ i = 2 ∨ i = 3 by omega) with rfl | rfl | rfl | rfl
  · exact h.2.1
  · exact h.2.2.1
  · exact h.2.2.2.1
  · exact h.2.2.2.2
theorem NdV.here {n : Nat} {R : Rw} {rv rv' : Value} {q : Q4} {l : List Bxd} (h : NdV w M n R rv q) (hr : RowN w M rv' l) : NdV w M n (setR R [] l) rv' q := by
  refine ⟨by rw [set_nil_here]; exact hr, ?_, ?_, ?_, ?_⟩ <;> rw [sub_set_nil]
  · exact h.2.1
  · exact h.2.2.1
  · exact h.2.2.2.1
  · exact h.2.2.2.2
theorem NdV.there {n : Nat} {R : Rw} {rv : Value} {q : Q4} {l : List Bxd} (h : NdV w M n R rv q) {i : Nat} (hi : i < 4) {u : List Nat} {p : Option Nat} (hp : PtrV w M n (setR (subR R i) u l) p) : NdV w M n (setR R (i :: u) l) rv (q.put i p) := by
  obtain ⟨h0, h1, h2, h3, h4⟩ := h
  refine ⟨by rw [set_cons_here]; exact h0, ?_⟩
  rcases (show i = 0 ∨ i = 1 ∨ i = 2 ∨ i = 3 by omega) with rfl | rfl | rfl | rfl
  · exact ⟨by rw [sub_set]; exact hp, by rw [sub_set_ne _ (by omega)]; exact h2, by rw [sub_set_ne _ (by omega)]; exact h3, by rw [sub_set_ne _ (by omega)]; exact h4⟩
  · exact ⟨by rw [sub_set_ne _ (by omega)]; exact h1, by rw [sub_set]; exact hp, by rw [sub_set_ne _ (by omega)]; exact h3, by rw [sub_set_ne _ (by omega)]; exact h4⟩
  · exact ⟨by rw [sub_set_ne _ (by omega)]; exact h1, by rw [sub_set_ne _ (by omega)]; exact h2, by rw [sub_set]; exact hp, by rw [sub_set_ne _ (by omega)]; exact h4⟩
  · exact ⟨by rw [sub_set_ne _ (by omega)]; exact h1, by rw [sub_set_ne _ (by omega)]; exact h2, by rw [sub_set_ne _ (by omega)]; exact h3, by rw [sub_set]; exact hp⟩
theorem NdV.no_iff {n : Nat} {R : Rw} {rv : Value} {q : Q4} (hD : Dig R) (h : NdV w M n R rv q) : noR R ↔ R [] = [] ∧ q.1 = none ∧ q.2.1 = none ∧ q.2.2.1 = none ∧ q.2.2.2 = none := by
  rw [noR_iff hD, h.2.1.none_iff, h.2.2.1.none_iff, h.2.2.2.1.none_iff, h.2.2.2.2.none_iff]
theorem nd_no {R : Rw} (h : noR R) (n : Nat) : NdV w M n R (.slice none 0 0) (none, none, none, none) :=
  ⟨by rw [h []]; exact row_nil w _ _ M, PtrV.no fun _ => h _, PtrV.no fun _ => h _, PtrV.no fun _ => h _, PtrV.no fun _ => h _⟩
theorem nd_none (n : Nat) : NdV w M n (fun _ => []) (.slice none 0 0) (none, none, none, none) :=
  ⟨row_nil w _ _ M, PtrV.no fun _ => rfl, PtrV.no fun _ => rfl, PtrV.no fun _ => rfl, PtrV.no fun _ => rfl⟩
end

/-! ### The tree. -/
/-- What of a tree's blocks is the nodes' alone. -/
def Nds (M : Nat → Prop) (pt mb : Nat) : Nat → Prop := fun b => M b ∧ b ≠ pt ∧ b ≠ mb
structure TrIs (w : World) (M : Nat → Prop) (pt mb : Nat) (R : Rw) (rv : Value) (q : Q4) (B : List Bxd) : Prop where
  inT : M pt
  inM : M mb
  ne : pt ≠ mb
  blk : w.heap[pt]? = some (.cells #[.map (some mb), rv, pV q.1, pV q.2.1, pV q.2.2.1, pV q.2.2.2] 85 (0, 0))
  map : MapX w mb B.length (boxF B)
  nd : NdV w (Nds M pt mb) 8 R rv q
  rows : RowsOf R B
  ok : OkB B
  once : OnceB B
  hds : ∀ y ∈ B, HdOk y.1
def TrAt (w : World) (M : Nat → Prop) (pt : Nat) (B : List Bxd) : Prop := ∃ mb R rv q, TrIs w M pt mb R rv q B
abbrev TrB (pt : Nat) (B : List Bxd) : Ob := fun w M => TrAt w M pt B
theorem fr_tr (pt : Nat) (B : List Bxd) : Fr (TrB pt B) where
  kept {w w' R M} h t hd := by
    obtain ⟨mb, Rw, rv, q, h⟩ := h
    exact ⟨mb, Rw, rv, q, { h with blk := t.blk h.blk (hd _ h.inT), map := h.map.kept t (hd _ h.inM), nd := h.nd.kept t fun b hb => hd b hb.1 }⟩
  mono {w M M'} h hM := by
    obtain ⟨mb, Rw, rv, q, h⟩ := h
    exact ⟨mb, Rw, rv, q, { h with inT := hM _ h.inT, inM := hM _ h.inM, nd := h.nd.mono fun b hb => ⟨hM b hb.1, hb.2⟩ }⟩
end Go.Proofs.YtahichjiphjapaaGreatDoor
