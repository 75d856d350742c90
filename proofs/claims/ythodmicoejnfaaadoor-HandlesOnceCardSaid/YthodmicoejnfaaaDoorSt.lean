/-
  A pool of the call's own beside other things of the call's own: what changes when it is asked, told by the blocks' types; Take and Free as one contract each.
-/
import Derived.Test.YthodmicoejnfaaaDoorHj
namespace Go.Proofs.YthodmicoejnfaaaDoor
set_option linter.unusedSimpArgs false
set_option linter.unusedVariables false
open Go.RowKit Go.Sort Go.Lib Go.Shelf

/-- The types of a pool's blocks. -/
def PT (T t : Nat) : Prop := t = T ∨ t = 63 ∨ t = 3
instance (T t : Nat) : Decidable (PT T t) := by unfold PT; infer_instance

section
variable {T pa base : Nat} {S S' : List Slt} {Fr Fr' : List Int} {M : Nat → Prop} {X : Nat → Prop} {w w' w2 : World}

/-- Below base, at the blocks X, and at all blocks that are none of a pool's types nothing has changed. -/
def Kq (T base : Nat) (X : Nat → Prop) (w w' : World) : Prop := Tch (fun b => base ≤ b ∧ ¬ X b ∧ ∃ cs t f, w.heap[b]? = some (.cells cs t f) ∧ PT T t) w w'
theorem Kq.refl : Kq T base X w w := Tch.refl _ _
theorem Kq.of (h : RowKit.Below w.heap.size w w') : Kq T base X w w' := Tch.of h
theorem Kq.trans (h : Kq T base X w w') (k : Kq T base X w' w2) : Kq T base X w w2 :=
  ⟨k.os.trans h.os, k.tape.trans h.tape, k.output.trans h.output, Nat.le_trans h.size k.size, fun i hi hn => by
    have e := h.block i hi hn
    rw [← e]
    refine k.block i (Nat.lt_of_lt_of_le hi h.size) (fun hc => hn ?_)
    rw [e] at hc
    exact hc⟩
theorem Kq.below (h : Kq T base X w w') (hb : base ≤ w.heap.size) : RowKit.Below base w w' := Tch.below h (fun _ e => e.1) hb
/-- A block of another type. -/
theorem Kq.cells (h : Kq T base X w w') {b : Nat} {cs : Array Value} {t : Nat} {f : Nat × Nat} (hb : w.heap[b]? = some (.cells cs t f)) (ht : ¬ PT T t) : w'.heap[b]? = some (.cells cs t f) :=
  (h.block b (Array.getElem?_eq_some_iff.1 hb).1 (fun e => by
    obtain ⟨_, _, cs', t', f', hc, hp⟩ := e
    rw [hb] at hc
    simp only [Option.some.injEq, Obj.cells.injEq] at hc
    exact ht (hc.2.1 ▸ hp))).trans hb
theorem Kq.map (h : Kq T base X w w') {b : Nat} {es : Array MapEntry} {c : Nat} (hb : w.heap[b]? = some (.map es c)) : w'.heap[b]? = some (.map es c) :=
  (h.block b (Array.getElem?_eq_some_iff.1 hb).1 (fun e => by
    obtain ⟨_, _, cs', t', f', hc, hp⟩ := e
    rw [hb] at hc
    cases hc)).trans hb
theorem Kq.row {b0 et k n : Nat} {v : Value} {xs : List Value} (h : Kq T base X w w') (hr : w.ownsRow b0 et k v n xs) (ht : ¬ PT T et) : w'.ownsRow b0 et k v n xs :=
  row_keep hr (fun g hg => by
    obtain ⟨c, hc⟩ := row_type hr hg
    exact (h.cells hc ht).trans hc.symm)
theorem Kq.xrow {b0 et k n : Nat} {v : Value} {xs : List Value} (h : Kq T base X w w') (hr : w.ownsRow b0 et k v n xs) (hx : ∀ g, v.ownBlock = some g → X g) : w'.ownsRow b0 et k v n xs :=
  row_keep hr (fun g hg => h.block g (row_lt hr hg) (fun e => e.2.1 (hx g hg)))

/-- A pool of the call's own, from base on, off the blocks X. -/
def PoolX (T base : Nat) (X : Nat → Prop) (w : World) (pa : Nat) (S : List Slt) (Fr : List Int) : Prop :=
  ∃ M, PoolAt T w M pa S Fr ∧ (∀ b, M b → base ≤ b ∧ b < w.heap.size ∧ ¬ X b) ∧ ∀ b, X b → b < w.heap.size
/-- .. with no block but those that it has. -/
theorem PoolAt.shrink (h : PoolAt T w M pa S Fr) : PoolAt T w (fun b => M b ∧ ∃ cs t f, w.heap[b]? = some (.cells cs t f) ∧ PT T t) pa S Fr := by
  obtain ⟨vs, vf, h1, h2, h3, h4⟩ := h
  refine ⟨vs, vf, h1, ⟨h2, _, _, _, h1, .inl rfl⟩, ⟨h3.1, fun g hg => ⟨h3.2 g hg, ?_⟩⟩, h4.1, fun g hg => ⟨h4.2 g hg, ?_⟩⟩
  · obtain ⟨c, hc⟩ := row_type h3.1 hg
    exact ⟨_, _, _, hc, .inr (.inl rfl)⟩
  · obtain ⟨c, hc⟩ := row_type h4.1 hg
    exact ⟨_, _, _, hc, .inr (.inr rfl)⟩
theorem PoolX.open (h : PoolX T base X w pa S Fr) : ∃ M, PoolAt T w M pa S Fr ∧ (∀ b, M b → base ≤ b ∧ ¬ X b ∧ ∃ cs t f, w.heap[b]? = some (.cells cs t f) ∧ PT T t) ∧ base ≤ w.heap.size ∧ ∀ b, X b → b < w.heap.size := by
  obtain ⟨M, h1, h2, h3⟩ := h
  refine ⟨_, h1.shrink, fun b hb => ⟨(h2 b hb.1).1, (h2 b hb.1).2.2, hb.2⟩, ?_, h3⟩
  obtain ⟨vs, vf, _, hm, _⟩ := h1
  have := h2 _ hm
  omega
theorem PoolX.at (h : PoolX T base X w pa S Fr) : ∃ M, PoolAt T w M pa S Fr := ⟨_, h.choose_spec.1⟩
theorem PoolX.lo (h : PoolX T base X w pa S Fr) : base ≤ w.heap.size := h.open.choose_spec.2.2.1
/-- Behind a change of its own. -/
theorem PoolX.next (hM : ∀ b, M b → base ≤ b ∧ ¬ X b ∧ ∃ cs t f, w.heap[b]? = some (.cells cs t f) ∧ PT T t) (hb : base ≤ w.heap.size) (hX : ∀ b, X b → b < w.heap.size) (h : PoolAt T w' (New M w w') pa S Fr) (t : Tch M w w') : PoolX T base X w' pa S Fr ∧ Kq T base X w w' := by
  refine ⟨⟨_, h, fun b e => ?_, fun b e => Nat.lt_of_lt_of_le (hX b e) t.size⟩, t.mono hM⟩
  rcases e with e | e
  · obtain ⟨h1, h2, cs, ty, f, hc, _⟩ := hM b e
    exact ⟨h1, Nat.lt_of_lt_of_le (Array.getElem?_eq_some_iff.1 hc).1 t.size, h2⟩
  · exact ⟨by omega, e.2, fun hx => by have := hX b hx; omega⟩
theorem PoolX.below (h : PoolX T base X w pa S Fr) (t : RowKit.Below w.heap.size w w') : PoolX T base X w' pa S Fr := by
  obtain ⟨M, h1, h2, h3⟩ := h
  exact ⟨M, h1.below t, fun b hb => ⟨(h2 b hb).1, Nat.lt_of_lt_of_le (h2 b hb).2.1 t.size, (h2 b hb).2.2⟩, fun b hb => Nat.lt_of_lt_of_le (h3 b hb) t.size⟩
/-- Behind a change of blocks of other types. -/
theorem PoolX.keep (h : PoolX T base X w pa S Fr) (hs : w.heap.size ≤ w'.heap.size) (hk : ∀ (b : Nat) (cs : Array Value) (t : Nat) (f : Nat × Nat), w.heap[b]? = some (.cells cs t f) → PT T t → w'.heap[b]? = w.heap[b]?) : PoolX T base X w' pa S Fr := by
  obtain ⟨M, h1, h2, h3⟩ := h
  refine ⟨M, ?_, fun b hb => ⟨(h2 b hb).1, Nat.lt_of_lt_of_le (h2 b hb).2.1 hs, (h2 b hb).2.2⟩, fun b hb => Nat.lt_of_lt_of_le (h3 b hb) hs⟩
  obtain ⟨vs, vf, a1, a2, a3, a4⟩ := h1
  refine ⟨vs, vf, (hk _ _ _ _ a1 (.inl rfl)).trans a1, a2, ⟨row_keep a3.1 (fun g hg => ?_), a3.2⟩, row_keep a4.1 (fun g hg => ?_), a4.2⟩
  · obtain ⟨c, hc⟩ := row_type a3.1 hg
    exact hk _ _ _ _ hc (.inr (.inl rfl))
  · obtain ⟨c, hc⟩ := row_type a4.1 hg
    exact hk _ _ _ _ hc (.inr (.inr rfl))
/-- Behind an append onto a row of another type. -/
theorem PoolX.grown {b0 et k n : Nat} {v : Value} {xs : List Value} (h : PoolX T base X w pa S Fr) (hr : w.ownsRow b0 et k v n xs) (ht : ¬ PT T et) (hg : w.grownBy w' v.ownBlock) : PoolX T base X w' pa S Fr :=
  h.keep hg.size fun b cs t f hb hp => hg.block b (Array.getElem?_eq_some_iff.1 hb).1 (fun e => by
    obtain ⟨c, hc⟩ := row_type hr e.symm
    rw [hb] at hc
    simp only [Option.some.injEq, Obj.cells.injEq] at hc
    exact ht (hc.2.1 ▸ hp))
/-- Behind a store into a block of another type. -/
theorem PoolX.set {c : Array Value} {t : Nat} {f : Nat × Nat} (h : PoolX T base X w pa S Fr) {p : Addr} (hb : w.heap[p.block]? = some (.cells c t f)) (ht : ¬ PT T t) (u : Value) : PoolX T base X (w.setCell p u) pa S Fr :=
  h.keep (by simp) fun b cs t' f' hb' hp => heap_setCell_other w p b u (fun e => by
    rw [e, hb] at hb'
    simp only [Option.some.injEq, Obj.cells.injEq] at hb'
    exact ht (hb'.2.1 ▸ hp))
/-- A pool that is new. -/
theorem PoolX.new {w0 : World} (h : PoolAt T w' (Fresh w w') pa S Fr) (hb : base ≤ w.heap.size) (hs : w.heap.size ≤ w'.heap.size) (hX : ∀ b, X b → b < w.heap.size) : PoolX T base X w' pa S Fr :=
  ⟨_, h, fun b e => by
    rcases e with e | e
    · exact e.elim
    · exact ⟨by omega, e.2, fun hx => by have := hX b hx; omega⟩, fun b e => Nat.lt_of_lt_of_le (hX b e) hs⟩

/-- What Take answers where there is a place. -/
theorem take_call (hp : PoolAt 67 w M pa S Fr) (r : Right S Fr) {h : Hd} (e : takeP S Fr = some (h, S', Fr')) :
    Calls Tryd.prog 16 #[.pointer (some ⟨pa, 0, none⟩)] w fun e w' => e = .returned (.tuple #[.agg #[.int .i64 h.1, .int .i64 h.2], .nilIface]) ∧ PoolAt 67 w' (New M w w') pa S' Fr' ∧ Tch M w w' := by
  by_cases hf : 0 < Fr.length
  · rw [takeP_free hf] at e
    simp only [Option.some.injEq, Prod.mk.injEq] at e
    obtain ⟨rfl, rfl, rfl⟩ := e
    exact take_free hp r hf
  · by_cases hs : S.length = 128
    · rw [takeP_full hf hs] at e; cases e
    · rw [takeP_new hf hs] at e
      simp only [Option.some.injEq, Prod.mk.injEq] at e
      obtain ⟨rfl, rfl, rfl⟩ := e
      exact take_new hp r hf hs
theorem next_call (hp : PoolAt 67 w M pa S Fr) (r : Right S Fr) {h : Hd} (e : takeP S Fr = some (h, S', Fr')) :
    Calls Tryd.prog 35 #[.pointer (some ⟨pa, 0, none⟩)] w fun e w' => e = .returned (.tuple #[.agg #[.int .i64 h.1, .int .i64 h.2], .nilIface]) ∧ RowKit.Below w.heap.size w w' := by
  by_cases hf : 0 < Fr.length
  · rw [takeP_free hf] at e
    simp only [Option.some.injEq, Prod.mk.injEq] at e
    obtain ⟨rfl, rfl, rfl⟩ := e
    exact next_free hp r hf
  · by_cases hs : S.length = 128
    · rw [takeP_full hf hs] at e; cases e
    · rw [takeP_new hf hs] at e
      simp only [Option.some.injEq, Prod.mk.injEq] at e
      obtain ⟨rfl, rfl, rfl⟩ := e
      exact next_new hp r hf hs
theorem take_none (hp : PoolAt 67 w M pa S Fr) (e : takeP S Fr = none) (t : TypeId) (v : Value) (hE : w.cell? ⟨2, 0, none⟩ = some (.iface t v)) :
    Calls Tryd.prog 16 #[.pointer (some ⟨pa, 0, none⟩)] w fun e w' => e = .returned (.tuple #[.agg #[.int .i64 0, .int .i64 0], .iface t v]) ∧ RowKit.Below w.heap.size w w' := by
  obtain ⟨rfl, hs⟩ := takeP_none e
  exact take_full hp (by simp) hs t v hE
theorem next_none (hp : PoolAt 67 w M pa S Fr) (e : takeP S Fr = none) (v : Value) (hE : w.cell? ⟨2, 0, none⟩ = some v) :
    Calls Tryd.prog 35 #[.pointer (some ⟨pa, 0, none⟩)] w fun e w' => e = .returned (.tuple #[.agg #[.int .i64 0, .int .i64 0], v]) ∧ RowKit.Below w.heap.size w w' := by
  obtain ⟨rfl, hs⟩ := takeP_none e
  exact next_full hp (by simp) hs v hE
theorem free_call (hp : PoolAt 67 w M pa S Fr) (r : Right S Fr) (i g : Int) (hl : livesP S (i, g) = true) :
    Calls Tryd.prog 27 #[.pointer (some ⟨pa, 0, none⟩), .agg #[.int .i64 i, .int .i64 g]] w fun e w' => e = .returned .nilIface ∧ PoolAt 67 w' (New M w w') pa (freeS S (i, g)) (freeF Fr (i, g)) ∧ Tch M w w' := by
  by_cases hg : g = 1073741824
  · subst hg
    exact free_last hp i hl
  · exact free_more hp r i g hl hg

/-- Take, of a pool of the call's own. -/
theorem takeX (hp : PoolX 67 base X w pa S Fr) (r : Right S Fr) {h : Hd} (e : takeP S Fr = some (h, S', Fr')) :
    Calls Tryd.prog 16 #[.pointer (some ⟨pa, 0, none⟩)] w fun e w' => e = .returned (.tuple #[.agg #[.int .i64 h.1, .int .i64 h.2], .nilIface]) ∧ PoolX 67 base X w' pa S' Fr' ∧ Kq 67 base X w w' := by
  obtain ⟨M, h1, h2, h3, h4⟩ := hp.open
  exact (take_call h1 r e).mono fun e w' ⟨a, b, c⟩ => ⟨a, PoolX.next h2 h3 h4 b c⟩
theorem freeX (hp : PoolX 67 base X w pa S Fr) (r : Right S Fr) (i g : Int) (hl : livesP S (i, g) = true) :
    Calls Tryd.prog 27 #[.pointer (some ⟨pa, 0, none⟩), .agg #[.int .i64 i, .int .i64 g]] w fun e w' => e = .returned .nilIface ∧ PoolX 67 base X w' pa (freeS S (i, g)) (freeF Fr (i, g)) ∧ Kq 67 base X w w' := by
  obtain ⟨M, h1, h2, h3, h4⟩ := hp.open
  exact (free_call h1 r i g hl).mono fun e w' ⟨a, b, c⟩ => ⟨a, PoolX.next h2 h3 h4 b c⟩
theorem takeX_none (hp : PoolX 67 base X w pa S Fr) (e : takeP S Fr = none) (t : TypeId) (v : Value) (hE : w.cell? ⟨2, 0, none⟩ = some (.iface t v)) :
    Calls Tryd.prog 16 #[.pointer (some ⟨pa, 0, none⟩)] w fun e w' => e = .returned (.tuple #[.agg #[.int .i64 0, .int .i64 0], .iface t v]) ∧ RowKit.Below w.heap.size w w' := by
  obtain ⟨M, h1⟩ := hp.at
  exact take_none h1 e t v hE
theorem freeX_no (hp : PoolX 67 base X w pa S Fr) (i g : Int) (hl : livesP S (i, g) = false) (t : TypeId) (v : Value) (hE : w.cell? ⟨3, 0, none⟩ = some (.iface t v)) :
    Calls Tryd.prog 27 #[.pointer (some ⟨pa, 0, none⟩), .agg #[.int .i64 i, .int .i64 g]] w fun e w' => e = .returned (.iface t v) ∧ RowKit.Below w.heap.size w w' := by
  obtain ⟨M, h1⟩ := hp.at
  exact free_no h1 i g hl t v hE
/-- Take, whatever the pool. -/
theorem takeX_any (hp : PoolX 67 base X w pa S Fr) (r : Right S Fr) (t : TypeId) (v : Value) (hE : w.cell? ⟨2, 0, none⟩ = some (.iface t v)) :
    Calls Tryd.prog 16 #[.pointer (some ⟨pa, 0, none⟩)] w fun e w' => ∃ u S' Fr', e = .returned u ∧ PoolX 67 base X w' pa S' Fr' ∧ Right S' Fr' ∧ Kq 67 base X w w' := by
  cases ht : takeP S Fr with
  | none => exact (takeX_none hp ht t v hE).mono fun e w' ⟨a, b⟩ => ⟨_, S, Fr, a, hp.below b, r, Kq.of b⟩
  | some q =>
    obtain ⟨h, S', Fr'⟩ := q
    exact (takeX hp r ht).mono fun e w' ⟨a, b, c⟩ => ⟨_, S', Fr', a, b, right_take r ht, c⟩
/-- Free, whatever the handle. -/
theorem freeX_any (hp : PoolX 67 base X w pa S Fr) (r : Right S Fr) (i g : Int) (t : TypeId) (v : Value) (hE : w.cell? ⟨3, 0, none⟩ = some (.iface t v)) :
    Calls Tryd.prog 27 #[.pointer (some ⟨pa, 0, none⟩), .agg #[.int .i64 i, .int .i64 g]] w fun e w' => ∃ u S' Fr', e = .returned u ∧ PoolX 67 base X w' pa S' Fr' ∧ Right S' Fr' ∧ Kq 67 base X w w' := by
  cases hl : livesP S (i, g) with
  | false => exact (freeX_no hp i g hl t v hE).mono fun e w' ⟨a, b⟩ => ⟨_, S, Fr, a, hp.below b, r, Kq.of b⟩
  | true => exact (freeX hp r i g hl).mono fun e w' ⟨a, b, c⟩ => ⟨_, _, _, a, b, right_free r hl, c⟩
theorem newX (base : Nat) (X : Nat → Prop) (w : World) (hb : base ≤ w.heap.size) (hX : ∀ b, X b → b < w.heap.size) : Calls Tryd.prog 26 #[] w fun e w' => ∃ pa, e = .returned (.pointer (some ⟨pa, 0, none⟩)) ∧ PoolX 67 base X w' pa [] [] ∧ RowKit.Below w.heap.size w w' :=
  (new_call w).mono fun e w' ⟨pb, he, hp, hk⟩ => ⟨pb, he, PoolX.new (w0 := w) hp hb hk.size hX, hk⟩
end
end Go.Proofs.YthodmicoejnfaaaDoor
