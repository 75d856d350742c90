/-
  A heap of the call's own, off the blocks Z: its calls; alive.
-/
import Derived.Test.YtaceahjomhgccaaDoorHw10
import Derived.Test.YtaceahjomhgccaaDoorRq10
namespace Go.Proofs.YtaceahjomhgccaaDoor
set_option linter.unusedSimpArgs false
set_option linter.unusedVariables false
open Go.RowKit Go.Sort Go.Lib Go.Shelf

section
variable {Z Z' N : Nat → Prop} {base pa : Nat} {L L' : List Hd} {w w' : World}
theorem HpO.askM {P : Ending → Prop} {fn : FuncId} {args : Array Value} (h : HpO Z base w pa L)
    (hc : ∀ M, HpAt w M pa L → (∀ b, M b → base ≤ b ∧ ¬ Z b) → Calls Tryd.prog fn args w fun e w' => P e ∧ HpAt w' (New M w w') pa L' ∧ Tch M w w') :
    Calls Tryd.prog fn args w fun e w' => P e ∧ HpO Z base w' pa L' ∧ Tch (OffZ Z base) w w' := by
  obtain ⟨M, h1, h2, h3, h4⟩ := h
  refine (hc M h1 (fun b e => ⟨(h2 b e).1, (h2 b e).2.1⟩)).mono fun e w' ⟨he, hT, ht⟩ => ⟨he, ⟨_, hT, fun b e => ?_, fun b e => ht.lt (h3 b e), Nat.le_trans h4 ht.size⟩, ht.mono fun b e => ⟨(h2 b e).1, (h2 b e).2.1⟩⟩
  rcases e with e | e
  · exact ⟨(h2 b e).1, (h2 b e).2.1, ht.lt (h2 b e).2.2⟩
  · exact ⟨by omega, fun c => by have := h3 b c; omega, e.2⟩
theorem newO (hb : base ≤ w.heap.size) (hZ : ∀ b, Z b → b < w.heap.size) : Calls Tryd.prog 9 #[] w fun e w' => ∃ pa, e = .returned (psP pa) ∧ HpO Z base w' pa [] ∧ RowKit.Below w.heap.size w w' :=
  (new_call w).mono fun e w' ⟨he, hp, hb1⟩ => ⟨_, he, HpO.new hp hb hb1.size hZ, hb1⟩
theorem lenO (h : HpO Z base w pa L) : Calls Tryd.prog 16 #[psP pa] w fun e w' => e = .returned (.int .i64 L.length) ∧ w = w' := h.read fun M hp => len_call hp
theorem clearO (h : HpO Z base w pa L) : Calls Tryd.prog 15 #[psP pa] w fun e w' => e = .returned (.tuple #[]) ∧ HpO Z base w' pa [] ∧ Tch (OffZ Z base) w w' :=
  h.askM fun M hp _ => (clear_call hp).mono fun e w' ⟨he, hT, ht⟩ => ⟨he, hT.mono (fun b h => .inl h), ht⟩
theorem pushO (h : HpO Z base w pa L) (xs : List Hd) (vx : Value) (hv : SlN N encH w vx xs) (hN : ∀ b, N b → Z b ∨ b < base) (hm : L.length ≤ 16384) (hn : ¬ 16384 < L.length + xs.length) :
    Calls Tryd.prog 10 #[psP pa, vx] w fun e w' => e = .returned .nilIface ∧ HpO Z base w' pa (pushesL ltH L xs) ∧ Tch (OffZ Z base) w w' :=
  h.askM fun M hp hM => push_call hp xs vx hv (fun b e c => by
    rcases hN b e with q | q
    · exact (hM b c).2 q
    · have := (hM b c).1; omega) hm hn
theorem pushO_full (h : HpO Z base w pa L) (xs : List Hd) (vx : Value) (hv : Sl encH w vx xs) (hm : L.length ≤ 16384) (hn : 16384 < L.length + xs.length) (t : TypeId) (v : Value) (hE : w.cell? ⟨0, 0, none⟩ = some (.iface t v)) :
    Calls Tryd.prog 10 #[psP pa, vx] w fun e w' => e = .returned (.iface t v) ∧ RowKit.Below w.heap.size w w' := h.read fun M hp => push_full hp xs vx hv hm hn t v hE
theorem popO (h : HpO Z base w pa L) (h0 : 0 < L.length) (hm : L.length ≤ 1000000) : Calls Tryd.prog 14 #[psP pa] w fun e w' => e = .returned (.tuple #[aggH L[0]!, .nilIface]) ∧ HpO Z base w' pa (popL ltH L) ∧ Tch (OffZ Z base) w w' :=
  h.askM fun M hp _ => pop_some hp h0 hm
theorem popO_none (h : HpO Z base w pa []) (t : TypeId) (v : Value) (hE : w.cell? ⟨2, 0, none⟩ = some (.iface t v)) : Calls Tryd.prog 14 #[psP pa] w fun e w' => e = .returned (.tuple #[.agg #[.int .i64 0, .int .i64 0], .iface t v]) ∧ RowKit.Below w.heap.size w w' := h.read fun M hp => pop_none hp t v hE
theorem peekO (h : HpO Z base w pa L) (h0 : 0 < L.length) : Calls Tryd.prog 13 #[psP pa] w fun e w' => e = .returned (.tuple #[aggH L[0]!, .nilIface]) ∧ RowKit.Below w.heap.size w w' := h.read fun M hp => peek_some hp h0
theorem peekO_none (h : HpO Z base w pa []) (t : TypeId) (v : Value) (hE : w.cell? ⟨2, 0, none⟩ = some (.iface t v)) : Calls Tryd.prog 13 #[psP pa] w fun e w' => e = .returned (.tuple #[.agg #[.int .i64 0, .int .i64 0], .iface t v]) ∧ RowKit.Below w.heap.size w w' := h.read fun M hp => peek_none hp t v hE
/-- What is new since an elder world of the heap's is off it. -/
theorem HpO.off {w0 : World} (h : HpO Z base w0 pa L) (t : RowKit.Below w0.heap.size w0 w) : HpO (fun b => Z b ∨ (w0.heap.size ≤ b ∧ b < w.heap.size)) base w pa L := by
  obtain ⟨M, h1, h2, h3, h4⟩ := h
  refine ⟨M, h1.below t, fun b e => ⟨(h2 b e).1, fun c => c.elim (h2 b e).2.1 (fun c => by have := (h2 b e).2.2; omega), Nat.lt_of_lt_of_le (h2 b e).2.2 t.size⟩, fun b e => e.elim (fun e => Nat.lt_of_lt_of_le (h3 b e) t.size) (fun e => e.2), Nat.le_trans h4 t.size⟩
theorem HpO.forget {N' : Nat → Prop} (h : HpO Z base w pa L) (hN : ∀ b, N' b → Z b) : HpO N' base w pa L := by
  obtain ⟨M, h1, h2, h3, h4⟩ := h
  exact ⟨M, h1, fun b e => ⟨(h2 b e).1, fun c => (h2 b e).2.1 (hN b c), (h2 b e).2.2⟩, fun b e => h3 b (hN b e), h4⟩
/-- A row just laid (or read) beside a heap. -/
theorem HpO.beside {w0 : World} {l : List Hd} {v : Value} (h : HpO Z base w0 pa L) (t : RowKit.Below w0.heap.size w0 w) (hv : SlN (fun b => w0.heap.size ≤ b) encH w v l) : HpO (fun b => Z b ∨ (w0.heap.size ≤ b ∧ b < w.heap.size)) base w pa L ∧ SlN (fun b => w0.heap.size ≤ b ∧ b < w.heap.size) encH w v l :=
  ⟨h.off t, by
    obtain ⟨p, cap, rfl, h1, h2, hX⟩ := hv
    exact ⟨p, cap, rfl, h1, h2, fun hl => by obtain ⟨g, o, e, h3, h5, h4⟩ := hX hl; exact ⟨g, o, e, h3, ⟨h5, h3⟩, h4⟩⟩⟩
end
/-- A literal row, in its new block. -/
theorem slN_lit {w : World} {cs : Array Value} {t b : Nat} (l : List Hd) (hb : b = w.heap.size) (hc : cs.toList = flat encH l) (hm : l.length ≤ maxLen) : SlN (fun b => w.heap.size ≤ b) encH (w.alloc (.cells cs t)) (.slice (some ⟨b, 0, none⟩) l.length l.length) l := by
  subst hb
  refine ⟨_, l.length, rfl, Nat.le_refl _, hm, fun _ => ⟨w.heap.size, 0, rfl, by simp, Nat.le_refl _, fun j u hu => ?_⟩⟩
  rw [World.cell?_alloc_at (w := w) cs t w.heap.size _ rfl, Nat.zero_add]
  rw [← hc] at hu
  simpa using hu

set_option maxHeartbeats 2000000 in
set_option maxRecDepth 100000 in
theorem alive_any (w : World) : Calls Tryd.prog 8 #[] w fun e w' => e = .returned (.bool true) ∧ RowKit.Below w.heap.size w w' := by
  have C0 := Lib.hid (newO (Z := NoZ) (base := w.heap.size) (w := w) (Nat.le_refl _) (fun b e => e.elim))
  have hB := Lib.hid (Both.pushes sto_hd (Both.nil (lt := ltH)) [(3, 1), (2, 9), (2, 4)])
  have hF := Lib.hid (hB.out.first sto_hd (by rw [putsL_len]; simp))
  have q : (putsL ltH [] [(3, 1), (2, 9), (2, 4)])[0]! = ((2, 4) : Hd) := by decide +kernel
  rw [q] at hF
  have eq1 := eqH_run
  clear q
  go_enter Tryd.func8, Tryd.ntmps8
  go_wp2_with fail
  refine C0.out.mono ?_
  rintro e w1 ⟨pa, rfl, hp1, hb1⟩
  unfold psP
  have B2 := Lib.hid (Ba (Below.refl _ w1) (.cells #[.int .i64 3, .int .i64 1, .int .i64 2, .int .i64 9, .int .i64 2, .int .i64 4] 35))
  obtain ⟨hp2, hs2⟩ := hp1.beside B2.out (slN_lit (w := w1) (cs := #[.int .i64 3, .int .i64 1, .int .i64 2, .int .i64 9, .int .i64 2, .int .i64 4]) (t := 35) (b := w1.heap.size) [((3, 1) : Hd), (2, 9), (2, 4)] rfl rfl (by unfold maxLen; simp))
  have C2 := Lib.hid (pushO hp2 _ _ hs2 (fun b e => .inl (.inr e)) (by simp) (by simp))
  have B3 := Lib.hid (hb1.trans (B2.out.mono hb1.size))
  unfold psP at C2
  clear hp1 hp2 hs2 B2 C0 hb1
  go_wp2_with fail
  refine C2.out.mono ?_
  rintro e w3 ⟨rfl, hp3, ht3⟩
  have B4 := Lib.hid (B3.out.trans (OffZ.below ht3 B3.out.size))
  have C3 := Lib.hid (popO hp3 (by rw [pushesL_len]; simp) (by rw [pushesL_len]; simp))
  rw [← hF.out] at C3
  unfold psP aggH at C3
  clear hp3 ht3 C2
  go_wp2_with fail
  refine C3.out.mono ?_
  rintro e w5 ⟨rfl, hp5, ht5⟩
  have B5 := Lib.hid (B4.out.trans (OffZ.below ht5 B4.out.size))
  clear hp5 ht5 C3 B3 B4
  go_wp2
  go_ret
  exact ⟨rfl, by have := B5.out; exact (by repeat (first | with_reducible exact Below.refl _ _ | with_reducible assumption | with_reducible apply Ba | with_reducible apply Bd | with_reducible apply Bn | with_reducible apply Bg | (with_reducible refine Bs ?_ (by first | (simp; done) | (simp; omega)) _) | (with_reducible refine Bt ?_ (by assumption)) | (with_reducible refine Bt ?_ (Gr.below (by assumption)))))⟩
end Go.Proofs.YtaceahjomhgccaaDoor
