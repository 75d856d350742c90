/-
  Package heap's calls at a heap in memory: Clear, Peek, Pop, Push.
-/
import Derived.Test.YtaceahjomhgccaaDoorHr10
import Derived.Test.YtaceahjomhgccaaDoorErrK
namespace Go.Proofs.YtaceahjomhgccaaDoor
set_option linter.unusedSimpArgs false
set_option linter.unusedVariables false
open Go.RowKit Go.Sort Go.Lib Go.Shelf

/-- A slice that holds the list l, in blocks of N. -/
def SlN {α : Type} (N : Nat → Prop) (enc : α → List Value) (w : World) (v : Value) (l : List α) : Prop :=
  ∃ p cap, v = .slice p l.length cap ∧ l.length ≤ cap ∧ cap ≤ maxLen ∧ (0 < l.length → ∃ g o, p = some ⟨g, o, none⟩ ∧ g < w.heap.size ∧ N g ∧ ∀ j u, (flat enc l)[j]? = some u → w.cell? ⟨g, o + j, none⟩ = some u)
section
variable {α : Type} {enc : α → List Value} {N N' X : Nat → Prop} {w w' : World} {v : Value} {l : List α}
theorem SlN.sl (h : SlN N enc w v l) : Sl enc w v l := by
  obtain ⟨p, cap, rfl, h1, h2, h⟩ := h
  exact ⟨p, cap, rfl, h1, h2, fun hl => by obtain ⟨g, o, e, h3, _, h4⟩ := h hl; exact ⟨g, o, e, h3, h4⟩⟩
theorem SlN.kept (h : SlN N enc w v l) (t : Tch X w w') (hd : ∀ b, N b → ¬ X b) : SlN N enc w' v l := by
  obtain ⟨p, cap, rfl, h1, h2, h⟩ := h
  exact ⟨p, cap, rfl, h1, h2, fun hl => by
    obtain ⟨g, o, e, h3, h5, h4⟩ := h hl
    exact ⟨g, o, e, Nat.lt_of_lt_of_le h3 t.size, h5, fun j u hu => t.cell h3 (hd g h5) (h4 j u hu)⟩⟩
theorem SlN.below (h : SlN N enc w v l) (t : RowKit.Below w.heap.size w w') : SlN N enc w' v l := h.kept (X := fun _ => False) (Tch.of t) (fun _ _ e => e)
theorem SlN.mono (h : SlN N enc w v l) (hN : ∀ b, N b → N' b) : SlN N' enc w v l := by
  obtain ⟨p, cap, rfl, h1, h2, h⟩ := h
  exact ⟨p, cap, rfl, h1, h2, fun hl => by obtain ⟨g, o, e, h3, h5, h4⟩ := h hl; exact ⟨g, o, e, h3, hN g h5, h4⟩⟩
theorem SlN.nil (p : Option Addr) (cap : Nat) (h : cap ≤ maxLen) : SlN N enc w (.slice p 0 cap) ([] : List α) := ⟨p, cap, rfl, Nat.zero_le _, h, fun h => absurd h (Nat.lt_irrefl _)⟩
theorem SlN.of [Inhabited α] {base k et : Nat} (hk : ∀ x, (enc x).length = k) {n : Nat} (h : w.ownsRow base et k v n (flat enc l)) (hn : n = l.length) : SlN (fun b => base ≤ b) enc w v l := by
  obtain ⟨p, cap, rfl, h1, h2, hh⟩ := own_of_row hk h hn
  exact ⟨p, cap, rfl, h1, h2, fun hl => by
    obtain ⟨g, rfl, h3, h4, h5⟩ := hh hl
    exact ⟨g, 0, rfl, h4, h3, fun j u hu => (flat_of_holds hk h5 j u hu).1⟩⟩
/-- .. in the row's own block. -/
theorem SlN.own [Inhabited α] {base k et : Nat} (hk : ∀ x, (enc x).length = k) {n : Nat} (h : w.ownsRow base et k v n (flat enc l)) (hn : n = l.length) : SlN (fun b => v.ownBlock = some b) enc w v l := by
  obtain ⟨p, cap, rfl, h1, h2, hh⟩ := own_of_row hk h hn
  exact ⟨p, cap, rfl, h1, h2, fun hl => by
    obtain ⟨g, rfl, h3, h4, h5⟩ := hh hl
    exact ⟨g, 0, rfl, h4, rfl, fun j u hu => (flat_of_holds hk h5 j u hu).1⟩⟩
/-- What is read out of blocks that are older than a world is not in its new blocks, and so on. -/
theorem Sl.slN (h : Sl enc w v l) : SlN (fun b => b < w.heap.size) enc w v l := by
  obtain ⟨p, cap, rfl, h1, h2, h⟩ := h
  exact ⟨p, cap, rfl, h1, h2, fun hl => by obtain ⟨g, o, e, h3, h4⟩ := h hl; exact ⟨g, o, e, h3, h3, h4⟩⟩
theorem Sl.slB {w0 : World} (h : Sl enc w0 v l) (t : RowKit.Below w0.heap.size w0 w) : SlN (fun b => b < w0.heap.size) enc w v l := h.slN.below t
theorem slN_at2 {N : Nat → Prop} {l : List Hd} {g o : Nat} (h : ∀ j u, (flat encH l)[j]? = some u → w.cell? ⟨g, o + j, none⟩ = some u) {i : Nat} (hi : i < l.length) :
    w.cell? ⟨g, o + i * 2, none⟩ = some (.int .i64 l[i]!.1) ∧ w.cell? ⟨g, o + i * 2 + 1, none⟩ = some (.int .i64 l[i]!.2) := atH h hi
end

section
variable {pa : Nat} {L : List Hd} {M : Nat → Prop} {w : World}
theorem clear_call (hp : HpAt w M pa L) : Calls Tryd.prog 15 #[.pointer (some ⟨pa, 0, none⟩)] w fun e w' => e = .returned (.tuple #[]) ∧ HpAt w' M pa [] ∧ Tch M w w' := by
  obtain ⟨p, cap, hi, h1, h2, _⟩ := hp.open
  have hl := hi.lt
  obtain ⟨c0, f0⟩ := hi.cells
  obtain ⟨P, t⟩ := hp_put (L := []) hi.1 hi.2.1 (row_nil w 35 2 M)
  have X := Lib.hid P
  have T := Lib.hid t
  clear hi hp P t
  go_enter Tryd.func15, Tryd.ntmps15
  go_wp2
  go_end0
  exact ⟨rfl, X.out.at, T.out⟩

set_option maxHeartbeats 1000000 in
set_option maxRecDepth 100000 in
theorem peek_none (hp : HpAt w M pa []) (t : TypeId) (v : Value) (hE : w.cell? ⟨2, 0, none⟩ = some (.iface t v)) : Calls Tryd.prog 13 #[.pointer (some ⟨pa, 0, none⟩)] w fun e w' => e = .returned (.tuple #[.agg #[.int .i64 0, .int .i64 0], .iface t v]) ∧ RowKit.Below w.heap.size w w' := by
  have N := Lib.hid (fun W (h : RowKit.Below w.heap.size w W) => len_call (hp.below h))
  have hel := cell_lt hE
  rw [List.length_nil] at N
  clear hp
  go_enter Tryd.func13, Tryd.ntmps13
  go_wp2_with fail
  refine (N.out _ (Ba (Below.refl _ w) _)).mono ?_
  rintro e w1 ⟨rfl, rfl⟩
  have hE2 : (w.alloc (.cells #[.int .i64 0, .int .i64 0] 35)).cell? ⟨2, 0, none⟩ = some (.iface t v) := Bc (W := w) (by repeat (first | with_reducible exact Below.refl _ _ | with_reducible assumption | with_reducible apply Ba | with_reducible apply Bd | with_reducible apply Bn | with_reducible apply Bg | (with_reducible refine Bs ?_ (by first | (simp; done) | (simp; omega)) _) | (with_reducible refine Bt ?_ (by assumption)) | (with_reducible refine Bt ?_ (Gr.below (by assumption))))) hel hE
  go_wp2_with fail
  go_region
  all_goals
    go_wp2
    exact bodyPost_ret (v := .tuple #[.agg #[.int .i64 0, .int .i64 0], .iface t v]) (by simp [results, Tryd.results13, go_sem, *]) rfl ⟨rfl, (by repeat (first | with_reducible exact Below.refl _ _ | with_reducible assumption | with_reducible apply Ba | with_reducible apply Bd | with_reducible apply Bn | with_reducible apply Bg | (with_reducible refine Bs ?_ (by first | (simp; done) | (simp; omega)) _) | (with_reducible refine Bt ?_ (by assumption)) | (with_reducible refine Bt ?_ (Gr.below (by assumption)))))⟩

set_option maxHeartbeats 1000000 in
set_option maxRecDepth 100000 in
theorem peek_some (hp : HpAt w M pa L) (h0 : 0 < L.length) : Calls Tryd.prog 13 #[.pointer (some ⟨pa, 0, none⟩)] w fun e w' => e = .returned (.tuple #[aggH L[0]!, .nilIface]) ∧ RowKit.Below w.heap.size w w' := by
  have N := Lib.hid (fun W (h : RowKit.Below w.heap.size w W) => len_call (hp.below h))
  obtain ⟨p, cap, hI, h1, h2, h3⟩ := hp.open
  obtain ⟨g, rfl, hg, hne⟩ := h3 h0
  have hl := hI.lt
  obtain ⟨c0, f0⟩ := hI.cells
  obtain ⟨⟨d1, d2⟩, _⟩ := rowE hI.2.2.1 h0
  have hz : ¬ (L.length : Int) = 0 := by omega
  clear hI hp h3
  unfold aggH
  generalize L[0]! = x at *
  obtain ⟨x1, x2⟩ := x
  dsimp only at *
  simp only [Nat.zero_mul] at d1 d2
  go_enter Tryd.func13, Tryd.ntmps13
  go_wp2_with fail
  refine (N.out _ (Ba (Below.refl _ w) _)).mono ?_
  rintro e w1 ⟨rfl, rfl⟩
  go_wp2
  exact bodyPost_ret (v := .tuple #[.agg #[.int .i64 x1, .int .i64 x2], .nilIface]) (by simp [results, Tryd.results13, go_sem, *]) rfl ⟨rfl, (by repeat (first | with_reducible exact Below.refl _ _ | with_reducible assumption | with_reducible apply Ba | with_reducible apply Bd | with_reducible apply Bn | with_reducible apply Bg | (with_reducible refine Bs ?_ (by first | (simp; done) | (simp; omega)) _) | (with_reducible refine Bt ?_ (by assumption)) | (with_reducible refine Bt ?_ (Gr.below (by assumption)))))⟩
end
end Go.Proofs.YtaceahjomhgccaaDoor
