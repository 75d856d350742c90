import Derived.Test.YtahichjiphjapaaGreatDoorZ36
import Derived.Test.YtahichjiphjapaaGreatDoorZ31
import Derived.Recover

/-
  Package quad: a tree's blocks are there.
-/
namespace Go.Proofs.YtahichjiphjapaaGreatDoor
set_option linter.unusedSimpArgs false
set_option linter.unusedVariables false
open Go.RowKit Go.Sort Go.Lib Go.Shelf

section
variable {w : World} {M : Nat → Prop}
abbrev Thr (w : World) (M : Nat → Prop) : Nat → Prop := fun b => M b ∧ b < w.heap.size
theorem RowN.thr {v : Value} {l : List Bxd} (h : RowN w M v l) : RowN w (Thr w M) v l := ⟨h.1, fun g hg => ⟨h.2 g hg, row_lt h.1 hg⟩⟩
theorem PtrV.thr : ∀ {n : Nat} {R : Rw} {p : Option Nat}, PtrV w M n R p → PtrV w (Thr w M) n R p
  | 0, R, p, h => h
  | n + 1, R, none, h => h
  | n + 1, R, some b, h => by
    obtain ⟨h1, h2, rv, q, h3, h4, h5, h6, h7, h8⟩ := h
    exact ⟨h1, ⟨h2, (Array.getElem?_eq_some_iff.1 h3).1⟩, rv, q, h3, RowN.thr h4, PtrV.thr h5, PtrV.thr h6, PtrV.thr h7, PtrV.thr h8⟩
theorem TrAt.thr {pt : Nat} {B : List Bxd} (h : TrAt w M pt B) : TrAt w (Thr w M) pt B := by
  obtain ⟨mb, R, rv, q, h⟩ := h
  obtain ⟨h0, h1, h2, h3, h4⟩ := h.nd
  refine ⟨mb, R, rv, q, { h with inT := ⟨h.inT, (Array.getElem?_eq_some_iff.1 h.blk).1⟩, inM := ⟨h.inM, h.map.lt⟩, nd := ?_ }⟩
  exact NdV.mono (fun b e => ⟨⟨e.1.1, e.2⟩, e.1.2⟩) (⟨RowN.thr h0, PtrV.thr h1, PtrV.thr h2, PtrV.thr h3, PtrV.thr h4⟩ : NdV w (Thr w (Nds M pt mb)) 8 R rv q)
end
end Go.Proofs.YtahichjiphjapaaGreatDoor

/-
  Package quad: what a walk's functions may do; a node's boxes are told.
-/
namespace Go.Proofs.YtahichjiphjapaaGreatDoor
set_option linter.unusedSimpArgs false
set_option linter.unusedVariables false
open Go.RowKit Go.Sort Go.Lib Go.Shelf

abbrev Inv := List Ev → (Nat → Prop) → World → Prop
/-- All that a walk's functions own is there. -/
def OwnB (Y : Nat → Prop) (W : World) : Prop := ∀ b, Y b → b < W.heap.size
/-- Behind a call: the functions own some blocks of their own; nothing else of what was there has changed. -/
def Cb (I : Inv) (s : List Ev) (Y : Nat → Prop) (W w' : World) : Prop := ∃ Y', I s Y' w' ∧ Tch Y W w' ∧ ∀ b, Y' b → (Y b ∨ W.heap.size ≤ b) ∧ b < w'.heap.size
def Stab (I : Inv) : Prop := ∀ s Y W W', I s Y W → RowKit.Below W.heap.size W W' → I s Y W'
section
variable {I : Inv} {s s1 : List Ev} {Y : Nat → Prop} {W w1 w2 : World}
theorem Cb.refl (hi : I s Y W) (ho : OwnB Y W) : Cb I s Y W W := ⟨Y, hi, Tch.refl _ _, fun b e => ⟨.inl e, ho b e⟩⟩
theorem Cb.below (hI : Stab I) (h : Cb I s Y W w1) (hb : RowKit.Below w1.heap.size w1 w2) : Cb I s Y W w2 := by
  obtain ⟨Y', h1, h2, h3⟩ := h
  exact ⟨Y', hI _ _ _ _ h1 hb, h2.bel hb, fun b e => ⟨(h3 b e).1, Nat.lt_of_lt_of_le (h3 b e).2 hb.size⟩⟩
theorem Cb.pre (hb : RowKit.Below W.heap.size W w1) (h : Cb I s Y w1 w2) : Cb I s Y W w2 := by
  obtain ⟨Y', h1, h2, h3⟩ := h
  exact ⟨Y', h1, (Tch.of hb).more h2, fun b e => ⟨(h3 b e).1.elim .inl fun c => .inr (Nat.le_trans hb.size c), (h3 b e).2⟩⟩
/-- One call behind the other. -/
theorem Cb.step (h : Cb I s Y W w1) (h2 : ∀ Y', I s Y' w1 → OwnB Y' w1 → (∀ b, Y' b → Y b ∨ W.heap.size ≤ b) → Cb I s1 Y' w1 w2) : Cb I s1 Y W w2 := by
  obtain ⟨Y', k1, k2, k3⟩ := h
  obtain ⟨Y2, m1, m2, m3⟩ := h2 Y' k1 (fun b e => (k3 b e).2) (fun b e => (k3 b e).1)
  refine ⟨Y2, m1, ⟨m2.os.trans k2.os, m2.tape.trans k2.tape, m2.output.trans k2.output, Nat.le_trans k2.size m2.size, fun k hk hn => (m2.block k (Nat.lt_of_lt_of_le hk k2.size) fun e => ?_).trans (k2.block k hk hn)⟩, fun b e => ⟨?_, (m3 b e).2⟩⟩
  · rcases (k3 k e).1 with c | c
    · exact hn c
    · omega
  · rcases (m3 b e).1 with c | c
    · exact (k3 b c).1
    · exact .inr (Nat.le_trans k2.size c)
theorem Cb.comp {Y1 : Nat → Prop} (t1 : Tch Y W w1) (o1 : ∀ b, Y1 b → (Y b ∨ W.heap.size ≤ b) ∧ b < w1.heap.size) (h2 : Cb I s1 Y1 w1 w2) : Cb I s1 Y W w2 := by
  obtain ⟨Y2, m1, m2, m3⟩ := h2
  refine ⟨Y2, m1, ⟨m2.os.trans t1.os, m2.tape.trans t1.tape, m2.output.trans t1.output, Nat.le_trans t1.size m2.size, fun k hk hn => (m2.block k (Nat.lt_of_lt_of_le hk t1.size) fun e => ?_).trans (t1.block k hk hn)⟩, fun b e => ⟨?_, (m3 b e).2⟩⟩
  · rcases (o1 k e).1 with c | c
    · exact hn c
    · omega
  · rcases (m3 b e).1 with c | c
    · exact (o1 b c).1
    · exact .inr (Nat.le_trans t1.size c)
theorem Cb.tch (h : Cb I s Y W w1) : Tch Y W w1 := h.choose_spec.2.1
end
/-- What tell is to say. -/
def Tells (I : Inv) (E : List Ev) (av : Value) : Prop := ∀ (Mn : Nat → Prop) (rv : Value) (q : Q4) (l : List Bxd) (s t : List Ev) (Y : Nat → Prop) (W : World), RowN W Mn rv l → (∀ b, Mn b → ¬ Y b) → l.length ≤ 1000 → s ++ l.map Ev.tell ++ t = E → I s Y W → OwnB Y W →
  Calls Tryz.prog 85 #[ndV rv q, av] W fun e w' => (∃ r, e = .returned r) ∧ Cb I (s ++ l.map Ev.tell) Y W w'
theorem skip_tells {I : Inv} (hs : ∀ s Y W b, I s Y W → I (s ++ [Ev.tell b]) Y W) : ∀ (l : List Bxd) (s : List Ev) (Y : Nat → Prop) (W : World), I s Y W → I (s ++ l.map Ev.tell) Y W
  | [], s, Y, W, h => by simpa using h
  | b :: l, s, Y, W, h => by
    have := skip_tells hs l (s ++ [Ev.tell b]) Y W (hs s Y W b h)
    simpa using this
theorem eqF_func (f : Fn) (a b : Array Value) (w : World) : (binOp .eql 103 (.func f a b) .nilFunc).run Tryz.prog w = .ok (.bool false) w := by kernel_rfl
theorem eqF_nil (w : World) : (binOp .eql 103 .nilFunc .nilFunc).run Tryz.prog w = .ok (.bool true) w := by kernel_rfl
theorem eqE_func (f : Fn) (a b : Array Value) (w : World) : (binOp .eql 101 (.func f a b) .nilFunc).run Tryz.prog w = .ok (.bool false) w := by kernel_rfl
set_option maxHeartbeats 1000000 in
set_option maxRecDepth 100000 in
/-- None to tell. -/
theorem tell_nil {I : Inv} (hI : Stab I) (hs : ∀ s Y W b, I s Y W → I (s ++ [Ev.tell b]) Y W) (E : List Ev) : Tells I E .nilFunc := by
  intro Mn rv q l s t Y W hrow hd hl hE hi ho
  obtain ⟨p, cap, rfl, _⟩ := row_val hrow.1
  obtain ⟨q1, q2, q3, q4⟩ := q
  have HC := Lib.hid (fun w' hb => Cb.below (w2 := w') hI (Cb.refl (skip_tells hs l s Y W hi) ho) hb)
  clear hs hi ho
  have hq := eqF_nil
  unfold ndV ndC
  dsimp only
  go_enter Tryz.func85, Tryz.ntmps85
  go_wp2
  first | go_end0 | refine bodyPost_ret (results_none rfl _ _ _) rfl ?_
  exact ⟨⟨_, rfl⟩, HC.out _ (by repeat (first | with_reducible exact Below.refl _ _ | with_reducible assumption | with_reducible apply Ba | with_reducible apply Bd | with_reducible apply Bn | with_reducible apply Bg | (with_reducible refine Bs ?_ (by first | (simp; done) | (simp; omega)) _) | (with_reducible refine Bt ?_ (by assumption)) | (with_reducible refine Bt ?_ (Gr.below (by assumption)))))⟩
set_option maxHeartbeats 2000000 in
set_option maxRecDepth 100000 in
/-- One after the other. -/
theorem tell_func {I : Inv} (hI : Stab I) (E : List Ev) (fa : FuncId) (va : Array Value) (hen : ∀ args w, (callFunc fa args).run Tryz.prog w = .ok (.enter fa args) w)
    (ha : ∀ (s t : List Ev) (Y : Nat → Prop) (W : World) (b : Bxd), s ++ Ev.tell b :: t = E → I s Y W → OwnB Y W → Calls Tryz.prog fa (#[.agg #[.int .i64 b.1.1, .int .i64 b.1.2], .agg #[.int .i64 b.2.1, .int .i64 b.2.2.1, .int .i64 b.2.2.2.1, .int .i64 b.2.2.2.2]] ++ va) W fun e w' => (∃ r, e = .returned r) ∧ Cb I (s ++ [Ev.tell b]) Y W w') : Tells I E (.func (.func fa) #[] va) := by
  intro Mn rv q l s t Y W hrow hd hl hE hi ho
  have HR := Lib.hid hrow
  have hsl := hrow.sl lenHB
  obtain ⟨p, cap, rfl, hc, hcm, hcs⟩ := hsl
  obtain ⟨q1, q2, q3, q4⟩ := q
  have HS := Lib.hid hcs
  have HA := Lib.hid ha
  have HSt := Lib.hid hI
  have HI0 := Lib.hid (Cb.refl hi ho)
  have HE := Lib.hid hE
  have hmf : ∀ (fn : Fn) (first cap : Array Value) (w : World), (Instr.makeFunc fn first cap).run Tryz.prog w = .ok (.func fn first cap) w := fun _ _ _ _ => rfl
  clear ha hcs hi ho hI hE hrow
  have hq := eqF_func
  unfold ndV ndC
  dsimp only
  go_enter Tryz.func85, Tryz.ntmps85
  go_wp2
  go_loopw [11] (fun i wr => ∃ k : Nat, k ≤ l.length ∧ i = .int .i64 k ∧ Hid (Cb I (s ++ (l.take k).map Ev.tell) Y W wr)) (fun i _ => l.length - (intOf i).toNat)
  case atStart => exact ⟨0, Nat.zero_le _, rfl, Lib.hid (by have := Cb.below HSt.out HI0.out (Ba (Below.refl _ W) (.cells #[.slice p l.length cap, pV q1, pV q2, pV q3, pV q4] 83)); simpa using this)⟩
  case round =>
    obtain ⟨k, hk, rfl, HC⟩ := hrel
    by_cases hkn : k < l.length
    · obtain ⟨g, o, rfl, hg, hcs⟩ := HS.out (by omega)
      obtain ⟨c1, c2, c3, c4, c5, c6⟩ := atHB hcs hkn
      have hgY : ¬ Y g := hd g (HR.out.2 g rfl)
      have hT := HC.out.tch
      replace c1 := hT.cell hg hgY c1
      replace c2 := hT.cell hg hgY c2
      replace c3 := hT.cell hg hgY c3
      replace c4 := hT.cell hg hgY c4
      replace c5 := hT.cell hg hgY c5
      replace c6 := hT.cell hg hgY c6
      have hgw : g < wr.heap.size := hT.lt hg
      have hlk : l.take (k + 1) = l.take k ++ [l[k]!] := by rw [List.take_succ_eq_append_getElem hkn, getElem!_pos l k hkn]
      have hEk : s ++ (l.take k).map Ev.tell ++ Ev.tell l[k]! :: ((l.drop (k + 1)).map Ev.tell ++ t) = E := by
        rw [← HE.out]
        conv => rhs; rw [← List.take_append_drop (k + 1) l, hlk]
        simp
      have HEk := Lib.hid hEk
      have HLk := Lib.hid hlk
      generalize l[k]! = b at *
      obtain ⟨⟨b1, b2⟩, b3, b4, b5, b6⟩ := b
      dsimp only at c1 c2 c3 c4 c5 c6
      have hkz : (k : Int) < (l.length : Int) := by omega
      have HX := Lib.hid (Cb.below HSt.out HC.out (Ba (Below.refl _ wr) (.cells #[.int .i64 b1, .int .i64 b2, .int .i64 b3, .int .i64 b4, .int .i64 b5, .int .i64 b6] 96)))
      clear hT hcs hEk hlk
      go_wp2_with fail
      obtain ⟨Y1, i1, t1, o1⟩ := HX.out
      refine (HA.out _ _ Y1 _ ((b1, b2), (b3, b4, b5, b6)) HEk.out i1 (fun b e => (o1 b e).2)).mono ?_
      rintro e w3 ⟨⟨r, rfl⟩, hc3⟩
      have HC3 := Lib.hid (show Cb I (s ++ (l.take (k + 1)).map Ev.tell) Y W w3 by
        have := Cb.comp t1 o1 hc3
        rw [HLk.out]
        simpa using this)
      clear i1 t1 o1 hc3
      go_wp2
      go_roundw
      case measure => simp only [intOf]; omega
      case rel => exact ⟨k + 1, by omega, by go_num, HC3⟩
    · obtain rfl : k = l.length := by omega
      rw [List.take_length] at HC
      go_wp2
      first | go_end0 | refine bodyPost_ret (results_none rfl _ _ _) rfl ?_
      exact ⟨⟨_, rfl⟩, HC.out⟩
end Go.Proofs.YtahichjiphjapaaGreatDoor
