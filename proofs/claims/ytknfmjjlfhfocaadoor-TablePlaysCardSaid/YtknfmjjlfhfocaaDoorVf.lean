/-
  Find in the program and in the reference: the first component of a kind.
-/
import Derived.Test.YtknfmjjlfhfocaaDoorVe
namespace Go.Proofs.YtknfmjjlfhfocaaDoor
set_option linter.unusedSimpArgs false
set_option linter.unusedVariables false
open Go.RowKit Go.Sort Go.Lib Go.Shelf

/-- A store into a block that is new since a. -/
theorem Gr.set {a w : World} (h : Gr a w) {p : Addr} (hp : a.heap.size ≤ p.block) (u : Value) : Gr a (w.setCell p u) := by
  obtain ⟨q, os, rfl⟩ := h
  refine ⟨q, os.modify (p.block - a.heap.size) (fun | .cells c elem fr => .cells (if p.spot.isSome then c else c.setIfInBounds p.off u) elem fr | o => o), ?_⟩
  have e : ∀ (f : Obj → Obj) (A B : Array Obj) (i : Nat), A.size ≤ i → (A ++ B).modify i f = A ++ B.modify (i - A.size) f := fun f A B i hi => by
    apply Array.ext
    · simp
    · intro j h1 h2
      simp only [Array.getElem_modify, Array.getElem_append]
      split
      · rename_i hij
        subst hij
        rw [dif_neg (by omega), dif_neg (by omega)]; simp
      · rename_i hij
        split
        · rfl
        · simp; omega
  show World.setCell _ p u = _
  unfold World.setCell Sort.grow
  simp only
  congr 1
  exact e _ _ _ _ hp

def fndV (l : List Vl) (k : Int) : Vl := (findV l k).getD (0, 0, 0)
def hasK (l : List Vl) (k : Int) : Bool := (findV l k).isSome


set_option maxHeartbeats 1000000 in
set_option maxRecDepth 100000 in
theorem rfind_call (l : List Vl) (v : Value) (k : Int) (w : World) (hl : Sl encV w v l) : Calls Tryd.prog 30 #[v, .int .i64 k] w fun e w' => e = .returned (.tuple #[aggV (fndV l k), .bool (hasK l k)]) ∧ Gr w w' := by
  obtain ⟨p, cap, rfl, hl1, hl2, hl3⟩ := hl
  have HL := Lib.hid hl3
  have hbig : l.length ≤ 9223372036854775807 := by unfold maxLen at hl2; omega
  clear hl3 hl2
  obtain ⟨rx, hrx⟩ : ∃ rx, rx = fndV l k := ⟨_, rfl⟩
  obtain ⟨rb, hrb⟩ : ∃ rb, rb = hasK l k := ⟨_, rfl⟩
  rw [← hrx, ← hrb]
  have HX := Lib.hid hrx
  have HB := Lib.hid hrb
  clear hrx hrb
  go_enter Tryd.func30, Tryd.ntmps30
  go_wp2
  go_loopg [10] l.length (fun gk s10 wr => ∃ i : Nat, s10 = .int .i64 i ∧ i ≤ l.length ∧ l.length - i ≤ gk ∧ Gr (w.alloc (.cells #[.int .i64 0, .int .i64 0, .int .i64 0] 41)) wr ∧ Hid (∀ j, j < i → l[j]!.1 ≠ k))
  case atStart => exact ⟨0, rfl, Nat.zero_le _, by omega, Gr.refl _, fun j hj => absurd hj (Nat.not_lt_zero _)⟩
  case round =>
    obtain ⟨i, rfl, hi, hgk, hg, I⟩ := hrel
    have hb := hg.below
    have hlw : w.heap.size < wr.heap.size := Bl hb (by simp)
    have z0 : wr.cell? ⟨w.heap.size, 0, none⟩ = some (.int .i64 0) := Bc hb (by simp) (by simp)
    have z1 : wr.cell? ⟨w.heap.size, 1, none⟩ = some (.int .i64 0) := Bc hb (by simp) (by simp)
    have z2 : wr.cell? ⟨w.heap.size, 2, none⟩ = some (.int .i64 0) := Bc hb (by simp) (by simp)
    have f0 : wr.frozen? ⟨w.heap.size, 0, none⟩ = false := Bf hb (by simp) (by simp)
    have f1 : wr.frozen? ⟨w.heap.size, 1, none⟩ = false := Bf hb (by simp) (by simp)
    have f2 : wr.frozen? ⟨w.heap.size, 2, none⟩ = false := Bf hb (by simp) (by simp)
    have HG := Lib.hid ((((Gr.refl w).alloc _).trans hg : Gr w wr))
    have HG2 := Lib.hid hg
    clear hb
    by_cases hin : i < l.length
    · obtain ⟨g, o, rfl, hg1, hg2⟩ := HL.out (by omega)
      obtain ⟨c1, c2, c3⟩ := atV hg2 hin
      have d1 : wr.cell? ⟨g, o + i * 3, none⟩ = some (.int .i64 l[i]!.1) := Bc HG.out.below hg1 c1
      have d2 : wr.cell? ⟨g, o + i * 3 + 1, none⟩ = some (.int .i64 l[i]!.2.1) := Bc HG.out.below hg1 c2
      have d3 : wr.cell? ⟨g, o + i * 3 + 2, none⟩ = some (.int .i64 l[i]!.2.2) := Bc HG.out.below hg1 c3
      have hgw : g < wr.heap.size := Bl HG.out.below hg1
      have HF := Lib.hid (fun (h : l[i]!.1 = k) => show rx = l[i]! ∧ rb = true from by
        have := find_at hin h (fun j hj => I.out j hj)
        rw [HX.out, HB.out]; unfold fndV hasK; rw [this]; exact ⟨rfl, rfl⟩)
      generalize hx : l[i]! = x at *
      have X := Lib.hid hx
      obtain ⟨x1, x2, x3⟩ := x
      dsimp only at d1 d2 d3
      clear hg2 c1 c2 c3 hx hg
      by_cases hk : x1 = k
      · obtain ⟨ex, eb⟩ := HF.out hk
        subst hk
        have E := Lib.hid (show Value.tuple #[.agg #[.int .i64 x1, .int .i64 x2, .int .i64 x3], .bool true] = .tuple #[aggV rx, .bool rb] by rw [ex, eb]; rfl)
        clear ex eb HF
        go_wp2
        exact bodyPost_ret (v := .tuple #[.agg #[.int .i64 x1, .int .i64 x2, .int .i64 x3], .bool true]) (by simp [results, Tryd.results30, go_sem, *]) rfl ⟨congrArg _ E.out, by repeat (first | exact HG.out | with_reducible apply Gr.alloc | (with_reducible refine Gr.set ?_ (by simp) _))⟩
      · have hne : (x1 == k) = false := beq_eq_false_iff_ne.2 hk
        have HK := Lib.hid hk
        clear hk HF
        go_wp2
        go_roundg (l.length - (i + 1))
        case measure => omega
        case rel =>
          refine ⟨i + 1, by go_num, by omega, Nat.le_refl _, HG2.out.alloc _, (show Hid _ from fun j hj => ?_)⟩
          by_cases e : j = i
          · subst e; rw [X.out]; exact HK.out
          · exact I.out j (by omega)
    · have e0 : findV l k = none := find_no fun j hj => I.out j (by omega)
      have ex : rx = (0, 0, 0) := by rw [HX.out]; unfold fndV; rw [e0]; rfl
      have eb : rb = false := by rw [HB.out]; unfold hasK; rw [e0]; rfl
      have E := Lib.hid (show Value.tuple #[.agg #[.int .i64 0, .int .i64 0, .int .i64 0], .bool false] = .tuple #[aggV rx, .bool rb] by rw [ex, eb]; rfl)
      clear ex eb e0 hg
      go_wp2
      exact bodyPost_ret (v := .tuple #[.agg #[.int .i64 0, .int .i64 0, .int .i64 0], .bool false]) (by simp [results, Tryd.results30, go_sem, *]) rfl ⟨congrArg _ E.out, by repeat (first | exact HG.out | with_reducible apply Gr.alloc | (with_reducible refine Gr.set ?_ (by simp) _))⟩
end Go.Proofs.YtknfmjjlfhfocaaDoor
