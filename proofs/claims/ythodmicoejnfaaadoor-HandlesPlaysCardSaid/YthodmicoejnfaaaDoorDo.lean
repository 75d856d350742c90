/-
  'do' of HandlesPlays: one call on a pool and its model.
-/
import Derived.Test.YthodmicoejnfaaaDoorRf
import Derived.Test.YthodmicoejnfaaaDoorTwo
import Derived.Test.YthodmicoejnfaaaDoorLim
import Derived.Test.YthodmicoejnfaaaDoorOpr
namespace Go.Proofs.YthodmicoejnfaaaDoor
set_option linter.unusedSimpArgs false
set_option linter.unusedVariables false
open Go.RowKit Go.Sort Go.Lib Go.Shelf

section
variable {pa pb : Nat} {S : List Slt} {Fr : List Int} {w w0 : World}

/-- The blocks of calls (Op) are as they were. -/
def Kt (w w' : World) : Prop := ∀ (b : Nat) (cs : Array Value) (f : Nat × Nat), w.heap[b]? = some (.cells cs 42 f) → w'.heap[b]? = some (.cells cs 42 f)
theorem Kt.of {w w' : World} (h : RowKit.Below w.heap.size w w') : Kt w w' := fun _ _ _ e => blk_below e h
/-- What was there ahead of all is as it was, and the blocks of calls that were there at wI. -/
def Both (w0 wI w' : World) : Prop := RowKit.Below w0.heap.size w0 w' ∧ Kt wI w'
theorem Both.below {w0 wI w w' : World} (h : Both w0 wI w) (k : RowKit.Below w.heap.size w w') : Both w0 wI w' := ⟨h.1.trans (k.mono h.1.size), fun b cs f e => blk_below (h.2 b cs f e) k⟩
theorem Both.kq {T : Nat} {X : Nat → Prop} {w0 wI w w' : World} (h : Both w0 wI w) (k : Kq T w0.heap.size X w w') (hT : ¬ PT T 42) : Both w0 wI w' := ⟨h.1.trans (k.below h.1.size), fun b cs f e => k.cells (h.2 b cs f e) hT⟩
theorem Both.start {w0 w : World} (h : RowKit.Below w0.heap.size w0 w) : Both w0 w w := ⟨h, fun _ _ _ e => e⟩

/-- What 'do' answers. -/
def DoEnd (w0 wI : World) (pa pb : Nat) (e : Ending) (w' : World) : Prop :=
  ∃ S Fr, e = .returned (.bool true) ∧ Two 67 37 w0.heap.size w' pa S Fr pb S Fr ∧ Right S Fr ∧ Both w0 wI w'

set_option maxHeartbeats 4000000 in
set_option maxRecDepth 100000 in
theorem do_take (hq : Two 67 37 w0.heap.size w pa S Fr pb S Fr) (r : Right S Fr) (hb : RowKit.Below w0.heap.size w0 w) (A : Nat → Addr) (hE : Errs w0 A) (kd n hi hgn : Int) (hk : ¬ kd = 2) :
    Calls Tryd.prog 17 #[.pointer (some ⟨pa, 0, none⟩), .pointer (some ⟨pb, 0, none⟩), .agg #[.int .i64 kd, .int .i64 n, .int .i64 hi, .int .i64 hgn]] w (DoEnd w0 w pa pb) := by
  have HE := Lib.hid hE
  have D1 := Lib.hid (Ba (Below.refl _ w) (.cells #[.int .i64 kd, .int .i64 n, .int .i64 hi, .int .i64 hgn] 42))
  have Q1 := Lib.hid (hq.below D1.out)
  have R0 := Lib.hid r
  have B1 := Lib.hid ((Both.start hb).below D1.out)
  clear hE hq r hb
  have k2 : (kd == 2) = false := by simpa using hk
  have ne1 := neH_run
  have gd1 := gdH_run
  by_cases h3 : kd = 3
  · subst h3
    clear hk k2
    go_enter Tryd.func17, Tryd.ntmps17
    go_wp2_with fail
    obtain ⟨m, hm, he⟩ := idx_any n 140 (by omega) (by omega)
    rw [show ((140 : Nat) : Int) = 140 from rfl] at he
    simp only [he]
    clear he
    go_loopw [38] (fun i wr => ∃ (k : Nat) (S : List Slt) (Fr : List Int), k ≤ m ∧ i = .int .i64 k ∧ Two 67 37 w0.heap.size wr pa S Fr pb S Fr ∧ Right S Fr ∧ Both w0 w wr) (fun i _ => m - (intOf i).toNat)
    case atStart => exact ⟨0, S, Fr, Nat.zero_le _, rfl, Q1.out, R0.out, B1.out⟩
    case round =>
      clear Q1 R0 B1
      obtain ⟨k, S, Fr, hk, rfl, hq, r, hb⟩ := hrel
      have HQ := Lib.hid hq
      have RR := Lib.hid r
      have BR := Lib.hid hb
      clear hq r hb
      by_cases hkm : k < m
      · cases ht : takeP S Fr with
        | none =>
          have HT := Lib.hid ht
          clear ht
          go_wp2_with fail
          refine (next_none HQ.out.first.choose_spec HT.out _ (errFull_at (HE.out.below BR.out.1))).mono ?_
          rintro e w5 ⟨rfl, hb5⟩
          have D5 := Lib.hid (Ba hb5 (.cells #[.int .i64 0, .int .i64 0] 40))
          have Q5 := Lib.hid (HQ.out.below D5.out)
          have B5 := Lib.hid (BR.out.below D5.out)
          have X5 := Lib.hid (heap_alloc_new w5 (.cells #[.int .i64 0, .int .i64 0] 40))
          clear hb5
          go_wp2_with fail
          refine (take_none Q5.out.first.choose_spec HT.out _ _ (errFull_at (HE.out.below B5.out.1))).mono ?_
          rintro e w6 ⟨rfl, hb6⟩
          have D6 := Lib.hid (Ba hb6 (.cells #[.int .i64 0, .int .i64 0] 40))
          have Q6 := Lib.hid (Q5.out.below D6.out)
          have B6 := Lib.hid (B5.out.below D6.out)
          have X6 := Lib.hid (heap_alloc_new w6 (.cells #[.int .i64 0, .int .i64 0] 40))
          have Y6 := Lib.hid (blk_below X5.out D6.out)
          clear hb6
          go_wp2_with fail
          refine (rtake_none Q6.out.second.choose_spec HT.out).mono ?_
          rintro e w7 ⟨rfl, hb7⟩
          have D7 := Lib.hid (Ba hb7 (.cells #[.int .i64 0, .int .i64 0] 40))
          have Q7 := Lib.hid (Q6.out.below D7.out)
          have B7 := Lib.hid (B6.out.below D7.out)
          have X7 := Lib.hid (blk_below X6.out D7.out)
          have Y7 := Lib.hid (blk_below Y6.out D7.out)
          clear hb7
          obtain ⟨y0, y1, _, _⟩ := two_cells X7.out
          obtain ⟨y2, y3, _, _⟩ := two_cells Y7.out
          go_wp2_with fail
          refine (num_full (HE.out.below B7.out.1)).mono ?_
          rintro e w8 ⟨rfl, hb8⟩
          have Q8 := Lib.hid (Q7.out.below hb8)
          have B8 := Lib.hid (B7.out.below hb8)
          clear hb8
          go_wp2_with fail
          refine (num_full (HE.out.below B8.out.1)).mono ?_
          rintro e w9 ⟨rfl, hb9⟩
          have Q9 := Lib.hid (Q8.out.below hb9)
          have B9 := Lib.hid (B8.out.below hb9)
          clear hb9
          go_wp2
          go_roundw
          case measure => simp [intOf]; omega
          case rel => exact ⟨k + 1, S, Fr, by omega, by go_num, Q9.out, RR.out, B9.out⟩
        | some q =>
          obtain ⟨⟨h0, h1⟩, S', Fr'⟩ := q
          have HT := Lib.hid ht
          have RT := Lib.hid (right_take RR.out ht)
          clear ht
          go_wp2_with fail
          refine (next_call HQ.out.first.choose_spec RR.out HT.out).mono ?_
          rintro e w5 ⟨rfl, hb5⟩
          have D5 := Lib.hid (Ba hb5 (.cells #[.int .i64 h0, .int .i64 h1] 40))
          have Q5 := Lib.hid (HQ.out.below D5.out)
          have B5 := Lib.hid (BR.out.below D5.out)
          have X5 := Lib.hid (heap_alloc_new w5 (.cells #[.int .i64 h0, .int .i64 h1] 40))
          clear hb5
          go_wp2_with fail
          refine (Two.ask1 (S1' := S') (F1' := Fr') (P := fun e => e = .returned (.tuple #[.agg #[.int .i64 h0, .int .i64 h1], .nilIface])) Q5.out (fun M hM => take_call hM RR.out HT.out)).mono ?_
          rintro e w6 ⟨rfl, hp6, hk6⟩
          have Q6 := Lib.hid (hp6.below (Ba (Below.refl _ w6) (.cells #[.int .i64 h0, .int .i64 h1] 40)))
          have B6 := Lib.hid ((B5.out.kq hk6 (by decide)).below (Ba (Below.refl _ w6) (.cells #[.int .i64 h0, .int .i64 h1] 40)))
          have X6 := Lib.hid (heap_alloc_new w6 (.cells #[.int .i64 h0, .int .i64 h1] 40))
          have Y6 := Lib.hid (blk_below (hk6.cells X5.out (by decide)) (Ba (Below.refl _ w6) (.cells #[.int .i64 h0, .int .i64 h1] 40)))
          clear hp6 hk6
          go_wp2_with fail
          refine (Two.ask2 (S2' := S') (F2' := Fr') (P := fun e => e = .returned (.tuple #[.agg #[.int .i64 h0, .int .i64 h1], .int .i64 0])) Q6.out (fun M hM => rtake_call hM RR.out HT.out)).mono ?_
          rintro e w7 ⟨rfl, hp7, hk7⟩
          have Q7 := Lib.hid (hp7.below (Ba (Below.refl _ w7) (.cells #[.int .i64 h0, .int .i64 h1] 40)))
          have B7 := Lib.hid ((B6.out.kq hk7 (by decide)).below (Ba (Below.refl _ w7) (.cells #[.int .i64 h0, .int .i64 h1] 40)))
          have X7 := Lib.hid (blk_below (hk7.cells X6.out (by decide)) (Ba (Below.refl _ w7) (.cells #[.int .i64 h0, .int .i64 h1] 40)))
          have Y7 := Lib.hid (blk_below (hk7.cells Y6.out (by decide)) (Ba (Below.refl _ w7) (.cells #[.int .i64 h0, .int .i64 h1] 40)))
          clear hp7 hk7
          obtain ⟨y0, y1, _, _⟩ := two_cells X7.out
          obtain ⟨y2, y3, _, _⟩ := two_cells Y7.out
          go_wp2_with fail
          refine (num_nil _).mono ?_
          rintro e w8 ⟨rfl, hb8⟩
          have Q8 := Lib.hid (Q7.out.below hb8)
          have B8 := Lib.hid (B7.out.below hb8)
          clear hb8
          go_wp2_with fail
          refine (num_nil _).mono ?_
          rintro e w9 ⟨rfl, hb9⟩
          have Q9 := Lib.hid (Q8.out.below hb9)
          have B9 := Lib.hid (B8.out.below hb9)
          clear hb9
          go_wp2
          go_roundw
          case measure => simp [intOf]; omega
          case rel => exact ⟨k + 1, S', Fr', by omega, by go_num, Q9.out, RT.out, B9.out⟩
      · go_wp2
        go_ret
        exact ⟨S, Fr, rfl, HQ.out, RR.out, BR.out⟩
  · have k3 : (kd == 3) = false := by simpa using h3
    by_cases h1 : kd = 1
    · subst h1
      clear h3 hk k2 k3
      go_enter Tryd.func17, Tryd.ntmps17
      go_wp2_with fail
      go_loopw [38] (fun i wr => ∃ (k : Nat) (S : List Slt) (Fr : List Int), k ≤ 1 ∧ i = .int .i64 k ∧ Two 67 37 w0.heap.size wr pa S Fr pb S Fr ∧ Right S Fr ∧ Both w0 w wr) (fun i _ => 1 - (intOf i).toNat)
      case atStart => exact ⟨0, S, Fr, Nat.zero_le _, rfl, Q1.out, R0.out, B1.out⟩
      case round =>
        clear Q1 R0 B1
        obtain ⟨k, S, Fr, hk, rfl, hq, r, hb⟩ := hrel
        have HQ := Lib.hid hq
        have RR := Lib.hid r
        have BR := Lib.hid hb
        clear hq r hb
        by_cases hkm : k < 1
        · cases ht : takeP S Fr with
          | none =>
            have HT := Lib.hid ht
            clear ht
            go_wp2_with fail
            refine (next_none HQ.out.first.choose_spec HT.out _ (errFull_at (HE.out.below BR.out.1))).mono ?_
            rintro e w5 ⟨rfl, hb5⟩
            have D5 := Lib.hid (Ba hb5 (.cells #[.int .i64 0, .int .i64 0] 40))
            have Q5 := Lib.hid (HQ.out.below D5.out)
            have B5 := Lib.hid (BR.out.below D5.out)
            have X5 := Lib.hid (heap_alloc_new w5 (.cells #[.int .i64 0, .int .i64 0] 40))
            clear hb5
            go_wp2_with fail
            refine (take_none Q5.out.first.choose_spec HT.out _ _ (errFull_at (HE.out.below B5.out.1))).mono ?_
            rintro e w6 ⟨rfl, hb6⟩
            have D6 := Lib.hid (Ba hb6 (.cells #[.int .i64 0, .int .i64 0] 40))
            have Q6 := Lib.hid (Q5.out.below D6.out)
            have B6 := Lib.hid (B5.out.below D6.out)
            have X6 := Lib.hid (heap_alloc_new w6 (.cells #[.int .i64 0, .int .i64 0] 40))
            have Y6 := Lib.hid (blk_below X5.out D6.out)
            clear hb6
            go_wp2_with fail
            refine (rtake_none Q6.out.second.choose_spec HT.out).mono ?_
            rintro e w7 ⟨rfl, hb7⟩
            have D7 := Lib.hid (Ba hb7 (.cells #[.int .i64 0, .int .i64 0] 40))
            have Q7 := Lib.hid (Q6.out.below D7.out)
            have B7 := Lib.hid (B6.out.below D7.out)
            have X7 := Lib.hid (blk_below X6.out D7.out)
            have Y7 := Lib.hid (blk_below Y6.out D7.out)
            clear hb7
            obtain ⟨y0, y1, _, _⟩ := two_cells X7.out
            obtain ⟨y2, y3, _, _⟩ := two_cells Y7.out
            go_wp2_with fail
            refine (num_full (HE.out.below B7.out.1)).mono ?_
            rintro e w8 ⟨rfl, hb8⟩
            have Q8 := Lib.hid (Q7.out.below hb8)
            have B8 := Lib.hid (B7.out.below hb8)
            clear hb8
            go_wp2_with fail
            refine (num_full (HE.out.below B8.out.1)).mono ?_
            rintro e w9 ⟨rfl, hb9⟩
            have Q9 := Lib.hid (Q8.out.below hb9)
            have B9 := Lib.hid (B8.out.below hb9)
            clear hb9
            go_wp2
            go_roundw
            case measure => simp [intOf]; omega
            case rel => exact ⟨k + 1, S, Fr, by omega, by go_num, Q9.out, RR.out, B9.out⟩
          | some q =>
            obtain ⟨⟨h0, h1⟩, S', Fr'⟩ := q
            have HT := Lib.hid ht
            have RT := Lib.hid (right_take RR.out ht)
            clear ht
            go_wp2_with fail
            refine (next_call HQ.out.first.choose_spec RR.out HT.out).mono ?_
            rintro e w5 ⟨rfl, hb5⟩
            have D5 := Lib.hid (Ba hb5 (.cells #[.int .i64 h0, .int .i64 h1] 40))
            have Q5 := Lib.hid (HQ.out.below D5.out)
            have B5 := Lib.hid (BR.out.below D5.out)
            have X5 := Lib.hid (heap_alloc_new w5 (.cells #[.int .i64 h0, .int .i64 h1] 40))
            clear hb5
            go_wp2_with fail
            refine (Two.ask1 (S1' := S') (F1' := Fr') (P := fun e => e = .returned (.tuple #[.agg #[.int .i64 h0, .int .i64 h1], .nilIface])) Q5.out (fun M hM => take_call hM RR.out HT.out)).mono ?_
            rintro e w6 ⟨rfl, hp6, hk6⟩
            have Q6 := Lib.hid (hp6.below (Ba (Below.refl _ w6) (.cells #[.int .i64 h0, .int .i64 h1] 40)))
            have B6 := Lib.hid ((B5.out.kq hk6 (by decide)).below (Ba (Below.refl _ w6) (.cells #[.int .i64 h0, .int .i64 h1] 40)))
            have X6 := Lib.hid (heap_alloc_new w6 (.cells #[.int .i64 h0, .int .i64 h1] 40))
            have Y6 := Lib.hid (blk_below (hk6.cells X5.out (by decide)) (Ba (Below.refl _ w6) (.cells #[.int .i64 h0, .int .i64 h1] 40)))
            clear hp6 hk6
            go_wp2_with fail
            refine (Two.ask2 (S2' := S') (F2' := Fr') (P := fun e => e = .returned (.tuple #[.agg #[.int .i64 h0, .int .i64 h1], .int .i64 0])) Q6.out (fun M hM => rtake_call hM RR.out HT.out)).mono ?_
            rintro e w7 ⟨rfl, hp7, hk7⟩
            have Q7 := Lib.hid (hp7.below (Ba (Below.refl _ w7) (.cells #[.int .i64 h0, .int .i64 h1] 40)))
            have B7 := Lib.hid ((B6.out.kq hk7 (by decide)).below (Ba (Below.refl _ w7) (.cells #[.int .i64 h0, .int .i64 h1] 40)))
            have X7 := Lib.hid (blk_below (hk7.cells X6.out (by decide)) (Ba (Below.refl _ w7) (.cells #[.int .i64 h0, .int .i64 h1] 40)))
            have Y7 := Lib.hid (blk_below (hk7.cells Y6.out (by decide)) (Ba (Below.refl _ w7) (.cells #[.int .i64 h0, .int .i64 h1] 40)))
            clear hp7 hk7
            obtain ⟨y0, y1, _, _⟩ := two_cells X7.out
            obtain ⟨y2, y3, _, _⟩ := two_cells Y7.out
            go_wp2_with fail
            refine (num_nil _).mono ?_
            rintro e w8 ⟨rfl, hb8⟩
            have Q8 := Lib.hid (Q7.out.below hb8)
            have B8 := Lib.hid (B7.out.below hb8)
            clear hb8
            go_wp2_with fail
            refine (num_nil _).mono ?_
            rintro e w9 ⟨rfl, hb9⟩
            have Q9 := Lib.hid (Q8.out.below hb9)
            have B9 := Lib.hid (B8.out.below hb9)
            clear hb9
            go_wp2
            go_roundw
            case measure => simp [intOf]; omega
            case rel => exact ⟨k + 1, S', Fr', by omega, by go_num, Q9.out, RT.out, B9.out⟩
        · go_wp2
          go_ret
          exact ⟨S, Fr, rfl, HQ.out, RR.out, BR.out⟩
    · have k1 : (kd == 1) = false := by simpa using h1
      clear h1 h3 hk
      go_enter Tryd.func17, Tryd.ntmps17
      go_wp2
      go_ret
      exact ⟨S, Fr, rfl, Q1.out, R0.out, B1.out⟩
end
end Go.Proofs.YthodmicoejnfaaaDoor
