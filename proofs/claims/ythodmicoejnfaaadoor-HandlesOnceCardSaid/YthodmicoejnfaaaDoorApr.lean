/-
  HandlesApart's 'run': any script of calls on a pool of the call's own.
-/
import Derived.Test.YthodmicoejnfaaaDoorAl4
import Derived.Test.YthodmicoejnfaaaDoorRh
import Derived.Test.YthodmicoejnfaaaDoorOpr
namespace Go.Proofs.YthodmicoejnfaaaDoor
set_option linter.unusedSimpArgs false
set_option linter.unusedVariables false
open Go.RowKit Go.Sort Go.Lib Go.Shelf

section
variable {pa : Nat} {S : List Slt} {Fr : List Int} {X : Nat → Prop} {w w0 : World}

/-- What 'run' leaves. -/
def RunEnd (base : Nat) (X : Nat → Prop) (pa : Nat) (w : World) (e : Ending) (w' : World) : Prop :=
  ∃ S Fr, e = .returned (.tuple #[]) ∧ PoolX 67 base X w' pa S Fr ∧ Right S Fr ∧ Kq 67 base X w w'

set_option maxHeartbeats 4000000 in
set_option maxRecDepth 100000 in
theorem run_call (l : List Opr) (v : Value) (hs : Sl encO w0 v l) (hl : l.length ≤ 60) (hb : RowKit.Below w0.heap.size w0 w) (hp : PoolX 67 w0.heap.size X w pa S Fr) (r : Right S Fr) (t : TypeId) (ev : Value) (hE : w0.cell? ⟨2, 0, none⟩ = some (.iface t ev)) :
    Calls Tryd.prog 28 #[.pointer (some ⟨pa, 0, none⟩), v] w (RunEnd w0.heap.size X pa w) := by
  obtain ⟨p0, c0, rfl, v1, v2, v3⟩ := hs
  unfold maxLen at v2
  have HV := Lib.hid v3
  have HE := Lib.hid hE
  have HB := Lib.hid hb
  have HP := Lib.hid hp
  have HR := Lib.hid r
  clear v3 hE hb hp r
  go_enter Tryd.func28, Tryd.ntmps28
  go_wp2
  go_loopw [9] (fun i wr => ∃ (k : Nat) (S : List Slt) (Fr : List Int), k ≤ l.length ∧ i = .int .i64 k ∧ PoolX 67 w0.heap.size X wr pa S Fr ∧ Right S Fr ∧ Kq 67 w0.heap.size X w wr) (fun i _ => l.length - (intOf i).toNat)
  case atStart => exact ⟨0, S, Fr, Nat.zero_le _, rfl, HP.out, HR.out, Kq.refl⟩
  case round =>
    clear HP HR
    obtain ⟨k, S, Fr, hk, rfl, hp, r, hq⟩ := hrel
    have HP := Lib.hid hp
    have HR := Lib.hid r
    have HQ := Lib.hid hq
    have HBW := Lib.hid (HB.out.trans (hq.below HB.out.size))
    have hSl := r.len
    clear hp r hq
    by_cases hkn : k < l.length
    · obtain ⟨g, o, rfl, hg, cO⟩ := HV.out (by omega)
      obtain ⟨d1, d2, d3, d4⟩ := atO cO hkn
      replace d1 := Bc HBW.out hg d1
      replace d2 := Bc HBW.out hg d2
      replace d3 := Bc HBW.out hg d3
      replace d4 := Bc HBW.out hg d4
      clear cO
      generalize l[k]!.1 = kd at *
      generalize l[k]!.2.1 = n at *
      generalize l[k]!.2.2.1 = hi at *
      generalize l[k]!.2.2.2 = hgn at *
      have P1 := Lib.hid (HP.out.below (Ba (Below.refl _ wr) (.cells #[.int .i64 kd, .int .i64 n, .int .i64 hi, .int .i64 hgn] 42)))
      have A1 := Lib.hid (heap_alloc_new wr (.cells #[.int .i64 kd, .int .i64 n, .int .i64 hi, .int .i64 hgn] 42))
      have Q1 := Lib.hid (HQ.out.trans (Kq.of (Ba (Below.refl _ wr) (.cells #[.int .i64 kd, .int .i64 n, .int .i64 hi, .int .i64 hgn] 42))))
      have L1 := Lib.hid (list_call P1.out.at.choose_spec (by omega))
      go_wp2_with fail
      refine L1.out.mono ?_
      rintro e w1 ⟨vl, rfl, ho, hb1⟩
      obtain ⟨pl, cl, rfl, q1, q2, q3⟩ := row_val ho
      unfold maxLen at q2
      have HO := Lib.hid ho
      have P2 := Lib.hid (P1.out.below hb1)
      have Q2 := Lib.hid (Q1.out.trans (Kq.of hb1))
      have A2 := Lib.hid (blk_below A1.out hb1)
      have HB2 := Lib.hid (HB.out.trans (Q2.out.below HB.out.size))
      clear ho hb1
      have hO0 : w1.cell? ⟨wr.heap.size, 0, none⟩ = some (.int .i64 kd) := by simp [World.cell?, A2.out]
      have hO1 : w1.cell? ⟨wr.heap.size, 1, none⟩ = some (.int .i64 n) := by simp [World.cell?, A2.out]
      by_cases hfree : kd = 2 ∧ 0 < (listP S).length
      · obtain ⟨rfl, hlen⟩ := hfree
        obtain ⟨g2, rfl, hg2, _⟩ := q3 hlen
        have hll : (listP S).length ≤ 128 := Nat.le_trans (listN_len S S.length) hSl
        obtain ⟨m, hm, he⟩ := idx_any n (listP S).length hlen (by omega)
        obtain ⟨y0, y1⟩ := row_cellsH HO.out m hm
        have hmem := get_mem (listP S) m hm
        rw [mem_listP] at hmem
        generalize (listP S)[m]! = x at y0 y1 hmem
        obtain ⟨h0, h1⟩ := x
        dsimp only at y0 y1
        have HF := Lib.hid (freeX P2.out HR.out h0 h1 hmem)
        have HRF := Lib.hid (right_free HR.out hmem)
        clear hmem q3
        generalize (listP S).length = L at *
        go_wp2_with fail
        refine HF.out.mono ?_
        rintro e w3 ⟨rfl, hp3, hk3⟩
        have Q3 := Lib.hid (Q2.out.trans hk3)
        have P3 := Lib.hid hp3
        clear hp3 hk3 he
        go_wp2
        go_roundw
        case measure => simp [intOf]; omega
        case rel => exact ⟨k + 1, _, _, by omega, by go_num, P3.out, HRF.out, Q3.out⟩
      · have HT := Lib.hid (takeX_any P2.out HR.out t ev (Bc HB2.out (cell_lt HE.out) HE.out))
        clear q3
        by_cases hk2 : kd = 2
        · have hz : ¬ 0 < (listP S).length := fun h => hfree ⟨hk2, h⟩
          have hz2 : (listP S).length = 0 := by omega
          subst hk2
          clear hfree hz
          rw [hz2]
          clear hz2
          go_wp2_with fail
          refine HT.out.mono ?_
          rintro e w3 ⟨u, S3, F3, rfl, hp3, r3, hk3⟩
          have Q3 := Lib.hid (Q2.out.trans hk3)
          have P3 := Lib.hid hp3
          have R3 := Lib.hid r3
          clear hp3 hk3 r3
          go_wp2
          go_roundw
          case measure => simp [intOf]; omega
          case rel => exact ⟨k + 1, _, _, by omega, by go_num, P3.out, R3.out, Q3.out⟩
        · have hz : (kd == 2) = false := by simpa using hk2
          clear hfree hk2
          generalize (listP S).length = L at *
          go_wp2_with fail
          refine HT.out.mono ?_
          rintro e w3 ⟨u, S3, F3, rfl, hp3, r3, hk3⟩
          have Q3 := Lib.hid (Q2.out.trans hk3)
          have P3 := Lib.hid hp3
          have R3 := Lib.hid r3
          clear hp3 hk3 r3
          go_wp2
          go_roundw
          case measure => simp [intOf]; omega
          case rel => exact ⟨k + 1, _, _, by omega, by go_num, P3.out, R3.out, Q3.out⟩
    · go_wp2
      go_end0
      exact ⟨S, Fr, rfl, HP.out, HR.out, HQ.out⟩
end
end Go.Proofs.YthodmicoejnfaaaDoor
