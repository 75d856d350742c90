/-
  OrderFinds: where a handle stands in a rising list.
-/
import Derived.Test.YtdpcdfjgpechbaaFind
namespace Go.Proofs.Ytdpcdfjgpechbaa
set_option linter.unusedSimpArgs false
set_option linter.unusedVariables false
open Go.RowKit Go.Sort Go.Lib Go.Shelf

/-- The last place at which a handle stands, so far. -/
def wantAt (l : List Hd) (x : Hd) : Nat → Int
  | 0 => -1
  | k + 1 => if l[k]! = x then (k : Int) else wantAt l x k
theorem want_no {l : List Hd} {x : Hd} : ∀ {k : Nat}, k ≤ l.length → ¬ x ∈ l → wantAt l x k = -1
  | 0, _, _ => rfl
  | k + 1, hk, hx => by
    unfold wantAt
    rw [if_neg (fun e => hx (by rw [← e, getElem!_pos l k (by omega)]; simp)), want_no (by omega) hx]
theorem want_yes {l : List Hd} {x : Hd} (hr : Rise ltH l) : ∀ {k : Nat}, k ≤ l.length → l[headLess ltH x l]? = some x → (headLess ltH x l < k → wantAt l x k = (headLess ltH x l : Nat))
  | 0, _, _, h => absurd h (Nat.not_lt_zero _)
  | k + 1, hk, hx, h => by
    have hl : headLess ltH x l < l.length := by omega
    have e0 : l[headLess ltH x l] = x := by rw [List.getElem?_eq_getElem hl] at hx; exact Option.some.inj hx
    unfold wantAt
    by_cases e : l[k]! = x
    · rw [if_pos e]
      rw [getElem!_pos l k (by omega)] at e
      have := rise_get sto_hd hr hl (show k < l.length by omega) (by rw [e0, e])
      omega
    · rw [if_neg e]
      refine want_yes hr (by omega) hx ?_
      have : headLess ltH x l ≠ k := fun h' => e (by rw [← h', getElem!_pos l _ hl, e0])
      omega
theorem want_end {l : List Hd} {x : Hd} (hr : Rise ltH l) : wantAt l x l.length = (if x ∈ l then ((headLess ltH x l : Nat) : Int) else -1) := by
  by_cases hx : x ∈ l
  · have h1 := (mem_head sto_hd x hr).1 hx
    rw [if_pos hx, want_yes hr (Nat.le_refl _) h1 (List.getElem?_eq_some_iff.1 h1).1]
  · rw [if_neg hx, want_no (Nat.le_refl _) hx]

set_option maxHeartbeats 2000000 in
set_option maxRecDepth 100000 in
theorem orderFinds_walk (l : List Hd) (v : Value) (a b : Int) (w : World) (hl : Sl encH w v l) : Calls Try.prog 6 #[v, .agg #[.int .i64 a, .int .i64 b]] w fun e w' => e = .returned (.bool true) ∧ RowKit.Below w.heap.size w w' := by
  obtain ⟨p, cap, rfl, hl1, hl2, hl3⟩ := hl
  have HL := Lib.hid (show Sl encH w (.slice p l.length cap) l from ⟨p, cap, rfl, hl1, hl2, hl3⟩)
  clear hl3
  have eq1 := eqH_run
  have gd1 := gdH_run
  by_cases hbig : l.length > 200
  · have hz : (l.length : Int) > 200 := by omega
    go_enter Try.func6, Try.ntmps6
    go_wp2_with (go_at_call 12; refine (alive_any _).mono ?_; rintro e w1 ⟨rfl, hb1⟩)
    go_ret
    exact ⟨rfl, Bt (Ba (Below.refl _ _) _) hb1⟩
  · have hz : ¬ (l.length : Int) > 200 := by omega
    have hlen : l.length ≤ 200 := by omega
    clear hbig
    obtain ⟨W0, hW0⟩ : ∃ W0, W0 = w.alloc (.cells #[.int .i64 a, .int .i64 b] 28) := ⟨_, rfl⟩
    have WB := Lib.hid (show RowKit.Below w.heap.size w W0 by rw [hW0]; exact Ba (Below.refl _ _) _)
    have hWs : W0.heap.size = w.heap.size + 1 := by rw [hW0]; simp
    have D := Lib.hid (show W0.cell? ⟨w.heap.size, 0, none⟩ = some (.int .i64 a) ∧ W0.cell? ⟨w.heap.size, 1, none⟩ = some (.int .i64 b) by rw [hW0]; exact ⟨by simp, by simp⟩)
    have HW0 := Lib.hid hW0
    clear hW0
    go_enter Try.func6, Try.ntmps6
    go_wp2_with fail
    rw [← HW0.out]
    refine (alive_any _).mono ?_
    rintro e w1 ⟨rfl, hb1⟩
    have B1 := Lib.hid hb1
    have L1 := Lib.hid (HL.out.below (Bt WB.out hb1))
    clear hb1 HW0
    go_wp2_with fail
    refine (rhandles_call l _ w1 L1.out (by omega)).mono ?_
    rintro e w2 ⟨v2, rfl, ho2, _, hb2⟩
    have B2 := Lib.hid (Bt B1.out hb2)
    have S2 := Lib.hid (row_sl lenH ho2 rfl)
    have RR := Lib.hid (rise_srt sto_hd l)
    have SL := Lib.hid (Nat.le_trans (srt_len ltH l) hlen)
    generalize srt ltH l = m at S2 RR SL
    clear ho2 hb2 B1 L1
    obtain ⟨p2, c2, rfl, h1, h2, h3⟩ := S2.out
    have HM := Lib.hid h3
    have hml : m.length ≤ 200 := SL.out
    clear h3 h2
    go_wp2_with fail
    go_loopw [6, 18] (fun s6 i wr => ∃ k : Nat, k ≤ m.length ∧ i = .int .i64 k ∧ s6 = .int .i64 (wantAt m (a, b) k) ∧ RowKit.Below w2.heap.size w2 wr) (fun _ i _ => m.length - (intOf i).toNat)
    case atStart => exact ⟨0, Nat.zero_le _, rfl, rfl, Below.refl _ _⟩
    case round =>
      obtain ⟨k, hk, rfl, rfl, hb⟩ := hrel
      have hs2 : w.heap.size < w2.heap.size := Nat.lt_of_lt_of_le (by omega) B2.out.size
      have d1 : wr.cell? ⟨w.heap.size, 0, none⟩ = some (.int .i64 a) := Bc (Bt B2.out hb) (by omega) D.out.1
      have d2 : wr.cell? ⟨w.heap.size, 1, none⟩ = some (.int .i64 b) := Bc (Bt B2.out hb) (by omega) D.out.2
      have hlw : w.heap.size < wr.heap.size := cell_lt d1
      have hlw2 : ¬ w.heap.size = wr.heap.size := by omega
      by_cases hkn : k < m.length
      · obtain ⟨g, o, rfl, hg1, hg2⟩ := HM.out (by omega)
        obtain ⟨c1, c2⟩ := atH hg2 hkn
        replace c1 := Bc hb hg1 c1
        replace c2 := Bc hb hg1 c2
        have hwt : wantAt m (a, b) (k + 1) = if m[k]! = (a, b) then (k : Int) else wantAt m (a, b) k := rfl
        generalize hx : m[k]! = x at *
        obtain ⟨x1, x2⟩ := x
        dsimp only at c1 c2
        have HBB := Lib.hid hb
        clear hg2 hx hb
        by_cases hxy : ((x1, x2) : Hd) = (a, b)
        · rw [if_pos hxy] at hwt
          obtain ⟨rfl, rfl⟩ : x1 = a ∧ x2 = b := by simpa using hxy
          have WT := Lib.hid hwt
          clear hxy hwt
          go_wp2
          go_roundw
          case measure => simp [intOf]; omega
          case rel => exact ⟨k + 1, by omega, by go_num, by rw [WT.out], Ba HBB.out _⟩
        · rw [if_neg hxy] at hwt
          have e5 := and_ne hxy
          have WT := Lib.hid hwt
          clear hxy hwt
          go_wp2
          go_roundw
          case measure => simp [intOf]; omega
          case rel => exact ⟨k + 1, by omega, by go_num, by rw [WT.out], Ba HBB.out _⟩
      · have hkn' : k = m.length := by omega
        have hw := want_end (x := (a, b)) RR.out
        rw [← hkn'] at hw
        have hf := find_call m _ a b wr (S2.out.below hb) RR.out (by omega)
        generalize (if ((a, b) : Hd) ∈ m then ((headLess ltH (a, b) m : Nat) : Int) else -1) = R at hw hf
        have HW := Lib.hid hw
        have HF := Lib.hid hf
        clear hf
        have BE := Lib.hid (Bt (Bt WB.out B2.out) hb)
        clear hkn' hw hb
        go_wp2_with (go_at_call 22; refine HF.out.mono ?_; rintro e w3 ⟨rfl, hg3⟩)
        go_ret
        exact ⟨by rw [HW.out]; simp, Bt BE.out hg3.below⟩
end Go.Proofs.Ytdpcdfjgpechbaa
