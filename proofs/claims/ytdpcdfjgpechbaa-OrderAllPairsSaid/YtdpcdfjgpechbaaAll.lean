/-
  OrderAllPairs: how many pairs there are.
-/
import Derived.Test.YtdpcdfjgpechbaaOPairs
import Derived.Test.YtdpcdfjgpechbaaAlive
import Derived.Test.YtdpcdfjgpechbaaMerges
namespace Go.Proofs.Ytdpcdfjgpechbaa
set_option linter.unusedSimpArgs false
set_option linter.unusedVariables false
open Go.RowKit Go.Sort Go.Lib Go.Shelf

/-- All pairs of two lists' handles. -/
def prods (l m : List Hd) : List Pr := l.flatMap fun a => m.map fun b => (a, b)
theorem prods_len (l m : List Hd) : (prods l m).length = l.length * m.length := by
  induction l with
  | nil => simp [prods]
  | cons a r ih =>
    simp only [prods, List.flatMap_cons, List.length_append, List.length_map, List.length_cons] at ih ⊢
    rw [ih, Nat.add_mul]
    omega
theorem prods_take (l m : List Hd) (k : Nat) (hk : k < l.length) : prods (l.take (k + 1)) m = prods (l.take k) m ++ m.map fun b => (l[k]!, b) := by
  have e : l.take (k + 1) = l.take k ++ [l[k]] := List.take_succ_eq_append_getElem hk
  unfold prods
  rw [e, getElem!_pos l k hk, List.flatMap_append, List.flatMap_cons, List.flatMap_nil, List.append_nil]
theorem map_take (a : Hd) (m : List Hd) (j : Nat) (hj : j < m.length) : (m.take (j + 1)).map (fun b => (a, b)) = (m.take j).map (fun b => (a, b)) ++ [(a, m[j]!)] := by
  have e : m.take (j + 1) = m.take j ++ [m[j]] := List.take_succ_eq_append_getElem hj
  rw [e, getElem!_pos m j hj, List.map_append, List.map_cons, List.map_nil]

/-- The pairs of all handles with all, in order, each once: those of the rising list. -/
theorem srt_prods (l : List Hd) : srt ltP (rightOnes (prods l l)) = pairsOf (srt ltH l) := by
  have hr := rise_srt sto_hd l
  refine srt_eq sto_pr (rise_pairsOf sto_hd hr) fun z => ?_
  obtain ⟨x, y⟩ := z
  rw [mem_pairsOf sto_hd hr, mem_srt sto_hd, mem_srt sto_hd]
  have hmem : ∀ a b : Hd, (a, b) ∈ prods l l ↔ a ∈ l ∧ b ∈ l := fun a b => by
    simp only [prods, List.mem_flatMap, List.mem_map, Prod.mk.injEq]
    constructor
    · rintro ⟨a', ha, b', hb, rfl, rfl⟩; exact ⟨ha, hb⟩
    · rintro ⟨ha, hb⟩; exact ⟨a, ha, b, hb, rfl, rfl⟩
  simp only [rightOnes, List.mem_filterMap]
  constructor
  · rintro ⟨hx, hy, hlt⟩
    refine ⟨(x, y), (hmem x y).2 ⟨hx, hy⟩, ?_⟩
    dsimp only
    rw [if_neg (sto_hd.ne hlt)]
    unfold norm
    rw [if_neg (by dsimp only; rw [sto_hd.asymm hlt]; simp)]
  · rintro ⟨⟨a, b⟩, hab, h⟩
    obtain ⟨ha, hb⟩ := (hmem a b).1 hab
    dsimp only at h
    by_cases e : a = b
    · rw [if_pos e] at h; cases h
    · rw [if_neg e] at h
      unfold norm at h
      dsimp only at h
      cases hlt : ltH b a with
      | true =>
        rw [hlt, if_pos rfl] at h
        simp only [Option.some.injEq, Prod.mk.injEq] at h
        obtain ⟨rfl, rfl⟩ := h
        exact ⟨hb, ha, hlt⟩
      | false =>
        rw [hlt, if_neg (by simp)] at h
        simp only [Option.some.injEq, Prod.mk.injEq] at h
        obtain ⟨rfl, rfl⟩ := h
        refine ⟨ha, hb, ?_⟩
        cases h2 : ltH a b with
        | true => rfl
        | false => exact absurd (sto_hd.total _ _ h2 hlt) e

set_option maxHeartbeats 4000000 in
set_option maxRecDepth 100000 in
theorem orderAllPairs_walk (l : List Hd) (v : Value) (w : World) (hl : Sl encH w v l) : Calls Try.prog 11 #[v] w fun e w' => e = .returned (.bool true) ∧ RowKit.Below w.heap.size w w' := by
  obtain ⟨p, cap, rfl, hl1, hl2, hl3⟩ := hl
  have HL := Lib.hid (show Sl encH w (.slice p l.length cap) l from ⟨p, cap, rfl, hl1, hl2, hl3⟩)
  have HLM := Lib.hid hl3
  clear hl3
  by_cases hbig : l.length > 30
  · have hz : (l.length : Int) > 30 := by omega
    go_enter Try.func11, Try.ntmps11
    go_wp2_with (go_at_call 12; refine (alive_any _).mono ?_; rintro e w1 ⟨rfl, hb1⟩)
    go_ret
    exact ⟨rfl, hb1⟩
  · have hz : ¬ (l.length : Int) > 30 := by omega
    have hlen : l.length ≤ 30 := by omega
    clear hbig
    go_enter Try.func11, Try.ntmps11
    go_wp2_with fail
    refine (alive_any _).mono ?_
    rintro e w1 ⟨rfl, hb1⟩
    have B1 := Lib.hid hb1
    have L1 := Lib.hid (HL.out.below hb1)
    clear hb1
    go_wp2_with fail
    refine (handles_call l _ w1 L1.out (by omega)).mono ?_
    rintro e w2 ⟨v2, rfl, ho2, hb2⟩
    have B2 := Lib.hid (Bt B1.out hb2)
    obtain ⟨p2, c2, rfl, _, _, _⟩ := ho2
    have hml : (srt ltH l).length ≤ 30 := Nat.le_trans (srt_len ltH l) hlen
    have LP := Lib.hid (len_pairsOf (srt ltH l))
    have SP := Lib.hid (srt_prods l)
    have RM := Lib.hid (rise_srt sto_hd l)
    generalize srt ltH l = M at hml LP SP RM ⊢
    clear hb2 B1 L1
    go_wp2_with fail
    go_loopw [4, 22] (fun s4 i wr => ∃ k : Nat, k ≤ l.length ∧ i = .int .i64 k ∧ RowKit.Below w2.heap.size w2 wr ∧ wr.ownsRow w2.heap.size 31 4 s4 (prods (l.take k) l).length (flat encP (prods (l.take k) l))) (fun _ i _ => l.length - (intOf i).toNat)
    case atStart => exact ⟨0, Nat.zero_le _, rfl, (by repeat (first | with_reducible exact Below.refl _ _ | with_reducible assumption | with_reducible apply Ba | with_reducible apply Bd | with_reducible apply Bn | with_reducible apply Bg | (with_reducible refine Bs ?_ (by first | (simp; done) | (simp; omega)) _) | (with_reducible refine Bt ?_ (by assumption)) | (with_reducible refine Bt ?_ (Gr.below (by assumption))))), World.ownsRow_made w2 #[] 0 (Nat.le_refl _) (Nat.zero_le _) (by simp)⟩
    case round =>
      obtain ⟨k, hk, rfl, hb, ho⟩ := hrel
      by_cases hkn : k < l.length
      · obtain ⟨g, o, rfl, hg1, hg2⟩ := HLM.out (by omega)
        obtain ⟨c1, c2⟩ := atH hg2 hkn
        have BW := Lib.hid (Bt B2.out hb)
        replace c1 := Bc BW.out hg1 c1
        replace c2 := Bc BW.out hg1 c2
        have hpt := prods_take l l k hkn
        generalize hx : l[k]! = x at *
        obtain ⟨x1, x2⟩ := x
        dsimp only at c1 c2
        have HPT := Lib.hid hpt
        have A3 := Lib.hid (Ba hb (.cells #[.int .i64 x1, .int .i64 x2] 28))
        have O3 := Lib.hid (ho.alloc (.cells #[.int .i64 x1, .int .i64 x2] 28))
        have HO0 := Lib.hid ho
        have HG2 := Lib.hid hg2
        have D := Lib.hid (show (wr.alloc (.cells #[.int .i64 x1, .int .i64 x2] 28)).cell? ⟨wr.heap.size, 0, none⟩ = some (.int .i64 x1) ∧ (wr.alloc (.cells #[.int .i64 x1, .int .i64 x2] 28)).cell? ⟨wr.heap.size, 1, none⟩ = some (.int .i64 x2) from ⟨by simp, by simp⟩)
        obtain ⟨Wa, hWa⟩ : ∃ Wa, Wa = wr.alloc (.cells #[.int .i64 x1, .int .i64 x2] 28) := ⟨_, rfl⟩
        have HWa := Lib.hid hWa
        have hWs : Wa.heap.size = wr.heap.size + 1 := by rw [hWa]; simp
        rw [← hWa] at A3 O3 D
        clear hpt hx hb ho hg2 hWa
        go_wp2_with fail
        rw [← HWa.out]
        clear HWa
        generalize hb0 : wr.heap.size = b0 at hWs D ⊢
        have HB0 := Lib.hid hb0
        clear hb0
        go_loopw [4, 28] (fun s4 i2 wr => ∃ j : Nat, j ≤ l.length ∧ i2 = .int .i64 j ∧ RowKit.Below w2.heap.size w2 wr ∧ b0 < wr.heap.size ∧ (∀ kk, s4.ownBlock = some kk → kk ≠ b0) ∧ (wr.cell? ⟨b0, 0, none⟩ = some (.int .i64 x1) ∧ wr.cell? ⟨b0, 1, none⟩ = some (.int .i64 x2)) ∧
          wr.ownsRow w2.heap.size 31 4 s4 (prods (l.take k) l ++ (l.take j).map fun b => ((x1, x2), b)).length (flat encP (prods (l.take k) l ++ (l.take j).map fun b => ((x1, x2), b)))) (fun _ i2 _ => l.length - (intOf i2).toNat)
        case atStart => exact ⟨0, Nat.zero_le _, rfl, A3.out, by omega, fun kk hkk => by have := (HO0.out.lt kk hkk).2; have := HB0.out; omega, D.out, by simpa using O3.out⟩
        case round =>
          obtain ⟨j, hj, rfl, hb2, hsz2, hnb, ⟨d1, d2⟩, ho2⟩ := hrel
          by_cases hjn : j < l.length
          · obtain ⟨c3, c4⟩ := atH HG2.out hjn
            have BW2 := Lib.hid (Bt B2.out hb2)
            replace c3 := Bc BW2.out hg1 c3
            replace c4 := Bc BW2.out hg1 c4
            have hmt := map_take (x1, x2) l j hjn
            have hll : (prods (l.take k) l ++ (l.take j).map fun b => (((x1, x2), b) : Pr)).length ≤ 2000 := by
              rw [List.length_append, prods_len, List.length_map, List.length_take, List.length_take]
              have h1 : min k l.length * l.length ≤ 30 * 30 := Nat.mul_le_mul (by omega) hlen
              omega
            generalize hy : l[j]! = y at *
            obtain ⟨y1, y2⟩ := y
            dsimp only at c3 c4
            have HMT := Lib.hid hmt
            have HLL := Lib.hid hll
            have A5 := Lib.hid (Ba (Ba hb2 (.cells #[.int .i64 y1, .int .i64 y2] 28)) (.cells #[.int .i64 x1, .int .i64 x2, .int .i64 y1, .int .i64 y2] 31))
            have O5 := Lib.hid ((ho2.alloc (.cells #[.int .i64 y1, .int .i64 y2] 28)).alloc (.cells #[.int .i64 x1, .int .i64 x2, .int .i64 y1, .int .i64 y2] 31))
            have S5 := Lib.hid (sl_lit (enc := encP) (w := wr.alloc (.cells #[.int .i64 y1, .int .i64 y2] 28)) (cs := #[.int .i64 x1, .int .i64 x2, .int .i64 y1, .int .i64 y2]) (t := 31) (b := wr.heap.size + 1) [((x1, x2), (y1, y2))] (by simp) rfl (by unfold maxLen; simp))
            have hne2 : ¬ b0 = wr.heap.size := by omega
            have D5 := Lib.hid (show ((wr.alloc (.cells #[.int .i64 y1, .int .i64 y2] 28)).alloc (.cells #[.int .i64 x1, .int .i64 x2, .int .i64 y1, .int .i64 y2] 31)).cell? ⟨b0, 0, none⟩ = some (.int .i64 x1) ∧ ((wr.alloc (.cells #[.int .i64 y1, .int .i64 y2] 28)).alloc (.cells #[.int .i64 x1, .int .i64 x2, .int .i64 y1, .int .i64 y2] 31)).cell? ⟨b0, 1, none⟩ = some (.int .i64 x2) from
              ⟨Bc (Ba (Ba (Below.refl _ wr) _) _) hsz2 d1, Bc (Ba (Ba (Below.refl _ wr) _) _) hsz2 d2⟩)
            have hs5 : ((wr.alloc (.cells #[.int .i64 y1, .int .i64 y2] 28)).alloc (.cells #[.int .i64 x1, .int .i64 x2, .int .i64 y1, .int .i64 y2] 31)).heap.size = wr.heap.size + 2 := by simp
            have HS5 := Lib.hid hs5
            have HNB := Lib.hid hnb
            clear hmt hll hy hb2 ho2 hs5 hnb
            go_wp2_with (at_builtin; refine wpl_app_at apP rfl _ _ rfl w2.heap.size (by rfl) (by rfl) O5.out rfl S5.out (by have := HLL.out; simp at this ⊢; omega) A5.out.size (by simp) ?_; intro v1 w6 hown6 hgrow6 hnil6 hat6)
            have b6 := grownB A5.out O5.out hgrow6
            have hd1 := hgrow6.cell D5.out.1 (fun h => HNB.out _ h.symm rfl)
            have hd2 := hgrow6.cell D5.out.2 (fun h => HNB.out _ h.symm rfl)
            have hs6 := hgrow6.size
            rw [HS5.out] at hs6 hat6
            go_roundw
            case measure => simp [intOf]; omega
            case rel =>
              refine ⟨j + 1, by omega, by go_num, b6, by omega, fun kk hkk => ?_, ⟨hd1, hd2⟩, ?_⟩
              · rcases hat6 with e | e
                · exact HNB.out kk (by rw [← e]; exact hkk)
                · rw [e] at hkk; simp only [Option.some.injEq] at hkk; omega
              · rw [HMT.out, ← List.append_assoc, List.length_append]
                exact hown6
          · have hjn' : j = l.length := by omega
            rw [hjn', List.take_length, ← HPT.out] at ho2
            have O6 := Lib.hid ho2
            have B6 := Lib.hid hb2
            clear ho2 hb2 hjn' hnb d1 d2
            go_wp2
            go_roundw
            case measure => simp [intOf]; omega
            case rel => exact ⟨k + 1, by omega, by go_num, B6.out, O6.out⟩
      · have hkn' : k = l.length := by omega
        rw [hkn', List.take_length] at ho
        have SO := Lib.hid (row_sl lenP ho rfl)
        have B3 := Lib.hid (Bt B2.out hb)
        have hpl : (prods l l).length ≤ 900 := by rw [prods_len]; exact Nat.mul_le_mul hlen hlen
        clear ho hb hkn'
        go_wp2_with fail
        refine (opairs_call (prods l l) _ wr SO.out (by omega)).mono ?_
        rintro e w4 ⟨v4, rfl, ho4, hb4⟩
        rw [SP.out] at ho4
        have S4 := Lib.hid (ho4.sl lenP)
        have B4 := Lib.hid (Bt B3.out hb4)
        have MP := Lib.hid (fun x y (h : (x, y) ∈ pairsOf M) => ((mem_pairsOf sto_hd RM.out x y).1 h).2.2)
        have hlp := LP.out
        have hql : (pairsOf M).length ≤ 435 := by
          have : M.length * (M.length - 1) ≤ 30 * 29 := Nat.mul_le_mul hml (by omega)
          omega
        have hmul : (M.length : Int) * ((M.length : Int) - 1) = 2 * ((pairsOf M).length : Int) := by
          rcases Nat.eq_zero_or_pos M.length with h0 | h0
          · rw [h0] at hlp ⊢; simp at hlp ⊢; omega
          · have e1 : ((M.length : Int) - 1) = ((M.length - 1 : Nat) : Int) := by omega
            rw [e1, ← Int.natCast_mul, ← hlp]
            simp [Int.mul_comm]
        have HMUL := Lib.hid hmul
        generalize pairsOf M = Q at S4 MP hql HMUL
        obtain ⟨p4, c4, rfl, _, _, h3⟩ := S4.out
        have HQ := Lib.hid h3
        clear ho4 hb4 h3 hlp hmul
        go_wp2_with fail
        go_loopw [44] (fun i wr3 => ∃ j : Nat, j ≤ Q.length ∧ i = .int .i64 j ∧ RowKit.Below w4.heap.size w4 wr3) (fun i _ => Q.length - (intOf i).toNat)
        case atStart => exact ⟨0, Nat.zero_le _, rfl, Below.refl _ _⟩
        case round =>
          obtain ⟨j, hj, rfl, hb3⟩ := hrel
          by_cases hjn : j < Q.length
          · obtain ⟨g, o, rfl, hg1, hg2⟩ := HQ.out (by omega)
            obtain ⟨c1, c2, c3, c4'⟩ := atP hg2 hjn
            replace c1 := Bc hb3 hg1 c1
            replace c2 := Bc hb3 hg1 c2
            replace c3 := Bc hb3 hg1 c3
            replace c4' := Bc hb3 hg1 c4'
            have hmq : Q[j]! ∈ Q := by rw [getElem!_pos Q j hjn]; simp
            generalize hx : Q[j]! = x at *
            obtain ⟨⟨x1, x2⟩, x3, x4⟩ := x
            dsimp only at c1 c2 c3 c4'
            have hlt := Lib.hid (MP.out _ _ hmq)
            have HBB := Lib.hid (Ba hb3 (.cells #[.int .i64 x1, .int .i64 x2, .int .i64 x3, .int .i64 x4] 31))
            clear hg2 hx hb3 hmq
            go_wp2_with (go_at_call 17; refine (less_is hlt.out _).mono ?_; rintro e w5 ⟨rfl, hg5⟩)
            go_roundw
            case measure => simp [intOf]; omega
            case rel => exact ⟨j + 1, by omega, by go_num, Bt HBB.out hg5.below⟩
          · have BE := Lib.hid (Bt B4.out hb3)
            have hmul := HMUL.out
            clear hb3
            go_wp2
            go_ret
            exact ⟨by simp, BE.out⟩
end Go.Proofs.Ytdpcdfjgpechbaa
