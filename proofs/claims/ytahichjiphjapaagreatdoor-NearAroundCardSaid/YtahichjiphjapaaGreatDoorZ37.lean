import Derived.Test.YtahichjiphjapaaGreatDoorZ5
import Derived.Test.YtahichjiphjapaaGreatDoorZ36
import Derived.Test.YtahichjiphjapaaGreatDoorZ6
import Derived.Shelf.SlicesE.Reverse

/-
  Package quad: the way to a cell.
-/
namespace Go.Proofs.YtahichjiphjapaaGreatDoor
set_option linter.unusedSimpArgs false
set_option linter.unusedVariables false
open Go.RowKit Go.Sort Go.Lib Go.Shelf

/-- slices.Reverse of a row of one's own. -/
theorem revI_call (base : Nat) (l : List Int) (v : Value) (w : World) (hv : w.ownsRow base 3 1 v l.length (flat encI l)) (hb : base ≤ w.heap.size) (hn : l.length ≤ 100000) :
    Calls Tryz.prog 76 #[v] w fun e w' => e = .returned (.tuple #[]) ∧ Sl encI w' v l.reverse ∧ RowKit.Below base w w' := by
  rcases hv.2 with ⟨rfl, h0⟩ | ⟨g, cap, cur, rfl, hbg, hh, hc, hm, hs, ht⟩
  · have hl0 : l = [] := List.length_eq_zero_iff.1 h0
    subst hl0
    refine (AnyE.slices_Reverse_empty Tryz.revI none 0 w).mono ?_
    rintro e w' ⟨rfl, rfl⟩
    exact ⟨rfl, Sl.nil none 0 (by unfold maxLen; omega), Below.refl _ _⟩
  · have hgl := (Array.getElem?_eq_some_iff.1 hh).1
    have hS := row_sl lenI hv rfl
    have hH : Holds (Value.int .i64) w g 0 l.toArray := by
      intro j hj
      have hj' : j < l.length := by simpa using hj
      obtain ⟨p', cap', e, _, _, h3⟩ := hS
      simp only [Value.slice.injEq] at e
      obtain ⟨rfl, _, rfl⟩ := e
      obtain ⟨g', o', e', _, hcs⟩ := h3 (by omega)
      cases e'
      refine ⟨?_, by simp [World.frozen?, hh]⟩
      have := sl_at lenI hcs hj' 0 _ rfl
      simpa using this
    refine (AnyE.slices_Reverse Tryz.revI (Value.int .i64) (fun x => rfl) g 0 cap l w hH (by omega)).mono ?_
    rintro e w' ⟨rfl, n, rfl⟩
    have hH2 := holds_putRow (Value.int .i64) (Sort.ahead w n) g 0 l.toArray l.reverse.toArray (holds_ahead _ w n g 0 _ hH) (by simp)
    have hsz : g < (putRow (Value.int .i64) (Sort.ahead w n) g 0 l.reverse.toArray).heap.size := by
      have : RowKit.Below g (Sort.ahead w n) (putRow (Value.int .i64) (Sort.ahead w n) g 0 l.reverse.toArray) := below_putRow (Nat.le_refl _)
      exact Nat.lt_of_lt_of_le hgl this.size
    refine ⟨rfl, ⟨_, cap, by rw [List.length_reverse], by rw [List.length_reverse]; exact hc, hm, fun h0 => ⟨g, 0, rfl, hsz, fun j u hu => ?_⟩⟩, ?_⟩
    · have hj : j < l.reverse.length := by
        have := (List.getElem?_eq_some_iff.1 hu).1
        rwa [flat_len lenI, Nat.mul_one] at this
      have e1 := flat_get lenI l.reverse j 0 hj (by omega)
      rw [Nat.mul_one, Nat.add_zero, hu] at e1
      have e2 := (hH2 j (by simpa using hj)).1
      rw [e2]
      simp only [encI, List.getElem?_cons_zero, Option.some.injEq] at e1
      rw [e1, arr_get]
    · have : RowKit.Below base (Sort.ahead w n) (putRow (Value.int .i64) (Sort.ahead w n) g 0 l.reverse.toArray) := below_putRow hbg
      exact ⟨this.os, this.tape, this.output, this.size, this.block⟩
/-- The quarters on the way up. -/
def wayRI : Nat → Int → Int → List Int
  | 0, _, _ => []
  | k + 1, x, y => (x % 2 + 2 * (y % 2)) :: wayRI k (x / 2) (y / 2)
theorem wayRI_rev : ∀ (k : Nat) (x y : Int), (wayRI k x y).reverse = (wayC k x y).map Int.ofNat
  | 0, _, _ => rfl
  | k + 1, x, y => by
    unfold wayRI wayC
    rw [List.reverse_cons, wayRI_rev k, List.map_append]
    congr 1
    simp only [List.map_cons, List.map_nil, List.cons.injEq, and_true, Int.ofNat_eq_natCast]
    omega
theorem wayRI_len : ∀ (k : Nat) (x y : Int), (wayRI k x y).length = k
  | 0, _, _ => rfl
  | k + 1, x, y => by simp [wayRI, wayRI_len k]
/-- The depth that lies in a cell. -/
def depM (b : Nat) (w : World) : Nat := match w.cell? ⟨b, 0, none⟩ with | some (.int _ n) => n.toNat | _ => 0
theorem depM_is {b : Nat} {w : World} {n : Int} (h : w.cell? ⟨b, 0, none⟩ = some (.int .i64 n)) : depM b w = n.toNat := by simp [depM, h]
set_option maxHeartbeats 2000000 in
set_option maxRecDepth 100000 in
theorem way_call (d : Nat) (x y : Int) (w : World) (hd : d ≤ 8) (hx0 : 0 ≤ x) (hx1 : x < pwI d) (hy0 : 0 ≤ y) (hy1 : y < pwI d) :
    Calls Tryz.prog 47 #[clV ((d : Int), x, y)] w fun e w' => ∃ v', e = .returned v' ∧ Sl encI w' v' ((wayC d x y).map Int.ofNat) ∧ RowKit.Below w.heap.size w w' := by
  have HR := Lib.hid (wayRI_rev d x y)
  have HLN := Lib.hid (wayRI_len d x y)
  obtain ⟨T, hT⟩ : ∃ T, T = wayRI d x y := ⟨_, rfl⟩
  rw [← hT] at HR HLN
  have HT := Lib.hid (show [] ++ wayRI d x y = T from hT.symm)
  rw [← HR.out]
  have k0 := heap_alloc_new w (.cells #[.int .i64 d, .int .i64 x, .int .i64 y] 87)
  have B0 := Lib.hid (Ba (Below.refl _ w) (.cells #[.int .i64 d, .int .i64 x, .int .i64 y] 87))
  obtain ⟨w0, hw0⟩ : ∃ w0, w0 = w.alloc (.cells #[.int .i64 d, .int .i64 x, .int .i64 y] 87) := ⟨_, rfl⟩
  have hs0 : w0.heap.size = w.heap.size + 1 := by rw [hw0]; simp
  rw [← hw0] at k0 B0
  obtain ⟨bs, hbs⟩ : ∃ bs, bs = w.heap.size := ⟨_, rfl⟩
  have RN := World.ownsRow_nil w0 (bs + 1) 3 1
  have HW0 := Lib.hid hw0
  have HBS := Lib.hid hbs
  clear hbs
  go_enter Tryz.func47, Tryz.ntmps47
  go_wp2
  rw [← HW0.out, ← HBS.out]
  go_loopw [3] (fun v wr => ∃ (k : Nat) (a b : Int) (L : List Int), k ≤ 8 ∧ 0 ≤ a ∧ a < pwI k ∧ 0 ≤ b ∧ b < pwI k ∧ Hid (wr.heap[bs]? = some (.cells #[.int .i64 k, .int .i64 a, .int .i64 b] 87 (0, 0))) ∧ Hid (RowKit.Below w.heap.size w wr) ∧ Hid (bs + 1 ≤ wr.heap.size) ∧ Hid (wr.ownsRow (bs + 1) 3 1 v L.length (flat encI L)) ∧ Hid (L ++ wayRI k a b = T)) (fun _ wr => depM bs wr)
  case atStart => exact ⟨d, x, y, [], hd, hx0, hx1, hy0, hy1, Lib.hid (by rw [HBS.out]; exact k0), B0, Lib.hid (by have := HBS.out; omega), Lib.hid RN, HT⟩
  case round =>
    obtain ⟨k, a, b, L, hk, ha0, ha1, hb0, hb1, HK, HB, HS, HO, HE⟩ := hrel
    obtain ⟨⟨r1, r2, r3⟩, f1, f2, f3⟩ := cells3 HK.out
    have hbl := cell_lt r1
    clear k0 RN hw0 hT hs0
    cases k with
    | zero =>
      have HL := Lib.hid (show L = T by rw [← HE.out]; simp [wayRI])
      go_wp2_with fail
      refine (revI_call (bs + 1) L u3 wr HO.out HS.out (by rw [HL.out, HLN.out]; omega)).mono ?_
      rintro e w2 ⟨rfl, hs2, hb2⟩
      rw [HL.out] at hs2
      go_wp2
      go_ret
      exact ⟨_, rfl, hs2, HB.out.trans (hb2.mono (by have := HBS.out; omega))⟩
    | succ k =>
      have e1 : a.tmod 2 = a % 2 := Int.tmod_eq_emod_of_nonneg ha0
      have e2 : b.tmod 2 = b % 2 := Int.tmod_eq_emod_of_nonneg hb0
      have g1 : 0 ≤ a % 2 ∧ a % 2 ≤ 1 := by omega
      have g2 : 0 ≤ b % 2 ∧ b % 2 ≤ 1 := by omega
      obtain ⟨p1, p2⟩ := pw_half (by omega) ha0 ha1
      obtain ⟨p3, p4⟩ := pw_half (by omega) hb0 hb1
      have hrc : rightC (((k + 1 : Nat) : Int), a, b) = true := by
        unfold rightC
        simp only [Bool.and_eq_true, decide_eq_true_eq, Int.toNat_natCast]
        omega
      have UC := Lib.hid (fun W => qUp_call ((k + 1 : Nat) : Int) a b W)
      rw [hrc, show decide ((0 : Int) < ((k + 1 : Nat) : Int)) = true from decide_eq_true (by omega), Bool.true_and, if_pos rfl] at UC
      unfold upC at UC
      dsimp only at UC
      rw [show (((k + 1 : Nat) : Int) - 1) = ((k : Nat) : Int) from by omega] at UC
      have HE2 := Lib.hid (show (L ++ [a % 2 + 2 * (b % 2)]) ++ wayRI k (a / 2) (b / 2) = T by rw [← HE.out]; simp [wayRI])
      have hkp : ((k + 1 : Nat) : Int) > 0 := by omega
      have HN := Lib.hid (show L.length ≤ 100 by have := congrArg List.length HE2.out; simp only [List.length_append, HLN.out, List.length_singleton] at this; omega)
      have HA2 := Lib.hid (And.intro p1 (And.intro p2 (And.intro p3 p4)))
      clear hrc p1 p2 p3 p4 ha0 ha1 hb0 hb1
      generalize a / 2 = a2 at *
      generalize b / 2 = b2 at *
      generalize hq1 : a % 2 = m1 at *
      generalize hq2 : b % 2 = m2 at *
      have O3 := Lib.hid (HO.out.alloc (.cells #[.int .i64 (m1 + 2 * m2)] 3))
      have S3 := Lib.hid (sl_lit (enc := encI) (w := wr) (cs := #[.int .i64 (m1 + 2 * m2)]) (t := 3) (b := wr.heap.size) [m1 + 2 * m2] rfl rfl (by unfold maxLen; simp))
      clear hq1 hq2
      go_wp2_with (at_builtin; (refine wpl_app apI rfl _ _ rfl (bs + 1) (by rfl) (by rfl) O3.out rfl S3.out (by have := HN.out; simp; omega) (by have := HS.out; simp; omega) ?_; intro v3 w3 hown3 hgrow3 hnil3; have k3 : w3.heap[bs]? = some (.cells #[.int .i64 ((k + 1 : Nat) : Int), .int .i64 a, .int .i64 b] 87 (0, 0)) := (hgrow3.block bs (by simp; omega) (fun e => by have := row_base0 HO.out e.symm; omega)).trans (blk_below HK.out (Ba (Below.refl _ _) _)); obtain ⟨⟨s1, s2, s3⟩, h1, h2, h3⟩ := cells3 k3; have hb3 := Lib.hid ((HB.out.alloc HB.out.size (.cells #[.int .i64 (m1 + 2 * m2)] 3)).grown hgrow3 (by have := HBS.out; have := HB.out.size; simp; omega) (fun j hj => by have := row_base0 HO.out hj; have := HBS.out; omega)); have S3w := Lib.hid (show bs + 1 ≤ w3.heap.size by have := hgrow3.size; have := HS.out; simp at *; omega); clear hgrow3 hnil3; fail_if_success done))
      have O4 := Lib.hid hown3
      have K3 := Lib.hid k3
      clear hown3 k3
      refine (UC.out _).mono ?_
      rintro e w4 ⟨rfl, hb4⟩
      have k4 := blk_below K3.out hb4
      obtain ⟨⟨n1, n2, n3⟩, i1, i2, i3⟩ := cells3 k4
      have O5 := Lib.hid (row_below O4.out hb4)
      have K4 := Lib.hid k4
      have B4 := Lib.hid ((hb3.out.trans (hb4.mono (by have := S3w.out; have := HBS.out; omega))))
      have S4 := Lib.hid (Nat.le_trans S3w.out hb4.size)
      have HM0 := Lib.hid (depM_is r1)
      clear k4 hb4 s1 s2 s3 h1 h2 h3 r1 r2 r3 f1 f2 f3
      have TT := Lib.hid (fun x y z => tch3 (M := fun b => b = bs) (p := bs) (Tch.refl _ w4) rfl x y z)
      go_wp2
      go_roundw
      case measure => rw [HM0.out, depM_is (cells3 (setC3 K4.out)).1.1]; omega
      case rel =>
        obtain ⟨p1, p2, p3, p4⟩ := HA2.out
        exact ⟨k, a2, b2, L ++ [m1 + 2 * m2], by omega, p1, p2, p3, p4, Lib.hid (setC3 K4.out), Lib.hid (B4.out.trans (Tch.below (TT.out _ _ _) (fun b e => by have := HBS.out; omega) B4.out.size)), Lib.hid (Nat.le_trans S4.out (TT.out _ _ _).size), Lib.hid (by rw [List.length_append]; exact row_keep O5.out (fun g hg => (TT.out _ _ _).block g (row_lt O5.out hg) (fun e => by have := row_base0 O5.out hg; omega))), HE2⟩
end Go.Proofs.YtahichjiphjapaaGreatDoor
