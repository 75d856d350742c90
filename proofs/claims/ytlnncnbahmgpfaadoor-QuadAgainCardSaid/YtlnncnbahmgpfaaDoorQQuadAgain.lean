import Derived.Test.YtlnncnbahmgpfaaDoorZ29
import Derived.Deep.RegionHeld3
import Derived.Test.YtlnncnbahmgpfaaDoorZ13

/-
  The walk of QuadAgain.
-/
namespace Go.Proofs.YtlnncnbahmgpfaaDoor
set_option linter.unusedSimpArgs false
set_option linter.unusedVariables false
open Go.RowKit Go.Sort Go.Lib Go.Shelf

theorem Hv.put2 {S S' : Bxd → Prop} {B : List Bxd} (h : Hv S B) (x : Hd) (g b : Bx4) (hs : ∀ y, S' y ↔ (S y ∧ y.1 ≠ x) ∨ y = (x, b)) : Hv S' (woB (woB B x ++ [(x, g)]) x ++ [(x, b)]) :=
  ⟨once_put (once_put h.1 x g) x b, fun y => by
    rw [hs, List.mem_append, mem_woB, List.mem_append, mem_woB, h.2, List.mem_singleton, List.mem_singleton]
    constructor
    · rintro (⟨q | rfl, hne⟩ | rfl)
      · exact .inl q
      · exact absurd rfl hne
      · exact .inr rfl
    · rintro (q | rfl)
      · exact .inl ⟨.inl q, q.2⟩
      · exact .inr rfl⟩
theorem tr_1 {w : World} {M : Nat → Prop} {pa pb : Nat} {A B : List Bxd} (h : And2 (TrB pa A) (TrB pb B) w M) : TrAt w M pa A := by
  obtain ⟨M1, M2, h1, _, h3, _⟩ := h
  exact (fr_tr pa A).mono h1 (fun b e => (h3 b e).1)
theorem tr_2 {w : World} {M : Nat → Prop} {pa pb : Nat} {A B : List Bxd} (h : And2 (TrB pa A) (TrB pb B) w M) : TrAt w M pb B := by
  obtain ⟨M1, M2, _, h2, _, h4⟩ := h
  exact (fr_tr pb B).mono h2 h4
theorem hd2 {w : World} {t : TypeId} {a b : Value} : (w.alloc (.cells #[a, b] t)).cell? ⟨w.heap.size, 0, none⟩ = some a ∧ (w.alloc (.cells #[a, b] t)).cell? ⟨w.heap.size, 1, none⟩ = some b := ⟨by simp, by simp⟩
section
variable {eR eN eF : TypeId × Value}
set_option maxHeartbeats 4000000 in
set_option maxRecDepth 100000 in
theorem quadAgain_walk (l : List Bx4) (v : Value) (fr : Int) (W : World) (hv : Sl encX W v l) (hE : Er3 W eR eN eF) :
    Calls Tryd.prog 6 #[v, .int .i64 fr] W fun e w' => e = .returned (.bool true) ∧ RowKit.Below W.heap.size W w' := by
  obtain ⟨p0, c0, rfl, v1, v2, v3⟩ := hv
  unfold maxLen at v2
  have HV := Lib.hid v3
  have HE := Lib.hid hE
  have hel := cell_lt hE.eN
  have AL := Lib.hid (alive_any W hE)
  have NS := Lib.hid newT_call
  clear v3 hE
  by_cases h0 : l.length < 1
  · have hz0 : (l.length : Int) < 1 := by omega
    go_enter Tryd.func6, Tryd.ntmps6
    go_wp2_with fail
    refine AL.out.mono ?_
    rintro e w1 ⟨rfl, hb1⟩
    go_wp2
    go_ret
    exact ⟨rfl, hb1⟩
  have hz0 : ¬ (l.length : Int) < 1 := by omega
  by_cases h1 : l.length ≤ 30
  case neg =>
    have hz : (l.length : Int) > 30 := by omega
    go_enter Tryd.func6, Tryd.ntmps6
    go_wp2_with fail
    refine AL.out.mono ?_
    rintro e w1 ⟨rfl, hb1⟩
    go_wp2
    go_ret
    exact ⟨rfl, hb1⟩
  have hz : ¬ (l.length : Int) > 30 := by omega
  obtain ⟨kk, hkk, hke⟩ := idx_any fr l.length (by omega) (by omega)
  have HKE := Lib.hid hke
  clear hke
  go_enter Tryd.func6, Tryd.ntmps6
  go_wp2_with fail
  refine AL.out.mono ?_
  rintro e w1 ⟨rfl, hb1⟩
  have B1 := Lib.hid hb1
  clear hb1 AL
  go_wp2_with fail
  refine (NS.out _).mono ?_
  rintro e w2 ⟨pa, rfl, hp2, hb2⟩
  have O2 := Lib.hid (OO.new (P := TrB pa []) (Z := NoZ) (base := W.heap.size) hp2 B1.out.size hb2.size (fun b e => e.elim))
  have B2 := Lib.hid (Bt B1.out hb2)
  clear hp2 hb2
  go_wp2_with fail
  refine (NS.out _).mono ?_
  rintro e w3 ⟨pb, rfl, hp3, hb3⟩
  have O3 := Lib.hid (OO.beside (fr_tr pa []) (fr_tr pb []) O2.out hp3 hb3)
  have B3 := Lib.hid (Bt B2.out hb3)
  clear hp3 hb3 NS O2 B1 B2
  go_wp2
  go_loopw [37] (fun u wr => ∃ i : Nat, u = .int .i64 i ∧ i ≤ l.length ∧ (∀ j, j < i → errB l[j]! = 0) ∧ OO (And2 (TrB pa (bl l i)) (TrB pb [])) NoZ W.heap.size wr ∧ RowKit.Below W.heap.size W wr) (fun u _ => l.length - (intOf u).toNat)
  case atStart => exact ⟨0, rfl, Nat.zero_le _, fun j hj => absurd hj (Nat.not_lt_zero j), O3.out, B3.out⟩
  case round =>
    clear O3 B3
    obtain ⟨i, rfl, hi, hall, hO, hb⟩ := hrel
    have HO := Lib.hid hO
    have HB := Lib.hid hb
    have HA := Lib.hid hall
    clear hO hb hall
    by_cases hlt : i < l.length
    · obtain ⟨g, o, rfl, hg1, hcs⟩ := HV.out (by omega)
      obtain ⟨c1, c2, c3, c4⟩ := atX hcs hlt
      replace c1 := Bc HB.out hg1 c1
      replace c2 := Bc HB.out hg1 c2
      replace c3 := Bc HB.out hg1 c3
      replace c4 := Bc HB.out hg1 c4
      have hx := hd_at (i : Int) (by omega) (by omega)
      have HP := Lib.hid (bl_put l i)
      have HA2 : Hid (errB l[i]! = 0 → ∀ j, j < i + 1 → errB l[j]! = 0) := fun h j hj => by
        rcases Nat.lt_or_ge j i with c | c
        · exact HA.out j c
        · obtain rfl : j = i := by omega
          exact h
      generalize l[i]! = x at *
      obtain ⟨x1, x2, x3, x4⟩ := x
      dsimp only at c1 c2 c3 c4
      have bA := Ba (Below.refl _ wr) (.cells #[.int .i64 x1, .int .i64 x2, .int .i64 x3, .int .i64 x4] 23)
      have HO2 := Lib.hid (HO.out.below (fr_and (fr_tr pa _) (fr_tr pb _)) bA)
      have HB2 := Lib.hid (Bt HB.out bA)
      clear hcs bA HO HB
      by_cases he : errB (x1, x2, x3, x4) = 0
      · have AP := Lib.hid (HO2.out.ask (asks_1 (fr_tr pb []) (asks_putT (base := W.heap.size) (i : Int) 1 x1 x2 x3 x4 hx he (by rw [bl_len]; omega) (HE.out.below HB2.out) hel)))
        rw [HP.out] at AP
        have HA3 := Lib.hid (HA2.out he)
        clear he HA2 HA
        go_wp2_with fail
        refine AP.out.mono ?_
        rintro e w5 ⟨rfl, hO5, ht5⟩
        have HB5 := Lib.hid (HB2.out.trans (OO.tch ht5 HB2.out.size))
        have HO5 := Lib.hid hO5
        clear hO5 ht5 AP
        go_wp2
        go_roundw
        case measure => simp only [intOf]; omega
        case rel => exact ⟨i + 1, by go_num, by omega, HA3.out, HO5.out, HB5.out⟩
      · have PN := Lib.hid (HO2.out.read (fun M h => putT_no (tr_1 h) (i : Int) 1 x1 x2 x3 x4 he (HE.out.below HB2.out)))
        obtain ⟨t, u, e1⟩ := errV_no (eR := eR) (eF := eF) he
        rw [e1] at PN
        clear e1 he HA2 HA
        go_wp2_with fail
        refine PN.out.mono ?_
        rintro e w5 ⟨rfl, hb5⟩
        have B5 := Bt HB2.out hb5
        go_wp2
        go_ret
        exact ⟨rfl, B5⟩
    · have hin : i = l.length := by omega
      subst hin
      have HI := Lib.hid (And.intro HO.out HB.out)
      clear hlt HO HB
      go_wp2
      go_loopw [51] (fun u wr => ∃ (i : Nat) (B : List Bxd), u = .int .i64 i ∧ i ≤ l.length ∧ Hv (P2 l kk i) B ∧ B.length ≤ 2 * i ∧ OO (And2 (TrB pa (bl l l.length)) (TrB pb B)) NoZ W.heap.size wr ∧ RowKit.Below W.heap.size W wr) (fun u _ => l.length - (intOf u).toNat)
      case atStart => exact ⟨0, [], rfl, Nat.zero_le _, Hv.none.congr (P2_zero l kk), Nat.le_refl _, HI.out.1, HI.out.2⟩
      case round =>
        clear HI
        obtain ⟨i, B, rfl, hi, hHv, hBl, hO, hb⟩ := hrel
        have HO := Lib.hid hO
        have HB := Lib.hid hb
        have HH := Lib.hid hHv
        clear hO hb hHv
        by_cases hlt : i < l.length
        · have hnil : ¬ l = [] := fun e => by rw [e] at hlt; simp at hlt
          have hn : (i + kk) % l.length < l.length := Nat.mod_lt _ (by omega)
          have hq : ((i + kk) % l.length + 1) % l.length < l.length := Nat.mod_lt _ (by omega)
          have hr1 : (wrap64 ((i : Int) + wrap64 ((IntKind.u64.wrap fr).tmod (l.length : Int)))).tmod (l.length : Int) = (((i + kk) % l.length : Nat) : Int) := by rw [HKE.out, show wrap64 ((i : Int) + (kk : Int)) = ((i + kk : Nat) : Int) by unfold wrap64; omega, ← Int.ofNat_tmod]
          have hr2 : ((((i + kk) % l.length : Nat) : Int) + 1).tmod (l.length : Int) = ((((i + kk) % l.length + 1) % l.length : Nat) : Int) := by
            rw [show ((((i + kk) % l.length : Nat) : Int) + 1) = ((((i + kk) % l.length + 1) : Nat) : Int) by omega, ← Int.ofNat_tmod]
          have HPS := Lib.hid (fun y => P2_step (k := kk) hlt y)
          generalize (i + kk) % l.length = n at *
          have hwn : IntKind.i64.wrap ((n : Int) + 1) = (n : Int) + 1 := IntWalk.i64_in _ (by omega)
          generalize (n + 1) % l.length = q at *
          have hx := hd_at (n : Int) (by omega) (by omega)
          obtain ⟨g, o, rfl, hg1, hcs⟩ := HV.out (by omega)
          obtain ⟨e1, e2, e3, e4⟩ := atX hcs hn
          obtain ⟨f1, f2, f3, f4⟩ := atX hcs hq
          have hex := HA.out n hn
          have hey := HA.out q hq
          have HN1 := Lib.hid (HH.out.put2 (S' := P2 l kk (i + 1)) ((n : Int), 1) l[q]! l[n]! HPS.out)
          have hbb := HB.out
          replace e1 := Bc hbb hg1 e1
          replace e2 := Bc hbb hg1 e2
          replace e3 := Bc hbb hg1 e3
          replace e4 := Bc hbb hg1 e4
          replace f1 := Bc hbb hg1 f1
          replace f2 := Bc hbb hg1 f2
          replace f3 := Bc hbb hg1 f3
          replace f4 := Bc hbb hg1 f4
          generalize l[n]! = x at *
          generalize l[q]! = y at *
          obtain ⟨x1, x2, x3, x4⟩ := x
          obtain ⟨y1, y2, y3, y4⟩ := y
          dsimp only at e1 e2 e3 e4 f1 f2 f3 f4
          obtain ⟨wa, hwa⟩ : ∃ wa, wa = wr.alloc (.cells #[.int .i64 (n : Int), .int .i64 1] 50) := ⟨_, rfl⟩
          have bA : RowKit.Below wr.heap.size wr wa := by rw [hwa]; exact Ba (Below.refl _ wr) _
          have hxs : wr.heap.size < wa.heap.size := by rw [hwa]; simp
          have hd : wa.cell? ⟨wr.heap.size, 0, none⟩ = some (.int .i64 (n : Int)) ∧ wa.cell? ⟨wr.heap.size, 1, none⟩ = some (.int .i64 1) := by rw [hwa]; exact hd2
          obtain ⟨d1, d2⟩ := hd
          have hgw : g < wr.heap.size := cell_lt e1
          replace e1 := Bc bA hgw e1
          replace e2 := Bc bA hgw e2
          replace e3 := Bc bA hgw e3
          replace e4 := Bc bA hgw e4
          replace f1 := Bc bA hgw f1
          replace f2 := Bc bA hgw f2
          replace f3 := Bc bA hgw f3
          replace f4 := Bc bA hgw f4
          have HOZ := Lib.hid (And.intro (HO.out.turn (fr_and (fr_tr pa _) (fr_tr pb B)) (Tch.of bA) (Z' := fun b => b = wr.heap.size) (fun b e => by rw [e]; exact ⟨.inr (.inr (Nat.le_refl _)), hxs⟩)) (Bt HB.out bA))
          have HOW := Lib.hid (show OO (And2 (TrB pa (bl l l.length)) (TrB pb B)) (fun b => b = wr.heap.size) W.heap.size wa.drew ∧ RowKit.Below W.heap.size W wa.drew from ⟨HOZ.out.1.below (fr_and (fr_tr pa _) (fr_tr pb B)) (Bd (Below.refl _ wa)), Bt HOZ.out.2 (Bd (Below.refl _ wa))⟩)
          clear HOZ
          have HXB := Lib.hid HB.out.size
          have HWA := Lib.hid hwa
          clear hcs hbb bA hwa HO HB HPS hgw HH
          go_wp2_with fail
          rw [← HWA.out]
          clear HWA
          generalize wr.heap.size = xb at *
          have PC := Lib.hid (fun (w : World) (hE : Er3 w eR eN eF) => asks_2 (base := W.heap.size) (fr_tr pa (bl l l.length)) (asks_putT (pt := pb) (B := B) (n : Int) 1 y1 y2 y3 y4 hx hey (by omega) hE hel))
          have PB := Lib.hid (fun (w : World) (B2 : List Bxd) (h : B2.length ≤ 200) (hE : Er3 w eR eN eF) => asks_2 (base := W.heap.size) (fr_tr pa (bl l l.length)) (asks_putT (pt := pb) (B := B2) (n : Int) 1 x1 x2 x3 x4 hx hex h hE hel))
          have HSZ : Hid (∀ W3 W4, Tch (OffZ (fun b => b = xb) W.heap.size) W3 W4 → xb < W3.heap.size → g < W3.heap.size → ((W3.cell? ⟨xb, 0, none⟩ = some (.int .i64 (n : Int)) ∧ W3.cell? ⟨xb, 1, none⟩ = some (.int .i64 1)) ∧ W3.cell? ⟨g, o + n * 4, none⟩ = some (.int .i64 x1) ∧ W3.cell? ⟨g, o + n * 4 + 1, none⟩ = some (.int .i64 x2) ∧ W3.cell? ⟨g, o + n * 4 + 2, none⟩ = some (.int .i64 x3) ∧ W3.cell? ⟨g, o + n * 4 + 3, none⟩ = some (.int .i64 x4) ∧ W3.cell? ⟨g, o + q * 4, none⟩ = some (.int .i64 y1) ∧ W3.cell? ⟨g, o + q * 4 + 1, none⟩ = some (.int .i64 y2) ∧ W3.cell? ⟨g, o + q * 4 + 2, none⟩ = some (.int .i64 y3) ∧ W3.cell? ⟨g, o + q * 4 + 3, none⟩ = some (.int .i64 y4)) → ((W4.cell? ⟨xb, 0, none⟩ = some (.int .i64 (n : Int)) ∧ W4.cell? ⟨xb, 1, none⟩ = some (.int .i64 1)) ∧ W4.cell? ⟨g, o + n * 4, none⟩ = some (.int .i64 x1) ∧ W4.cell? ⟨g, o + n * 4 + 1, none⟩ = some (.int .i64 x2) ∧ W4.cell? ⟨g, o + n * 4 + 2, none⟩ = some (.int .i64 x3) ∧ W4.cell? ⟨g, o + n * 4 + 3, none⟩ = some (.int .i64 x4) ∧ W4.cell? ⟨g, o + q * 4, none⟩ = some (.int .i64 y1) ∧ W4.cell? ⟨g, o + q * 4 + 1, none⟩ = some (.int .i64 y2) ∧ W4.cell? ⟨g, o + q * 4 + 2, none⟩ = some (.int .i64 y3) ∧ W4.cell? ⟨g, o + q * 4 + 3, none⟩ = some (.int .i64 y4))) := fun W3 W4 ht hl hl2 hs => by
            have n1 : ¬ OffZ (fun b => b = xb) W.heap.size xb := fun e => e.2 rfl
            have n2 : ¬ OffZ (fun b => b = xb) W.heap.size g := fun e => by have := e.1; omega
            exact ⟨⟨ht.cell hl n1 hs.1.1, ht.cell hl n1 hs.1.2⟩, ht.cell hl2 n2 hs.2.1, ht.cell hl2 n2 hs.2.2.1, ht.cell hl2 n2 hs.2.2.2.1, ht.cell hl2 n2 hs.2.2.2.2.1, ht.cell hl2 n2 hs.2.2.2.2.2.1, ht.cell hl2 n2 hs.2.2.2.2.2.2.1, ht.cell hl2 n2 hs.2.2.2.2.2.2.2.1, ht.cell hl2 n2 hs.2.2.2.2.2.2.2.2⟩
          clear hx hex hey
          refine wp_region_held_drew (S := fun W2 => ((W2.cell? ⟨xb, 0, none⟩ = some (.int .i64 (n : Int)) ∧ W2.cell? ⟨xb, 1, none⟩ = some (.int .i64 1)) ∧ W2.cell? ⟨g, o + n * 4, none⟩ = some (.int .i64 x1) ∧ W2.cell? ⟨g, o + n * 4 + 1, none⟩ = some (.int .i64 x2) ∧ W2.cell? ⟨g, o + n * 4 + 2, none⟩ = some (.int .i64 x3) ∧ W2.cell? ⟨g, o + n * 4 + 3, none⟩ = some (.int .i64 x4) ∧ W2.cell? ⟨g, o + q * 4, none⟩ = some (.int .i64 y1) ∧ W2.cell? ⟨g, o + q * 4 + 1, none⟩ = some (.int .i64 y2) ∧ W2.cell? ⟨g, o + q * 4 + 2, none⟩ = some (.int .i64 y3) ∧ W2.cell? ⟨g, o + q * 4 + 3, none⟩ = some (.int .i64 y4))) (by kernel_rfl) ⟨⟨d1, d2⟩, e1, e2, e3, e4, f1, f2, f3, f4⟩ (fun hHeld => ?_)
          (refine wpAnyH_take (i := 0) (v := ?_) rfl (by kernel_rfl) (by kernel_rfl) (by kernel_rfl) (fun _ _ _ h => h) (Or.inl ⟨by rfl, ?rt⟩) (by assumption) ?_; case rt => (intro w hSw; (try dsimp only at hSw); go_simp; (try with_reducible rfl))); (try simp only [Act.put, List.getElem_toArray, List.getElem_cons_succ, List.getElem_cons_zero, List.setIfInBounds_toArray, List.set_cons_zero, List.set_cons_succ])
          (refine wpAnyH_take (i := 1) (v := ?_) rfl (by kernel_rfl) (by kernel_rfl) (by kernel_rfl) (fun _ _ _ h => h) (Or.inl ⟨by rfl, ?rt⟩) (by assumption) ?_; case rt => (intro w hSw; (try dsimp only at hSw); go_simp; (try with_reducible rfl))); (try simp only [Act.put, List.getElem_toArray, List.getElem_cons_succ, List.getElem_cons_zero, List.setIfInBounds_toArray, List.set_cons_zero, List.set_cons_succ])
          (refine wpAnyH_take (i := 2) (v := ?_) rfl (by kernel_rfl) (by kernel_rfl) (by kernel_rfl) (fun _ _ _ h => h) (Or.inl ⟨by rfl, ?rt⟩) (by assumption) ?_; case rt => (intro w hSw; (try dsimp only at hSw); go_simp; (try with_reducible rfl))); (try simp only [Act.put, List.getElem_toArray, List.getElem_cons_succ, List.getElem_cons_zero, List.setIfInBounds_toArray, List.set_cons_zero, List.set_cons_succ])
          (refine wpAnyH_take (i := 3) (v := ?_) rfl (by kernel_rfl) (by kernel_rfl) (by kernel_rfl) (fun _ _ _ h => h) (Or.inl ⟨by rfl, ?rt⟩) (by assumption) ?_; case rt => (intro w hSw; (try dsimp only at hSw); go_simp; (try with_reducible rfl))); (try simp only [Act.put, List.getElem_toArray, List.getElem_cons_succ, List.getElem_cons_zero, List.setIfInBounds_toArray, List.set_cons_zero, List.set_cons_succ])
          (refine wpAnyH_take (i := 4) (v := ?_) rfl (by kernel_rfl) (by kernel_rfl) (by kernel_rfl) (fun _ _ _ h => h) (Or.inl ⟨by rfl, ?rt⟩) (by assumption) ?_; case rt => (intro w hSw; (try dsimp only at hSw); go_simp; (try with_reducible rfl))); (try simp only [Act.put, List.getElem_toArray, List.getElem_cons_succ, List.getElem_cons_zero, List.setIfInBounds_toArray, List.set_cons_zero, List.set_cons_succ])
          (try simp only [hwn])
          (refine wpAnyH_take (i := 5) (v := ?_) rfl (by kernel_rfl) (by kernel_rfl) (by kernel_rfl) (fun _ _ _ h => h) (Or.inl ⟨by rfl, ?rt⟩) (by assumption) ?_; case rt => (intro w hSw; (try dsimp only at hSw); go_simp; (try with_reducible rfl))); (try simp only [Act.put, List.getElem_toArray, List.getElem_cons_succ, List.getElem_cons_zero, List.setIfInBounds_toArray, List.set_cons_zero, List.set_cons_succ])
          (refine wpAnyH_take (i := 6) (v := ?_) rfl (by kernel_rfl) (by kernel_rfl) (by kernel_rfl) (fun _ _ _ h => h) (Or.inl ⟨by rfl, ?rt⟩) (by assumption) ?_; case rt => (intro w hSw; (try dsimp only at hSw); go_simp; (try with_reducible rfl))); (try simp only [Act.put, List.getElem_toArray, List.getElem_cons_succ, List.getElem_cons_zero, List.setIfInBounds_toArray, List.set_cons_zero, List.set_cons_succ])
          (refine wpAnyH_take (i := 7) (v := ?_) rfl (by kernel_rfl) (by kernel_rfl) (by kernel_rfl) (fun _ _ _ h => h) (Or.inl ⟨by rfl, ?rt⟩) (by assumption) ?_; case rt => (intro w hSw; (try dsimp only at hSw); go_simp; (try with_reducible rfl))); (try simp only [Act.put, List.getElem_toArray, List.getElem_cons_succ, List.getElem_cons_zero, List.setIfInBounds_toArray, List.set_cons_zero, List.set_cons_succ])
          (try simp only [hr2])
          (refine wpAnyH_take (i := 8) (v := ?_) rfl (by kernel_rfl) (by kernel_rfl) (by kernel_rfl) (fun _ _ _ h => h) (Or.inl ⟨by rfl, ?rt⟩) (by assumption) ?_; case rt => (intro w hSw; (try dsimp only at hSw); go_simp; (try with_reducible rfl))); (try simp only [Act.put, List.getElem_toArray, List.getElem_cons_succ, List.getElem_cons_zero, List.setIfInBounds_toArray, List.set_cons_zero, List.set_cons_succ])
          (refine wpAnyH_take (i := 9) (v := ?_) rfl (by kernel_rfl) (by kernel_rfl) (by kernel_rfl) (fun _ _ _ h => h) (Or.inl ⟨by rfl, ?rt⟩) (by assumption) ?_; case rt => (intro w hSw; (try dsimp only at hSw); go_simp; (try with_reducible rfl))); (try simp only [Act.put, List.getElem_toArray, List.getElem_cons_succ, List.getElem_cons_zero, List.setIfInBounds_toArray, List.set_cons_zero, List.set_cons_succ])
          refine wpAnyH_ready (rs := [10]) (by kernel_rfl) (by simp) ?_
          refine AllReadyH.cons rfl (fun K hK => ?_) AllReadyH.nil
          go_simp
          obtain ⟨o1, o2⟩ := HOW.out
          refine (o1.ask (PC.out _ (HE.out.below o2))).mono ?_
          rintro e w5 ⟨rfl, hO5, hT5⟩
          have hb5 := o2.trans (OO.tch hT5 o2.size)
          have hl5 := hT5.size
          have hS5 := HSZ.out _ _ hT5 hxs (cell_lt e1) ⟨⟨d1, d2⟩, e1, e2, e3, e4, f1, f2, f3, f4⟩
          have H5 := Lib.hid (And.intro hO5 (And.intro hb5 hS5))
          have hxs5 : xb < w5.heap.size := Nat.lt_of_lt_of_le hxs hl5
          have hl4 := put_len B ((n : Int), 1) (y1, y2, y3, y4)
          clear hO5 hb5 o1 o2 hl5 hT5
          refine hK.out _ _ hS5 (fun hHeld => ?_); clear hK K hS5; (try simp only [Act.put, List.getElem_toArray, List.getElem_cons_succ, List.getElem_cons_zero, List.setIfInBounds_toArray, List.set_cons_zero, List.set_cons_succ])
          (refine wpAnyH_take (i := 11) (v := ?_) rfl (by kernel_rfl) (by kernel_rfl) (by kernel_rfl) (fun _ _ _ h => h) (Or.inl ⟨by rfl, ?rt⟩) (by assumption) ?_; case rt => (intro w hSw; (try dsimp only at hSw); go_simp; (try with_reducible rfl))); (try simp only [Act.put, List.getElem_toArray, List.getElem_cons_succ, List.getElem_cons_zero, List.setIfInBounds_toArray, List.set_cons_zero, List.set_cons_succ])
          (refine wpAnyH_take (i := 12) (v := ?_) rfl (by kernel_rfl) (by kernel_rfl) (by kernel_rfl) (fun _ _ _ h => h) (Or.inl ⟨by rfl, ?rt⟩) (by assumption) ?_; case rt => (intro w hSw; (try dsimp only at hSw); go_simp; (try with_reducible rfl))); (try simp only [Act.put, List.getElem_toArray, List.getElem_cons_succ, List.getElem_cons_zero, List.setIfInBounds_toArray, List.set_cons_zero, List.set_cons_succ])
          (refine wpAnyH_take (i := 13) (v := ?_) rfl (by kernel_rfl) (by kernel_rfl) (by kernel_rfl) (fun _ _ _ h => h) (Or.inl ⟨by rfl, ?rt⟩) (by assumption) ?_; case rt => (intro w hSw; (try dsimp only at hSw); go_simp; (try with_reducible rfl))); (try simp only [Act.put, List.getElem_toArray, List.getElem_cons_succ, List.getElem_cons_zero, List.setIfInBounds_toArray, List.set_cons_zero, List.set_cons_succ])
          (refine wpAnyH_take (i := 14) (v := ?_) rfl (by kernel_rfl) (by kernel_rfl) (by kernel_rfl) (fun _ _ _ h => h) (Or.inl ⟨by rfl, ?rt⟩) (by assumption) ?_; case rt => (intro w hSw; (try dsimp only at hSw); go_simp; (try with_reducible rfl))); (try simp only [Act.put, List.getElem_toArray, List.getElem_cons_succ, List.getElem_cons_zero, List.setIfInBounds_toArray, List.set_cons_zero, List.set_cons_succ])
          (refine wpAnyH_take (i := 15) (v := ?_) rfl (by kernel_rfl) (by kernel_rfl) (by kernel_rfl) (fun _ _ _ h => h) (Or.inl ⟨by rfl, ?rt⟩) (by assumption) ?_; case rt => (intro w hSw; (try dsimp only at hSw); go_simp; (try with_reducible rfl))); (try simp only [Act.put, List.getElem_toArray, List.getElem_cons_succ, List.getElem_cons_zero, List.setIfInBounds_toArray, List.set_cons_zero, List.set_cons_succ])
          (refine wpAnyH_take (i := 16) (v := ?_) rfl (by kernel_rfl) (by kernel_rfl) (by kernel_rfl) (fun _ _ _ h => h) (Or.inl ⟨by rfl, ?rt⟩) (by assumption) ?_; case rt => (intro w hSw; (try dsimp only at hSw); go_simp; (try with_reducible rfl))); (try simp only [Act.put, List.getElem_toArray, List.getElem_cons_succ, List.getElem_cons_zero, List.setIfInBounds_toArray, List.set_cons_zero, List.set_cons_succ])
          (refine wpAnyH_take (i := 17) (v := ?_) rfl (by kernel_rfl) (by kernel_rfl) (by kernel_rfl) (fun _ _ _ h => h) (Or.inl ⟨by rfl, ?rt⟩) (by assumption) ?_; case rt => (intro w hSw; (try dsimp only at hSw); go_simp; (try with_reducible rfl))); (try simp only [Act.put, List.getElem_toArray, List.getElem_cons_succ, List.getElem_cons_zero, List.setIfInBounds_toArray, List.set_cons_zero, List.set_cons_succ])
          (refine wpAnyH_take (i := 18) (v := ?_) rfl (by kernel_rfl) (by kernel_rfl) (by kernel_rfl) (fun _ _ _ h => h) (Or.inl ⟨by rfl, ?rt⟩) (by assumption) ?_; case rt => (intro w hSw; (try dsimp only at hSw); go_simp; (try with_reducible rfl))); (try simp only [Act.put, List.getElem_toArray, List.getElem_cons_succ, List.getElem_cons_zero, List.setIfInBounds_toArray, List.set_cons_zero, List.set_cons_succ])
          refine wpAnyH_ready (rs := [19]) (by kernel_rfl) (by simp) ?_
          refine AllReadyH.cons rfl (fun K hK => ?_) AllReadyH.nil
          go_simp
          obtain ⟨o1, o2, o3⟩ := H5.out
          refine (o1.ask (PB.out _ (woB B ((n : Int), 1) ++ [(((n : Int), 1), (y1, y2, y3, y4))]) (by omega) (HE.out.below o2))).mono ?_
          rintro e w6 ⟨rfl, hO6, hT6⟩
          have HB6 := Lib.hid (o2.trans (OO.tch hT6 o2.size))
          have HO6 := Lib.hid (hO6.turn (fr_and (fr_tr pa _) (fr_tr pb _)) (Tch.refl _ w6) (Z' := NoZ) (fun b e => e.elim))
          refine hK.out _ _ (HSZ.out _ _ hT6 hxs5 (cell_lt o3.2.1) o3) (fun hHeld => ?_); clear hK K; (try simp only [Act.put, List.getElem_toArray, List.getElem_cons_succ, List.getElem_cons_zero, List.setIfInBounds_toArray, List.set_cons_zero, List.set_cons_succ])
          (refine wpAnyH_take (i := 20) (v := ?_) rfl (by kernel_rfl) (by kernel_rfl) (by kernel_rfl) (fun _ _ _ h => h) (Or.inl ⟨by rfl, ?rt⟩) (by assumption) ?_; case rt => (intro w hSw; (try dsimp only at hSw); go_simp; (try with_reducible rfl))); (try simp only [Act.put, List.getElem_toArray, List.getElem_cons_succ, List.getElem_cons_zero, List.setIfInBounds_toArray, List.set_cons_zero, List.set_cons_succ])
          (refine wpAnyH_take (i := 21) (v := ?_) rfl (by kernel_rfl) (by kernel_rfl) (by kernel_rfl) (fun _ _ _ h => h) (Or.inl ⟨by rfl, ?rt⟩) (by assumption) ?_; case rt => (intro w hSw; (try dsimp only at hSw); go_simp; (try with_reducible rfl))); (try simp only [Act.put, List.getElem_toArray, List.getElem_cons_succ, List.getElem_cons_zero, List.setIfInBounds_toArray, List.set_cons_zero, List.set_cons_succ])
          have hl6 := put_len (woB B ((n : Int), 1) ++ [(((n : Int), 1), (y1, y2, y3, y4))]) ((n : Int), 1) (x1, x2, x3, x4)
          clear hO6 hT6 o1 o2 o3 d1 d2 e1 e2 e3 e4 f1 f2 f3 f4 hr1 hr2 hwn
          refine wpAnyH_done (by kernel_rfl) ?_ _
          go_wp2
          go_roundw
          case measure => simp only [intOf]; omega
          case rel => exact ⟨i + 1, _, by go_num, by omega, HN1.out, by omega, HO6.out, HB6.out⟩
        · have hin : i = l.length := by omega
          subst hin
          have hvb := HH.out.congr (fun y => (P2_end (k := kk) y).symm)
          have hva : Hv (fun y => y ∈ bl l l.length) (bl l l.length) := ⟨bl_once l l.length, fun y => Iff.rfl⟩
          have hnd := Lib.hid (hva.nodes hvb)
          have hhd := Lib.hid (hva.hds hvb)
          clear hva hvb HH hlt
          have NA := Lib.hid (HO.out.read (fun M h => nodesT_call (tr_1 h) (by rw [bl_len]; omega)))
          have NB := Lib.hid (fun w' (hb : RowKit.Below wr.heap.size wr w') => (HO.out.below (fr_and (fr_tr pa _) (fr_tr pb B)) hb).read (fun M h => nodesT_call (tr_2 h) (by omega)))
          have HA3 := Lib.hid (fun w' (hb : RowKit.Below wr.heap.size wr w') => (HO.out.below (fr_and (fr_tr pa _) (fr_tr pb B)) hb).read (fun M h => hdsT_call (tr_1 h) (by rw [bl_len]; omega)))
          have HB3 := Lib.hid (fun w' (hb : RowKit.Below wr.heap.size wr w') => (HO.out.below (fr_and (fr_tr pa _) (fr_tr pb B)) hb).read (fun M h => hdsT_call (tr_2 h) (by omega)))
          rw [hnd.out] at NA
          rw [hhd.out] at HA3
          have hnl : (nodesB B).length ≤ 1000 := by
            have h1 := srt_len ltC (nodeL B)
            have h2 := nodeL_len B
            unfold nodesB
            omega
          obtain ⟨wo, rfl⟩ : ∃ wo, wo = wr := ⟨_, rfl⟩
          clear hnd hhd HO
          generalize nodesB B = E at *
          go_wp2_with fail
          refine NA.out.mono ?_
          rintro e w5 ⟨v5, rfl, hs5, hb5⟩
          have HS5 := Lib.hid hs5
          obtain ⟨p5, c5, rfl, a5, b5, _⟩ := hs5
          unfold maxLen at b5
          have B5 := Lib.hid hb5
          clear hb5 NA
          go_wp2_with fail
          refine (NB.out _ B5.out).mono ?_
          rintro e w6 ⟨v6, rfl, hs6, hb6⟩
          have HS6 := Lib.hid hs6
          have HT5 := Lib.hid (HS5.out.below hb6)
          obtain ⟨p6, c6, rfl, a6, b6, _⟩ := hs6
          unfold maxLen at b6
          have B6 := Lib.hid (Bt B5.out hb6)
          clear hb6 NB B5 HS5
          go_wp2_with fail
          refine (HA3.out _ B6.out).mono ?_
          rintro e w7 ⟨v7, rfl, hs7, hb7⟩
          have HH7 := Lib.hid hs7
          have HS7 := Lib.hid (HT5.out.below hb7)
          have HT7 := Lib.hid (HS6.out.below hb7)
          have B7 := Lib.hid (Bt B6.out hb7)
          clear hs7 hb7 HA3 B6 HT5 HS6
          go_wp2_with fail
          refine (HB3.out _ B7.out).mono ?_
          rintro e w8 ⟨v8, rfl, hs8, hb8⟩
          have SC := Lib.hid (same_call _ _ v7 v8 w8 (HH7.out.below hb8) hs8)
          have HS8 := Lib.hid (HS7.out.below hb8)
          have HT8 := Lib.hid (HT7.out.below hb8)
          have B8 := Lib.hid (Bt B7.out hb8)
          clear hs8 hb8 HB3 B7 HS7 HT7 HH7
          go_wp2_with fail
          refine SC.out.mono ?_
          rintro e w9 ⟨rfl, hg9⟩
          have B9 := Lib.hid (Bt HB.out (Bt B8.out hg9.below))
          obtain ⟨p5', c5', q5, _, _, s5⟩ := HS8.out.below hg9.below
          obtain ⟨p6', c6', q6, _, _, s6⟩ := HT8.out.below hg9.below
          obtain ⟨rfl, rfl⟩ : p5 = p5' ∧ c5 = c5' := by simpa using q5
          obtain ⟨rfl, rfl⟩ : p6 = p6' ∧ c6 = c6' := by simpa using q6
          have H5 := Lib.hid s5
          have H6 := Lib.hid s6
          clear hg9 SC B8 HS8 HT8 s5 s6 q5 q6 HB
          simp only [decide_true]
          go_wp2
          go_loopw [104] (fun u wr => ∃ j : Nat, u = .int .i64 j ∧ j ≤ E.length ∧ RowKit.Below w9.heap.size w9 wr) (fun u _ => E.length - (intOf u).toNat)
          case atStart => exact ⟨0, rfl, Nat.zero_le _, Below.refl _ _⟩
          case round =>
            obtain ⟨j, rfl, hj, hb⟩ := hrel
            have HBj := Lib.hid hb
            clear hb
            by_cases hjl : j < E.length
            · obtain ⟨g5, o5, rfl, hg5, hc5⟩ := H5.out (by omega)
              obtain ⟨g6, o6, rfl, hg6, hc6⟩ := H6.out (by omega)
              obtain ⟨a1, a2, a3⟩ := atC hc5 hjl
              obtain ⟨b1, b2, b3⟩ := atC hc6 hjl
              replace a1 := Bc HBj.out hg5 a1
              replace a2 := Bc HBj.out hg5 a2
              replace a3 := Bc HBj.out hg5 a3
              replace b1 := Bc HBj.out hg6 b1
              replace b2 := Bc HBj.out hg6 b2
              replace b3 := Bc HBj.out hg6 b3
              have hg5r := cell_lt a1
              have hg6r := cell_lt b1
              have ne := fun W => neQ_run E[j]! E[j]! W
              have gd := gdQ_run
              unfold clV at ne
              simp only [decide_true, Bool.not_true] at ne
              generalize E[j]! = y at *
              obtain ⟨y1', y2', y3'⟩ := y
              dsimp only at a1 a2 a3 b1 b2 b3 ne
              clear hc5 hc6
              go_wp2_with fail
              refine wp_region_held_drew (S := (fun w' => Below (wr).heap.size (wr) w' ∧ ∀ b_1 o, b_1 < (wr).heap.size → w'.cell? ⟨b_1, o, none⟩ = (wr).cell? ⟨b_1, o, none⟩)) (by kernel_rfl) (keep0 _) (fun hHeld => ?_)
              (refine wpAnyH_take (i := 0) (v := ?_) rfl (by kernel_rfl) (by kernel_rfl) (by kernel_rfl) (fun _ _ _ h => h) (Or.inl ⟨by rfl, ?rt⟩) (by assumption) ?_; case rt => (intro w hSw; (try dsimp only at hSw); go_simp; (try with_reducible rfl))); (try simp only [Act.put, List.getElem_toArray, List.getElem_cons_succ, List.getElem_cons_zero, List.setIfInBounds_toArray, List.set_cons_zero, List.set_cons_succ])
              (refine wpAnyH_take (i := 1) (v := ?_) rfl (by kernel_rfl) (by kernel_rfl) (by kernel_rfl) (fun _ _ _ h => h) (Or.inl ⟨by rfl, ?rt⟩) (by assumption) ?_; case rt => (intro w hSw; (try dsimp only at hSw); go_simp; (try with_reducible rfl))); (try simp only [Act.put, List.getElem_toArray, List.getElem_cons_succ, List.getElem_cons_zero, List.setIfInBounds_toArray, List.set_cons_zero, List.set_cons_succ])
              (refine wpAnyH_take (i := 2) (v := ?_) rfl (by kernel_rfl) (by kernel_rfl) (by kernel_rfl) (fun _ _ _ h => h) (Or.inl ⟨by rfl, ?rt⟩) (by assumption) ?_; case rt => (intro w hSw; (try dsimp only at hSw); go_simp; (try with_reducible rfl))); (try simp only [Act.put, List.getElem_toArray, List.getElem_cons_succ, List.getElem_cons_zero, List.setIfInBounds_toArray, List.set_cons_zero, List.set_cons_succ])
              (refine wpAnyH_take (i := 3) (v := ?_) rfl (by kernel_rfl) (by kernel_rfl) (by kernel_rfl) (fun _ _ _ h => h) (Or.inl ⟨by rfl, ?rt⟩) (by assumption) ?_; case rt => (intro w hSw; (try dsimp only at hSw); go_simp; (try with_reducible rfl))); (try simp only [Act.put, List.getElem_toArray, List.getElem_cons_succ, List.getElem_cons_zero, List.setIfInBounds_toArray, List.set_cons_zero, List.set_cons_succ])
              (refine wpAnyH_take (i := 4) (v := ?_) rfl (by kernel_rfl) (by kernel_rfl) (by kernel_rfl) (fun _ _ _ h => h) (Or.inl ⟨by rfl, ?rt⟩) (by assumption) ?_; case rt => (intro w hSw; (try dsimp only at hSw); go_simp; (try with_reducible rfl))); (try simp only [Act.put, List.getElem_toArray, List.getElem_cons_succ, List.getElem_cons_zero, List.setIfInBounds_toArray, List.set_cons_zero, List.set_cons_succ])
              (refine wpAnyH_take (i := 5) (v := ?_) rfl (by kernel_rfl) (by kernel_rfl) (by kernel_rfl) (fun _ _ _ h => h) (Or.inl ⟨by rfl, ?rt⟩) (by assumption) ?_; case rt => (intro w hSw; (try dsimp only at hSw); go_simp; (try with_reducible rfl))); (try simp only [Act.put, List.getElem_toArray, List.getElem_cons_succ, List.getElem_cons_zero, List.setIfInBounds_toArray, List.set_cons_zero, List.set_cons_succ])
              (refine wpAnyH_take (i := 6) (v := ?_) rfl (by kernel_rfl) (by kernel_rfl) (by kernel_rfl) (fun _ _ _ h => h) (Or.inl ⟨by rfl, ?rt⟩) (by assumption) ?_; case rt => (intro w hSw; (try dsimp only at hSw); go_simp; (try with_reducible rfl))); (try simp only [Act.put, List.getElem_toArray, List.getElem_cons_succ, List.getElem_cons_zero, List.setIfInBounds_toArray, List.set_cons_zero, List.set_cons_succ])
              (refine wpAnyH_take (i := 7) (v := ?_) rfl (by kernel_rfl) (by kernel_rfl) (by kernel_rfl) (fun _ _ _ h => h) (Or.inl ⟨by rfl, ?rt⟩) (by assumption) ?_; case rt => (intro w hSw; (try dsimp only at hSw); go_simp; (try with_reducible rfl))); (try simp only [Act.put, List.getElem_toArray, List.getElem_cons_succ, List.getElem_cons_zero, List.setIfInBounds_toArray, List.set_cons_zero, List.set_cons_succ])
              (refine wpAnyH_take (i := 8) (v := ?_) rfl (by kernel_rfl) (by kernel_rfl) (by kernel_rfl) (fun _ _ _ h => h) (Or.inl ⟨by rfl, ?rt⟩) (by assumption) ?_; case rt => (intro w hSw; (try dsimp only at hSw); go_simp; (try with_reducible rfl))); (try simp only [Act.put, List.getElem_toArray, List.getElem_cons_succ, List.getElem_cons_zero, List.setIfInBounds_toArray, List.set_cons_zero, List.set_cons_succ])
              refine wpAnyH_done (by kernel_rfl) ?_ _
              go_wp2
              go_roundw
              case measure => simp only [intOf]; omega
              case rel => exact ⟨j + 1, by go_num, by omega, Bt HBj.out hHeld.1⟩
            · have hjn : j = E.length := by omega
              subst hjn
              go_wp2
              go_ret
              exact ⟨rfl, Bt B9.out HBj.out⟩
end
end Go.Proofs.YtlnncnbahmgpfaaDoor

/-
  Whatever boxes and number it is given, QuadAgain answers true and leaves its arguments as they were. Conditions: the errors' variables that it names read as the program's text lays them (the card ties them to that text).
-/
namespace Go.Proofs.YtlnncnbahmgpfaaDoor
set_option linter.unusedSimpArgs false
set_option linter.unusedVariables false
open Go.ChangeShapes Go.WideShapes Go.ChangeAt Go.RowKit Go.Joins

set_option maxRecDepth 100000 in
theorem quadAgain_lifted (os : Os) (started : os.Started) (H : Type) (enc : TypeId × Value → H) :
    ReturnsInHanded {} Tryd.checked os 6 .any (fun w args => (Rows.quadAgainSpec.pre enc Tryd.prog Tryd.f6 [] false w args ∧ laidMetH Tryd.prog Rows.quadAgainRow.laid w) ∧ sizedMet enc Tryd.prog Tryd.f6 (OpenSpec.ofChange Rows.quadAgainSpec) false w args)
      (Rows.quadAgainSpec.post enc Tryd.prog Tryd.f6 false true false false) := by
  refine returnsInHanded_of_change_and (C := Tryd.checked) (X := fun w _ => laidMetH Tryd.prog Rows.quadAgainRow.laid w) (fun _ _ _ hh h => h.of_heap hh) own started (by kernel_rfl) Tryd.func6
    (ChangeSpec.witness_shaped (enc := enc) (C := Tryd.checked) (os := os) (X := fun w _ => laidMetH Tryd.prog Rows.quadAgainRow.laid w) false (World.doorLaid Tryd.prog 199 os) #[.slice none 0 0, .int .i64 0] 8 rfl (World.shaped_of_RefB (by kernel_rfl) (by kernel_rfl)) (by kernel_rfl) (by kernel_rfl) (by kernel_rfl) (laidMetH_of_parts3 (fuel := 8) (laidMet_of_run' 8 (by kernel_rfl) (by kernel_rfl)) (by kernel_rfl) (by kernel_rfl))) ?_
  intro W base args ds gs before hval0 hW _ _ hL _
  have hval : ∀ (j : Nat) t v, Tryd.f6.params[j]? = some t → args[j]? = some v → Value.okWide Tryd.prog W .any base t v := hval0
  have hW' := hW
  obtain ⟨p, q, hA0, hV, rfl, hfz, hnd⟩ := hW
  have hA : DataW.TrodAll enc Tryd.prog W 0 (fun _ => true) true Tryd.f6.params.toList args.toList ds p := hA0
  rw [Tryd.params6] at hA hval
  obtain ⟨v0, vs0, d0, ds0, p0, q0, hargs, rfl, rfl, h0, r0⟩ := trodAll_cons hA
  obtain ⟨v1, vs1, d1, ds1, p1, q1, rfl, rfl, rfl, h1, r1⟩ := trodAll_cons r0
  obtain ⟨rfl, rfl, rfl⟩ := trodAll_nil r1
  obtain rfl : args = #[v0, v1] := by cases args; simp_all
  obtain ⟨l0, hl0⟩ := open_boxes (hval 0 43 v0 rfl rfl) h0
  obtain ⟨x1, rfl, rfl, rfl, w1⟩ := open_int Tryd.underlying3 (hval 1 3 v1 rfl rfl) h1
  clear hA0 hval0
  have hL' : laidMet Tryd.prog Rows.quadAgainRow.laid W := by
    have h := hL
    rw [MakeChecks.laidMetH_plain _ _ _ (by kernel_rfl)] at h
    exact h
  obtain ⟨aR, hR⟩ := sent_range hL' (.head _)
  obtain ⟨aN, hN⟩ := sent_none hL' (.tail _ (.head _))
  obtain ⟨aF, hF⟩ := sent_form hL' (.tail _ (.tail _ (.head _)))
  refine (quadAgain_walk l0 v0 x1 W hl0 (Er3.three hR hN hF)).mono fun e W' ⟨he, hb⟩ => ?_
  subst he
  exact ⟨_, rfl, law_post laidOut (by kernel_rfl) rfl (by kernel_rfl) Tryd.underlying4 (fun ds hd => by match ds, hd with | [_, _], _ => rfl) hW' hb⟩

theorem quadAgain_row : Rows.QuadAgainSaid :=
  OpenClaim.holds_of_wide 6 Tryd.f6 rfl rfl rfl rfl rfl rfl rfl ⟨rfl, rfl, rfl, rfl, rfl⟩ rfl rfl rfl rfl rfl (by kernel_rfl) Tryd.func6 (by kernel_rfl)
    (of_decide_eq_true (by kernel_rfl)) (by unfold Func.isWrapper; first | (rw [if_pos (by decide +kernel)]; kernel_rfl) | (rw [if_neg (by decide +kernel)]; exact ⟨rfl, rfl⟩))
    (fun os started H enc _ => quadAgain_lifted os started H enc)

theorem quadAgain_holds : Rows.QuadAgainCardSaid :=
  Claim7.holds_tied_plain_at .later [] Rows.quadAgainCard.laidKinds true Rows.quadAgainCard.stood.harness true
    quadAgain_row (fun _ h => by cases h) (by kernel_rfl) (fun _ h => by cases h) quadAgain_row_tie rfl ⟨rfl, rfl⟩ (by kernel_rfl) rfl
    (fun f fn hf hfn => by
      obtain rfl : f = 6 := Option.some.inj ((show Tryd.prog.funcNamed "paddock/paddocklaw12.QuadAgain" = some 6 by kernel_rfl).symm.trans hf) |>.symm
      obtain rfl : fn = Tryd.f6 := (Option.some.inj (Tryd.func6.symm.trans hfn)).symm
      exact ⟨by kernel_rfl, fun j t ht => by
        rw [Tryd.params6] at ht
        have hm : t ∈ [43, 3] := by
          have := Array.mem_of_getElem? ht
          simp at this ⊢
          first | omega | (rcases this with h | h | h <;> simp [h])
        have hall : ([43, 3].all fun u => !Tryd.prog.wantsStandIn u) = true := by kernel_rfl
        exact (show Tryd.prog.wantsStandIn t = false by simpa using List.all_eq_true.1 hall t hm)⟩)
    (by kernel_rfl)
#print axioms quadAgain_holds
end Go.Proofs.YtlnncnbahmgpfaaDoor
