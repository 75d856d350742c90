/-
  The walk of AxisOrders.
-/
import Derived.Test.YtbodefigeiaodaaDoorBx11
import Derived.Test.YtbodefigeiaodaaDoorOr11
namespace Go.Proofs.YtbodefigeiaodaaDoor
set_option linter.unusedSimpArgs false
set_option linter.unusedVariables false
open Go.RowKit Go.Sort Go.Lib Go.Shelf

theorem all_step {p : Nat → Prop} {i : Nat} (h : ∀ j : Nat, j < i → p j) (hi : p i) : ∀ j : Nat, j < i + 1 → p j := fun j hj => by
  by_cases e : j = i
  · exact e ▸ hi
  · exact h j (by omega)
theorem from_at (fr : Int) (n : Nat) (hn : n ≤ 40) : ∃ f : Nat, (f < n ∨ n = 0) ∧ ∀ i : Nat, i < n → (wrap64 ((i : Int) + wrap64 ((IntKind.u64.wrap fr).tmod (n : Int)))).tmod (n : Int) = (((i + f) % n : Nat) : Int) := by
  by_cases h : n = 0
  · exact ⟨0, .inr h, fun i hi => by omega⟩
  · obtain ⟨f, hf, e⟩ := idx_any fr n (by omega) (by omega)
    refine ⟨f, .inl hf, fun i hi => ?_⟩
    rw [e, show wrap64 ((i : Int) + (f : Int)) = ((i + f : Nat) : Int) by unfold wrap64; omega, ← Int.ofNat_tmod]
set_option maxHeartbeats 4000000 in
set_option maxRecDepth 100000 in
theorem axisOrders_walk (l gl : List Bx4) (v vg : Value) (fr : Int) (W : World) (hv : Sl encX W v l) (hg : Sl encX W vg gl) (t t2 : TypeId) (ue uf : Value) (hE : W.cell? ⟨2, 0, none⟩ = some (.iface t ue)) (hF : W.cell? ⟨6, 0, none⟩ = some (.iface t2 uf)) :
    Calls Tryd.prog 5 #[v, .int .i64 fr, vg] W fun e w' => e = .returned (.bool true) ∧ RowKit.Below W.heap.size W w' := by
  obtain ⟨p0, c0, rfl, v1, v2, v3⟩ := hv
  obtain ⟨p1, c1, rfl, g1, g2, g3⟩ := hg
  unfold maxLen at v2 g2
  have HV := Lib.hid v3
  have HG := Lib.hid g3
  have HE := Lib.hid (And.intro hE hF)
  have hel := cell_lt hE
  have hfl := cell_lt hF
  have AL := Lib.hid (alive_any W t ue hE)
  have NS := Lib.hid newS_call
  unfold psP at NS
  clear v3 g3 hE hF
  by_cases h1 : l.length ≤ 40
  case neg =>
    have hz : (l.length : Int) > 40 := by omega
    go_enter Tryd.func5, Tryd.ntmps5
    go_wp2_with fail
    refine AL.out.mono ?_
    rintro e w1 ⟨rfl, hb1⟩
    go_wp2
    go_ret
    exact ⟨rfl, hb1⟩
  have hz : ¬ (l.length : Int) > 40 := by omega
  by_cases h2 : gl.length ≤ 40
  case neg =>
    have hz2 : (gl.length : Int) > 40 := by omega
    go_enter Tryd.func5, Tryd.ntmps5
    go_wp2_with fail
    refine AL.out.mono ?_
    rintro e w1 ⟨rfl, hb1⟩
    go_wp2
    go_ret
    exact ⟨rfl, hb1⟩
  have hz2 : ¬ (gl.length : Int) > 40 := by omega
  obtain ⟨f, hf, hfk⟩ := from_at fr l.length h1
  have HFK := Lib.hid hfk
  clear hfk
  go_enter Tryd.func5, Tryd.ntmps5
  go_wp2_with fail
  refine AL.out.mono ?_
  rintro e w1 ⟨rfl, hb1⟩
  have B1 := Lib.hid hb1
  clear hb1 AL
  go_wp2_with fail
  refine (NS.out _).mono ?_
  rintro e w2 ⟨pa, rfl, hp2, hb2⟩
  have O2 := Lib.hid (OO.new (P := SwB pa []) (Z := NoZ) (base := W.heap.size) hp2 B1.out.size hb2.size (fun b e => e.elim))
  have B2 := Lib.hid (Bt B1.out hb2)
  clear hp2 hb2
  go_wp2_with fail
  refine (NS.out _).mono ?_
  rintro e w3 ⟨pb, rfl, hp3, hb3⟩
  have O3 := Lib.hid (OO.beside (fr_sw pa []) (fr_sw pb []) O2.out hp3 hb3)
  have B3 := Lib.hid (Bt B2.out hb3)
  clear hp3 hb3 NS O2 B1 B2
  go_wp2
  go_loopw [31] (fun u wr => ∃ (i : Nat) (A : List Bxd), u = .int .i64 i ∧ i ≤ l.length ∧ Hv (P1 l 0 i) A ∧ A.length ≤ i ∧ (∀ j : Nat, j < i → boxB l[j]! = true) ∧ OO (And2 (SwB pa A) (SwB pb [])) NoZ W.heap.size wr ∧ RowKit.Below W.heap.size W wr) (fun u _ => l.length - (intOf u).toNat)
  case atStart => exact ⟨0, [], rfl, Nat.zero_le _, Hv.none.congr (P1_zero l 0), Nat.le_refl _, (fun j h => by omega), O3.out, B3.out⟩
  case round =>
    obtain ⟨i, A, rfl, hi, hA, hAl, hR, hO, hb⟩ := hrel
    have HR := Lib.hid hR
    clear hR
    have HO := Lib.hid hO
    have HB := Lib.hid hb
    have HA := Lib.hid hA
    clear hO hb O3 B3 hA
    by_cases hlt : i < l.length
    · obtain ⟨g, o, rfl, hg1, hcs⟩ := HV.out (by omega)
      obtain ⟨c1, c2, c3, c4⟩ := atX hcs hlt
      replace c1 := Bc HB.out hg1 c1
      replace c2 := Bc HB.out hg1 c2
      replace c3 := Bc HB.out hg1 c3
      replace c4 := Bc HB.out hg1 c4
      have hx := hd_small i (by omega)
      have HA2 := Lib.hid (HA.out.put (S' := P1 l 0 (i + 1)) ((i : Int), 1) l[i]! (fun y => by have := P1_step l 0 i y; rwa [Int.add_zero] at this))
      have hl2 := put_len A ((i : Int), 1) l[i]!
      have HR2 := Lib.hid (all_step HR.out)
      clear HR
      generalize l[i]! = x at *
      obtain ⟨x1, x2, x3, x4⟩ := x
      dsimp only at c1 c2 c3 c4
      clear hcs
      cases hbx : boxB (x1, x2, x3, x4)
      · have PN := Lib.hid (fun w' (hb : RowKit.Below wr.heap.size wr w') => OO.go (fr_and (fr_sw pa A) (fr_sw pb [])) HO.out HB.out hb (fun hB => asks_1 (fr_sw pb []) (asks_same (fr_sw pa A) (fun M hM => putS_no (ps := pa) 0 (i : Int) 1 x1 x2 x3 x4 hbx t2 uf (Bc hB hfl HE.out.2)))))
        clear hbx hx HA2 hl2
        go_wp2_with fail
        refine (PN.out _ (by repeat (first | with_reducible exact Below.refl _ _ | with_reducible assumption | with_reducible apply Ba | with_reducible apply Bd | with_reducible apply Bn | with_reducible apply Bg | (with_reducible refine Bs ?_ (by first | (simp; done) | (simp; omega)) _) | (with_reducible refine Bt ?_ (by assumption)) | (with_reducible refine Bt ?_ (Gr.below (by assumption)))))).mono ?_
        rintro e w5 ⟨rfl, _, hb5⟩
        go_wp2
        go_ret
        exact ⟨rfl, hb5⟩
      · have HR3 := Lib.hid (HR2.out hbx)
        have PY := Lib.hid (fun w' (hb : RowKit.Below wr.heap.size wr w') => OO.go (fr_and (fr_sw pa A) (fr_sw pb [])) HO.out HB.out hb (fun hB => asks_1 (fr_sw pb []) (asks_putS (i : Int) 1 x1 x2 x3 x4 hx hbx (by omega) (Bc hB hel HE.out.1) hel)))
        clear hbx hx
        go_wp2_with fail
        refine (PY.out _ (by repeat (first | with_reducible exact Below.refl _ _ | with_reducible assumption | with_reducible apply Ba | with_reducible apply Bd | with_reducible apply Bn | with_reducible apply Bg | (with_reducible refine Bs ?_ (by first | (simp; done) | (simp; omega)) _) | (with_reducible refine Bt ?_ (by assumption)) | (with_reducible refine Bt ?_ (Gr.below (by assumption)))))).mono ?_
        rintro e w5 ⟨rfl, hO5, hb5⟩
        have HO5 := Lib.hid hO5
        have HB5 := Lib.hid hb5
        clear hO5 hb5 PY
        go_wp2
        go_roundw
        case measure => simp only [intOf]; omega
        case rel => exact ⟨i + 1, _, by go_num, by omega, HA2.out, by omega, HR3.out, HO5.out, HB5.out⟩
    · have hin : i = l.length := by omega
      subst hin
      have HI := Lib.hid (And.intro HA.out (And.intro HO.out (And.intro HB.out hAl)))
      have RI := Lib.hid HR.out
      clear hlt HA HO HB HR
      go_wp2
      go_loopw [45] (fun u wr => ∃ (i : Nat) (B : List Bxd), u = .int .i64 i ∧ i ≤ gl.length ∧ Hv (P1 gl 50 i) B ∧ B.length ≤ i ∧ (∀ j : Nat, j < i → boxB gl[j]! = true) ∧ OO (And2 (SwB pa A) (SwB pb B)) NoZ W.heap.size wr ∧ RowKit.Below W.heap.size W wr) (fun u _ => gl.length - (intOf u).toNat)
      case atStart => exact ⟨0, [], rfl, Nat.zero_le _, Hv.none.congr (P1_zero gl 50), Nat.le_refl _, (fun j h => by omega), HI.out.2.1, HI.out.2.2.1⟩
      case round =>
        obtain ⟨i, B, rfl, hi, hB, hBl, hR, hO, hb⟩ := hrel
        have HR := Lib.hid hR
        clear hR
        have HO := Lib.hid hO
        have HB := Lib.hid hb
        have HA := Lib.hid hB
        clear hO hb hB
        by_cases hlt : i < gl.length
        · obtain ⟨g, o, rfl, hg1, hcs⟩ := HG.out (by omega)
          obtain ⟨c1, c2, c3, c4⟩ := atX hcs hlt
          replace c1 := Bc HB.out hg1 c1
          replace c2 := Bc HB.out hg1 c2
          replace c3 := Bc HB.out hg1 c3
          replace c4 := Bc HB.out hg1 c4
          have hx := hd_at ((i : Int) + 50) (by omega) (by omega)
          have HA2 := Lib.hid (HA.out.put (S' := P1 gl 50 (i + 1)) ((i : Int) + 50, 1) gl[i]! (fun y => P1_step gl 50 i y))
          have hl2 := put_len B ((i : Int) + 50, 1) gl[i]!
          have HR2 := Lib.hid (all_step HR.out)
          clear HR
          generalize gl[i]! = x at *
          obtain ⟨x1, x2, x3, x4⟩ := x
          dsimp only at c1 c2 c3 c4
          clear hcs
          cases hbx : boxB (x1, x2, x3, x4)
          · have PN := Lib.hid (fun w' (hb : RowKit.Below wr.heap.size wr w') => OO.go (fr_and (fr_sw pa A) (fr_sw pb B)) HO.out HB.out hb (fun hB => asks_2 (fr_sw pa A) (asks_same (fr_sw pb B) (fun M hM => putS_no (ps := pb) 0 ((i : Int) + 50) 1 x1 x2 x3 x4 hbx t2 uf (Bc hB hfl HE.out.2)))))
            clear hbx hx HA2 hl2
            go_wp2_with fail
            refine (PN.out _ (by repeat (first | with_reducible exact Below.refl _ _ | with_reducible assumption | with_reducible apply Ba | with_reducible apply Bd | with_reducible apply Bn | with_reducible apply Bg | (with_reducible refine Bs ?_ (by first | (simp; done) | (simp; omega)) _) | (with_reducible refine Bt ?_ (by assumption)) | (with_reducible refine Bt ?_ (Gr.below (by assumption)))))).mono ?_
            rintro e w5 ⟨rfl, _, hb5⟩
            go_wp2
            go_ret
            exact ⟨rfl, hb5⟩
          · have HR3 := Lib.hid (HR2.out hbx)
            have PY := Lib.hid (fun w' (hb : RowKit.Below wr.heap.size wr w') => OO.go (fr_and (fr_sw pa A) (fr_sw pb B)) HO.out HB.out hb (fun hB => asks_2 (fr_sw pa A) (asks_putS ((i : Int) + 50) 1 x1 x2 x3 x4 hx hbx (by omega) (Bc hB hel HE.out.1) hel)))
            clear hbx hx
            go_wp2_with fail
            refine (PY.out _ (by repeat (first | with_reducible exact Below.refl _ _ | with_reducible assumption | with_reducible apply Ba | with_reducible apply Bd | with_reducible apply Bn | with_reducible apply Bg | (with_reducible refine Bs ?_ (by first | (simp; done) | (simp; omega)) _) | (with_reducible refine Bt ?_ (by assumption)) | (with_reducible refine Bt ?_ (Gr.below (by assumption)))))).mono ?_
            rintro e w5 ⟨rfl, hO5, hb5⟩
            have HO5 := Lib.hid hO5
            have HB5 := Lib.hid hb5
            clear hO5 hb5 PY
            go_wp2
            go_roundw
            case measure => simp only [intOf]; omega
            case rel => exact ⟨i + 1, _, by go_num, by omega, HA2.out, by omega, HR3.out, HO5.out, HB5.out⟩
        · have hin : i = gl.length := by omega
          subst hin
          have HJ := Lib.hid (And.intro HA.out (And.intro HO.out (And.intro HB.out hBl)))
          have RJ := Lib.hid HR.out
          clear hlt HA HO HB HR
          go_wp2
          go_loopw [60] (fun u wr => ∃ (i : Nat) (B : List Bxd), u = .int .i64 i ∧ i ≤ l.length ∧ Hv (P3 l gl f i) B ∧ B.length ≤ 40 + 2 * i ∧ OO (And2 (SwB pa A) (SwB pb B)) NoZ W.heap.size wr ∧ RowKit.Below W.heap.size W wr) (fun u _ => l.length - (intOf u).toNat)
          case atStart => exact ⟨0, B, rfl, Nat.zero_le _, HJ.out.1.congr (P3_zero l gl _), by have := HJ.out.2.2.2; omega, HJ.out.2.1, HJ.out.2.2.1⟩
          case round =>
            obtain ⟨i, B, rfl, hi, hB, hBl, hO, hb⟩ := hrel
            have HO := Lib.hid hO
            have HB := Lib.hid hb
            have HA := Lib.hid hB
            clear hO hb hB
            by_cases hlt : i < l.length
            · have HK := Lib.hid (HFK.out i hlt)
              have hP := Lib.hid (fun y => P3_step l gl f i h1 hlt y)
              go_wp2
              rw [HK.out]
              have hkl : (i + f) % l.length < l.length := Nat.mod_lt _ (by omega)
              generalize (i + f) % l.length = k at *
              clear HK
              obtain ⟨g, o, rfl, hg1, hcs⟩ := HV.out (by omega)
              obtain ⟨c1, c2, c3, c4⟩ := atX hcs hkl
              replace c1 := Bc HB.out hg1 c1
              replace c2 := Bc HB.out hg1 c2
              replace c3 := Bc HB.out hg1 c3
              replace c4 := Bc HB.out hg1 c4
              have hx := hd_at (k : Int) (by omega) (by omega)
              have HPS := Lib.hid (fun (x : Bx4) => HA.out.put2 (S' := P3 l gl f (i + 1)) ((k : Int), 1) x l[k]! hP.out)
              have HP1 := Lib.hid (HA.out.put (S' := P3 l gl f (i + 1)) ((k : Int), 1) l[k]! hP.out)
              have hbk : boxB l[k]! = true := RI.out _ hkl
              generalize l[k]! = x at *
              obtain ⟨x1, x2, x3, x4⟩ := x
              dsimp only at c1 c2 c3 c4
              clear hP hcs
              have hgr := cell_lt c1
              have hb2 : RowKit.Below wr.heap.size wr (wr.alloc (.cells #[.int .i64 k, .int .i64 1] 28)) := Ba (Below.refl _ wr) _
              have OZ : OO (And2 (SwB pa A) (SwB pb B)) (fun b => b = wr.heap.size) W.heap.size (wr.alloc (.cells #[.int .i64 k, .int .i64 1] 28)).drew :=
                HO.out.turn (fr_and (fr_sw pa A) (fr_sw pb B)) (Tch.of (Bd hb2)) (fun b e => ⟨by have := HB.out.size; subst e; omega, by show b < (wr.alloc (.cells #[.int .i64 k, .int .i64 1] 28)).heap.size; simp; omega⟩)
              have hBd : RowKit.Below W.heap.size W (wr.alloc (.cells #[.int .i64 k, .int .i64 1] 28)).drew := Bt HB.out (Bd hb2)
              have d1 : (wr.alloc (.cells #[.int .i64 k, .int .i64 1] 28)).drew.cell? ⟨wr.heap.size, 0, none⟩ = some (.int .i64 k) := by simp
              have d2 : (wr.alloc (.cells #[.int .i64 k, .int .i64 1] 28)).drew.cell? ⟨wr.heap.size, 1, none⟩ = some (.int .i64 1) := by simp
              have hxs : wr.heap.size < (wr.alloc (.cells #[.int .i64 k, .int .i64 1] 28)).heap.size := by simp
              have e1 := Bc (Bd hb2) hgr c1
              have e2 := Bc (Bd hb2) hgr c2
              have e3 := Bc (Bd hb2) hgr c3
              have e4 := Bc (Bd hb2) hgr c4
              have HOZ := Lib.hid (And.intro OZ hBd)
              clear OZ hBd c1 c2 c3 c4 hb2
              have PB := Lib.hid (fun (w : World) (BB : List Bxd) (hl : BB.length ≤ 200) (hE : w.cell? ⟨2, 0, none⟩ = some (.iface t ue)) => asks_2 (base := W.heap.size) (fr_sw pa A) (asks_putS (ps := pb) (B := BB) (k : Int) 1 x1 x2 x3 x4 hx hbk hl hE hel))
              have hpl := fun (BB : List Bxd) (y : Bx4) => put_len BB ((k : Int), 1) y
              have HPL := Lib.hid hpl
              clear hpl
              by_cases hm : gl.length = 0
              · have HN1 := Lib.hid (HP1.out)
                have HM := Lib.hid hm
                clear hm
                have hd1 : decide ((0 : Int) < (gl.length : Int)) = false := decide_eq_false (by have := HM.out; omega)
                have hd2 : decide (0 < gl.length) = false := decide_eq_false (by have := HM.out; omega)
                have hd3 : decide ((gl.length : Int) > 0) = false := decide_eq_false (by have := HM.out; omega)
                generalize (wr.alloc (.cells #[.int .i64 k, .int .i64 1] 28)) = wa at *
                generalize wr.heap.size = xb at *
                have HSZ : Hid (∀ W3 W4, Tch (OffZ (fun b => b = xb) W.heap.size) W3 W4 → xb < W3.heap.size → g < W3.heap.size → ((W3.cell? ⟨xb, 0, none⟩ = some (.int .i64 k) ∧ W3.cell? ⟨xb, 1, none⟩ = some (.int .i64 1)) ∧ W3.cell? ⟨g, o + k * 4, none⟩ = some (.int .i64 x1) ∧ W3.cell? ⟨g, o + k * 4 + 1, none⟩ = some (.int .i64 x2) ∧ W3.cell? ⟨g, o + k * 4 + 2, none⟩ = some (.int .i64 x3) ∧ W3.cell? ⟨g, o + k * 4 + 3, none⟩ = some (.int .i64 x4)) → ((W4.cell? ⟨xb, 0, none⟩ = some (.int .i64 k) ∧ W4.cell? ⟨xb, 1, none⟩ = some (.int .i64 1)) ∧ W4.cell? ⟨g, o + k * 4, none⟩ = some (.int .i64 x1) ∧ W4.cell? ⟨g, o + k * 4 + 1, none⟩ = some (.int .i64 x2) ∧ W4.cell? ⟨g, o + k * 4 + 2, none⟩ = some (.int .i64 x3) ∧ W4.cell? ⟨g, o + k * 4 + 3, none⟩ = some (.int .i64 x4))) := fun W3 W4 ht hl hl2 hs => by
                  have n1 : ¬ OffZ (fun b => b = xb) W.heap.size xb := fun e => e.2 rfl
                  have n2 : ¬ OffZ (fun b => b = xb) W.heap.size g := fun e => by have := e.1; omega
                  exact ⟨⟨ht.cell hl n1 hs.1.1, ht.cell hl n1 hs.1.2⟩, ht.cell hl2 n2 hs.2.1, ht.cell hl2 n2 hs.2.2.1, ht.cell hl2 n2 hs.2.2.2.1, ht.cell hl2 n2 hs.2.2.2.2⟩
                refine wp_region_held_drew (S := fun W2 => (W2.cell? ⟨xb, 0, none⟩ = some (.int .i64 k) ∧ W2.cell? ⟨xb, 1, none⟩ = some (.int .i64 1)) ∧ W2.cell? ⟨g, o + k * 4, none⟩ = some (.int .i64 x1) ∧ W2.cell? ⟨g, o + k * 4 + 1, none⟩ = some (.int .i64 x2) ∧ W2.cell? ⟨g, o + k * 4 + 2, none⟩ = some (.int .i64 x3) ∧ W2.cell? ⟨g, o + k * 4 + 3, none⟩ = some (.int .i64 x4)) (by kernel_rfl) ⟨⟨d1, d2⟩, e1, e2, e3, e4⟩ (fun hHeld => ?_)
                (refine wpAnyH_take (i := 0) (v := ?_) rfl (by kernel_rfl) (by kernel_rfl) (by kernel_rfl) (fun _ _ _ h => h) (Or.inl ⟨by rfl, ?rt⟩) (by assumption) ?_; case rt => (intro w hSw; (try dsimp only at hSw); go_simp; (try with_reducible rfl))); (try simp only [Act.put, List.getElem_toArray, List.getElem_cons_succ, List.getElem_cons_zero, List.setIfInBounds_toArray, List.set_cons_zero, List.set_cons_succ])
                (refine wpAnyH_take (i := 1) (v := ?_) rfl (by kernel_rfl) (by kernel_rfl) (by kernel_rfl) (fun _ _ _ h => h) (Or.inl ⟨by rfl, ?rt⟩) (by assumption) ?_; case rt => (intro w hSw; (try dsimp only at hSw); go_simp; (try with_reducible rfl))); (try simp only [Act.put, List.getElem_toArray, List.getElem_cons_succ, List.getElem_cons_zero, List.setIfInBounds_toArray, List.set_cons_zero, List.set_cons_succ])
                (refine wpAnyH_take (i := 2) (v := ?_) rfl (by kernel_rfl) (by kernel_rfl) (by kernel_rfl) (fun _ _ _ h => h) (Or.inl ⟨by rfl, ?rt⟩) (by assumption) ?_; case rt => (intro w hSw; (try dsimp only at hSw); go_simp; (try with_reducible rfl))); (try simp only [Act.put, List.getElem_toArray, List.getElem_cons_succ, List.getElem_cons_zero, List.setIfInBounds_toArray, List.set_cons_zero, List.set_cons_succ])
                (try simp only [hd1, hd2, hd3])
                (refine wpAnyH_take (i := 3) (v := ?_) rfl (by kernel_rfl) (by kernel_rfl) (by kernel_rfl) (fun _ _ _ h => h) (Or.inl ⟨by rfl, ?rt⟩) (by assumption) ?_; case rt => (intro w hSw; (try dsimp only at hSw); go_simp; (try with_reducible rfl))); (try simp only [Act.put, List.getElem_toArray, List.getElem_cons_succ, List.getElem_cons_zero, List.setIfInBounds_toArray, List.set_cons_zero, List.set_cons_succ])
                refine wpAnyH_take (i := 4) (v := undef) rfl (by kernel_rfl) (by kernel_rfl) (by kernel_rfl) (fun _ _ _ h => h) (Or.inr ⟨by rfl, rfl⟩) (by assumption) ?_; (try simp only [Act.put, List.getElem_toArray, List.getElem_cons_succ, List.getElem_cons_zero, List.setIfInBounds_toArray, List.set_cons_zero, List.set_cons_succ])
                refine wpAnyH_take (i := 5) (v := undef) rfl (by kernel_rfl) (by kernel_rfl) (by kernel_rfl) (fun _ _ _ h => h) (Or.inr ⟨by rfl, rfl⟩) (by assumption) ?_; (try simp only [Act.put, List.getElem_toArray, List.getElem_cons_succ, List.getElem_cons_zero, List.setIfInBounds_toArray, List.set_cons_zero, List.set_cons_succ])
                refine wpAnyH_take (i := 6) (v := undef) rfl (by kernel_rfl) (by kernel_rfl) (by kernel_rfl) (fun _ _ _ h => h) (Or.inr ⟨by rfl, rfl⟩) (by assumption) ?_; (try simp only [Act.put, List.getElem_toArray, List.getElem_cons_succ, List.getElem_cons_zero, List.setIfInBounds_toArray, List.set_cons_zero, List.set_cons_succ])
                refine wpAnyH_take (i := 7) (v := undef) rfl (by kernel_rfl) (by kernel_rfl) (by kernel_rfl) (fun _ _ _ h => h) (Or.inr ⟨by rfl, rfl⟩) (by assumption) ?_; (try simp only [Act.put, List.getElem_toArray, List.getElem_cons_succ, List.getElem_cons_zero, List.setIfInBounds_toArray, List.set_cons_zero, List.set_cons_succ])
                refine wpAnyH_take (i := 8) (v := undef) rfl (by kernel_rfl) (by kernel_rfl) (by kernel_rfl) (fun _ _ _ h => h) (Or.inr ⟨by rfl, rfl⟩) (by assumption) ?_; (try simp only [Act.put, List.getElem_toArray, List.getElem_cons_succ, List.getElem_cons_zero, List.setIfInBounds_toArray, List.set_cons_zero, List.set_cons_succ])
                refine wpAnyH_take (i := 9) (v := undef) rfl (by kernel_rfl) (by kernel_rfl) (by kernel_rfl) (fun _ _ _ h => h) (Or.inr ⟨by rfl, rfl⟩) (by assumption) ?_; (try simp only [Act.put, List.getElem_toArray, List.getElem_cons_succ, List.getElem_cons_zero, List.setIfInBounds_toArray, List.set_cons_zero, List.set_cons_succ])
                refine wpAnyH_take (i := 10) (v := undef) rfl (by kernel_rfl) (by kernel_rfl) (by kernel_rfl) (fun _ _ _ h => h) (Or.inr ⟨by rfl, rfl⟩) (by assumption) ?_; (try simp only [Act.put, List.getElem_toArray, List.getElem_cons_succ, List.getElem_cons_zero, List.setIfInBounds_toArray, List.set_cons_zero, List.set_cons_succ])
                refine wpAnyH_take (i := 11) (v := undef) rfl (by kernel_rfl) (by kernel_rfl) (by kernel_rfl) (fun _ _ _ h => h) (Or.inr ⟨by rfl, rfl⟩) (by assumption) ?_; (try simp only [Act.put, List.getElem_toArray, List.getElem_cons_succ, List.getElem_cons_zero, List.setIfInBounds_toArray, List.set_cons_zero, List.set_cons_succ])
                refine wpAnyH_take (i := 12) (v := undef) rfl (by kernel_rfl) (by kernel_rfl) (by kernel_rfl) (fun _ _ _ h => h) (Or.inr ⟨by rfl, rfl⟩) (by assumption) ?_; (try simp only [Act.put, List.getElem_toArray, List.getElem_cons_succ, List.getElem_cons_zero, List.setIfInBounds_toArray, List.set_cons_zero, List.set_cons_succ])
                refine wpAnyH_take (i := 13) (v := undef) rfl (by kernel_rfl) (by kernel_rfl) (by kernel_rfl) (fun _ _ _ h => h) (Or.inr ⟨by rfl, rfl⟩) (by assumption) ?_; (try simp only [Act.put, List.getElem_toArray, List.getElem_cons_succ, List.getElem_cons_zero, List.setIfInBounds_toArray, List.set_cons_zero, List.set_cons_succ])
                refine wpAnyH_take (i := 14) (v := undef) rfl (by kernel_rfl) (by kernel_rfl) (by kernel_rfl) (fun _ _ _ h => h) (Or.inr ⟨by rfl, rfl⟩) (by assumption) ?_; (try simp only [Act.put, List.getElem_toArray, List.getElem_cons_succ, List.getElem_cons_zero, List.setIfInBounds_toArray, List.set_cons_zero, List.set_cons_succ])
                (refine wpAnyH_take (i := 15) (v := ?_) rfl (by kernel_rfl) (by kernel_rfl) (by kernel_rfl) (fun _ _ _ h => h) (Or.inl ⟨by rfl, ?rt⟩) (by assumption) ?_; case rt => (intro w hSw; (try dsimp only at hSw); go_simp; (try with_reducible rfl))); (try simp only [Act.put, List.getElem_toArray, List.getElem_cons_succ, List.getElem_cons_zero, List.setIfInBounds_toArray, List.set_cons_zero, List.set_cons_succ])
                (refine wpAnyH_take (i := 16) (v := ?_) rfl (by kernel_rfl) (by kernel_rfl) (by kernel_rfl) (fun _ _ _ h => h) (Or.inl ⟨by rfl, ?rt⟩) (by assumption) ?_; case rt => (intro w hSw; (try dsimp only at hSw); go_simp; (try with_reducible rfl))); (try simp only [Act.put, List.getElem_toArray, List.getElem_cons_succ, List.getElem_cons_zero, List.setIfInBounds_toArray, List.set_cons_zero, List.set_cons_succ])
                (refine wpAnyH_take (i := 17) (v := ?_) rfl (by kernel_rfl) (by kernel_rfl) (by kernel_rfl) (fun _ _ _ h => h) (Or.inl ⟨by rfl, ?rt⟩) (by assumption) ?_; case rt => (intro w hSw; (try dsimp only at hSw); go_simp; (try with_reducible rfl))); (try simp only [Act.put, List.getElem_toArray, List.getElem_cons_succ, List.getElem_cons_zero, List.setIfInBounds_toArray, List.set_cons_zero, List.set_cons_succ])
                (refine wpAnyH_take (i := 18) (v := ?_) rfl (by kernel_rfl) (by kernel_rfl) (by kernel_rfl) (fun _ _ _ h => h) (Or.inl ⟨by rfl, ?rt⟩) (by assumption) ?_; case rt => (intro w hSw; (try dsimp only at hSw); go_simp; (try with_reducible rfl))); (try simp only [Act.put, List.getElem_toArray, List.getElem_cons_succ, List.getElem_cons_zero, List.setIfInBounds_toArray, List.set_cons_zero, List.set_cons_succ])
                (refine wpAnyH_take (i := 19) (v := ?_) rfl (by kernel_rfl) (by kernel_rfl) (by kernel_rfl) (fun _ _ _ h => h) (Or.inl ⟨by rfl, ?rt⟩) (by assumption) ?_; case rt => (intro w hSw; (try dsimp only at hSw); go_simp; (try with_reducible rfl))); (try simp only [Act.put, List.getElem_toArray, List.getElem_cons_succ, List.getElem_cons_zero, List.setIfInBounds_toArray, List.set_cons_zero, List.set_cons_succ])
                (refine wpAnyH_take (i := 20) (v := ?_) rfl (by kernel_rfl) (by kernel_rfl) (by kernel_rfl) (fun _ _ _ h => h) (Or.inl ⟨by rfl, ?rt⟩) (by assumption) ?_; case rt => (intro w hSw; (try dsimp only at hSw); go_simp; (try with_reducible rfl))); (try simp only [Act.put, List.getElem_toArray, List.getElem_cons_succ, List.getElem_cons_zero, List.setIfInBounds_toArray, List.set_cons_zero, List.set_cons_succ])
                (refine wpAnyH_take (i := 21) (v := ?_) rfl (by kernel_rfl) (by kernel_rfl) (by kernel_rfl) (fun _ _ _ h => h) (Or.inl ⟨by rfl, ?rt⟩) (by assumption) ?_; case rt => (intro w hSw; (try dsimp only at hSw); go_simp; (try with_reducible rfl))); (try simp only [Act.put, List.getElem_toArray, List.getElem_cons_succ, List.getElem_cons_zero, List.setIfInBounds_toArray, List.set_cons_zero, List.set_cons_succ])
                (refine wpAnyH_take (i := 22) (v := ?_) rfl (by kernel_rfl) (by kernel_rfl) (by kernel_rfl) (fun _ _ _ h => h) (Or.inl ⟨by rfl, ?rt⟩) (by assumption) ?_; case rt => (intro w hSw; (try dsimp only at hSw); go_simp; (try with_reducible rfl))); (try simp only [Act.put, List.getElem_toArray, List.getElem_cons_succ, List.getElem_cons_zero, List.setIfInBounds_toArray, List.set_cons_zero, List.set_cons_succ])
                refine wpAnyH_ready (rs := [23]) (by kernel_rfl) (by simp) ?_
                refine AllReadyH.cons rfl (fun K hK => ?_) AllReadyH.nil
                go_simp
                obtain ⟨o1, o2⟩ := HOZ.out
                refine (o1.ask (PB.out _ B (by omega) (Bc o2 hel HE.out.1))).mono ?_
                rintro e w6 ⟨rfl, hO6, hT6⟩
                have HB6 := Lib.hid (o2.trans (OO.tch hT6 o2.size))
                have HO6 := Lib.hid (hO6.turn (fr_and (fr_sw pa A) (fr_sw pb _)) (Tch.refl _ w6) (Z' := NoZ) (fun b e => e.elim))
                refine hK.out _ _ (HSZ.out _ _ hT6 hxs (cell_lt e1) ⟨⟨d1, d2⟩, e1, e2, e3, e4⟩) (fun hHeld => ?_); clear hK K; (try simp only [Act.put, List.getElem_toArray, List.getElem_cons_succ, List.getElem_cons_zero, List.setIfInBounds_toArray, List.set_cons_zero, List.set_cons_succ])
                (refine wpAnyH_take (i := 24) (v := ?_) rfl (by kernel_rfl) (by kernel_rfl) (by kernel_rfl) (fun _ _ _ h => h) (Or.inl ⟨by rfl, ?rt⟩) (by assumption) ?_; case rt => (intro w hSw; (try dsimp only at hSw); go_simp; (try with_reducible rfl))); (try simp only [Act.put, List.getElem_toArray, List.getElem_cons_succ, List.getElem_cons_zero, List.setIfInBounds_toArray, List.set_cons_zero, List.set_cons_succ])
                (refine wpAnyH_take (i := 25) (v := ?_) rfl (by kernel_rfl) (by kernel_rfl) (by kernel_rfl) (fun _ _ _ h => h) (Or.inl ⟨by rfl, ?rt⟩) (by assumption) ?_; case rt => (intro w hSw; (try dsimp only at hSw); go_simp; (try with_reducible rfl))); (try simp only [Act.put, List.getElem_toArray, List.getElem_cons_succ, List.getElem_cons_zero, List.setIfInBounds_toArray, List.set_cons_zero, List.set_cons_succ])
                clear hO6 hT6 o1 o2 d1 d2 e1 e2 e3 e4
                have hl6 := HPL.out B (x1, x2, x3, x4)
                clear hd1 hd2 hd3
                refine wpAnyH_done (by kernel_rfl) ?_ _
                go_wp2
                go_roundw
                case measure => simp only [intOf]; omega
                case rel => exact ⟨i + 1, _, by go_num, by omega, HN1.out, by omega, HO6.out, HB6.out⟩
              · have hq : i % gl.length < gl.length := Nat.mod_lt _ (by omega)
                have hr1 : ((i : Int)).tmod (gl.length : Int) = ((i % gl.length : Nat) : Int) := by rw [← Int.ofNat_tmod]
                generalize i % gl.length = q at *
                obtain ⟨g', o', rfl, hg3, hcs⟩ := HG.out (by omega)
                obtain ⟨f1, f2, f3, f4⟩ := atX hcs hq
                have hbd := HOZ.out.2
                replace f1 := Bc hbd hg3 f1
                replace f2 := Bc hbd hg3 f2
                replace f3 := Bc hbd hg3 f3
                replace f4 := Bc hbd hg3 f4
                have hby := RJ.out _ hq
                generalize gl[q]! = y at *
                obtain ⟨y1, y2, y3, y4⟩ := y
                dsimp only at f1 f2 f3 f4
                have HN1 := Lib.hid (HPS.out (y1, y2, y3, y4))
                have PC := Lib.hid (fun (w : World) (hE : w.cell? ⟨2, 0, none⟩ = some (.iface t ue)) => asks_2 (base := W.heap.size) (fr_sw pa A) (asks_putS (ps := pb) (B := B) (k : Int) 1 y1 y2 y3 y4 hx hby (by omega) hE hel))
                clear hcs hbd
                have hd1 : decide ((0 : Int) < (gl.length : Int)) = true := decide_eq_true (by omega)
                have hd2 : decide (0 < gl.length) = true := decide_eq_true (by omega)
                have hd3 : decide ((gl.length : Int) > 0) = true := decide_eq_true (by omega)
                generalize (wr.alloc (.cells #[.int .i64 k, .int .i64 1] 28)) = wa at *
                generalize wr.heap.size = xb at *
                have HSZ : Hid (∀ W3 W4, Tch (OffZ (fun b => b = xb) W.heap.size) W3 W4 → xb < W3.heap.size → g < W3.heap.size → g' < W3.heap.size → ((W3.cell? ⟨xb, 0, none⟩ = some (.int .i64 k) ∧ W3.cell? ⟨xb, 1, none⟩ = some (.int .i64 1)) ∧ W3.cell? ⟨g, o + k * 4, none⟩ = some (.int .i64 x1) ∧ W3.cell? ⟨g, o + k * 4 + 1, none⟩ = some (.int .i64 x2) ∧ W3.cell? ⟨g, o + k * 4 + 2, none⟩ = some (.int .i64 x3) ∧ W3.cell? ⟨g, o + k * 4 + 3, none⟩ = some (.int .i64 x4) ∧ W3.cell? ⟨g', o' + q * 4, none⟩ = some (.int .i64 y1) ∧ W3.cell? ⟨g', o' + q * 4 + 1, none⟩ = some (.int .i64 y2) ∧ W3.cell? ⟨g', o' + q * 4 + 2, none⟩ = some (.int .i64 y3) ∧ W3.cell? ⟨g', o' + q * 4 + 3, none⟩ = some (.int .i64 y4)) → ((W4.cell? ⟨xb, 0, none⟩ = some (.int .i64 k) ∧ W4.cell? ⟨xb, 1, none⟩ = some (.int .i64 1)) ∧ W4.cell? ⟨g, o + k * 4, none⟩ = some (.int .i64 x1) ∧ W4.cell? ⟨g, o + k * 4 + 1, none⟩ = some (.int .i64 x2) ∧ W4.cell? ⟨g, o + k * 4 + 2, none⟩ = some (.int .i64 x3) ∧ W4.cell? ⟨g, o + k * 4 + 3, none⟩ = some (.int .i64 x4) ∧ W4.cell? ⟨g', o' + q * 4, none⟩ = some (.int .i64 y1) ∧ W4.cell? ⟨g', o' + q * 4 + 1, none⟩ = some (.int .i64 y2) ∧ W4.cell? ⟨g', o' + q * 4 + 2, none⟩ = some (.int .i64 y3) ∧ W4.cell? ⟨g', o' + q * 4 + 3, none⟩ = some (.int .i64 y4))) := fun W3 W4 ht hl hl2 hl3 hs => by
                  have n1 : ¬ OffZ (fun b => b = xb) W.heap.size xb := fun e => e.2 rfl
                  have n2 : ¬ OffZ (fun b => b = xb) W.heap.size g := fun e => by have := e.1; omega
                  have n3 : ¬ OffZ (fun b => b = xb) W.heap.size g' := fun e => by have := e.1; omega
                  exact ⟨⟨ht.cell hl n1 hs.1.1, ht.cell hl n1 hs.1.2⟩, ht.cell hl2 n2 hs.2.1, ht.cell hl2 n2 hs.2.2.1, ht.cell hl2 n2 hs.2.2.2.1, ht.cell hl2 n2 hs.2.2.2.2.1, ht.cell hl3 n3 hs.2.2.2.2.2.1, ht.cell hl3 n3 hs.2.2.2.2.2.2.1, ht.cell hl3 n3 hs.2.2.2.2.2.2.2.1, ht.cell hl3 n3 hs.2.2.2.2.2.2.2.2⟩
                refine wp_region_held_drew (S := fun W2 => (W2.cell? ⟨xb, 0, none⟩ = some (.int .i64 k) ∧ W2.cell? ⟨xb, 1, none⟩ = some (.int .i64 1)) ∧ W2.cell? ⟨g, o + k * 4, none⟩ = some (.int .i64 x1) ∧ W2.cell? ⟨g, o + k * 4 + 1, none⟩ = some (.int .i64 x2) ∧ W2.cell? ⟨g, o + k * 4 + 2, none⟩ = some (.int .i64 x3) ∧ W2.cell? ⟨g, o + k * 4 + 3, none⟩ = some (.int .i64 x4) ∧ W2.cell? ⟨g', o' + q * 4, none⟩ = some (.int .i64 y1) ∧ W2.cell? ⟨g', o' + q * 4 + 1, none⟩ = some (.int .i64 y2) ∧ W2.cell? ⟨g', o' + q * 4 + 2, none⟩ = some (.int .i64 y3) ∧ W2.cell? ⟨g', o' + q * 4 + 3, none⟩ = some (.int .i64 y4)) (by kernel_rfl) ⟨⟨d1, d2⟩, e1, e2, e3, e4, f1, f2, f3, f4⟩ (fun hHeld => ?_)
                (refine wpAnyH_take (i := 0) (v := ?_) rfl (by kernel_rfl) (by kernel_rfl) (by kernel_rfl) (fun _ _ _ h => h) (Or.inl ⟨by rfl, ?rt⟩) (by assumption) ?_; case rt => (intro w hSw; (try dsimp only at hSw); go_simp; (try with_reducible rfl))); (try simp only [Act.put, List.getElem_toArray, List.getElem_cons_succ, List.getElem_cons_zero, List.setIfInBounds_toArray, List.set_cons_zero, List.set_cons_succ])
                (refine wpAnyH_take (i := 1) (v := ?_) rfl (by kernel_rfl) (by kernel_rfl) (by kernel_rfl) (fun _ _ _ h => h) (Or.inl ⟨by rfl, ?rt⟩) (by assumption) ?_; case rt => (intro w hSw; (try dsimp only at hSw); go_simp; (try with_reducible rfl))); (try simp only [Act.put, List.getElem_toArray, List.getElem_cons_succ, List.getElem_cons_zero, List.setIfInBounds_toArray, List.set_cons_zero, List.set_cons_succ])
                (refine wpAnyH_take (i := 2) (v := ?_) rfl (by kernel_rfl) (by kernel_rfl) (by kernel_rfl) (fun _ _ _ h => h) (Or.inl ⟨by rfl, ?rt⟩) (by assumption) ?_; case rt => (intro w hSw; (try dsimp only at hSw); go_simp; (try with_reducible rfl))); (try simp only [Act.put, List.getElem_toArray, List.getElem_cons_succ, List.getElem_cons_zero, List.setIfInBounds_toArray, List.set_cons_zero, List.set_cons_succ])
                (try simp only [hd1, hd2, hd3])
                (refine wpAnyH_take (i := 3) (v := ?_) rfl (by kernel_rfl) (by kernel_rfl) (by kernel_rfl) (fun _ _ _ h => h) (Or.inl ⟨by rfl, ?rt⟩) (by assumption) ?_; case rt => (intro w hSw; (try dsimp only at hSw); go_simp; (try with_reducible rfl))); (try simp only [Act.put, List.getElem_toArray, List.getElem_cons_succ, List.getElem_cons_zero, List.setIfInBounds_toArray, List.set_cons_zero, List.set_cons_succ])
                (refine wpAnyH_take (i := 4) (v := ?_) rfl (by kernel_rfl) (by kernel_rfl) (by kernel_rfl) (fun _ _ _ h => h) (Or.inl ⟨by rfl, ?rt⟩) (by assumption) ?_; case rt => (intro w hSw; (try dsimp only at hSw); go_simp; (try with_reducible rfl))); (try simp only [Act.put, List.getElem_toArray, List.getElem_cons_succ, List.getElem_cons_zero, List.setIfInBounds_toArray, List.set_cons_zero, List.set_cons_succ])
                (refine wpAnyH_take (i := 5) (v := ?_) rfl (by kernel_rfl) (by kernel_rfl) (by kernel_rfl) (fun _ _ _ h => h) (Or.inl ⟨by rfl, ?rt⟩) (by assumption) ?_; case rt => (intro w hSw; (try dsimp only at hSw); go_simp; (try with_reducible rfl))); (try simp only [Act.put, List.getElem_toArray, List.getElem_cons_succ, List.getElem_cons_zero, List.setIfInBounds_toArray, List.set_cons_zero, List.set_cons_succ])
                (refine wpAnyH_take (i := 6) (v := ?_) rfl (by kernel_rfl) (by kernel_rfl) (by kernel_rfl) (fun _ _ _ h => h) (Or.inl ⟨by rfl, ?rt⟩) (by assumption) ?_; case rt => (intro w hSw; (try dsimp only at hSw); go_simp; (try with_reducible rfl))); (try simp only [Act.put, List.getElem_toArray, List.getElem_cons_succ, List.getElem_cons_zero, List.setIfInBounds_toArray, List.set_cons_zero, List.set_cons_succ])
                (refine wpAnyH_take (i := 7) (v := ?_) rfl (by kernel_rfl) (by kernel_rfl) (by kernel_rfl) (fun _ _ _ h => h) (Or.inl ⟨by rfl, ?rt⟩) (by assumption) ?_; case rt => (intro w hSw; (try dsimp only at hSw); go_simp; (try with_reducible rfl))); (try simp only [Act.put, List.getElem_toArray, List.getElem_cons_succ, List.getElem_cons_zero, List.setIfInBounds_toArray, List.set_cons_zero, List.set_cons_succ])
                (refine wpAnyH_take (i := 8) (v := ?_) rfl (by kernel_rfl) (by kernel_rfl) (by kernel_rfl) (fun _ _ _ h => h) (Or.inl ⟨by rfl, ?rt⟩) (by assumption) ?_; case rt => (intro w hSw; (try dsimp only at hSw); go_simp; (try with_reducible rfl))); (try simp only [Act.put, List.getElem_toArray, List.getElem_cons_succ, List.getElem_cons_zero, List.setIfInBounds_toArray, List.set_cons_zero, List.set_cons_succ])
                (refine wpAnyH_take (i := 9) (v := ?_) rfl (by kernel_rfl) (by kernel_rfl) (by kernel_rfl) (fun _ _ _ h => h) (Or.inl ⟨by rfl, ?rt⟩) (by assumption) ?_; case rt => (intro w hSw; (try dsimp only at hSw); go_simp; (try with_reducible rfl))); (try simp only [Act.put, List.getElem_toArray, List.getElem_cons_succ, List.getElem_cons_zero, List.setIfInBounds_toArray, List.set_cons_zero, List.set_cons_succ])
                (refine wpAnyH_take (i := 10) (v := ?_) rfl (by kernel_rfl) (by kernel_rfl) (by kernel_rfl) (fun _ _ _ h => h) (Or.inl ⟨by rfl, ?rt⟩) (by assumption) ?_; case rt => (intro w hSw; (try dsimp only at hSw); go_simp; (try with_reducible rfl))); (try simp only [Act.put, List.getElem_toArray, List.getElem_cons_succ, List.getElem_cons_zero, List.setIfInBounds_toArray, List.set_cons_zero, List.set_cons_succ])
                (try simp only [hr1])
                (refine wpAnyH_take (i := 11) (v := ?_) rfl (by kernel_rfl) (by kernel_rfl) (by kernel_rfl) (fun _ _ _ h => h) (Or.inl ⟨by rfl, ?rt⟩) (by assumption) ?_; case rt => (intro w hSw; (try dsimp only at hSw); go_simp; (try with_reducible rfl))); (try simp only [Act.put, List.getElem_toArray, List.getElem_cons_succ, List.getElem_cons_zero, List.setIfInBounds_toArray, List.set_cons_zero, List.set_cons_succ])
                (refine wpAnyH_take (i := 12) (v := ?_) rfl (by kernel_rfl) (by kernel_rfl) (by kernel_rfl) (fun _ _ _ h => h) (Or.inl ⟨by rfl, ?rt⟩) (by assumption) ?_; case rt => (intro w hSw; (try dsimp only at hSw); go_simp; (try with_reducible rfl))); (try simp only [Act.put, List.getElem_toArray, List.getElem_cons_succ, List.getElem_cons_zero, List.setIfInBounds_toArray, List.set_cons_zero, List.set_cons_succ])
                refine wpAnyH_ready (rs := [13]) (by kernel_rfl) (by simp) ?_
                refine AllReadyH.cons rfl (fun K hK => ?_) AllReadyH.nil
                go_simp
                obtain ⟨o1, o2⟩ := HOZ.out
                refine (o1.ask (PC.out _ (Bc o2 hel HE.out.1))).mono ?_
                rintro e w5 ⟨rfl, hO5, hT5⟩
                have hb5 := o2.trans (OO.tch hT5 o2.size)
                have hl5 := hT5.size
                have hS5 := HSZ.out _ _ hT5 hxs (cell_lt e1) (cell_lt f1) ⟨⟨d1, d2⟩, e1, e2, e3, e4, f1, f2, f3, f4⟩
                have H5 := Lib.hid (And.intro hO5 (And.intro hb5 hS5))
                have hxs5 : xb < w5.heap.size := Nat.lt_of_lt_of_le hxs hl5
                have hl4 := HPL.out B (y1, y2, y3, y4)
                clear hO5 hb5 o1 o2 hl5 hT5
                refine hK.out _ _ hS5 (fun hHeld => ?_); clear hK K hS5; (try simp only [Act.put, List.getElem_toArray, List.getElem_cons_succ, List.getElem_cons_zero, List.setIfInBounds_toArray, List.set_cons_zero, List.set_cons_succ])
                (refine wpAnyH_take (i := 14) (v := ?_) rfl (by kernel_rfl) (by kernel_rfl) (by kernel_rfl) (fun _ _ _ h => h) (Or.inl ⟨by rfl, ?rt⟩) (by assumption) ?_; case rt => (intro w hSw; (try dsimp only at hSw); go_simp; (try with_reducible rfl))); (try simp only [Act.put, List.getElem_toArray, List.getElem_cons_succ, List.getElem_cons_zero, List.setIfInBounds_toArray, List.set_cons_zero, List.set_cons_succ])
                (refine wpAnyH_take (i := 15) (v := ?_) rfl (by kernel_rfl) (by kernel_rfl) (by kernel_rfl) (fun _ _ _ h => h) (Or.inl ⟨by rfl, ?rt⟩) (by assumption) ?_; case rt => (intro w hSw; (try dsimp only at hSw); go_simp; (try with_reducible rfl))); (try simp only [Act.put, List.getElem_toArray, List.getElem_cons_succ, List.getElem_cons_zero, List.setIfInBounds_toArray, List.set_cons_zero, List.set_cons_succ])
                (refine wpAnyH_take (i := 16) (v := ?_) rfl (by kernel_rfl) (by kernel_rfl) (by kernel_rfl) (fun _ _ _ h => h) (Or.inl ⟨by rfl, ?rt⟩) (by assumption) ?_; case rt => (intro w hSw; (try dsimp only at hSw); go_simp; (try with_reducible rfl))); (try simp only [Act.put, List.getElem_toArray, List.getElem_cons_succ, List.getElem_cons_zero, List.setIfInBounds_toArray, List.set_cons_zero, List.set_cons_succ])
                (refine wpAnyH_take (i := 17) (v := ?_) rfl (by kernel_rfl) (by kernel_rfl) (by kernel_rfl) (fun _ _ _ h => h) (Or.inl ⟨by rfl, ?rt⟩) (by assumption) ?_; case rt => (intro w hSw; (try dsimp only at hSw); go_simp; (try with_reducible rfl))); (try simp only [Act.put, List.getElem_toArray, List.getElem_cons_succ, List.getElem_cons_zero, List.setIfInBounds_toArray, List.set_cons_zero, List.set_cons_succ])
                (refine wpAnyH_take (i := 18) (v := ?_) rfl (by kernel_rfl) (by kernel_rfl) (by kernel_rfl) (fun _ _ _ h => h) (Or.inl ⟨by rfl, ?rt⟩) (by assumption) ?_; case rt => (intro w hSw; (try dsimp only at hSw); go_simp; (try with_reducible rfl))); (try simp only [Act.put, List.getElem_toArray, List.getElem_cons_succ, List.getElem_cons_zero, List.setIfInBounds_toArray, List.set_cons_zero, List.set_cons_succ])
                (refine wpAnyH_take (i := 19) (v := ?_) rfl (by kernel_rfl) (by kernel_rfl) (by kernel_rfl) (fun _ _ _ h => h) (Or.inl ⟨by rfl, ?rt⟩) (by assumption) ?_; case rt => (intro w hSw; (try dsimp only at hSw); go_simp; (try with_reducible rfl))); (try simp only [Act.put, List.getElem_toArray, List.getElem_cons_succ, List.getElem_cons_zero, List.setIfInBounds_toArray, List.set_cons_zero, List.set_cons_succ])
                (refine wpAnyH_take (i := 20) (v := ?_) rfl (by kernel_rfl) (by kernel_rfl) (by kernel_rfl) (fun _ _ _ h => h) (Or.inl ⟨by rfl, ?rt⟩) (by assumption) ?_; case rt => (intro w hSw; (try dsimp only at hSw); go_simp; (try with_reducible rfl))); (try simp only [Act.put, List.getElem_toArray, List.getElem_cons_succ, List.getElem_cons_zero, List.setIfInBounds_toArray, List.set_cons_zero, List.set_cons_succ])
                (refine wpAnyH_take (i := 21) (v := ?_) rfl (by kernel_rfl) (by kernel_rfl) (by kernel_rfl) (fun _ _ _ h => h) (Or.inl ⟨by rfl, ?rt⟩) (by assumption) ?_; case rt => (intro w hSw; (try dsimp only at hSw); go_simp; (try with_reducible rfl))); (try simp only [Act.put, List.getElem_toArray, List.getElem_cons_succ, List.getElem_cons_zero, List.setIfInBounds_toArray, List.set_cons_zero, List.set_cons_succ])
                (refine wpAnyH_take (i := 22) (v := ?_) rfl (by kernel_rfl) (by kernel_rfl) (by kernel_rfl) (fun _ _ _ h => h) (Or.inl ⟨by rfl, ?rt⟩) (by assumption) ?_; case rt => (intro w hSw; (try dsimp only at hSw); go_simp; (try with_reducible rfl))); (try simp only [Act.put, List.getElem_toArray, List.getElem_cons_succ, List.getElem_cons_zero, List.setIfInBounds_toArray, List.set_cons_zero, List.set_cons_succ])
                refine wpAnyH_ready (rs := [23]) (by kernel_rfl) (by simp) ?_
                refine AllReadyH.cons rfl (fun K hK => ?_) AllReadyH.nil
                go_simp
                obtain ⟨o1, o2, o3⟩ := H5.out
                refine (o1.ask (PB.out _ (woB B ((k : Int), 1) ++ [(((k : Int), 1), (y1, y2, y3, y4))]) (by omega) (Bc o2 hel HE.out.1))).mono ?_
                rintro e w6 ⟨rfl, hO6, hT6⟩
                have HB6 := Lib.hid (o2.trans (OO.tch hT6 o2.size))
                have HO6 := Lib.hid (hO6.turn (fr_and (fr_sw pa A) (fr_sw pb _)) (Tch.refl _ w6) (Z' := NoZ) (fun b e => e.elim))
                refine hK.out _ _ (HSZ.out _ _ hT6 hxs5 (cell_lt o3.2.1) (cell_lt o3.2.2.2.2.2.1) o3) (fun hHeld => ?_); clear hK K; (try simp only [Act.put, List.getElem_toArray, List.getElem_cons_succ, List.getElem_cons_zero, List.setIfInBounds_toArray, List.set_cons_zero, List.set_cons_succ])
                (refine wpAnyH_take (i := 24) (v := ?_) rfl (by kernel_rfl) (by kernel_rfl) (by kernel_rfl) (fun _ _ _ h => h) (Or.inl ⟨by rfl, ?rt⟩) (by assumption) ?_; case rt => (intro w hSw; (try dsimp only at hSw); go_simp; (try with_reducible rfl))); (try simp only [Act.put, List.getElem_toArray, List.getElem_cons_succ, List.getElem_cons_zero, List.setIfInBounds_toArray, List.set_cons_zero, List.set_cons_succ])
                (refine wpAnyH_take (i := 25) (v := ?_) rfl (by kernel_rfl) (by kernel_rfl) (by kernel_rfl) (fun _ _ _ h => h) (Or.inl ⟨by rfl, ?rt⟩) (by assumption) ?_; case rt => (intro w hSw; (try dsimp only at hSw); go_simp; (try with_reducible rfl))); (try simp only [Act.put, List.getElem_toArray, List.getElem_cons_succ, List.getElem_cons_zero, List.setIfInBounds_toArray, List.set_cons_zero, List.set_cons_succ])
                clear hO6 hT6 o1 o2 o3 d1 d2 e1 e2 e3 e4 f1 f2 f3 f4 hd1 hd2 hd3 hr1
                have hl6 := HPL.out (woB B ((k : Int), 1) ++ [(((k : Int), 1), (y1, y2, y3, y4))]) (x1, x2, x3, x4)
                refine wpAnyH_done (by kernel_rfl) ?_ _
                go_wp2
                go_roundw
                case measure => simp only [intOf]; omega
                case rel => exact ⟨i + 1, _, by go_num, by omega, HN1.out, by omega, HO6.out, HB6.out⟩
            · have hin : i = l.length := by omega
              subst hin
              have HJ3 := Lib.hid (And.intro (HA.out.congr (P4_of l gl f hf)) (And.intro HO.out HB.out))
              have hB3 : B.length ≤ 120 := by omega
              clear hlt HA HO HB
              go_wp2
              go_loopw [106] (fun u wr => ∃ (i : Nat) (B : List Bxd), u = .int .i64 i ∧ i ≤ gl.length ∧ Hv (P4 l gl i) B ∧ B.length ≤ 120 ∧ OO (And2 (SwB pa A) (SwB pb B)) NoZ W.heap.size wr ∧ RowKit.Below W.heap.size W wr) (fun u _ => gl.length - (intOf u).toNat)
              case atStart => exact ⟨0, B, rfl, Nat.zero_le _, HJ3.out.1, hB3, HJ3.out.2.1, HJ3.out.2.2⟩
              case round =>
                clear hB3 HJ3
                obtain ⟨i, B, rfl, hi, hB, hBl, hO, hb⟩ := hrel
                have HO := Lib.hid hO
                have HB := Lib.hid hb
                have HA := Lib.hid hB
                clear hO hb hB
                by_cases hlt : i < gl.length
                · have hx := hd_at ((i : Int) + 50) (by omega) (by omega)
                  have hmem : (((i : Int) + 50, 1), gl[i]!) ∈ B := (HA.out.2 _).2 (.inl ⟨i, Nat.le_refl _, hlt, rfl⟩)
                  have HA2 := Lib.hid (HA.out.drop (S' := P4 l gl (i + 1)) ((i : Int) + 50, 1) (fun y => P4_step l gl i h1 y))
                  have hl2 := woB_len B ((i : Int) + 50, 1)
                  generalize gl[i]! = x at *
                  obtain ⟨x1, x2, x3, x4⟩ := x
                  have PY := Lib.hid (fun w' (hb : RowKit.Below wr.heap.size wr w') => OO.go (fr_and (fr_sw pa A) (fr_sw pb B)) HO.out HB.out hb (fun hB => asks_2 (fr_sw pa A) (asks_dropS (ps := pb) ((i : Int) + 50) 1 hx hmem (by omega))))
                  clear hx hmem
                  go_wp2_with fail
                  refine (PY.out _ (by repeat (first | with_reducible exact Below.refl _ _ | with_reducible assumption | with_reducible apply Ba | with_reducible apply Bd | with_reducible apply Bn | with_reducible apply Bg | (with_reducible refine Bs ?_ (by first | (simp; done) | (simp; omega)) _) | (with_reducible refine Bt ?_ (by assumption)) | (with_reducible refine Bt ?_ (Gr.below (by assumption)))))).mono ?_
                  rintro e w5 ⟨rfl, hO5, hb5⟩
                  have HO5 := Lib.hid hO5
                  have HB5 := Lib.hid hb5
                  clear hO5 hb5 PY
                  go_wp2
                  go_roundw
                  case measure => simp only [intOf]; omega
                  case rel => exact ⟨i + 1, _, by go_num, by omega, HA2.out, by omega, HO5.out, HB5.out⟩
                · have hin : i = gl.length := by omega
                  subst hin
                  have hsm := HI.out.1.same (HA.out.congr (fun y => (P4_end l gl y).symm))
                  have hAl := HI.out.2.2.2
                  clear hlt HA
                  have PA := Lib.hid (fun w' (hb : RowKit.Below wr.heap.size wr w') => (HO.out.below (fr_and (fr_sw pa A) (fr_sw pb B)) hb).read (fun M h => pairsS_call (SwAt.of1 h) (by omega)))
                  have PB := Lib.hid (fun w' (hb : RowKit.Below wr.heap.size wr w') => (HO.out.below (fr_and (fr_sw pa A) (fr_sw pb B)) hb).read (fun M h => pairsS_call (SwAt.of2 h) (by omega)))
                  have LA := Lib.hid (fun w' (hb : RowKit.Below wr.heap.size wr w') => (HO.out.below (fr_and (fr_sw pa A) (fr_sw pb B)) hb).read (fun M h => lenS_call (SwAt.of1 h)))
                  have LB := Lib.hid (fun w' (hb : RowKit.Below wr.heap.size wr w') => (HO.out.below (fr_and (fr_sw pa A) (fr_sw pb B)) hb).read (fun M h => lenS_call (SwAt.of2 h)))
                  go_wp2_with fail
                  refine (PA.out _ (Below.refl _ _)).mono ?_
                  rintro e w4 ⟨v4, rfl, hw4, hb4⟩
                  have H4 := Lib.hid hw4
                  have B4 := Lib.hid hb4
                  clear hw4 hb4 PA
                  go_wp2_with fail
                  refine (PB.out _ B4.out).mono ?_
                  rintro e w5 ⟨v5, rfl, hw5, hb5⟩
                  have SP := Lib.hid (samePairs_call _ _ _ _ _ ((H4.out.sl lenP).below hb5) (hw5.sl lenP))
                  have B5 := Lib.hid (Bt B4.out hb5)
                  clear hw5 hb5 PB H4 B4
                  rw [hsm.1] at SP
                  go_wp2_with fail
                  refine SP.out.mono ?_
                  rintro e w6 ⟨rfl, hg6⟩
                  have B6 := Lib.hid (Bt B5.out hg6.below)
                  clear hg6 B5 SP
                  have LA6 := Lib.hid (LA.out _ B6.out)
                  have LB6 := Lib.hid (LB.out _ B6.out)
                  rw [hsm.2] at LA6
                  clear LA LB
                  simp only [decide_true]
                  go_wp2_with fail
                  refine LA6.out.mono ?_
                  rintro e w7 ⟨rfl, rfl⟩
                  go_wp2_with fail
                  refine LB6.out.mono ?_
                  rintro e w8 ⟨rfl, rfl⟩
                  go_wp2
                  go_ret
                  exact ⟨by simp, Bt HB.out B6.out⟩
end Go.Proofs.YtbodefigeiaodaaDoor
