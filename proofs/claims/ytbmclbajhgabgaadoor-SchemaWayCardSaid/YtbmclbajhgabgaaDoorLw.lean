/-
  SchemaWay: a position that is moved comes back by the same way, and its box moves along (written by mklw.py).
-/
import Derived.Test.YtbmclbajhgabgaaDoorAl6
import Derived.Test.YtbmclbajhgabgaaDoorVn
import Derived.Deep.CutBlock
import Derived.Deep.DeepCutAuto
namespace Go.Proofs.YtbmclbajhgabgaaDoor
set_option linter.unusedSimpArgs false
set_option linter.unusedVariables false
open Go.RowKit Go.Sort Go.Lib Go.Shelf

theorem way_box (b c f g : Int) : boxA [(0, b, c), (1, f, g)] = .agg #[.int .i64 (b - f), .int .i64 (c - g), .int .i64 (b + f), .int .i64 (c + g)] ∧ boxB [(0, b, c), (1, f, g)] = true := by
  have h : boxV [(0, b, c), (1, f, g)] = some (b - f, c - g, b + f, c + g) := by simp [boxV, findV]
  exact ⟨boxA_yes h, by unfold boxB; rw [h]; rfl⟩

set_option maxHeartbeats 4000000 in
set_option maxRecDepth 100000 in
theorem way_walk (a b c e f g dx dy : Int) (w : World) (A : Nat → Addr) (hE : Er w A) (hx : -9223372036854775808 ≤ dx ∧ dx ≤ 9223372036854775807) (hy : -9223372036854775808 ≤ dy ∧ dy ≤ 9223372036854775807) :
    Calls Tryd.prog 9 #[.agg #[.int .i64 a, .int .i64 b, .int .i64 c, .int .i64 e, .int .i64 f, .int .i64 g, .int .i64 dx, .int .i64 dy]] w fun x w' => x = .returned (.bool true) ∧ RowKit.Below w.heap.size w w' := by
  have HE := Lib.hid hE
  have HX := Lib.hid hx
  have HY := Lib.hid hy
  clear hE hx hy
  go_enter Tryd.func9, Tryd.ntmps9
  go_upto_region 1 with fail
  go_cut [3, 4, 5, 6] (fun s3 s4 s5 s6 wx => ∃ p q : Nat, s3 = .pointer (some ⟨p, 0, none⟩) ∧ s4 = .pointer (some ⟨q, 0, none⟩) ∧ s5 = .int .i64 dx ∧ s6 = .int .i64 dy ∧ RowKit.Below w.heap.size w wx ∧ w.heap.size ≤ q ∧ p ≠ q ∧
    (wx.cell? ⟨p, 0, none⟩ = some (.int .i64 a) ∧ wx.cell? ⟨p, 1, none⟩ = some (.int .i64 b) ∧ wx.cell? ⟨p, 2, none⟩ = some (.int .i64 c)) ∧ (wx.cell? ⟨q, 0, none⟩ = some (.int .i64 e) ∧ wx.cell? ⟨q, 1, none⟩ = some (.int .i64 f) ∧ wx.cell? ⟨q, 2, none⟩ = some (.int .i64 g)) ∧
    wx.frozen? ⟨q, 0, none⟩ = false ∧ wx.frozen? ⟨q, 1, none⟩ = false ∧ wx.frozen? ⟨q, 2, none⟩ = false)
  case first =>
    go_region
    all_goals (go_wp2; go_meet; exact ⟨_, _, rfl, rfl, rfl, rfl, (by repeat (first | with_reducible exact Below.refl _ _ | with_reducible assumption | with_reducible apply Ba | with_reducible apply Bd | with_reducible apply Bn | with_reducible apply Bg | (with_reducible refine Bs ?_ (by first | (simp; done) | (simp; omega)) _) | (with_reducible refine Bt ?_ (by assumption)) | (with_reducible refine Bt ?_ (Gr.below (by assumption))))), (by first | omega | (simp; done) | (simp; omega)), (by first | omega | (simp; done) | (simp; omega)), ⟨by go_simp, by go_simp, by go_simp⟩, ⟨by go_simp, by go_simp, by go_simp⟩, (by first | (simp; done) | (go_simp; done) | simp [World.frozen?_setCell]), (by first | (simp; done) | (go_simp; done) | simp [World.frozen?_setCell]), (by first | (simp; done) | (go_simp; done) | simp [World.frozen?_setCell])⟩)
  case rest =>
    obtain ⟨p, q, rfl, rfl, rfl, rfl, hb0, hqn, hpq, ⟨x0, x1, x2⟩, ⟨y0, y1, y2⟩, yf0, yf1, yf2⟩ := hcut
    have hpl := cell_lt x0
    have hql := cell_lt y0
    have B0 := Lib.hid hb0
    have hqp : q ≠ p := fun e => hpq e.symm
    clear hb0
    go_wp2_with fail
    refine (alive_any A wc (HE.out.below B0.out)).mono ?_
    rintro ee w1 ⟨rfl, hb1⟩
    have xa0 : w1.cell? ⟨p, 0, none⟩ = some (.int .i64 a) := Bc hb1 hpl x0
    have xa1 : w1.cell? ⟨p, 1, none⟩ = some (.int .i64 b) := Bc hb1 hpl x1
    have xa2 : w1.cell? ⟨p, 2, none⟩ = some (.int .i64 c) := Bc hb1 hpl x2
    have ya0 : w1.cell? ⟨q, 0, none⟩ = some (.int .i64 e) := Bc hb1 hql y0
    have yaf0 : w1.frozen? ⟨q, 0, none⟩ = false := Bf hb1 hql yf0
    have ya1 : w1.cell? ⟨q, 1, none⟩ = some (.int .i64 f) := Bc hb1 hql y1
    have yaf1 : w1.frozen? ⟨q, 1, none⟩ = false := Bf hb1 hql yf1
    have ya2 : w1.cell? ⟨q, 2, none⟩ = some (.int .i64 g) := Bc hb1 hql y2
    have yaf2 : w1.frozen? ⟨q, 2, none⟩ = false := Bf hb1 hql yf2
    have hpl1 : p < w1.heap.size := Bl hb1 hpl
    have hql1 : q < w1.heap.size := Bl hb1 hql
    have B1 := Lib.hid (Bt B0.out hb1)
    clear hb1 x0 x1 x2 y0 y1 y2 yf0 yf1 yf2 hpl hql
    by_cases hn : movN (a, b, c) dx dy = 0
    · have h1 : a = 0 ∧ chk (a, b, c) = 0 ∧ chk (0, b + dx, c + dy) = 0 := by
        unfold movN at hn
        split at hn
        · rename_i h
          split at hn
          · rename_i h2; exact ⟨h.1, h.2, h2⟩
          · cases hn
        · cases hn
      obtain ⟨rfl, hc, hc2⟩ := h1
      have r1 := chk_pos.1 hc
      have r2 := chk_pos.1 hc2
      obtain ⟨P, hP⟩ : ∃ P, P = b + dx := ⟨_, rfl⟩
      obtain ⟨Q, hQ⟩ : ∃ Q, Q = c + dy := ⟨_, rfl⟩
      obtain ⟨u, hu⟩ : ∃ u, u = -dx := ⟨_, rfl⟩
      obtain ⟨v, hv⟩ : ∃ v, v = -dy := ⟨_, rfl⟩
      have hwu : IntKind.i64.wrap (-dx) = u := by rw [IntKind.wrap_i64]; omega
      have hwv : IntKind.i64.wrap (-dy) = v := by rw [IntKind.wrap_i64]; omega
      have hn2 : movN (0, P, Q) u v = 0 := by
        unfold movN
        have e1 : P + u = b := by omega
        have e2 : Q + v = c := by omega
        dsimp only
        rw [e1, e2, if_pos ⟨rfl, by rw [hP, hQ]; exact hc2⟩, if_pos hc]
      have hm1 : movV (0, b, c) dx dy = (0, P, Q) := by unfold movV; rw [if_pos hn, hP, hQ]
      have hm2 : movV (0, P, Q) u v = (0, b, c) := by
        unfold movV
        rw [if_pos hn2]
        have e1 : P + u = b := by omega
        have e2 : Q + v = c := by omega
        rw [e1, e2]
      have M1 : Hid (∀ W, Er W A → Calls Tryd.prog 31 #[.agg #[.int .i64 0, .int .i64 b, .int .i64 c], .int .i64 dx, .int .i64 dy] W fun e w' => e = .returned (.tuple #[.agg #[.int .i64 0, .int .i64 P, .int .i64 Q], .nilIface]) ∧ RowKit.Below W.heap.size W w') := fun W h => by
        have := moved_call (0, b, c) dx dy A W h HX.out HY.out
        rw [hm1, hn, errV_no] at this
        exact this
      have M2 : Hid (∀ W, Er W A → Calls Tryd.prog 31 #[.agg #[.int .i64 0, .int .i64 P, .int .i64 Q], .int .i64 u, .int .i64 v] W fun e w' => e = .returned (.tuple #[.agg #[.int .i64 0, .int .i64 b, .int .i64 c], .nilIface]) ∧ RowKit.Below W.heap.size W w') := fun W h => by
        have := moved_call (0, P, Q) u v A W h (by omega) (by omega)
        rw [hm2, hn2, errV_no] at this
        exact this
      have RR := Lib.hid (show (P = b + dx ∧ Q = c + dy) ∧ chk (0, b, c) = 0 ∧ chk (0, P, Q) = 0 ∧ (-1048576 ≤ b ∧ b ≤ 1048576) ∧ (-1048576 ≤ c ∧ c ≤ 1048576) ∧ (-1048576 ≤ P ∧ P ≤ 1048576) ∧ (-1048576 ≤ Q ∧ Q ≤ 1048576) from ⟨⟨hP, hQ⟩, hc, by rw [hP, hQ]; exact hc2, r1.1, r1.2, by omega, by omega⟩)
      clear hn hc hc2 r1 r2 hP hQ hu hv hn2 hm1 hm2
      go_wp2_with fail
      refine (M1.out w1 (HE.out.below B1.out)).mono ?_
      rintro ee w2 ⟨rfl, hb2⟩
      have xb0 : w2.cell? ⟨p, 0, none⟩ = some (.int .i64 0) := Bc hb2 hpl1 xa0
      have xb1 : w2.cell? ⟨p, 1, none⟩ = some (.int .i64 b) := Bc hb2 hpl1 xa1
      have xb2 : w2.cell? ⟨p, 2, none⟩ = some (.int .i64 c) := Bc hb2 hpl1 xa2
      have yb0 : w2.cell? ⟨q, 0, none⟩ = some (.int .i64 e) := Bc hb2 hql1 ya0
      have ybf0 : w2.frozen? ⟨q, 0, none⟩ = false := Bf hb2 hql1 yaf0
      have yb1 : w2.cell? ⟨q, 1, none⟩ = some (.int .i64 f) := Bc hb2 hql1 ya1
      have ybf1 : w2.frozen? ⟨q, 1, none⟩ = false := Bf hb2 hql1 yaf1
      have yb2 : w2.cell? ⟨q, 2, none⟩ = some (.int .i64 g) := Bc hb2 hql1 ya2
      have ybf2 : w2.frozen? ⟨q, 2, none⟩ = false := Bf hb2 hql1 yaf2
      have hpl2 : p < w2.heap.size := Bl hb2 hpl1
      have hql2 : q < w2.heap.size := Bl hb2 hql1
      have B2 := Lib.hid (Bt B1.out hb2)
      clear hb2 xa0 xa1 xa2 ya0 ya1 ya2 yaf0 yaf1 yaf2 hpl1 hql1
      go_wp2_with fail
      refine (M2.out _ (HE.out.below (Ba B2.out (.cells #[.int .i64 0, .int .i64 P, .int .i64 Q] 23)))).mono ?_
      rintro ee w3 ⟨rfl, hb3⟩
      have hb3' : RowKit.Below w2.heap.size w2 w3 := Bt (Ba (Below.refl _ w2) _) hb3
      have xc0 : w3.cell? ⟨p, 0, none⟩ = some (.int .i64 0) := Bc hb3' hpl2 xb0
      have xc1 : w3.cell? ⟨p, 1, none⟩ = some (.int .i64 b) := Bc hb3' hpl2 xb1
      have xc2 : w3.cell? ⟨p, 2, none⟩ = some (.int .i64 c) := Bc hb3' hpl2 xb2
      have yc0 : w3.cell? ⟨q, 0, none⟩ = some (.int .i64 e) := Bc hb3' hql2 yb0
      have ycf0 : w3.frozen? ⟨q, 0, none⟩ = false := Bf hb3' hql2 ybf0
      have yc1 : w3.cell? ⟨q, 1, none⟩ = some (.int .i64 f) := Bc hb3' hql2 yb1
      have ycf1 : w3.frozen? ⟨q, 1, none⟩ = false := Bf hb3' hql2 ybf1
      have yc2 : w3.cell? ⟨q, 2, none⟩ = some (.int .i64 g) := Bc hb3' hql2 yb2
      have ycf2 : w3.frozen? ⟨q, 2, none⟩ = false := Bf hb3' hql2 ybf2
      have tc0 : w3.cell? ⟨w2.heap.size, 0, none⟩ = some (.int .i64 0) := Bc hb3 (by simp) (by simp)
      have tc1 : w3.cell? ⟨w2.heap.size, 1, none⟩ = some (.int .i64 P) := Bc hb3 (by simp) (by simp)
      have tc2 : w3.cell? ⟨w2.heap.size, 2, none⟩ = some (.int .i64 Q) := Bc hb3 (by simp) (by simp)
      have hpl3 : p < w3.heap.size := Bl hb3' hpl2
      have hql3 : q < w3.heap.size := Bl hb3' hql2
      have htl3 : w2.heap.size < w3.heap.size := Bl hb3 (by simp)
      have htq : w2.heap.size ≠ q := by omega
      have B3 := Lib.hid (Bt B2.out hb3')
      clear hb3 hb3' xb0 xb1 xb2 yb0 yb1 yb2 ybf0 ybf1 ybf2
      obtain ⟨W3, hW3⟩ : ∃ W3, W3 = (w3.setCell ⟨q, 0, none⟩ (.int .i64 1)).alloc (.cells #[.int .i64 0, .int .i64 b, .int .i64 c] 23) := ⟨_, rfl⟩
      have B3a := Lib.hid (show RowKit.Below w.heap.size w W3 from by rw [hW3]; exact Ba (Bs B3.out hqn _) _)
      have xd0 : W3.cell? ⟨p, 0, none⟩ = some (.int .i64 0) := by rw [hW3]; go_simp
      have xd1 : W3.cell? ⟨p, 1, none⟩ = some (.int .i64 b) := by rw [hW3]; go_simp
      have xd2 : W3.cell? ⟨p, 2, none⟩ = some (.int .i64 c) := by rw [hW3]; go_simp
      have yd0 : W3.cell? ⟨q, 0, none⟩ = some (.int .i64 1) := by rw [hW3]; go_simp
      have yd1 : W3.cell? ⟨q, 1, none⟩ = some (.int .i64 f) := by rw [hW3]; go_simp
      have yd2 : W3.cell? ⟨q, 2, none⟩ = some (.int .i64 g) := by rw [hW3]; go_simp
      have td0 : W3.cell? ⟨w2.heap.size, 0, none⟩ = some (.int .i64 0) := by rw [hW3]; go_simp
      have td1 : W3.cell? ⟨w2.heap.size, 1, none⟩ = some (.int .i64 P) := by rw [hW3]; go_simp
      have td2 : W3.cell? ⟨w2.heap.size, 2, none⟩ = some (.int .i64 Q) := by rw [hW3]; go_simp
      have hpW : p < W3.heap.size := cell_lt xd0
      have hqW : q < W3.heap.size := cell_lt yd0
      have htW : w2.heap.size < W3.heap.size := cell_lt td0
      go_wp2_with fail
      rw [← hW3]
      clear hW3
      have HC := Lib.hid (check_any (1, f, g) A W3 (HE.out.below B3a.out))
      simp only [aggV] at HC
      by_cases hk : chk (1, f, g) = 0
      · rw [hk, errV_no] at HC
        have re := chk_ext.1 hk
        refine HC.out.mono ?_
        rintro ee w4 ⟨rfl, hg4⟩
        have hb4 := hg4.below
        have xe0 : w4.cell? ⟨p, 0, none⟩ = some (.int .i64 0) := Bc hb4 hpW xd0
        have xe1 : w4.cell? ⟨p, 1, none⟩ = some (.int .i64 b) := Bc hb4 hpW xd1
        have xe2 : w4.cell? ⟨p, 2, none⟩ = some (.int .i64 c) := Bc hb4 hpW xd2
        have ye0 : w4.cell? ⟨q, 0, none⟩ = some (.int .i64 1) := Bc hb4 hqW yd0
        have ye1 : w4.cell? ⟨q, 1, none⟩ = some (.int .i64 f) := Bc hb4 hqW yd1
        have ye2 : w4.cell? ⟨q, 2, none⟩ = some (.int .i64 g) := Bc hb4 hqW yd2
        have te0 : w4.cell? ⟨w2.heap.size, 0, none⟩ = some (.int .i64 0) := Bc hb4 htW td0
        have te1 : w4.cell? ⟨w2.heap.size, 1, none⟩ = some (.int .i64 P) := Bc hb4 htW td1
        have te2 : w4.cell? ⟨w2.heap.size, 2, none⟩ = some (.int .i64 Q) := Bc hb4 htW td2
        have hq4 : q < w4.heap.size := Bl hb4 hqW
        have ht4 : w2.heap.size < w4.heap.size := Bl hb4 htW
        have B4 := Lib.hid (Bt B3a.out hb4)
        clear hb4 hg4 xd0 xd1 xd2 yd0 yd1 yd2 td0 td1 td2 hpW hqW htW
        have S4 := Lib.hid (sl_lit (enc := encV) (w := w4) (cs := #[.int .i64 0, .int .i64 b, .int .i64 c, .int .i64 1, .int .i64 f, .int .i64 g]) (t := 23) (b := w4.heap.size) [(0, b, c), (1, f, g)] rfl rfl (by unfold maxLen; simp))
        have hr4 : ∀ y ∈ ([(0, b, c), (1, f, g)] : List Vl), chk y = 0 := fun y hy => by simp only [List.mem_cons, List.mem_nil_iff, or_false] at hy; exact hy.elim (fun e => e ▸ RR.out.2.1) (fun e => e ▸ hk)
        have X4 := Lib.hid (box_call _ _ _ S4.out hr4)
        rw [(way_box b c f g).1, (way_box b c f g).2] at X4
        obtain ⟨q1, hq1⟩ : ∃ z, z = b - f := ⟨_, rfl⟩
        obtain ⟨q2, hq2⟩ : ∃ z, z = c - g := ⟨_, rfl⟩
        obtain ⟨q3, hq3⟩ : ∃ z, z = b + f := ⟨_, rfl⟩
        obtain ⟨q4, hq4'⟩ : ∃ z, z = c + g := ⟨_, rfl⟩
        rw [← hq1, ← hq2, ← hq3, ← hq4'] at X4
        have hr5 : ∀ y ∈ ([(0, P, Q), (1, f, g)] : List Vl), chk y = 0 := fun y hy => by simp only [List.mem_cons, List.mem_nil_iff, or_false] at hy; exact hy.elim (fun e => e ▸ RR.out.2.2.1) (fun e => e ▸ hk)
        obtain ⟨s1, hs1⟩ : ∃ z, z = P - f := ⟨_, rfl⟩
        obtain ⟨s2, hs2⟩ : ∃ z, z = Q - g := ⟨_, rfl⟩
        obtain ⟨s3, hs3⟩ : ∃ z, z = P + f := ⟨_, rfl⟩
        obtain ⟨s4, hs4⟩ : ∃ z, z = Q + g := ⟨_, rfl⟩
        have X5 : Hid (∀ W v, Sl encV W v [(0, P, Q), (1, f, g)] → Calls Tryd.prog 21 #[v] W fun e w' => e = .returned (.tuple #[.agg #[.int .i64 s1, .int .i64 s2, .int .i64 s3, .int .i64 s4], .bool true]) ∧ RowKit.Below W.heap.size W w') := fun W v h => by
          have := box_call _ _ _ h hr5
          rw [(way_box P Q f g).1, (way_box P Q f g).2, ← hs1, ← hs2, ← hs3, ← hs4] at this
          exact this
        obtain ⟨⟨hP, hQ⟩, _, _, k1, k2, k3, k4⟩ := RR.out
        have z1 : IntKind.i64.wrap (q1 + dx) = s1 := by rw [IntKind.wrap_i64]; omega
        have z2 : IntKind.i64.wrap (q2 + dy) = s2 := by rw [IntKind.wrap_i64]; omega
        have z3 : IntKind.i64.wrap (q3 + dx) = s3 := by rw [IntKind.wrap_i64]; omega
        have z4 : IntKind.i64.wrap (q4 + dy) = s4 := by rw [IntKind.wrap_i64]; omega
        clear hq1 hq2 hq3 hq4' hs1 hs2 hs3 hs4 hP hQ k1 k2 k3 k4 hr4 hr5 hk re HC RR M1 M2
        go_wp2_with fail
        refine X4.out.mono ?_
        rintro ee w5 ⟨rfl, hb5⟩
        have hb5' : RowKit.Below w4.heap.size w4 w5 := Bt (Ba (Below.refl _ w4) _) hb5
        have yg0 : w5.cell? ⟨q, 0, none⟩ = some (.int .i64 1) := Bc hb5' hq4 ye0
        have yg1 : w5.cell? ⟨q, 1, none⟩ = some (.int .i64 f) := Bc hb5' hq4 ye1
        have yg2 : w5.cell? ⟨q, 2, none⟩ = some (.int .i64 g) := Bc hb5' hq4 ye2
        have tg0 : w5.cell? ⟨w2.heap.size, 0, none⟩ = some (.int .i64 0) := Bc hb5' ht4 te0
        have tg1 : w5.cell? ⟨w2.heap.size, 1, none⟩ = some (.int .i64 P) := Bc hb5' ht4 te1
        have tg2 : w5.cell? ⟨w2.heap.size, 2, none⟩ = some (.int .i64 Q) := Bc hb5' ht4 te2
        have hq5 : q < w5.heap.size := Bl hb5' hq4
        have ht5 : w2.heap.size < w5.heap.size := Bl hb5' ht4
        have B5 := Lib.hid (Bt B4.out hb5')
        clear hb5 hb5' xe0 xe1 xe2 ye0 ye1 ye2 te0 te1 te2 X4 S4
        have S5 := Lib.hid (sl_lit (enc := encV) (w := w5.alloc (.cells #[.int .i64 q1, .int .i64 q2, .int .i64 q3, .int .i64 q4] 41)) (cs := #[.int .i64 0, .int .i64 P, .int .i64 Q, .int .i64 1, .int .i64 f, .int .i64 g]) (t := 23) (b := w5.heap.size + 1) [(0, P, Q), (1, f, g)] (by simp) rfl (by unfold maxLen; simp))
        go_wp2_with fail
        refine (X5.out _ _ S5.out).mono ?_
        rintro ee w6 ⟨rfl, hb6⟩
        have bb0 : w6.cell? ⟨w5.heap.size, 0, none⟩ = some (.int .i64 q1) := Bc hb6 (by simp; omega) (by simp)
        have bb1 : w6.cell? ⟨w5.heap.size, 1, none⟩ = some (.int .i64 q2) := Bc hb6 (by simp; omega) (by simp)
        have bb2 : w6.cell? ⟨w5.heap.size, 2, none⟩ = some (.int .i64 q3) := Bc hb6 (by simp; omega) (by simp)
        have bb3 : w6.cell? ⟨w5.heap.size, 3, none⟩ = some (.int .i64 q4) := Bc hb6 (by simp; omega) (by simp)
        have hl6 : w5.heap.size < w6.heap.size := Bl hb6 (by simp; omega)
        have B6 := Lib.hid (Bt (Ba (Ba B5.out (.cells #[.int .i64 q1, .int .i64 q2, .int .i64 q3, .int .i64 q4] 41)) _) hb6)
        clear hb6
        go_wp2
        go_ret
        exact ⟨by simp, by have := B6.out; exact (by repeat (first | with_reducible exact Below.refl _ _ | with_reducible assumption | with_reducible apply Ba | with_reducible apply Bd | with_reducible apply Bn | with_reducible apply Bg | (with_reducible refine Bs ?_ (by first | (simp; done) | (simp; omega)) _) | (with_reducible refine Bt ?_ (by assumption)) | (with_reducible refine Bt ?_ (Gr.below (by assumption)))))⟩
      · rw [errV_at A _ hk] at HC
        generalize A (chk (1, f, g) - 1) = ep at *
        refine HC.out.mono ?_
        rintro ee w4 ⟨rfl, hg4⟩
        have B4 := Lib.hid (Bt B3a.out hg4.below)
        clear hg4
        go_wp2
        go_ret
        exact ⟨rfl, B4.out⟩
    · have hm : movV (a, b, c) dx dy = (0, 0, 0) := by unfold movV; rw [if_neg hn]
      have M1 : Hid (∃ ep, ∀ W, Er W A → Calls Tryd.prog 31 #[.agg #[.int .i64 a, .int .i64 b, .int .i64 c], .int .i64 dx, .int .i64 dy] W fun e w' => e = .returned (.tuple #[.agg #[.int .i64 0, .int .i64 0, .int .i64 0], .iface 130 (.pointer (some ep))]) ∧ RowKit.Below W.heap.size W w') := ⟨A (movN (a, b, c) dx dy - 1), fun W h => by
        have := moved_call (a, b, c) dx dy A W h HX.out HY.out
        rw [hm, errV_at A _ hn] at this
        exact this⟩
      clear hn hm
      obtain ⟨ep, M1⟩ := M1.out
      have M2 := Lib.hid M1
      clear M1
      go_wp2_with fail
      refine (M2.out w1 (HE.out.below B1.out)).mono ?_
      rintro ee w2 ⟨rfl, hb2⟩
      have B2 := Lib.hid (Bt B1.out hb2)
      clear hb2
      go_wp2
      go_ret
      exact ⟨by simp, by have := B2.out; exact (by repeat (first | with_reducible exact Below.refl _ _ | with_reducible assumption | with_reducible apply Ba | with_reducible apply Bd | with_reducible apply Bn | with_reducible apply Bg | (with_reducible refine Bs ?_ (by first | (simp; done) | (simp; omega)) _) | (with_reducible refine Bt ?_ (by assumption)) | (with_reducible refine Bt ?_ (Gr.below (by assumption)))))⟩
end Go.Proofs.YtbmclbajhgabgaaDoor
