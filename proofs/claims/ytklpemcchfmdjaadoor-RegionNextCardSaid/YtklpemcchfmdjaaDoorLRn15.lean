/-
  RegionNext: the walk (over the contracts of Rg15).
-/
import Derived.Test.YtklpemcchfmdjaaDoorLRs15
import Derived.BigQuiet
namespace Go.Proofs.YtklpemcchfmdjaaDoor
set_option linter.unusedSimpArgs false
set_option linter.unusedVariables false
open Go.RowKit Go.Sort Go.Lib Go.Shelf

/-- Tiles next to each other bear one label, if neither bears none. -/
theorem lab_edge {G : Ground} {t k : Nat} (ht : t < G.n) (hk : k ∈ G.nx t) (h1 : G.labs[t]! ≠ -1) (h2 : G.labs[k]! ≠ -1) : G.labs[t]! = G.labs[k]! := by
  have hkn := (G.lt t k ht hk).1
  rw [labs_get ht] at h1 ⊢
  rw [labs_get hkn] at h2 ⊢
  unfold Ground.labI at *
  cases hbt : G.bl t
  · cases hbk : G.bl k
    · have := lab_eq (Hang.edge ⟨ht, hbt⟩ ⟨hkn, hbk⟩ hk)
      simp [this]
    · rw [hbk] at h2; exact absurd rfl h2
  · rw [hbt] at h1; exact absurd rfl h1
theorem ask_one (b : List Bool) (m : Nat) (hm : m < b.length) (now : Bool) (wrong : Int) : askT b [(m : Int)] now wrong = if b[m]! != now then wrong else 0 := by
  have h1 : outT b.length [(m : Int)] = false := by
    unfold outT
    rw [List.any_cons, List.any_nil, decide_eq_false (show ¬ (m : Int) < 0 by omega), decide_eq_false (show ¬ (b.length : Int) ≤ (m : Int) by omega)]
    rfl
  have h2 : twiceT b now [(m : Int)] 1 = (b[m]! != now) := by
    rw [twiceT_succ]
    show (false || ((b[((m : Int)).toNat]! != now) || decide ((m : Int) ∈ ([] : List Int)))) = _
    rw [Int.toNat_natCast, decide_eq_false (by simp), Bool.or_false, Bool.false_or]
  unfold askT
  rw [h1, if_neg (by simp)]
  show (if twiceT b now [(m : Int)] 1 = true then wrong else 0) = _
  rw [h2]
theorem cut_tile {g : Gd} (hg : grOk g = true) {b : List Bool} (hb : b.length = ntl g) {m : Nat} (hm : m < ntl g) (hf : b[m]! = false) : Cut (grG g b) (grG g (changeT b [(m : Int)] false 8)) m := by
  have ha : changeT b [(m : Int)] false 8 = b.set m true := by
    unfold changeT
    rw [ask_one b m (by omega), hf]
    rfl
  refine ⟨by rw [grG_n hg, grG_n hg], funext fun t => by rw [grG_nx hg, grG_nx hg], fun k hk => ?_⟩
  rw [grG_n hg] at hk
  rw [grG_bl hg, grG_bl hg, ha, getElem!_pos _ k (by rw [List.length_set]; omega), List.getElem_set, getElem!_pos b k (by omega)]
  by_cases e : m = k
  · subst e; simp
  · rw [if_neg e, decide_eq_false (fun q => e q.symm), Bool.or_false]
/-- Behind a tile's being blocked: the labels. -/
theorem cut_labs {G G' : Ground} {m k : Nat} (h : Cut G G' m) (hm : m < G.n) (hk : k < G.n) : (k = m → G'.labs[k]! = -1) ∧ (G.labs[k]! ≠ G.labs[m]! → G'.labs[k]! = G.labs[k]!) := by
  have hk' : k < G'.n := by rw [h.n]; exact hk
  rw [labs_get hk', labs_get hk, labs_get hm]
  constructor
  · rintro rfl
    unfold Ground.labI
    rw [h.bl k hk]
    simp
  · intro hne
    unfold Ground.labI at *
    rw [h.bl k hk]
    cases hbk : G.bl k
    · have hkm : k ≠ m := fun e => by subst e; exact hne rfl
      rw [decide_eq_false hkm, Bool.or_false]
      have hfk : G.fr k := ⟨hk, hbk⟩
      rw [h.lab hfk (fun hh => by
        have hbm := hh.right.2
        rw [hbk, hbm] at hne
        exact hne (by simp [lab_eq hh]))]
    · rfl
set_option maxHeartbeats 8000000 in
set_option maxRecDepth 100000 in
theorem regionNext_walk (g : Gd) (l : List Int) (v : Value) (tt : Int) (w : World) (A : Nat → Addr) (hs : Sl encI w v l) (hE : Er4 w (114, .pointer (some (A 0))) (114, .pointer (some (A 7))) (114, .pointer (some (A 5))) (114, .pointer (some (A 6)))) :
    Calls Tryd.prog 6 #[grV g, v, .int .i64 tt] w fun e w' => e = .returned (.bool true) ∧ RowKit.Below w.heap.size w w' := by
  have HE := Lib.hid hE
  have AL := Lib.hid (fun W' (hb : RowKit.Below w.heap.size w W') => alive_call W' (HE.out.below hb))
  obtain ⟨qv, capv, rfl, v1, v2, v3⟩ := hs
  unfold maxLen at v2
  have HV := Lib.hid v3
  obtain ⟨W0, hW0⟩ : ∃ W0, W0 = w.alloc (.cells #[.int .i64 g.w, .int .i64 g.h, .int .i64 g.s, .int .i64 g.x, .int .i64 g.y] 23) := ⟨_, rfl⟩
  have B0 : Hid (RowKit.Below w.heap.size w W0) := Lib.hid (by rw [hW0]; exact (by repeat (first | with_reducible exact Below.refl _ _ | with_reducible assumption | with_reducible apply Ba | with_reducible apply Bd | with_reducible apply Bn | with_reducible apply Bg | (with_reducible refine Bs ?_ (by first | (simp; done) | (simp; omega)) _) | (with_reducible refine Bt ?_ (by assumption)) | (with_reducible refine Bt ?_ (Gr.below (by assumption))))))
  have G0 : Hid (GrAt W0 w.heap.size g) := Lib.hid (by rw [hW0]; exact heap_alloc_new w _)
  have HW0 := Lib.hid hW0
  have E0 := Lib.hid (HE.out.below B0.out)
  clear hE v3 hW0
  cases hg : grOk g
  · have NC := Lib.hid (fun W' (hb : RowKit.Below w.heap.size w W') => rgnew_form g W' _ (HE.out.below hb).eF hg)
    obtain ⟨W, H, S, X, Y⟩ := g
    dsimp only at *
    clear hg
    go_enter Tryd.func6, Tryd.ntmps6
    go_wp2_with fail
    rw [← HW0.out]
    refine (AL.out _ B0.out).mono ?_
    rintro e w1 ⟨rfl, hb1⟩
    have B1 := Lib.hid (Bt B0.out hb1)
    obtain ⟨x1, x2, x3, x4, x5⟩ := (G0.out.below hb1).cells
    have hl1 := cell_lt x1
    clear hb1
    go_wp2_with fail
    refine (NC.out _ B1.out).mono ?_
    rintro e w2 ⟨rfl, hb2⟩
    have B2 := Lib.hid (Bt B1.out hb2)
    clear hb2
    go_wp2
    go_ret
    exact ⟨rfl, B2.out⟩
  · have hn := ntl_cast hg
    have NC := Lib.hid (fun W' => rgnew_call g W' hg)
    have LL := Lib.hid (fun b => labG_len hg b)
    obtain ⟨W, H, S, X, Y⟩ := g
    dsimp only at *
    obtain ⟨hn1, hn2, hn3⟩ := hn
    have hN := hn1.symm
    obtain ⟨n, hnn⟩ : ∃ n, n = ntl ⟨W, H, S, X, Y⟩ := ⟨_, rfl⟩
    rw [← hnn] at hN hn2 hn3 NC LL
    have HNN := Lib.hid hnn
    have HGG := Lib.hid hg
    have HGG := Lib.hid hg
    clear hn1 hg hnn
    go_enter Tryd.func6, Tryd.ntmps6
    go_wp2_with fail
    rw [← HW0.out]
    refine (AL.out _ B0.out).mono ?_
    rintro e w1 ⟨rfl, hb1⟩
    have A1 := Lib.hid hb1
    obtain ⟨x1, x2, x3, x4, x5⟩ := (G0.out.below hb1).cells
    have hl1 := cell_lt x1
    clear hb1
    go_wp2_with fail
    refine (NC.out _).mono ?_
    rintro e w2 ⟨pa, rfl, hr2, hb2⟩
    unfold psR
    have A2 := Lib.hid (Bt A1.out hb2)
    have R2 := Lib.hid (show RgO W0 ⟨W, H, S, X, Y⟩ pa (nots n) w2 from ⟨_, hr2, fun k e => e.elim (fun e => e.elim) (fun e => ⟨Nat.le_trans A1.out.size e.1, e.2⟩), A2.out⟩)
    have B2 := Lib.hid (B0.out.trans (A2.out.mono B0.out.size))
    clear hr2 hb2 x1 x2 x3 x4 x5 hl1
    obtain ⟨x1, x2, x3, x4, x5⟩ := (G0.out.below A2.out).cells
    have hl2 := cell_lt x1
    by_cases h200 : l.length > 200
    · have hz : (l.length : Int) > 200 := by omega
      go_wp2
      go_ret
      exact ⟨rfl, B2.out⟩
    · have hz : ¬ (l.length : Int) > 200 := by omega
      go_wp2_with fail
      clear x1 x2 x3 x4 x5 hl2
      go_loopw [37] (fun i wr => ∃ (k : Nat) (b : List Bool), k ≤ l.length ∧ i = .int .i64 k ∧ Hid (RgO W0 ⟨W, H, S, X, Y⟩ pa b wr)) (fun i _ => l.length - (intOf i).toNat)
      case atStart => exact ⟨0, _, Nat.zero_le _, rfl, R2⟩
      case round =>
        obtain ⟨k, b, hk, rfl, hR⟩ := hrel
        by_cases hkn : k < l.length
        · have hkz : (k : Int) < (l.length : Int) := by omega
          obtain ⟨gb, ob, rfl, hg1, hg2⟩ := HV.out (by omega)
          have z1 := sl_cell1 encI1' hg2 hkn
          replace z1 := Bc (B0.out.trans (hR.out.lo.mono B0.out.size)) hg1 z1
          have hgw := cell_lt z1
          generalize l[k]! = x at *
          obtain ⟨m, hm9, he⟩ := idx_any x n (by omega) (by omega)
          have hz2 : ¬ (n : Int) = 0 := by omega
          have hul : IntKind.u64.wrap (n : Int) = n := by rw [IntKind.wrap_u64]; omega
          have BC := Lib.hid (hR.out.block1 (m : Int) _ _ E0.out.eR E0.out.eB)
          unfold psR at BC
          clear hg2
          go_wp2_with fail
          refine BC.out.mono ?_
          rintro e w5 ⟨rfl, hr5⟩
          have R5 := Lib.hid hr5
          clear hr5 BC z1
          go_wp2
          go_roundw
          case measure => simp only [intOf]; omega
          case rel => exact ⟨k + 1, _, by omega, by go_num, R5⟩
        · obtain rfl : k = l.length := by omega
          have hkz : ¬ (l.length : Int) < (l.length : Int) := by omega
          -- TAIL
          obtain ⟨M, h1, h2, h3⟩ := hR.out
          obtain ⟨m, hm9, he⟩ := idx_any tt n (by omega) (by omega)
          have hz2 : ¬ (n : Int) = 0 := by omega
          have hul : IntKind.u64.wrap (n : Int) = n := by rw [IntKind.wrap_u64]; omega
          have LB := Lib.hid (labels_call h1)
          have hll := LL.out b
          have hbl : b.length = n := by rw [HNN.out]; exact hR.out.len
          have LE := Lib.hid (fun t k ht hk => @lab_edge (grG ⟨W, H, S, X, Y⟩ b) t k ht hk)
          have NX := Lib.hid (fun t => grG_nx HGG.out b t)
          have NN : Hid ((grG ⟨W, H, S, X, Y⟩ b).n = n) := Lib.hid (by rw [HNN.out]; exact grG_n HGG.out b)
          have BM : Hid (b[m]! = true → (labG ⟨W, H, S, X, Y⟩ b)[m]! = -1) := Lib.hid (fun e => by
            rw [labs_get (by rw [NN.out]; exact hm9)]
            unfold Ground.labI
            rw [grG_bl HGG.out, e]
            rfl)
          have CT : Hid (b[m]! = false → ∀ k, k < n → (k = m → (labG ⟨W, H, S, X, Y⟩ (changeT b [(m : Int)] false 8))[k]! = -1) ∧ ((labG ⟨W, H, S, X, Y⟩ b)[k]! ≠ (labG ⟨W, H, S, X, Y⟩ b)[m]! → (labG ⟨W, H, S, X, Y⟩ (changeT b [(m : Int)] false 8))[k]! = (labG ⟨W, H, S, X, Y⟩ b)[k]!)) := Lib.hid (fun e k hk => cut_labs (cut_tile HGG.out (by rw [hbl, HNN.out]) (by rw [← HNN.out]; exact hm9) e) (by rw [NN.out]; exact hm9) (by rw [NN.out]; exact hk))
          have BC := Lib.hid (fun W' (hb : RowKit.Below wr.heap.size wr W') v hs hv => block_call (h1.below hb) (fun k e => Nat.lt_of_lt_of_le (h2 k e).2 hb.size) [(m : Int)] v hs (by simp) hv _ _ (E0.out.below (Bt h3 hb)).eR (E0.out.below (Bt h3 hb)).eB)
          rw [ask_one b m (by omega)] at BC
          have HLL2 := Lib.hid (LL.out (changeT b [(m : Int)] false 8))
          have LB2 := Lib.hid (fun W' M' (h : RgAt W' M' pa ⟨W, H, S, X, Y⟩ (changeT b [(m : Int)] false 8)) => labels_call h)
          have HM := Lib.hid (fun k (e : M k) => (h2 k e).2)
          have HM1 := Lib.hid (fun k (e : M k) => (h2 k e).1)
          have HWN : ∃ Wn : Nat, W = Wn ∧ 1 ≤ Wn ∧ Wn ≤ 32 := by
            have := grOk_iff.1 HGG.out
            dsimp only at this
            exact ⟨W.toNat, by omega, by omega, by omega⟩
          obtain ⟨Wn, hWn, w11, w12⟩ := HWN
          have hwt : W.toNat = Wn := by omega
          have HNX : Hid (∀ t, (grG ⟨W, H, S, X, Y⟩ b).nx t = nextT Wn n t) := Lib.hid (fun t => by rw [NX.out t, ← HNN.out]; show nextT W.toNat n t = _; rw [hwt])
          have BW := Lib.hid (B0.out.trans (h3.mono B0.out.size))
          have HLO := Lib.hid h3
          generalize hG : grG ⟨W, H, S, X, Y⟩ b = G at *
          have hLL : labG ⟨W, H, S, X, Y⟩ b = G.labs := by unfold labG; rw [hG]
          rw [hLL] at LB hll BM CT
          generalize G.labs = L at *
          generalize labG ⟨W, H, S, X, Y⟩ (changeT b [(m : Int)] false 8) = L2 at *
          unfold psR at LB BC LB2
          generalize hbm : b[m]! = bm at *
          subst hWn
          clear h1 h2 h3 NX hLL hG hbm hwt
          have HLL := Lib.hid hll
          generalize wr = w6 at *
          go_wp2_with fail
          refine LB.out.mono ?_
          rintro e w7 ⟨vl, rfl, ho7, hb7⟩
          obtain ⟨q7, cap7, rfl, y1, y2, y3⟩ := row_val ho7
          have HQ7 := Lib.hid y3
          have B7 := Lib.hid hb7
          unfold maxLen at y2
          rw [HLL.out] at y1
          have HO7' : Hid (w7.ownsRow w6.heap.size 3 1 (.slice q7 n cap7) n (flat encI L)) := Lib.hid (by have := ho7; unfold OwnI at this; rw [HLL.out] at this; exact this)
          have hll2 : L.length = n := HLL.out
          rw [hll2]
          have Gr7 := Lib.hid (G0.out.below (Bt HLO.out hb7))
          clear ho7 hb7 y3 LB
          obtain ⟨x1, x2, x3, x4, x5⟩ := Gr7.out.cells
          have hlg := cell_lt x1
          go_wp2_with fail
          go_loopw [54] (fun i wx => ∃ k : Nat, k ≤ n ∧ i = .int .i64 k ∧ Hid (RowKit.Below w7.heap.size w7 wx)) (fun i _ => n - (intOf i).toNat)
          case atStart => exact ⟨0, Nat.zero_le _, rfl, Lib.hid (Below.refl _ _)⟩
          case round =>
            obtain ⟨k, hk, rfl, hbr⟩ := hrel
            clear x1 x2 x3 x4 x5 hlg
            have Gr8 := Lib.hid (G0.out.below (Bt HLO.out (Bt B7.out hbr.out)))
            obtain ⟨x1, x2, x3, x4, x5⟩ := Gr8.out.cells
            have hlg := cell_lt x1
            by_cases hkn : k < n
            · have hkz : (k : Int) < (n : Int) := by omega
              obtain ⟨g7, rfl, hg7, -⟩ := HQ7.out (by omega)
              have cx := row_cell1 encI1' HO7'.out k (by omega)
              replace cx := Bc hbr.out (cell_lt cx) cx
              have e1 : ((k : Int)).tmod (Wn : Int) = ((k % Wn : Nat) : Int) := by rw [Int.tmod_eq_emod_of_nonneg (by omega), ← Int.natCast_emod]
              have hW0 : ¬ (Wn : Int) = 0 := by omega
              have hW1 : ¬ Wn = 0 := by omega
              have ly : 0 < k % Wn → L[k]! ≠ -1 → L[k - 1]! ≠ -1 → L[k]! = L[k - 1]! := fun a => LE.out k (k - 1) (by rw [NN.out]; exact hkn) (by rw [HNX.out, mem_next]; exact .inl ⟨a, rfl⟩)
              have lz : Wn ≤ k → L[k]! ≠ -1 → L[k - Wn]! ≠ -1 → L[k]! = L[k - Wn]! := fun a => LE.out k (k - Wn) (by rw [NN.out]; exact hkn) (by rw [HNX.out, mem_next]; exact .inr (.inr (.inl ⟨a, rfl⟩)))
              have cy := fun (a : 0 < k % Wn) => Bc hbr.out (cell_lt (row_cell1 encI1' HO7'.out (k - 1) (by omega))) (row_cell1 encI1' HO7'.out (k - 1) (by omega))
              have cz := fun (a : Wn ≤ k) => Bc hbr.out (cell_lt (row_cell1 encI1' HO7'.out (k - Wn) (by omega))) (row_cell1 encI1' HO7'.out (k - Wn) (by omega))
              have hgc := cell_lt cx
              have hmk : k % Wn ≤ k := Nat.mod_le _ _
              generalize L[k]! = x at *
              generalize L[k - 1]! = y at *
              generalize L[k - Wn]! = z at *
              generalize k % Wn = mo at *
              have sx : x = -1 ∨ x ≠ -1 := by omega
              have sy : (¬ (0 : Int) < (mo : Int) ∧ ¬ 0 < mo) ∨ (0 < mo ∧ (0 : Int) < (mo : Int) ∧ wr.cell? ⟨g7, k - 1, none⟩ = some (.int .i64 y) ∧ (k : Int) - 1 = ((k - 1 : Nat) : Int) ∧ k - 1 < n ∧ ((x != -1) = true → (y != -1) = false ∨ ((y != -1) = true ∧ (x != y) = false ∧ decide (x = y) = true))) := by
                by_cases a : 0 < mo
                · refine .inr ⟨a, by omega, cy a, by omega, by omega, fun hx => ?_⟩
                  have hx : x ≠ -1 := by simpa using hx
                  by_cases hy : y = -1
                  · exact .inl (by simpa using hy)
                  · exact .inr ⟨by simpa using hy, by simpa using ly a hx hy, decide_eq_true (ly a hx hy)⟩
                · exact .inl ⟨by omega, a⟩
              have sz : (¬ (Wn : Int) ≤ (k : Int) ∧ ¬ Wn ≤ k) ∨ (Wn ≤ k ∧ (Wn : Int) ≤ (k : Int) ∧ wr.cell? ⟨g7, k - Wn, none⟩ = some (.int .i64 z) ∧ (k : Int) - (Wn : Int) = ((k - Wn : Nat) : Int) ∧ k - Wn < n ∧ ((x != -1) = true → (z != -1) = false ∨ ((z != -1) = true ∧ (x != z) = false ∧ decide (x = z) = true))) := by
                by_cases a : Wn ≤ k
                · refine .inr ⟨a, by omega, cz a, by omega, by omega, fun hx => ?_⟩
                  have hx : x ≠ -1 := by simpa using hx
                  by_cases hz : z = -1
                  · exact .inl (by simpa using hz)
                  · exact .inr ⟨by simpa using hz, by simpa using lz a hx hz, decide_eq_true (lz a hx hz)⟩
                · exact .inl ⟨by omega, a⟩
              generalize k - 1 = k1 at *
              generalize k - Wn = k2 at *
              clear ly lz cy cz hmk hll2
              rcases sx with hx | hx
              · have u0 : (x != -1) = false := by simpa using hx
                have u1 : decide (x = -1) = true := decide_eq_true hx
                clear hx
                rcases sy with ⟨sy, syn⟩ | ⟨syn, sy, c1, sy1, sy2, -⟩ <;> rcases sz with ⟨sz, szn⟩ | ⟨szn, sz, c2, sz1, sz2, -⟩
                all_goals
                  go_wp2_with fail
                  go_big_quiet (fail)
                  go_wp2
                  go_roundw
                  case measure => simp only [intOf]; omega
                  case rel => exact ⟨k + 1, by omega, by go_num, Lib.hid (Bn hbr.out)⟩
              · have u0 : (x != -1) = true := by simpa using hx
                have u1 : decide (x = -1) = false := decide_eq_false hx
                clear hx
                rcases sy with ⟨sy, syn⟩ | ⟨syn, sy, c1, sy1, sy2, sy3⟩
                · rcases sz with ⟨sz, szn⟩ | ⟨szn, sz, c2, sz1, sz2, sz3⟩
                  · go_wp2_with fail
                    go_big_quiet (fail)
                    go_wp2
                    go_roundw
                    case measure => simp only [intOf]; omega
                    case rel => exact ⟨k + 1, by omega, by go_num, Lib.hid (Bn hbr.out)⟩
                  · rcases sz3 u0 with t0 | ⟨t0, t1, t2⟩
                    all_goals
                      clear sz3
                      go_wp2_with fail
                      go_big_quiet (fail)
                      go_wp2
                      go_roundw
                      case measure => simp only [intOf]; omega
                      case rel => exact ⟨k + 1, by omega, by go_num, Lib.hid (Bn hbr.out)⟩
                · rcases sy3 u0 with v0 | ⟨v0, v1, v2⟩
                  all_goals
                    clear sy3
                    rcases sz with ⟨sz, szn⟩ | ⟨szn, sz, c2, sz1, sz2, sz3⟩
                    · go_wp2_with fail
                      go_big_quiet (fail)
                      go_wp2
                      go_roundw
                      case measure => simp only [intOf]; omega
                      case rel => exact ⟨k + 1, by omega, by go_num, Lib.hid (Bn hbr.out)⟩
                    · rcases sz3 u0 with t0 | ⟨t0, t1, t2⟩
                      all_goals
                        clear sz3
                        go_wp2_with fail
                        go_big_quiet (fail)
                        go_wp2
                        go_roundw
                        case measure => simp only [intOf]; omega
                        case rel => exact ⟨k + 1, by omega, by go_num, Lib.hid (Bn hbr.out)⟩
            · obtain rfl : k = n := by omega
              have hkz : ¬ (k : Int) < (k : Int) := by omega
              -- TAIL2
              have BX : Hid (RowKit.Below w6.heap.size w6 (wr.alloc (.cells #[.int .i64 (m : Int)] 3))) := Lib.hid (Ba (Bt B7.out hbr.out) _)
              have hcall := Lib.hid (BC.out _ BX.out (.slice (some ⟨wr.heap.size, 0, none⟩) 1 1) (sl_lit (enc := encI) (w := wr) (cs := #[.int .i64 (m : Int)]) (t := 3) (b := wr.heap.size) [(m : Int)] rfl rfl (by unfold maxLen; simp)) (fun j e f => by
                simp only [Value.ownBlock, Option.some.injEq] at e
                have := HM.out _ f
                have := (Bt B7.out hbr.out).size
                omega))
              obtain ⟨g7, rfl, hg7, -⟩ := HQ7.out (by omega)
              have hgo : w6.heap.size ≤ g7 := by
                rcases HO7'.out.2 with ⟨e, -⟩ | ⟨g, cap, cur, e, hb, -⟩
                · simp only [Value.slice.injEq, reduceCtorEq, false_and] at e
                · simp only [Value.slice.injEq, Option.some.injEq, Addr.mk.injEq] at e
                  omega
              have HC8 : Hid (∀ w8, Tch M (wr.alloc (.cells #[.int .i64 (m : Int)] 3)) w8 → ∀ j, j < k → w8.cell? ⟨g7, j, none⟩ = some (.int .i64 L[j]!)) := Lib.hid (fun w8 ht j hj => by
                have c := row_cell1 encI1' HO7'.out j (by omega)
                have c2 := Bc (Ba hbr.out (.cells #[.int .i64 (m : Int)] 3)) (cell_lt c) c
                exact ht.cell (cell_lt c2) (fun e => by have := HM.out _ e; omega) c2)
              have HB8 : Hid (∀ w8, Tch M (wr.alloc (.cells #[.int .i64 (m : Int)] 3)) w8 → RowKit.Below w.heap.size w w8) := Lib.hid (fun w8 ht => B0.out.trans (((Bt HLO.out BX.out).trans (Tch.below ht (fun j e => HM1.out j e) (Nat.le_trans HLO.out.size BX.out.size))).mono B0.out.size))
              have hmn : (m : Int) < (k : Int) := by omega
              clear x1 x2 x3 x4 x5 hlg BC
              have hll3 := Lib.hid hll2
              have hll4 := Lib.hid hll
              clear hll2 hll
              go_wp2_with fail
              refine hcall.out.mono ?_
              rintro e w8 ⟨rfl, hr8, ht8⟩
              have HC9 := Lib.hid (HC8.out w8 ht8)
              have HB9 := Lib.hid (HB8.out w8 ht8)
              clear hcall HC8 HB8 ht8
              cases bm
              · have hE9 : errT3 (114, .pointer (some (A 0))) (114, .pointer (some (A 7))) (if (false != false) = true then 8 else 0) = .nilIface := rfl
                rw [hE9]
                have LC := Lib.hid (LB2.out w8 _ hr8)
                clear hr8
                go_wp2_with fail
                refine LC.out.mono ?_
                rintro e w9 ⟨v2, rfl, ho9, hb9⟩
                obtain ⟨q9, cap9, rfl, z1, z2, z3⟩ := row_val ho9
                have HQ9 := Lib.hid z3
                have B9 := Lib.hid hb9
                unfold maxLen at z2
                rw [HLL2.out] at z1
                have HO9 : Hid (w9.ownsRow w8.heap.size 3 1 (.slice q9 k cap9) k (flat encI L2)) := Lib.hid (by have := ho9; unfold OwnI at this; rw [HLL2.out] at this; exact this)
                have hl9 : L2.length = k := HLL2.out
                rw [hl9]
                have HL9 := Lib.hid hl9
                have CT9 := Lib.hid (CT.out (by trivial))
                clear ho9 hb9 z3 LC LB2 CT BM hl9
                go_wp2_with fail
                go_loopw [146] (fun i wx => ∃ j : Nat, j ≤ k ∧ i = .int .i64 j ∧ Hid (RowKit.Below w9.heap.size w9 wx)) (fun i _ => k - (intOf i).toNat)
                case atStart => exact ⟨0, Nat.zero_le _, rfl, Lib.hid (Below.refl _ _)⟩
                case round =>
                  obtain ⟨j, hj, rfl, hbr9⟩ := hrel
                  by_cases hjk : j < k
                  · have hjz : (j : Int) < (k : Int) := by omega
                    obtain ⟨g9, rfl, hg9, -⟩ := HQ9.out (by rw [HL9.out]; omega)
                    have c1 := HC9.out j hjk
                    replace c1 := Bc (Bt B9.out hbr9.out) (cell_lt c1) c1
                    have c2 := HC9.out m hm9
                    replace c2 := Bc (Bt B9.out hbr9.out) (cell_lt c2) c2
                    have c3 := row_cell1 encI1' HO9.out j (by rw [HL9.out]; omega)
                    replace c3 := Bc hbr9.out (cell_lt c3) c3
                    have hg7w := cell_lt c1
                    have hg9w := cell_lt c3
                    obtain ⟨t1, t2⟩ := CT9.out j hjk
                    generalize L[j]! = x at *
                    generalize L[m]! = y at *
                    generalize L2[j]! = z at *
                    have sa : (x != y) = false ∨ ((x != y) = true ∧ (z != x) = false) := by
                      by_cases e : x = y
                      · exact .inl (by simpa using e)
                      · exact .inr ⟨by simpa using e, by simpa using t2 e⟩
                    have sb : (((j : Int) == (m : Int)) = false ∧ (j == m) = false ∧ decide (j = m) = false) ∨ (((j : Int) == (m : Int)) = true ∧ (j == m) = true ∧ decide (j = m) = true ∧ (z != -1) = false) := by
                      by_cases e : j = m
                      · exact .inr ⟨beq_iff_eq.2 (by omega), beq_iff_eq.2 e, decide_eq_true e, by simpa using t1 e⟩
                      · exact .inl ⟨beq_eq_false_iff_ne.2 (by omega), beq_eq_false_iff_ne.2 e, decide_eq_false e⟩
                    clear t1 t2
                    rcases sa with a1 | ⟨a1, a2⟩ <;> rcases sb with ⟨b1, b2, b3⟩ | ⟨b1, b2, b3, b4⟩
                    all_goals
                      go_wp2_with fail
                      go_big_quiet (fail)
                      go_wp2
                      go_roundw
                      case measure => simp only [intOf]; omega
                      case rel => exact ⟨j + 1, by omega, by go_num, Lib.hid (Bn hbr9.out)⟩
                  · obtain rfl : j = k := by omega
                    have hjz : ¬ (j : Int) < (j : Int) := by omega
                    have BE := Lib.hid (HB9.out.trans ((Bt B9.out hbr9.out).mono HB9.out.size))
                    go_wp2
                    go_ret
                    exact ⟨rfl, BE.out⟩
              · have hE9 : errT3 (114, .pointer (some (A 0))) (114, .pointer (some (A 7))) (if (true != false) = true then 8 else 0) = .iface 114 (.pointer (some (A 7))) := rfl
                rw [hE9]
                clear hr8
                have hm1 := HC9.out m hm9
                rw [BM.out rfl] at hm1
                have hgw := cell_lt hm1
                go_wp2
                go_ret
                exact ⟨rfl, HB9.out⟩
end Go.Proofs.YtklpemcchfmdjaaDoor
