import Derived.Test.YtahichjiphjapaaGreatDoorZ57
import Derived.Test.YtahichjiphjapaaGreatDoorZ55
import Derived.Test.YtahichjiphjapaaGreatDoorZ2
import Derived.Deep.RegionLaw

/-
  The reference of layer 13: All.
-/
namespace Go.Proofs.YtahichjiphjapaaGreatDoor
set_option linter.unusedSimpArgs false
set_option linter.unusedVariables false
open Go.RowKit Go.Sort Go.Lib Go.Shelf

theorem row_cellsN {w : World} {base et k g n cap : Nat} {xs : List Value} (h : w.ownsRow base et k (.slice (some ⟨g, 0, none⟩) n cap) n xs) : ∀ j u, xs[j]? = some u → w.cell? ⟨g, 0 + j, none⟩ = some u := fun j u hu => by
  have h1 := (List.getElem?_eq_some_iff.1 hu).1
  rw [Nat.zero_add, h.cellAt j (by rw [← h.1]; exact h1)]
  exact hu
/-- All by handle, and their squares. -/
def oL (B : List Bxd) (p : Pt) : List Hd := (farL B p).map (·.2)
def fL (B : List Bxd) (p : Pt) : List Int := (farL B p).map (·.1)
theorem map_mid {α β : Type} (f : α → β) (L : List α) (z : α) (H : Nat) : (L.take H ++ [z] ++ L.drop H).map f = (L.map f).take H ++ ([f z] ++ (L.map f).drop H) := by
  simp [List.map_take, List.map_drop]
theorem once_take {B : List Bxd} (ho : OnceB B) (k : Nat) : OnceB (B.take k) := once_sub ho (ho.nodup.sublist (List.take_sublist _ _)) (fun b hb => List.mem_of_mem_take hb)
theorem all_step {B : List Bxd} (ho : OnceB B) {k : Nat} (hk : k < B.length) (p : Pt) : ∃ H, H ≤ k ∧ (oL (B.take k) p).length = k ∧ (fL (B.take k) p).length = k ∧
    oL (B.take (k + 1)) p = (oL (B.take k) p).take H ++ ([B[k]!.1] ++ (oL (B.take k) p).drop H) ∧ fL (B.take (k + 1)) p = (fL (B.take k) p).take H ++ ([sqI p (ctrB B[k]!.2)] ++ (fL (B.take k) p).drop H) ∧
    ∀ j, j ≤ H → j < k → (ltF ((fL (B.take k) p)[j]!, (oL (B.take k) p)[j]!) (sqI p (ctrB B[k]!.2), B[k]!.1) = true → j + 1 ≤ H) ∧ (ltF ((fL (B.take k) p)[j]!, (oL (B.take k) p)[j]!) (sqI p (ctrB B[k]!.2), B[k]!.1) = false → j = H) := by
  have e : B.take (k + 1) = B.take k ++ [B[k]!] := by rw [List.take_succ_eq_append_getElem hk, getElem!_pos B k hk]
  have hL : (farL (B.take k) p).length = k := by rw [farL_len (once_take ho k), List.length_take]; omega
  have hs := farL_snoc (B := B.take k) (b := B[k]!) (e ▸ once_take ho (k + 1)) p
  refine ⟨headLess ltF (faB p B[k]!) (farL (B.take k) p), Nat.le_trans (headLess_le _ _) (Nat.le_of_eq hL), by unfold oL; rw [List.length_map, hL], by unfold fL; rw [List.length_map, hL], ?_, ?_, fun j hj hjk => ?_⟩
  · unfold oL
    rw [e, hs, map_mid]
    rfl
  · unfold fL
    rw [e, hs, map_mid]
    rfl
  · have h1 : j < (farL (B.take k) p).length := by omega
    have := headLess_step hj h1
    have e2 : ((fL (B.take k) p)[j]!, (oL (B.take k) p)[j]!) = (farL (B.take k) p)[j]! := by
      unfold fL oL
      rw [getElem!_pos _ j (by rw [List.length_map]; exact h1), getElem!_pos _ j (by rw [List.length_map]; exact h1), getElem!_pos _ j h1, List.getElem_map, List.getElem_map]
    rw [e2]
    exact this
set_option maxHeartbeats 8000000 in
set_option maxRecDepth 100000 in
theorem rAll_call (B : List Bxd) (v : Value) (x y : Int) (w : World) (hl : Sl encBx w v B) (hn : B.length ≤ 100) (hok : OkB B) (ho : OnceB B) (hP : placeB (x, y) = true) :
    Calls Tryz.prog 18 #[v, .agg #[.int .i64 x, .int .i64 y]] w fun e w' => ∃ v', e = .returned v' ∧ Sl encH w' v' (allN B (x, y)) ∧ RowKit.Below w.heap.size w w' := by
  have e0 : allN B (x, y) = oL B (x, y) := rfl
  rw [e0]
  obtain ⟨p0, c0, rfl, v1, v2, v3⟩ := hl
  unfold maxLen at v2
  have HV := Lib.hid v3
  have HOK := Lib.hid hok
  have HONE := Lib.hid ho
  have hz : (B.length : Int) ≤ 100 := by omega
  obtain ⟨nx, ny⟩ := place_near hP
  have SQ := Lib.hid (fun (u v : Int) (h3 : nearI u) (h4 : nearI v) W => rsquare_call x y u v W nx ny h3 h4)
  clear v3 hok ho hP e0 nx ny
  obtain ⟨wq, hwq⟩ : ∃ wq, wq = w.alloc (.cells #[.int .i64 x, .int .i64 y] 24) := ⟨_, rfl⟩
  have H1 : Hid ((wq.cell? ⟨w.heap.size, 0, none⟩ = some (.int .i64 x) ∧ wq.cell? ⟨w.heap.size, 1, none⟩ = some (.int .i64 y)) ∧ w.heap.size < wq.heap.size ∧ RowKit.Below w.heap.size w wq) := by rw [hwq]; exact ⟨⟨by simp, by simp⟩, by simp, Ba (Below.refl _ _) _⟩
  have HWs := Lib.hid (show wq.heap.size = w.heap.size + 1 by rw [hwq]; simp)
  have HW := Lib.hid hwq
  have mixed : Tryz.prog.follows .mixedOrders = true := by kernel_rfl
  clear hwq
  go_enter Tryz.func18, Tryz.ntmps18
  go_wp2
  rw [← HW.out]
  have R0 := Lib.hid (show ((wq.alloc (.cells #[] 42)).alloc (.cells #[] 3)).ownsRow wq.heap.size 42 2 (.slice (some ⟨w.heap.size + 1, 0, none⟩) 0 0) 0 [] from by
    rw [← HWs.out]
    exact (World.ownsRow_made wq #[] 0 (Nat.le_refl _) (Nat.zero_le _) (by simp)).alloc _)
  have R1 := Lib.hid (show ((wq.alloc (.cells #[] 42)).alloc (.cells #[] 3)).ownsRow wq.heap.size 3 1 (.slice (some ⟨w.heap.size + 1 + 1, 0, none⟩) 0 0) 0 [] from by
    have h2 : (wq.alloc (.cells #[] 42)).heap.size = w.heap.size + 1 + 1 := by simp [HWs.out]
    rw [← h2]
    exact World.ownsRow_made _ #[] 0 (by simp) (Nat.zero_le _) (by simp))
  have RB := Lib.hid (Ba (Ba (Below.refl _ wq) (.cells #[] 42)) (.cells #[] 3))
  have OL0 := Lib.hid (show oL (B.take 0) (x, y) = [] ∧ fL (B.take 0) (x, y) = [] from ⟨rfl, rfl⟩)
  go_loopw [5, 6, 15] (fun vo vf u wr => ∃ k : Nat, u = .int .i64 k ∧ k ≤ B.length ∧ RowKit.Below wq.heap.size wq wr ∧ vo ≠ .slice none 0 0 ∧ vf ≠ .slice none 0 0 ∧ wr.ownsRow wq.heap.size 42 2 vo k (flat encH (oL (B.take k) (x, y))) ∧ wr.ownsRow wq.heap.size 3 1 vf k (flat encI (fL (B.take k) (x, y)))) (fun _ _ u _ => B.length - (intOf u).toNat)
  case atStart =>
    refine ⟨0, rfl, Nat.zero_le _, RB.out, by simp, by simp, ?_, ?_⟩
    · rw [OL0.out.1]; exact R0.out
    · rw [OL0.out.2]; exact R1.out
  case round =>
    clear R0 R1 RB OL0
    obtain ⟨k, rfl, hk, hb, hvo, hvf, hro, hrf⟩ := hrel
    have HO := Lib.hid hro
    have HF := Lib.hid hrf
    have HB := Lib.hid hb
    have HVO := Lib.hid hvo
    have HVF := Lib.hid hvf
    clear hb hvo hvf hro hrf
    by_cases hkn : k < B.length
    · obtain ⟨g0, o0, rfl, hg1, hg2⟩ := HV.out (by omega)
      obtain ⟨c1, c2, c3, c4, c5, c6⟩ := atBx hg2 hkn
      have bW := Bt H1.out.2.2 HB.out
      replace c1 := Bc bW hg1 c1
      replace c2 := Bc bW hg1 c2
      replace c3 := Bc bW hg1 c3
      replace c4 := Bc bW hg1 c4
      replace c5 := Bc bW hg1 c5
      replace c6 := Bc bW hg1 c6
      have a1 := Bc HB.out H1.out.2.1 H1.out.1.1
      have a2 := Bc HB.out H1.out.2.1 H1.out.1.2
      have hal : w.heap.size < wr.heap.size := Bl HB.out H1.out.2.1
      have hgl := Bl bW hg1
      have HST := Lib.hid (all_step HONE.out hkn (x, y))
      have hbk := ok_near (HOK.out B[k]! (by rw [getElem!_pos B k hkn]; exact List.getElem_mem hkn)).1
      generalize B[k]! = z at *
      obtain ⟨⟨x1, x2⟩, x3, x4, x5, x6⟩ := z
      dsimp only at c1 c2 c3 c4 c5 c6 HST
      obtain ⟨⟨n1, n2, n3, n4⟩, n5, n6⟩ := hbk
      have CC := Lib.hid (fun W => rcentre_call x3 x4 x5 x6 W n1 n2 n3 n4)
      have SQ2 := Lib.hid (fun W => SQ.out (ctrB (x3, x4, x5, x6)).1 (ctrB (x3, x4, x5, x6)).2 n5 n6 W)
      rw [show ((ctrB (x3, x4, x5, x6)).1, (ctrB (x3, x4, x5, x6)).2) = ctrB (x3, x4, x5, x6) from rfl] at SQ2
      rw [show halfI (x3 + x5) = (ctrB (x3, x4, x5, x6)).1 from rfl, show halfI (x4 + x6) = (ctrB (x3, x4, x5, x6)).2 from rfl] at CC
      generalize sqI (x, y) (ctrB (x3, x4, x5, x6)) = D at *
      generalize ctrB (x3, x4, x5, x6) = q at *
      obtain ⟨q1, q2⟩ := q
      dsimp only at CC SQ2
      generalize oL (B.take k) (x, y) = O at *
      generalize fL (B.take k) (x, y) = Fq at *
      obtain ⟨O', hOO⟩ : ∃ O', oL (B.take (k + 1)) (x, y) = O' := ⟨_, rfl⟩
      obtain ⟨F', hFF⟩ : ∃ F', fL (B.take (k + 1)) (x, y) = F' := ⟨_, rfl⟩
      rw [hOO, hFF] at HST
      have HOO := Lib.hid hOO
      have HFF := Lib.hid hFF
      clear hOO hFF
      clear hg2 bW n1 n2 n3 n4 n5 n6
      obtain ⟨M, hM⟩ : ∃ M, M = wr.alloc (.cells #[.int .i64 x1, .int .i64 x2, .int .i64 x3, .int .i64 x4, .int .i64 x5, .int .i64 x6] 47) := ⟨_, rfl⟩
      have bA : RowKit.Below wr.heap.size wr M := by rw [hM]; exact Ba (Below.refl _ wr) _
      have hXM : M.heap[wr.heap.size]? = some (.cells #[.int .i64 x1, .int .i64 x2, .int .i64 x3, .int .i64 x4, .int .i64 x5, .int .i64 x6] 47 (0, 0)) := by rw [hM]; exact heap_alloc_new wr _
      have HXM := Lib.hid hXM
      have HM := Lib.hid hM
      have BA := Lib.hid bA
      have hwr : wr.heap.size < M.heap.size := (Array.getElem?_eq_some_iff.1 hXM).1
      obtain ⟨y1, y2, y3, y4, y5, y6⟩ := cells6 hXM
      have a1 := Bc bA hal a1
      have a2 := Bc bA hal a2
      have halM := Bl bA hal
      clear hM bA hXM
      go_wp2_with fail
      rw [← HM.out]
      clear c1 c2 c3 c4 c5 c6
      refine wp_region_held_drew (S := (fun w' => Below (M).heap.size (M) w' ∧ ∀ b_1 o, b_1 < (M).heap.size → w'.cell? ⟨b_1, o, none⟩ = (M).cell? ⟨b_1, o, none⟩)) (by kernel_rfl) (keep0 _) (fun hHeld => ?_)
      (refine wpAnyH_take (i := 0) (v := ?_) rfl (by kernel_rfl) (by kernel_rfl) (by kernel_rfl) (fun _ _ _ h => h) (Or.inl ⟨by rfl, ?rt⟩) (by assumption) ?_; case rt => (intro w hSw; (try dsimp only at hSw); go_simp; (try with_reducible rfl))); (try simp only [Act.put, List.getElem_toArray, List.getElem_cons_succ, List.getElem_cons_zero, List.setIfInBounds_toArray, List.set_cons_zero, List.set_cons_succ])
      (refine wpAnyH_take (i := 1) (v := ?_) rfl (by kernel_rfl) (by kernel_rfl) (by kernel_rfl) (fun _ _ _ h => h) (Or.inl ⟨by rfl, ?rt⟩) (by assumption) ?_; case rt => (intro w hSw; (try dsimp only at hSw); go_simp; (try with_reducible rfl))); (try simp only [Act.put, List.getElem_toArray, List.getElem_cons_succ, List.getElem_cons_zero, List.setIfInBounds_toArray, List.set_cons_zero, List.set_cons_succ])
      (refine wpAnyH_take (i := 2) (v := ?_) rfl (by kernel_rfl) (by kernel_rfl) (by kernel_rfl) (fun _ _ _ h => h) (Or.inl ⟨by rfl, ?rt⟩) (by assumption) ?_; case rt => (intro w hSw; (try dsimp only at hSw); go_simp; (try with_reducible rfl))); (try simp only [Act.put, List.getElem_toArray, List.getElem_cons_succ, List.getElem_cons_zero, List.setIfInBounds_toArray, List.set_cons_zero, List.set_cons_succ])
      (refine wpAnyH_ready (rs := [3]) (by kernel_rfl) (by simp) ?_; refine AllReadyH.cons rfl (fun K hK => ?_) AllReadyH.nil; go_simp; refine (CC.out _).mono ?_; rintro e w1 ⟨rfl, hb1⟩; refine hK.out _ _ (keepB (by assumption) hb1) (fun hHeld => ?_); clear hK K); (try simp only [Act.put, List.getElem_toArray, List.getElem_cons_succ, List.getElem_cons_zero, List.setIfInBounds_toArray, List.set_cons_zero, List.set_cons_succ])
      (refine wpAnyH_ready (rs := [4]) (by kernel_rfl) (by simp) ?_; refine AllReadyH.cons rfl (fun K hK => ?_) AllReadyH.nil; go_simp; refine (SQ2.out _).mono ?_; rintro e w1 ⟨rfl, hb1⟩; refine hK.out _ _ (keepB (by assumption) hb1) (fun hHeld => ?_); clear hK K); (try simp only [Act.put, List.getElem_toArray, List.getElem_cons_succ, List.getElem_cons_zero, List.setIfInBounds_toArray, List.set_cons_zero, List.set_cons_succ])
      (refine wpAnyH_take (i := 5) (v := ?_) rfl (by kernel_rfl) (by kernel_rfl) (by kernel_rfl) (fun _ _ _ h => h) (Or.inl ⟨by rfl, ?rt⟩) (by assumption) ?_; case rt => (intro w hSw; (try dsimp only at hSw); go_simp; (try with_reducible rfl))); (try simp only [Act.put, List.getElem_toArray, List.getElem_cons_succ, List.getElem_cons_zero, List.setIfInBounds_toArray, List.set_cons_zero, List.set_cons_succ])
      refine wpAnyH_done (by kernel_rfl) ?_ _
      have hM1 := hHeld.1
      obtain ⟨H, hHk, hOl, hFl, hO', hF', hstep⟩ := HST.out
      have bM1 : RowKit.Below wr.heap.size wr w1 := Bt BA.out hM1
      have HBM := Lib.hid (Bt HB.out bM1)
      have OM := Lib.hid (row_below HO.out bM1)
      have FM := Lib.hid (row_below HF.out bM1)
      have HX := Lib.hid (blk_below HXM.out hM1)
      have hwr1 : wr.heap.size < w1.heap.size := Bl hM1 hwr
      have HOE := Lib.hid hO'
      have HFE := Lib.hid hF'
      have HSTEP := Lib.hid hstep
      have HOL := Lib.hid hOl
      have HFL := Lib.hid hFl
      obtain ⟨go, capo, rfl, hbgo, hglo, hlco, hcmo⟩ := row_form OM.out HVO.out
      obtain ⟨gf, capf, rfl, hbgf, hglf, hlcf, hcmf⟩ := row_form FM.out HVF.out
      have HCO := Lib.hid (row_cellsN OM.out)
      have HCF := Lib.hid (row_cellsN FM.out)
      have HNE := Lib.hid (show go ≠ gf from by
        obtain ⟨c1, k1⟩ := row_type OM.out (g := go) rfl
        obtain ⟨c2, k2⟩ := row_type FM.out (g := gf) rfl
        exact type_apart k1 k2 (by decide))
      clear hHeld y1 y2 y3 y4 y5 y6 a1 a2 halM hal hM1 bM1 HXM HM HO HF HB hwr hO' hF' hstep hOl hFl HST CC SQ2 BA
      go_wp2
      generalize wr.heap.size = bb at *
      obtain ⟨wo, rfl⟩ : ∃ wo, wo = w1 := ⟨_, rfl⟩
      go_loopw [10] (fun u wr => ∃ j : Nat, j ≤ H ∧ u = .int .i64 j ∧ RowKit.Below wo.heap.size wo wr) (fun u _ => H - (intOf u).toNat)
      case atStart => exact ⟨0, Nat.zero_le _, rfl, Below.refl _ _⟩
      case round =>
        obtain ⟨j, hj, rfl, hb⟩ := hrel
        have hlr : bb < wr.heap.size := Bl hb hwr1
        have hgow : go < wr.heap.size := Bl hb hglo
        have hgfw : gf < wr.heap.size := Bl hb hglf
        obtain ⟨t1, t2, _, _, _, _⟩ := cells6 (blk_below HX.out hb)
        have HB2 := Lib.hid hb
        have hmo : capo ≤ 9223372036854775807 := by unfold maxLen at hcmo; omega
        have hmf : capf ≤ 9223372036854775807 := by unfold maxLen at hcmf; omega
        have CATO := Lib.hid (show ∀ i, i < k → wr.cell? ⟨go, 0 + i * 2, none⟩ = some (.int .i64 O[i]!.1) ∧ wr.cell? ⟨go, 0 + i * 2 + 1, none⟩ = some (.int .i64 O[i]!.2) from fun i hi => by
          obtain ⟨c1, c2⟩ := atH HCO.out (show i < O.length by rw [HOL.out]; exact hi)
          exact ⟨Bc hb hglo c1, Bc hb hglo c2⟩)
        have CATF := Lib.hid (show ∀ i, i < k → wr.cell? ⟨gf, 0 + i, none⟩ = some (.int .i64 Fq[i]!) from fun i hi => by
          have c1 := atI HCF.out (show i < Fq.length by rw [HFL.out]; exact hi)
          exact Bc hb hglf c1)
        clear hb
        have hgo : (∃ e h1 h2, j < k ∧ wr.cell? ⟨go, j * 2, none⟩ = some (.int .i64 h1) ∧ wr.cell? ⟨go, j * 2 + 1, none⟩ = some (.int .i64 h2) ∧ wr.cell? ⟨gf, j, none⟩ = some (.int .i64 e) ∧ (e < D ∨ (e = D ∧ ltH (h1, h2) (x1, x2) = true)) ∧ j + 1 ≤ H) ∨
            (j = H ∧ ((¬ j < k) ∨ (∃ e h1 h2, j < k ∧ wr.cell? ⟨go, j * 2, none⟩ = some (.int .i64 h1) ∧ wr.cell? ⟨go, j * 2 + 1, none⟩ = some (.int .i64 h2) ∧ wr.cell? ⟨gf, j, none⟩ = some (.int .i64 e) ∧ D < e) ∨
              (∃ e h1 h2, j < k ∧ wr.cell? ⟨go, j * 2, none⟩ = some (.int .i64 h1) ∧ wr.cell? ⟨go, j * 2 + 1, none⟩ = some (.int .i64 h2) ∧ wr.cell? ⟨gf, j, none⟩ = some (.int .i64 e) ∧ e = D ∧ ltH (h1, h2) (x1, x2) = false))) := by
          by_cases hjk : j < k
          · have st := HSTEP.out j hj hjk
            have q1 := CATO.out j hjk
            have q2 := CATF.out j hjk
            simp only [Nat.zero_add] at q1 q2
            generalize O[j]! = h at st q1
            generalize Fq[j]! = e at st q2
            obtain ⟨h1, h2⟩ := h
            cases hl : ltF (e, (h1, h2)) (D, (x1, x2)) with
            | true =>
              refine .inl ⟨e, h1, h2, hjk, q1.1, q1.2, q2, ?_, st.1 hl⟩
              simp only [ltF, Bool.or_eq_true, decide_eq_true_eq, Bool.and_eq_true] at hl
              exact hl
            | false =>
              refine .inr ⟨st.2 hl, .inr ?_⟩
              simp only [ltF, Bool.or_eq_false_iff, decide_eq_false_iff_not, Bool.and_eq_false_iff] at hl
              by_cases he : e = D
              · exact .inr ⟨e, h1, h2, hjk, q1.1, q1.2, q2, he, hl.2.resolve_left (fun h => h he)⟩
              · exact .inl ⟨e, h1, h2, hjk, q1.1, q1.2, q2, by omega⟩
          · exact .inr ⟨by omega, .inl hjk⟩
        clear CATO CATF
        rcases hgo with ⟨e, h1, h2, hjk, q1, q2, q3, hlt, hjH⟩ | ⟨hjH, hgo⟩
        · have hA1 : decide ((j : Int) < (k : Int)) = true := decide_eq_true (by omega)
          have hA2 : decide (j < k) = true := decide_eq_true hjk
          have hjz : (j : Int) < (k : Int) := by omega
          rcases hlt with hlt | ⟨rfl, hlt⟩
          · have hB1 : decide (e < D) = true := decide_eq_true hlt
            clear hj
            go_wp2_with fail
            refine wp_region_held_drew (S := (fun w' => Below (wr).heap.size (wr) w' ∧ ∀ b_1 o, b_1 < (wr).heap.size → w'.cell? ⟨b_1, o, none⟩ = (wr).cell? ⟨b_1, o, none⟩)) (by kernel_rfl) (keep0 _) (fun hHeld => ?_)
            (refine wpAnyH_take (i := 0) (v := ?_) rfl (by kernel_rfl) (by kernel_rfl) (by kernel_rfl) (fun _ _ _ h => h) (Or.inl ⟨by rfl, ?rt⟩) (by assumption) ?_; case rt => (intro w hSw; (try dsimp only at hSw); go_simp; (try with_reducible rfl))); (try simp only [Act.put, List.getElem_toArray, List.getElem_cons_succ, List.getElem_cons_zero, List.setIfInBounds_toArray, List.set_cons_zero, List.set_cons_succ])
            (refine wpAnyH_take (i := 1) (v := ?_) rfl (by kernel_rfl) (by kernel_rfl) (by kernel_rfl) (fun _ _ _ h => h) (Or.inl ⟨by rfl, ?rt⟩) (by assumption) ?_; case rt => (intro w hSw; (try dsimp only at hSw); go_simp; (try with_reducible rfl))); (try simp only [Act.put, List.getElem_toArray, List.getElem_cons_succ, List.getElem_cons_zero, List.setIfInBounds_toArray, List.set_cons_zero, List.set_cons_succ])
            (refine wpAnyH_take (i := 2) (v := ?_) rfl (by kernel_rfl) (by kernel_rfl) (by kernel_rfl) (fun _ _ _ h => h) (Or.inl ⟨by rfl, ?rt⟩) (by assumption) ?_; case rt => (intro w hSw; (try dsimp only at hSw); go_simp; (try with_reducible rfl))); (try simp only [Act.put, List.getElem_toArray, List.getElem_cons_succ, List.getElem_cons_zero, List.setIfInBounds_toArray, List.set_cons_zero, List.set_cons_succ])
            (refine wpAnyH_take (i := 3) (v := ?_) rfl (by kernel_rfl) (by kernel_rfl) (by kernel_rfl) (fun _ _ _ h => h) (Or.inl ⟨by rfl, ?rt⟩) (by assumption) ?_; case rt => (intro w hSw; (try dsimp only at hSw); go_simp; (try with_reducible rfl))); (try simp only [Act.put, List.getElem_toArray, List.getElem_cons_succ, List.getElem_cons_zero, List.setIfInBounds_toArray, List.set_cons_zero, List.set_cons_succ])
            (try simp only [hA1, hA2])
            (refine wpAnyH_take (i := 4) (v := ?_) rfl (by kernel_rfl) (by kernel_rfl) (by kernel_rfl) (fun _ _ _ h => h) (Or.inl ⟨by rfl, ?rt⟩) (by assumption) ?_; case rt => (intro w hSw; (try dsimp only at hSw); go_simp; (try with_reducible rfl))); (try simp only [Act.put, List.getElem_toArray, List.getElem_cons_succ, List.getElem_cons_zero, List.setIfInBounds_toArray, List.set_cons_zero, List.set_cons_succ])
            (refine wpAnyH_take (i := 5) (v := ?_) rfl (by kernel_rfl) (by kernel_rfl) (by kernel_rfl) (fun _ _ _ h => h) (Or.inl ⟨by rfl, ?rt⟩) (by assumption) ?_; case rt => (intro w hSw; (try dsimp only at hSw); go_simp; (try with_reducible rfl))); (try simp only [Act.put, List.getElem_toArray, List.getElem_cons_succ, List.getElem_cons_zero, List.setIfInBounds_toArray, List.set_cons_zero, List.set_cons_succ])
            (refine wpAnyH_take (i := 6) (v := ?_) rfl (by kernel_rfl) (by kernel_rfl) (by kernel_rfl) (fun _ _ _ h => h) (Or.inl ⟨by rfl, ?rt⟩) (by assumption) ?_; case rt => (intro w hSw; (try dsimp only at hSw); go_simp; (try with_reducible rfl))); (try simp only [Act.put, List.getElem_toArray, List.getElem_cons_succ, List.getElem_cons_zero, List.setIfInBounds_toArray, List.set_cons_zero, List.set_cons_succ])
            (refine wpAnyH_take (i := 7) (v := ?_) rfl (by kernel_rfl) (by kernel_rfl) (by kernel_rfl) (fun _ _ _ h => h) (Or.inl ⟨by rfl, ?rt⟩) (by assumption) ?_; case rt => (intro w hSw; (try dsimp only at hSw); go_simp; (try with_reducible rfl))); (try simp only [Act.put, List.getElem_toArray, List.getElem_cons_succ, List.getElem_cons_zero, List.setIfInBounds_toArray, List.set_cons_zero, List.set_cons_succ])
            (refine wpAnyH_take (i := 8) (v := ?_) rfl (by kernel_rfl) (by kernel_rfl) (by kernel_rfl) (fun _ _ _ h => h) (Or.inl ⟨by rfl, ?rt⟩) (by assumption) ?_; case rt => (intro w hSw; (try dsimp only at hSw); go_simp; (try with_reducible rfl))); (try simp only [Act.put, List.getElem_toArray, List.getElem_cons_succ, List.getElem_cons_zero, List.setIfInBounds_toArray, List.set_cons_zero, List.set_cons_succ])
            (refine wpAnyH_take (i := 9) (v := ?_) rfl (by kernel_rfl) (by kernel_rfl) (by kernel_rfl) (fun _ _ _ h => h) (Or.inl ⟨by rfl, ?rt⟩) (by assumption) ?_; case rt => (intro w hSw; (try dsimp only at hSw); go_simp; (try with_reducible rfl))); (try simp only [Act.put, List.getElem_toArray, List.getElem_cons_succ, List.getElem_cons_zero, List.setIfInBounds_toArray, List.set_cons_zero, List.set_cons_succ])
            (refine wpAnyH_take (i := 10) (v := ?_) rfl (by kernel_rfl) (by kernel_rfl) (by kernel_rfl) (fun _ _ _ h => h) (Or.inl ⟨by rfl, ?rt⟩) (by assumption) ?_; case rt => (intro w hSw; (try dsimp only at hSw); go_simp; (try with_reducible rfl))); (try simp only [Act.put, List.getElem_toArray, List.getElem_cons_succ, List.getElem_cons_zero, List.setIfInBounds_toArray, List.set_cons_zero, List.set_cons_succ])
            (try simp only [hB1])
            (refine wpAnyH_take (i := 11) (v := ?_) rfl (by kernel_rfl) (by kernel_rfl) (by kernel_rfl) (fun _ _ _ h => h) (Or.inl ⟨by rfl, ?rt⟩) (by assumption) ?_; case rt => (intro w hSw; (try dsimp only at hSw); go_simp; (try with_reducible rfl))); (try simp only [Act.put, List.getElem_toArray, List.getElem_cons_succ, List.getElem_cons_zero, List.setIfInBounds_toArray, List.set_cons_zero, List.set_cons_succ])
            refine wpAnyH_take (i := 12) (v := undef) rfl (by kernel_rfl) (by kernel_rfl) (by kernel_rfl) (fun _ _ _ h => h) (Or.inr ⟨by rfl, rfl⟩) (by assumption) ?_; (try simp only [Act.put, List.getElem_toArray, List.getElem_cons_succ, List.getElem_cons_zero, List.setIfInBounds_toArray, List.set_cons_zero, List.set_cons_succ])
            refine wpAnyH_take (i := 13) (v := undef) rfl (by kernel_rfl) (by kernel_rfl) (by kernel_rfl) (fun _ _ _ h => h) (Or.inr ⟨by rfl, rfl⟩) (by assumption) ?_; (try simp only [Act.put, List.getElem_toArray, List.getElem_cons_succ, List.getElem_cons_zero, List.setIfInBounds_toArray, List.set_cons_zero, List.set_cons_succ])
            refine wpAnyH_take (i := 14) (v := undef) rfl (by kernel_rfl) (by kernel_rfl) (by kernel_rfl) (fun _ _ _ h => h) (Or.inr ⟨by rfl, rfl⟩) (by assumption) ?_; (try simp only [Act.put, List.getElem_toArray, List.getElem_cons_succ, List.getElem_cons_zero, List.setIfInBounds_toArray, List.set_cons_zero, List.set_cons_succ])
            refine wpAnyH_take (i := 15) (v := undef) rfl (by kernel_rfl) (by kernel_rfl) (by kernel_rfl) (fun _ _ _ h => h) (Or.inr ⟨by rfl, rfl⟩) (by assumption) ?_; (try simp only [Act.put, List.getElem_toArray, List.getElem_cons_succ, List.getElem_cons_zero, List.setIfInBounds_toArray, List.set_cons_zero, List.set_cons_succ])
            refine wpAnyH_take (i := 16) (v := undef) rfl (by kernel_rfl) (by kernel_rfl) (by kernel_rfl) (fun _ _ _ h => h) (Or.inr ⟨by rfl, rfl⟩) (by assumption) ?_; (try simp only [Act.put, List.getElem_toArray, List.getElem_cons_succ, List.getElem_cons_zero, List.setIfInBounds_toArray, List.set_cons_zero, List.set_cons_succ])
            refine wpAnyH_take (i := 17) (v := undef) rfl (by kernel_rfl) (by kernel_rfl) (by kernel_rfl) (fun _ _ _ h => h) (Or.inr ⟨by rfl, rfl⟩) (by assumption) ?_; (try simp only [Act.put, List.getElem_toArray, List.getElem_cons_succ, List.getElem_cons_zero, List.setIfInBounds_toArray, List.set_cons_zero, List.set_cons_succ])
            refine wpAnyH_take (i := 18) (v := undef) rfl (by kernel_rfl) (by kernel_rfl) (by kernel_rfl) (fun _ _ _ h => h) (Or.inr ⟨by rfl, rfl⟩) (by assumption) ?_; (try simp only [Act.put, List.getElem_toArray, List.getElem_cons_succ, List.getElem_cons_zero, List.setIfInBounds_toArray, List.set_cons_zero, List.set_cons_succ])
            refine wpAnyH_take (i := 19) (v := undef) rfl (by kernel_rfl) (by kernel_rfl) (by kernel_rfl) (fun _ _ _ h => h) (Or.inr ⟨by rfl, rfl⟩) (by assumption) ?_; (try simp only [Act.put, List.getElem_toArray, List.getElem_cons_succ, List.getElem_cons_zero, List.setIfInBounds_toArray, List.set_cons_zero, List.set_cons_succ])
            refine wpAnyH_take (i := 20) (v := undef) rfl (by kernel_rfl) (by kernel_rfl) (by kernel_rfl) (fun _ _ _ h => h) (Or.inr ⟨by rfl, rfl⟩) (by assumption) ?_; (try simp only [Act.put, List.getElem_toArray, List.getElem_cons_succ, List.getElem_cons_zero, List.setIfInBounds_toArray, List.set_cons_zero, List.set_cons_succ])
            refine wpAnyH_take (i := 21) (v := undef) rfl (by kernel_rfl) (by kernel_rfl) (by kernel_rfl) (fun _ _ _ h => h) (Or.inr ⟨by rfl, rfl⟩) (by assumption) ?_; (try simp only [Act.put, List.getElem_toArray, List.getElem_cons_succ, List.getElem_cons_zero, List.setIfInBounds_toArray, List.set_cons_zero, List.set_cons_succ])
            refine wpAnyH_take (i := 22) (v := undef) rfl (by kernel_rfl) (by kernel_rfl) (by kernel_rfl) (fun _ _ _ h => h) (Or.inr ⟨by rfl, rfl⟩) (by assumption) ?_; (try simp only [Act.put, List.getElem_toArray, List.getElem_cons_succ, List.getElem_cons_zero, List.setIfInBounds_toArray, List.set_cons_zero, List.set_cons_succ])
            refine wpAnyH_take (i := 23) (v := undef) rfl (by kernel_rfl) (by kernel_rfl) (by kernel_rfl) (fun _ _ _ h => h) (Or.inr ⟨by rfl, rfl⟩) (by assumption) ?_; (try simp only [Act.put, List.getElem_toArray, List.getElem_cons_succ, List.getElem_cons_zero, List.setIfInBounds_toArray, List.set_cons_zero, List.set_cons_succ])
            refine wpAnyH_take (i := 24) (v := undef) rfl (by kernel_rfl) (by kernel_rfl) (by kernel_rfl) (fun _ _ _ h => h) (Or.inr ⟨by rfl, rfl⟩) (by assumption) ?_; (try simp only [Act.put, List.getElem_toArray, List.getElem_cons_succ, List.getElem_cons_zero, List.setIfInBounds_toArray, List.set_cons_zero, List.set_cons_succ])
            refine wpAnyH_take (i := 25) (v := undef) rfl (by kernel_rfl) (by kernel_rfl) (by kernel_rfl) (fun _ _ _ h => h) (Or.inr ⟨by rfl, rfl⟩) (by assumption) ?_; (try simp only [Act.put, List.getElem_toArray, List.getElem_cons_succ, List.getElem_cons_zero, List.setIfInBounds_toArray, List.set_cons_zero, List.set_cons_succ])
            refine wpAnyH_take (i := 26) (v := undef) rfl (by kernel_rfl) (by kernel_rfl) (by kernel_rfl) (fun _ _ _ h => h) (Or.inr ⟨by rfl, rfl⟩) (by assumption) ?_; (try simp only [Act.put, List.getElem_toArray, List.getElem_cons_succ, List.getElem_cons_zero, List.setIfInBounds_toArray, List.set_cons_zero, List.set_cons_succ])
            (refine wpAnyH_take (i := 27) (v := ?_) rfl (by kernel_rfl) (by kernel_rfl) (by kernel_rfl) (fun _ _ _ h => h) (Or.inl ⟨by rfl, ?rt⟩) (by assumption) ?_; case rt => (intro w hSw; (try dsimp only at hSw); go_simp; (try with_reducible rfl))); (try simp only [Act.put, List.getElem_toArray, List.getElem_cons_succ, List.getElem_cons_zero, List.setIfInBounds_toArray, List.set_cons_zero, List.set_cons_succ])
            (refine wpAnyH_take (i := 28) (v := ?_) rfl (by kernel_rfl) (by kernel_rfl) (by kernel_rfl) (fun _ _ _ h => h) (Or.inl ⟨by rfl, ?rt⟩) (by assumption) ?_; case rt => (intro w hSw; (try dsimp only at hSw); go_simp; (try with_reducible rfl))); (try simp only [Act.put, List.getElem_toArray, List.getElem_cons_succ, List.getElem_cons_zero, List.setIfInBounds_toArray, List.set_cons_zero, List.set_cons_succ])
            refine wpAnyH_done (by kernel_rfl) ?_ _
            have g2 := hHeld.1
            clear hHeld
            go_wp2
            go_roundw
            case measure => simp [intOf]; omega
            case rel => exact ⟨j + 1, hjH, by go_num, Bt HB2.out g2⟩
          · have hB1 : decide (e < e) = false := decide_eq_false (Int.lt_irrefl _)
            have hC1 : decide (e = e) = true := decide_eq_true rfl
            have hC2 : (e == e) = true := by simp
            have RL := Lib.hid (fun W => (rless_is hlt W).mono (fun e w' h => (show e = .returned (.bool true) ∧ RowKit.Below W.heap.size W w' from ⟨h.1, h.2.below⟩)))
            clear hj
            go_wp2_with fail
            refine wp_region_held_drew (S := (fun w' => Below (wr).heap.size (wr) w' ∧ ∀ b_1 o, b_1 < (wr).heap.size → w'.cell? ⟨b_1, o, none⟩ = (wr).cell? ⟨b_1, o, none⟩)) (by kernel_rfl) (keep0 _) (fun hHeld => ?_)
            (refine wpAnyH_take (i := 0) (v := ?_) rfl (by kernel_rfl) (by kernel_rfl) (by kernel_rfl) (fun _ _ _ h => h) (Or.inl ⟨by rfl, ?rt⟩) (by assumption) ?_; case rt => (intro w hSw; (try dsimp only at hSw); go_simp; (try with_reducible rfl))); (try simp only [Act.put, List.getElem_toArray, List.getElem_cons_succ, List.getElem_cons_zero, List.setIfInBounds_toArray, List.set_cons_zero, List.set_cons_succ])
            (refine wpAnyH_take (i := 1) (v := ?_) rfl (by kernel_rfl) (by kernel_rfl) (by kernel_rfl) (fun _ _ _ h => h) (Or.inl ⟨by rfl, ?rt⟩) (by assumption) ?_; case rt => (intro w hSw; (try dsimp only at hSw); go_simp; (try with_reducible rfl))); (try simp only [Act.put, List.getElem_toArray, List.getElem_cons_succ, List.getElem_cons_zero, List.setIfInBounds_toArray, List.set_cons_zero, List.set_cons_succ])
            (refine wpAnyH_take (i := 2) (v := ?_) rfl (by kernel_rfl) (by kernel_rfl) (by kernel_rfl) (fun _ _ _ h => h) (Or.inl ⟨by rfl, ?rt⟩) (by assumption) ?_; case rt => (intro w hSw; (try dsimp only at hSw); go_simp; (try with_reducible rfl))); (try simp only [Act.put, List.getElem_toArray, List.getElem_cons_succ, List.getElem_cons_zero, List.setIfInBounds_toArray, List.set_cons_zero, List.set_cons_succ])
            (refine wpAnyH_take (i := 3) (v := ?_) rfl (by kernel_rfl) (by kernel_rfl) (by kernel_rfl) (fun _ _ _ h => h) (Or.inl ⟨by rfl, ?rt⟩) (by assumption) ?_; case rt => (intro w hSw; (try dsimp only at hSw); go_simp; (try with_reducible rfl))); (try simp only [Act.put, List.getElem_toArray, List.getElem_cons_succ, List.getElem_cons_zero, List.setIfInBounds_toArray, List.set_cons_zero, List.set_cons_succ])
            (try simp only [hA1, hA2])
            (refine wpAnyH_take (i := 4) (v := ?_) rfl (by kernel_rfl) (by kernel_rfl) (by kernel_rfl) (fun _ _ _ h => h) (Or.inl ⟨by rfl, ?rt⟩) (by assumption) ?_; case rt => (intro w hSw; (try dsimp only at hSw); go_simp; (try with_reducible rfl))); (try simp only [Act.put, List.getElem_toArray, List.getElem_cons_succ, List.getElem_cons_zero, List.setIfInBounds_toArray, List.set_cons_zero, List.set_cons_succ])
            (refine wpAnyH_take (i := 5) (v := ?_) rfl (by kernel_rfl) (by kernel_rfl) (by kernel_rfl) (fun _ _ _ h => h) (Or.inl ⟨by rfl, ?rt⟩) (by assumption) ?_; case rt => (intro w hSw; (try dsimp only at hSw); go_simp; (try with_reducible rfl))); (try simp only [Act.put, List.getElem_toArray, List.getElem_cons_succ, List.getElem_cons_zero, List.setIfInBounds_toArray, List.set_cons_zero, List.set_cons_succ])
            (refine wpAnyH_take (i := 6) (v := ?_) rfl (by kernel_rfl) (by kernel_rfl) (by kernel_rfl) (fun _ _ _ h => h) (Or.inl ⟨by rfl, ?rt⟩) (by assumption) ?_; case rt => (intro w hSw; (try dsimp only at hSw); go_simp; (try with_reducible rfl))); (try simp only [Act.put, List.getElem_toArray, List.getElem_cons_succ, List.getElem_cons_zero, List.setIfInBounds_toArray, List.set_cons_zero, List.set_cons_succ])
            (refine wpAnyH_take (i := 7) (v := ?_) rfl (by kernel_rfl) (by kernel_rfl) (by kernel_rfl) (fun _ _ _ h => h) (Or.inl ⟨by rfl, ?rt⟩) (by assumption) ?_; case rt => (intro w hSw; (try dsimp only at hSw); go_simp; (try with_reducible rfl))); (try simp only [Act.put, List.getElem_toArray, List.getElem_cons_succ, List.getElem_cons_zero, List.setIfInBounds_toArray, List.set_cons_zero, List.set_cons_succ])
            (refine wpAnyH_take (i := 8) (v := ?_) rfl (by kernel_rfl) (by kernel_rfl) (by kernel_rfl) (fun _ _ _ h => h) (Or.inl ⟨by rfl, ?rt⟩) (by assumption) ?_; case rt => (intro w hSw; (try dsimp only at hSw); go_simp; (try with_reducible rfl))); (try simp only [Act.put, List.getElem_toArray, List.getElem_cons_succ, List.getElem_cons_zero, List.setIfInBounds_toArray, List.set_cons_zero, List.set_cons_succ])
            (refine wpAnyH_take (i := 9) (v := ?_) rfl (by kernel_rfl) (by kernel_rfl) (by kernel_rfl) (fun _ _ _ h => h) (Or.inl ⟨by rfl, ?rt⟩) (by assumption) ?_; case rt => (intro w hSw; (try dsimp only at hSw); go_simp; (try with_reducible rfl))); (try simp only [Act.put, List.getElem_toArray, List.getElem_cons_succ, List.getElem_cons_zero, List.setIfInBounds_toArray, List.set_cons_zero, List.set_cons_succ])
            (refine wpAnyH_take (i := 10) (v := ?_) rfl (by kernel_rfl) (by kernel_rfl) (by kernel_rfl) (fun _ _ _ h => h) (Or.inl ⟨by rfl, ?rt⟩) (by assumption) ?_; case rt => (intro w hSw; (try dsimp only at hSw); go_simp; (try with_reducible rfl))); (try simp only [Act.put, List.getElem_toArray, List.getElem_cons_succ, List.getElem_cons_zero, List.setIfInBounds_toArray, List.set_cons_zero, List.set_cons_succ])
            (try simp only [hB1])
            (refine wpAnyH_take (i := 11) (v := ?_) rfl (by kernel_rfl) (by kernel_rfl) (by kernel_rfl) (fun _ _ _ h => h) (Or.inl ⟨by rfl, ?rt⟩) (by assumption) ?_; case rt => (intro w hSw; (try dsimp only at hSw); go_simp; (try with_reducible rfl))); (try simp only [Act.put, List.getElem_toArray, List.getElem_cons_succ, List.getElem_cons_zero, List.setIfInBounds_toArray, List.set_cons_zero, List.set_cons_succ])
            (refine wpAnyH_take (i := 12) (v := ?_) rfl (by kernel_rfl) (by kernel_rfl) (by kernel_rfl) (fun _ _ _ h => h) (Or.inl ⟨by rfl, ?rt⟩) (by assumption) ?_; case rt => (intro w hSw; (try dsimp only at hSw); go_simp; (try with_reducible rfl))); (try simp only [Act.put, List.getElem_toArray, List.getElem_cons_succ, List.getElem_cons_zero, List.setIfInBounds_toArray, List.set_cons_zero, List.set_cons_succ])
            (refine wpAnyH_take (i := 13) (v := ?_) rfl (by kernel_rfl) (by kernel_rfl) (by kernel_rfl) (fun _ _ _ h => h) (Or.inl ⟨by rfl, ?rt⟩) (by assumption) ?_; case rt => (intro w hSw; (try dsimp only at hSw); go_simp; (try with_reducible rfl))); (try simp only [Act.put, List.getElem_toArray, List.getElem_cons_succ, List.getElem_cons_zero, List.setIfInBounds_toArray, List.set_cons_zero, List.set_cons_succ])
            (refine wpAnyH_take (i := 14) (v := ?_) rfl (by kernel_rfl) (by kernel_rfl) (by kernel_rfl) (fun _ _ _ h => h) (Or.inl ⟨by rfl, ?rt⟩) (by assumption) ?_; case rt => (intro w hSw; (try dsimp only at hSw); go_simp; (try with_reducible rfl))); (try simp only [Act.put, List.getElem_toArray, List.getElem_cons_succ, List.getElem_cons_zero, List.setIfInBounds_toArray, List.set_cons_zero, List.set_cons_succ])
            (refine wpAnyH_take (i := 15) (v := ?_) rfl (by kernel_rfl) (by kernel_rfl) (by kernel_rfl) (fun _ _ _ h => h) (Or.inl ⟨by rfl, ?rt⟩) (by assumption) ?_; case rt => (intro w hSw; (try dsimp only at hSw); go_simp; (try with_reducible rfl))); (try simp only [Act.put, List.getElem_toArray, List.getElem_cons_succ, List.getElem_cons_zero, List.setIfInBounds_toArray, List.set_cons_zero, List.set_cons_succ])
            (refine wpAnyH_take (i := 16) (v := ?_) rfl (by kernel_rfl) (by kernel_rfl) (by kernel_rfl) (fun _ _ _ h => h) (Or.inl ⟨by rfl, ?rt⟩) (by assumption) ?_; case rt => (intro w hSw; (try dsimp only at hSw); go_simp; (try with_reducible rfl))); (try simp only [Act.put, List.getElem_toArray, List.getElem_cons_succ, List.getElem_cons_zero, List.setIfInBounds_toArray, List.set_cons_zero, List.set_cons_succ])
            (refine wpAnyH_take (i := 17) (v := ?_) rfl (by kernel_rfl) (by kernel_rfl) (by kernel_rfl) (fun _ _ _ h => h) (Or.inl ⟨by rfl, ?rt⟩) (by assumption) ?_; case rt => (intro w hSw; (try dsimp only at hSw); go_simp; (try with_reducible rfl))); (try simp only [Act.put, List.getElem_toArray, List.getElem_cons_succ, List.getElem_cons_zero, List.setIfInBounds_toArray, List.set_cons_zero, List.set_cons_succ])
            (try simp only [hC1, hC2])
            (refine wpAnyH_take (i := 18) (v := ?_) rfl (by kernel_rfl) (by kernel_rfl) (by kernel_rfl) (fun _ _ _ h => h) (Or.inl ⟨by rfl, ?rt⟩) (by assumption) ?_; case rt => (intro w hSw; (try dsimp only at hSw); go_simp; (try with_reducible rfl))); (try simp only [Act.put, List.getElem_toArray, List.getElem_cons_succ, List.getElem_cons_zero, List.setIfInBounds_toArray, List.set_cons_zero, List.set_cons_succ])
            (refine wpAnyH_take (i := 19) (v := ?_) rfl (by kernel_rfl) (by kernel_rfl) (by kernel_rfl) (fun _ _ _ h => h) (Or.inl ⟨by rfl, ?rt⟩) (by assumption) ?_; case rt => (intro w hSw; (try dsimp only at hSw); go_simp; (try with_reducible rfl))); (try simp only [Act.put, List.getElem_toArray, List.getElem_cons_succ, List.getElem_cons_zero, List.setIfInBounds_toArray, List.set_cons_zero, List.set_cons_succ])
            (refine wpAnyH_take (i := 20) (v := ?_) rfl (by kernel_rfl) (by kernel_rfl) (by kernel_rfl) (fun _ _ _ h => h) (Or.inl ⟨by rfl, ?rt⟩) (by assumption) ?_; case rt => (intro w hSw; (try dsimp only at hSw); go_simp; (try with_reducible rfl))); (try simp only [Act.put, List.getElem_toArray, List.getElem_cons_succ, List.getElem_cons_zero, List.setIfInBounds_toArray, List.set_cons_zero, List.set_cons_succ])
            (refine wpAnyH_take (i := 21) (v := ?_) rfl (by kernel_rfl) (by kernel_rfl) (by kernel_rfl) (fun _ _ _ h => h) (Or.inl ⟨by rfl, ?rt⟩) (by assumption) ?_; case rt => (intro w hSw; (try dsimp only at hSw); go_simp; (try with_reducible rfl))); (try simp only [Act.put, List.getElem_toArray, List.getElem_cons_succ, List.getElem_cons_zero, List.setIfInBounds_toArray, List.set_cons_zero, List.set_cons_succ])
            (refine wpAnyH_take (i := 22) (v := ?_) rfl (by kernel_rfl) (by kernel_rfl) (by kernel_rfl) (fun _ _ _ h => h) (Or.inl ⟨by rfl, ?rt⟩) (by assumption) ?_; case rt => (intro w hSw; (try dsimp only at hSw); go_simp; (try with_reducible rfl))); (try simp only [Act.put, List.getElem_toArray, List.getElem_cons_succ, List.getElem_cons_zero, List.setIfInBounds_toArray, List.set_cons_zero, List.set_cons_succ])
            (refine wpAnyH_take (i := 23) (v := ?_) rfl (by kernel_rfl) (by kernel_rfl) (by kernel_rfl) (fun _ _ _ h => h) (Or.inl ⟨by rfl, ?rt⟩) (by assumption) ?_; case rt => (intro w hSw; (try dsimp only at hSw); go_simp; (try with_reducible rfl))); (try simp only [Act.put, List.getElem_toArray, List.getElem_cons_succ, List.getElem_cons_zero, List.setIfInBounds_toArray, List.set_cons_zero, List.set_cons_succ])
            (refine wpAnyH_take (i := 24) (v := ?_) rfl (by kernel_rfl) (by kernel_rfl) (by kernel_rfl) (fun _ _ _ h => h) (Or.inl ⟨by rfl, ?rt⟩) (by assumption) ?_; case rt => (intro w hSw; (try dsimp only at hSw); go_simp; (try with_reducible rfl))); (try simp only [Act.put, List.getElem_toArray, List.getElem_cons_succ, List.getElem_cons_zero, List.setIfInBounds_toArray, List.set_cons_zero, List.set_cons_succ])
            (refine wpAnyH_ready (rs := [25]) (by kernel_rfl) (by simp) ?_; refine AllReadyH.cons rfl (fun K hK => ?_) AllReadyH.nil; go_simp; refine (RL.out _).mono ?_; rintro e w1 ⟨rfl, hb1⟩; refine hK.out _ _ (keepB (by assumption) hb1) (fun hHeld => ?_); clear hK K); (try simp only [Act.put, List.getElem_toArray, List.getElem_cons_succ, List.getElem_cons_zero, List.setIfInBounds_toArray, List.set_cons_zero, List.set_cons_succ])
            (refine wpAnyH_take (i := 26) (v := ?_) rfl (by kernel_rfl) (by kernel_rfl) (by kernel_rfl) (fun _ _ _ h => h) (Or.inl ⟨by rfl, ?rt⟩) (by assumption) ?_; case rt => (intro w hSw; (try dsimp only at hSw); go_simp; (try with_reducible rfl))); (try simp only [Act.put, List.getElem_toArray, List.getElem_cons_succ, List.getElem_cons_zero, List.setIfInBounds_toArray, List.set_cons_zero, List.set_cons_succ])
            (refine wpAnyH_take (i := 27) (v := ?_) rfl (by kernel_rfl) (by kernel_rfl) (by kernel_rfl) (fun _ _ _ h => h) (Or.inl ⟨by rfl, ?rt⟩) (by assumption) ?_; case rt => (intro w hSw; (try dsimp only at hSw); go_simp; (try with_reducible rfl))); (try simp only [Act.put, List.getElem_toArray, List.getElem_cons_succ, List.getElem_cons_zero, List.setIfInBounds_toArray, List.set_cons_zero, List.set_cons_succ])
            (refine wpAnyH_take (i := 28) (v := ?_) rfl (by kernel_rfl) (by kernel_rfl) (by kernel_rfl) (fun _ _ _ h => h) (Or.inl ⟨by rfl, ?rt⟩) (by assumption) ?_; case rt => (intro w hSw; (try dsimp only at hSw); go_simp; (try with_reducible rfl))); (try simp only [Act.put, List.getElem_toArray, List.getElem_cons_succ, List.getElem_cons_zero, List.setIfInBounds_toArray, List.set_cons_zero, List.set_cons_succ])
            refine wpAnyH_done (by kernel_rfl) ?_ _
            have g2 := hHeld.1
            clear hHeld
            go_wp2
            go_roundw
            case measure => simp [intOf]; omega
            case rel => exact ⟨j + 1, hjH, by go_num, Bt HB2.out g2⟩
        · have KH := Lib.hid hjH
          have hjk2 : j ≤ k := by omega
          clear hjH hj
          rcases hgo with hjk | ⟨e, h1, h2, hjk, q1, q2, q3, hlt⟩ | ⟨e, h1, h2, hjk, q1, q2, q3, he, hlt⟩
          ·
            have hA1 : decide ((j : Int) < (k : Int)) = false := decide_eq_false (by omega)
            have hA2 : decide (j < k) = false := decide_eq_false hjk
            have hjz : ¬ (j : Int) < (k : Int) := by omega
            go_wp2_with fail
            refine wp_region_held_drew (S := (fun w' => Below (wr).heap.size (wr) w' ∧ ∀ b_1 o, b_1 < (wr).heap.size → w'.cell? ⟨b_1, o, none⟩ = (wr).cell? ⟨b_1, o, none⟩)) (by kernel_rfl) (keep0 _) (fun hHeld => ?_)
            (refine wpAnyH_take (i := 0) (v := ?_) rfl (by kernel_rfl) (by kernel_rfl) (by kernel_rfl) (fun _ _ _ h => h) (Or.inl ⟨by rfl, ?rt⟩) (by assumption) ?_; case rt => (intro w hSw; (try dsimp only at hSw); go_simp; (try with_reducible rfl))); (try simp only [Act.put, List.getElem_toArray, List.getElem_cons_succ, List.getElem_cons_zero, List.setIfInBounds_toArray, List.set_cons_zero, List.set_cons_succ])
            (refine wpAnyH_take (i := 1) (v := ?_) rfl (by kernel_rfl) (by kernel_rfl) (by kernel_rfl) (fun _ _ _ h => h) (Or.inl ⟨by rfl, ?rt⟩) (by assumption) ?_; case rt => (intro w hSw; (try dsimp only at hSw); go_simp; (try with_reducible rfl))); (try simp only [Act.put, List.getElem_toArray, List.getElem_cons_succ, List.getElem_cons_zero, List.setIfInBounds_toArray, List.set_cons_zero, List.set_cons_succ])
            (refine wpAnyH_take (i := 2) (v := ?_) rfl (by kernel_rfl) (by kernel_rfl) (by kernel_rfl) (fun _ _ _ h => h) (Or.inl ⟨by rfl, ?rt⟩) (by assumption) ?_; case rt => (intro w hSw; (try dsimp only at hSw); go_simp; (try with_reducible rfl))); (try simp only [Act.put, List.getElem_toArray, List.getElem_cons_succ, List.getElem_cons_zero, List.setIfInBounds_toArray, List.set_cons_zero, List.set_cons_succ])
            (refine wpAnyH_take (i := 3) (v := ?_) rfl (by kernel_rfl) (by kernel_rfl) (by kernel_rfl) (fun _ _ _ h => h) (Or.inl ⟨by rfl, ?rt⟩) (by assumption) ?_; case rt => (intro w hSw; (try dsimp only at hSw); go_simp; (try with_reducible rfl))); (try simp only [Act.put, List.getElem_toArray, List.getElem_cons_succ, List.getElem_cons_zero, List.setIfInBounds_toArray, List.set_cons_zero, List.set_cons_succ])
            (try simp only [hA1, hA2])
            (refine wpAnyH_take (i := 4) (v := ?_) rfl (by kernel_rfl) (by kernel_rfl) (by kernel_rfl) (fun _ _ _ h => h) (Or.inl ⟨by rfl, ?rt⟩) (by assumption) ?_; case rt => (intro w hSw; (try dsimp only at hSw); go_simp; (try with_reducible rfl))); (try simp only [Act.put, List.getElem_toArray, List.getElem_cons_succ, List.getElem_cons_zero, List.setIfInBounds_toArray, List.set_cons_zero, List.set_cons_succ])
            refine wpAnyH_take (i := 5) (v := undef) rfl (by kernel_rfl) (by kernel_rfl) (by kernel_rfl) (fun _ _ _ h => h) (Or.inr ⟨by rfl, rfl⟩) (by assumption) ?_; (try simp only [Act.put, List.getElem_toArray, List.getElem_cons_succ, List.getElem_cons_zero, List.setIfInBounds_toArray, List.set_cons_zero, List.set_cons_succ])
            refine wpAnyH_take (i := 6) (v := undef) rfl (by kernel_rfl) (by kernel_rfl) (by kernel_rfl) (fun _ _ _ h => h) (Or.inr ⟨by rfl, rfl⟩) (by assumption) ?_; (try simp only [Act.put, List.getElem_toArray, List.getElem_cons_succ, List.getElem_cons_zero, List.setIfInBounds_toArray, List.set_cons_zero, List.set_cons_succ])
            refine wpAnyH_take (i := 7) (v := undef) rfl (by kernel_rfl) (by kernel_rfl) (by kernel_rfl) (fun _ _ _ h => h) (Or.inr ⟨by rfl, rfl⟩) (by assumption) ?_; (try simp only [Act.put, List.getElem_toArray, List.getElem_cons_succ, List.getElem_cons_zero, List.setIfInBounds_toArray, List.set_cons_zero, List.set_cons_succ])
            refine wpAnyH_take (i := 8) (v := undef) rfl (by kernel_rfl) (by kernel_rfl) (by kernel_rfl) (fun _ _ _ h => h) (Or.inr ⟨by rfl, rfl⟩) (by assumption) ?_; (try simp only [Act.put, List.getElem_toArray, List.getElem_cons_succ, List.getElem_cons_zero, List.setIfInBounds_toArray, List.set_cons_zero, List.set_cons_succ])
            refine wpAnyH_take (i := 9) (v := undef) rfl (by kernel_rfl) (by kernel_rfl) (by kernel_rfl) (fun _ _ _ h => h) (Or.inr ⟨by rfl, rfl⟩) (by assumption) ?_; (try simp only [Act.put, List.getElem_toArray, List.getElem_cons_succ, List.getElem_cons_zero, List.setIfInBounds_toArray, List.set_cons_zero, List.set_cons_succ])
            refine wpAnyH_take (i := 10) (v := undef) rfl (by kernel_rfl) (by kernel_rfl) (by kernel_rfl) (fun _ _ _ h => h) (Or.inr ⟨by rfl, rfl⟩) (by assumption) ?_; (try simp only [Act.put, List.getElem_toArray, List.getElem_cons_succ, List.getElem_cons_zero, List.setIfInBounds_toArray, List.set_cons_zero, List.set_cons_succ])
            refine wpAnyH_take (i := 11) (v := undef) rfl (by kernel_rfl) (by kernel_rfl) (by kernel_rfl) (fun _ _ _ h => h) (Or.inr ⟨by rfl, rfl⟩) (by assumption) ?_; (try simp only [Act.put, List.getElem_toArray, List.getElem_cons_succ, List.getElem_cons_zero, List.setIfInBounds_toArray, List.set_cons_zero, List.set_cons_succ])
            refine wpAnyH_take (i := 12) (v := undef) rfl (by kernel_rfl) (by kernel_rfl) (by kernel_rfl) (fun _ _ _ h => h) (Or.inr ⟨by rfl, rfl⟩) (by assumption) ?_; (try simp only [Act.put, List.getElem_toArray, List.getElem_cons_succ, List.getElem_cons_zero, List.setIfInBounds_toArray, List.set_cons_zero, List.set_cons_succ])
            refine wpAnyH_take (i := 13) (v := undef) rfl (by kernel_rfl) (by kernel_rfl) (by kernel_rfl) (fun _ _ _ h => h) (Or.inr ⟨by rfl, rfl⟩) (by assumption) ?_; (try simp only [Act.put, List.getElem_toArray, List.getElem_cons_succ, List.getElem_cons_zero, List.setIfInBounds_toArray, List.set_cons_zero, List.set_cons_succ])
            refine wpAnyH_take (i := 14) (v := undef) rfl (by kernel_rfl) (by kernel_rfl) (by kernel_rfl) (fun _ _ _ h => h) (Or.inr ⟨by rfl, rfl⟩) (by assumption) ?_; (try simp only [Act.put, List.getElem_toArray, List.getElem_cons_succ, List.getElem_cons_zero, List.setIfInBounds_toArray, List.set_cons_zero, List.set_cons_succ])
            refine wpAnyH_take (i := 15) (v := undef) rfl (by kernel_rfl) (by kernel_rfl) (by kernel_rfl) (fun _ _ _ h => h) (Or.inr ⟨by rfl, rfl⟩) (by assumption) ?_; (try simp only [Act.put, List.getElem_toArray, List.getElem_cons_succ, List.getElem_cons_zero, List.setIfInBounds_toArray, List.set_cons_zero, List.set_cons_succ])
            refine wpAnyH_take (i := 16) (v := undef) rfl (by kernel_rfl) (by kernel_rfl) (by kernel_rfl) (fun _ _ _ h => h) (Or.inr ⟨by rfl, rfl⟩) (by assumption) ?_; (try simp only [Act.put, List.getElem_toArray, List.getElem_cons_succ, List.getElem_cons_zero, List.setIfInBounds_toArray, List.set_cons_zero, List.set_cons_succ])
            refine wpAnyH_take (i := 17) (v := undef) rfl (by kernel_rfl) (by kernel_rfl) (by kernel_rfl) (fun _ _ _ h => h) (Or.inr ⟨by rfl, rfl⟩) (by assumption) ?_; (try simp only [Act.put, List.getElem_toArray, List.getElem_cons_succ, List.getElem_cons_zero, List.setIfInBounds_toArray, List.set_cons_zero, List.set_cons_succ])
            refine wpAnyH_take (i := 18) (v := undef) rfl (by kernel_rfl) (by kernel_rfl) (by kernel_rfl) (fun _ _ _ h => h) (Or.inr ⟨by rfl, rfl⟩) (by assumption) ?_; (try simp only [Act.put, List.getElem_toArray, List.getElem_cons_succ, List.getElem_cons_zero, List.setIfInBounds_toArray, List.set_cons_zero, List.set_cons_succ])
            refine wpAnyH_take (i := 19) (v := undef) rfl (by kernel_rfl) (by kernel_rfl) (by kernel_rfl) (fun _ _ _ h => h) (Or.inr ⟨by rfl, rfl⟩) (by assumption) ?_; (try simp only [Act.put, List.getElem_toArray, List.getElem_cons_succ, List.getElem_cons_zero, List.setIfInBounds_toArray, List.set_cons_zero, List.set_cons_succ])
            refine wpAnyH_take (i := 20) (v := undef) rfl (by kernel_rfl) (by kernel_rfl) (by kernel_rfl) (fun _ _ _ h => h) (Or.inr ⟨by rfl, rfl⟩) (by assumption) ?_; (try simp only [Act.put, List.getElem_toArray, List.getElem_cons_succ, List.getElem_cons_zero, List.setIfInBounds_toArray, List.set_cons_zero, List.set_cons_succ])
            refine wpAnyH_take (i := 21) (v := undef) rfl (by kernel_rfl) (by kernel_rfl) (by kernel_rfl) (fun _ _ _ h => h) (Or.inr ⟨by rfl, rfl⟩) (by assumption) ?_; (try simp only [Act.put, List.getElem_toArray, List.getElem_cons_succ, List.getElem_cons_zero, List.setIfInBounds_toArray, List.set_cons_zero, List.set_cons_succ])
            refine wpAnyH_take (i := 22) (v := undef) rfl (by kernel_rfl) (by kernel_rfl) (by kernel_rfl) (fun _ _ _ h => h) (Or.inr ⟨by rfl, rfl⟩) (by assumption) ?_; (try simp only [Act.put, List.getElem_toArray, List.getElem_cons_succ, List.getElem_cons_zero, List.setIfInBounds_toArray, List.set_cons_zero, List.set_cons_succ])
            refine wpAnyH_take (i := 23) (v := undef) rfl (by kernel_rfl) (by kernel_rfl) (by kernel_rfl) (fun _ _ _ h => h) (Or.inr ⟨by rfl, rfl⟩) (by assumption) ?_; (try simp only [Act.put, List.getElem_toArray, List.getElem_cons_succ, List.getElem_cons_zero, List.setIfInBounds_toArray, List.set_cons_zero, List.set_cons_succ])
            refine wpAnyH_take (i := 24) (v := undef) rfl (by kernel_rfl) (by kernel_rfl) (by kernel_rfl) (fun _ _ _ h => h) (Or.inr ⟨by rfl, rfl⟩) (by assumption) ?_; (try simp only [Act.put, List.getElem_toArray, List.getElem_cons_succ, List.getElem_cons_zero, List.setIfInBounds_toArray, List.set_cons_zero, List.set_cons_succ])
            refine wpAnyH_take (i := 25) (v := undef) rfl (by kernel_rfl) (by kernel_rfl) (by kernel_rfl) (fun _ _ _ h => h) (Or.inr ⟨by rfl, rfl⟩) (by assumption) ?_; (try simp only [Act.put, List.getElem_toArray, List.getElem_cons_succ, List.getElem_cons_zero, List.setIfInBounds_toArray, List.set_cons_zero, List.set_cons_succ])
            refine wpAnyH_take (i := 26) (v := undef) rfl (by kernel_rfl) (by kernel_rfl) (by kernel_rfl) (fun _ _ _ h => h) (Or.inr ⟨by rfl, rfl⟩) (by assumption) ?_; (try simp only [Act.put, List.getElem_toArray, List.getElem_cons_succ, List.getElem_cons_zero, List.setIfInBounds_toArray, List.set_cons_zero, List.set_cons_succ])
            refine wpAnyH_take (i := 27) (v := undef) rfl (by kernel_rfl) (by kernel_rfl) (by kernel_rfl) (fun _ _ _ h => h) (Or.inr ⟨by rfl, rfl⟩) (by assumption) ?_; (try simp only [Act.put, List.getElem_toArray, List.getElem_cons_succ, List.getElem_cons_zero, List.setIfInBounds_toArray, List.set_cons_zero, List.set_cons_succ])
            (refine wpAnyH_take (i := 28) (v := ?_) rfl (by kernel_rfl) (by kernel_rfl) (by kernel_rfl) (fun _ _ _ h => h) (Or.inl ⟨by rfl, ?rt⟩) (by assumption) ?_; case rt => (intro w hSw; (try dsimp only at hSw); go_simp; (try with_reducible rfl))); (try simp only [Act.put, List.getElem_toArray, List.getElem_cons_succ, List.getElem_cons_zero, List.setIfInBounds_toArray, List.set_cons_zero, List.set_cons_succ])
            refine wpAnyH_done (by kernel_rfl) ?_ _
            have g2 := hHeld.1
            clear hHeld hA1 hA2 hjz hjk t1 t2
            go_wp2_with fail
            obtain ⟨W2, hW2⟩ : ∃ W2, W2 = wr.drew := ⟨_, rfl⟩
            rw [← hW2] at g2 ⊢
            clear hW2
            have b2 : RowKit.Below wo.heap.size wo W2 := Bt HB2.out g2
            have hgo2 : go < W2.heap.size := Bl b2 hglo
            have hgf2 : gf < W2.heap.size := Bl b2 hglf
            have hbW2 : bb < W2.heap.size := Bl b2 hwr1
            have B2 := Lib.hid (Bt HBM.out b2)
            have O2 := Lib.hid (row_below OM.out b2)
            have F2 := Lib.hid (row_below FM.out b2)
            have CO2 := Lib.hid (fun j' u (hu : (flat encH O)[j']? = some u) => Bc b2 hglo (HCO.out j' u hu))
            obtain ⟨d1, d2, _, _, _, _⟩ := cells6 (blk_below HX.out b2)
            have SLD := Lib.hid (fun W (hb : RowKit.Below W2.heap.size W2 W) => (show Sl encH W (.slice (if capo = j then some ⟨go, 0, none⟩ else some ⟨go, j * 2, none⟩) (k - j) (capo - j)) (O.drop j) by
              have hol := HOL.out
              by_cases hjc2 : j < O.length
              · rw [if_neg (by omega)]
                have := sl_drop lenH (w := W) j (by omega : j ≤ O.length) (by omega) hcmo (Bl hb hgo2) (fun j' u hu => Bc hb hgo2 (CO2.out j' u hu))
                rwa [Nat.zero_add, hol] at this
              · exact ⟨_, capo - j, by rw [List.length_drop, hol], by rw [List.length_drop]; omega, by omega, fun h => absurd h (by rw [List.length_drop]; omega)⟩))
            have A3 := Lib.hid (Ba (Bd (Below.refl _ W2)) (.cells #[.int .i64 x1, .int .i64 x2] 42))
            have O3 := Lib.hid (show (W2.drew.alloc (.cells #[.int .i64 x1, .int .i64 x2] 42)).ownsRow W2.heap.size 42 2 (.slice (some ⟨W2.heap.size, 0, none⟩) 1 1) 1 (flat encH [(x1, x2)]) from World.ownsRow_lit W2.drew #[.int .i64 x1, .int .i64 x2] 1 (Nat.le_refl _) (by unfold maxLen; omega) rfl)
            have hjc : j ≤ capo := by omega
            clear b2 g2
            go_region_law (first
              | (refine step_app2 apH rfl (.tmp 60) (.tmp 63) rfl W2.heap.size (by rfl) (by rfl) O3.out rfl (SLD.out _ A3.out) (by have := HOL.out; first | (simp; done) | (simp; omega)) A3.out.size ?_; intro v1 w3 hown1 hgrow1 hat1 hnil1; have b3 := grownB A3.out O3.out hgrow1; have B3 := Lib.hid (Bt B2.out b3); have S3 := Lib.hid (row_sl lenH hown1 (by first | (simp; done) | (simp; omega))); have O5 := Lib.hid (row_front lenH (row_below O2.out b3) HOL.out.symm j (by omega)); have F5 := Lib.hid (row_below F2.out b3); clear hown1 hgrow1 hat1 hnil1 b3)
              | (refine step_app2 apH rfl (.tmp 57) (.tmp 64) rfl wq.heap.size (by rfl) (by rfl) O5.out (by have := HOL.out; first | (simp; done) | (simp; omega)) S3.out (by have := HOL.out; first | (simp; done) | (simp; omega)) B3.out.size ?_; intro v2 w4 hown2 hgrow2 hat2 hnil2))
            have e1 : O.take j ++ ([(x1, x2)] ++ O.drop j) = O' := by rw [KH.out]; exact HOE.out.symm
            rw [e1] at hown2
            have hol' : O'.length = k + 1 := by rw [← e1]; have := HOL.out; simp; omega
            rw [hol'] at hown2
            have R4 := Lib.hid hown2
            have B4 := Lib.hid (show RowKit.Below wq.heap.size wq w4 from grownB B3.out O5.out hgrow2)
            have V4 := Lib.hid (show v2 ≠ .slice none 0 0 from fun h => by
              obtain ⟨p, c, e, _, _, _⟩ := row_val hown2
              rw [e] at h
              simp only [Value.slice.injEq] at h
              omega)
            have F7 := Lib.hid (row_keep F5.out (fun g hg => hgrow2.block g (row_lt F5.out hg) (fun e => by
              simp only [Value.ownBlock, Option.some.injEq] at hg e
              exact HNE.out (by omega))))
            have N4 := Lib.hid (show ∀ g, v2.ownBlock = some g → g ≠ gf from fun g hg e => by
              obtain ⟨c1, k1⟩ := row_type hown2 hg
              obtain ⟨c2, k2⟩ := row_type F7.out (g := gf) rfl
              rw [e, k2] at k1
              simp at k1)
            clear hown2 hgrow2 hat2 hnil2 e1 hol' O2 A3 O3 SLD CO2 B2 F2 d1 d2 hbW2 hgo2 hgf2 O5 S3 F5 B3
            have hgf4 : gf < w4.heap.size := row_lt F7.out rfl
            have CF4 := Lib.hid (row_cellsN F7.out)
            have SLF := Lib.hid (fun W (hb : RowKit.Below w4.heap.size w4 W) => (show Sl encI W (.slice (if capf = j then some ⟨gf, 0, none⟩ else some ⟨gf, j, none⟩) (k - j) (capf - j)) (Fq.drop j) by
              have hol := HFL.out
              by_cases hjc2 : j < Fq.length
              · rw [if_neg (by omega)]
                have := sl_drop lenI (w := W) j (by omega : j ≤ Fq.length) (by omega) hcmf (Bl hb hgf4) (fun j' u hu => Bc hb hgf4 (CF4.out j' u hu))
                rwa [Nat.zero_add, hol, Nat.mul_one] at this
              · exact ⟨_, capf - j, by rw [List.length_drop, hol], by rw [List.length_drop]; omega, by omega, fun h => absurd h (by rw [List.length_drop]; omega)⟩))
            have A7 := Lib.hid (Ba (Bd (Below.refl _ w4)) (.cells #[.int .i64 D] 3))
            have O7 := Lib.hid (show (w4.drew.alloc (.cells #[.int .i64 D] 3)).ownsRow w4.heap.size 3 1 (.slice (some ⟨w4.heap.size, 0, none⟩) 1 1) 1 (flat encI [D]) from World.ownsRow_lit w4.drew #[.int .i64 D] 1 (Nat.le_refl _) (by unfold maxLen; omega) rfl)
            have hjf : j ≤ capf := by omega
            generalize (if capo = j then (some ⟨go, 0, none⟩ : Option Addr) else some ⟨go, j * 2, none⟩) = az
            go_wp2_with fail
            go_region_law (first
              | (refine step_app2 apI rfl (.tmp 70) (.tmp 73) rfl w4.heap.size (by rfl) (by rfl) O7.out rfl (SLF.out _ A7.out) (by have := HFL.out; first | (simp; done) | (simp; omega)) A7.out.size ?_; intro v5 w5 hown5 hgrow5 hat5 hnil5; have b5 := grownB A7.out O7.out hgrow5; have B5 := Lib.hid (Bt B4.out b5); have S5 := Lib.hid (row_sl lenI hown5 (by first | (simp; done) | (simp; omega))); have F9 := Lib.hid (row_front lenI (row_below F7.out b5) HFL.out.symm j (by omega)); have R5 := Lib.hid (row_below R4.out b5); clear hown5 hgrow5 hat5 hnil5 b5)
              | (refine step_app2 apI rfl (.tmp 68) (.tmp 74) rfl wq.heap.size (by rfl) (by rfl) F9.out (by have := HFL.out; first | (simp; done) | (simp; omega)) S5.out (by have := HFL.out; first | (simp; done) | (simp; omega)) B5.out.size ?_; intro v6 w6 hown6 hgrow6 hat6 hnil6))
            have e2 : Fq.take j ++ ([D] ++ Fq.drop j) = F' := by rw [KH.out]; exact HFE.out.symm
            rw [e2] at hown6
            have hol2 : F'.length = k + 1 := by rw [← e2]; have := HFL.out; simp; omega
            rw [hol2] at hown6
            have R6 := Lib.hid hown6
            have B6 := Lib.hid (show RowKit.Below wq.heap.size wq w6 from grownB B5.out F9.out hgrow6)
            have V6 := Lib.hid (show v6 ≠ .slice none 0 0 from fun h => by
              obtain ⟨p, c, e, _, _, _⟩ := row_val hown6
              rw [e] at h
              simp only [Value.slice.injEq] at h
              omega)
            have R7 := Lib.hid (row_keep R5.out (fun g hg => hgrow6.block g (row_lt R5.out hg) (fun e => by
              simp only [Value.ownBlock, Option.some.injEq] at e
              exact N4.out g hg (by omega))))
            clear hown6 hgrow6 hat6 hnil6 e2 hol2 R4 F7 N4 SLF A7 O7 CF4 R5 F9 S5 B5 B4
            generalize (if capf = j then (some ⟨gf, 0, none⟩ : Option Addr) else some ⟨gf, j, none⟩) = azf
            go_wp2
            go_roundw
            case measure => simp [intOf]; omega
            case rel => exact ⟨k + 1, by go_num, by omega, B6.out, V4.out, V6.out, by rw [HOO.out]; exact R7.out, by rw [HFF.out]; exact R6.out⟩
          ·
            have hA1 : decide ((j : Int) < (k : Int)) = true := decide_eq_true (by omega)
            have hA2 : decide (j < k) = true := decide_eq_true hjk
            have hjz : (j : Int) < (k : Int) := by omega
            have hB1 : decide (e < D) = false := decide_eq_false (by omega)
            have hC1 : decide (e = D) = false := decide_eq_false (by omega)
            have hC2 : (e == D) = false := beq_eq_false_iff_ne.2 (by omega)
            go_wp2_with fail
            refine wp_region_held_drew (S := (fun w' => Below (wr).heap.size (wr) w' ∧ ∀ b_1 o, b_1 < (wr).heap.size → w'.cell? ⟨b_1, o, none⟩ = (wr).cell? ⟨b_1, o, none⟩)) (by kernel_rfl) (keep0 _) (fun hHeld => ?_)
            (refine wpAnyH_take (i := 0) (v := ?_) rfl (by kernel_rfl) (by kernel_rfl) (by kernel_rfl) (fun _ _ _ h => h) (Or.inl ⟨by rfl, ?rt⟩) (by assumption) ?_; case rt => (intro w hSw; (try dsimp only at hSw); go_simp; (try with_reducible rfl))); (try simp only [Act.put, List.getElem_toArray, List.getElem_cons_succ, List.getElem_cons_zero, List.setIfInBounds_toArray, List.set_cons_zero, List.set_cons_succ])
            (refine wpAnyH_take (i := 1) (v := ?_) rfl (by kernel_rfl) (by kernel_rfl) (by kernel_rfl) (fun _ _ _ h => h) (Or.inl ⟨by rfl, ?rt⟩) (by assumption) ?_; case rt => (intro w hSw; (try dsimp only at hSw); go_simp; (try with_reducible rfl))); (try simp only [Act.put, List.getElem_toArray, List.getElem_cons_succ, List.getElem_cons_zero, List.setIfInBounds_toArray, List.set_cons_zero, List.set_cons_succ])
            (refine wpAnyH_take (i := 2) (v := ?_) rfl (by kernel_rfl) (by kernel_rfl) (by kernel_rfl) (fun _ _ _ h => h) (Or.inl ⟨by rfl, ?rt⟩) (by assumption) ?_; case rt => (intro w hSw; (try dsimp only at hSw); go_simp; (try with_reducible rfl))); (try simp only [Act.put, List.getElem_toArray, List.getElem_cons_succ, List.getElem_cons_zero, List.setIfInBounds_toArray, List.set_cons_zero, List.set_cons_succ])
            (refine wpAnyH_take (i := 3) (v := ?_) rfl (by kernel_rfl) (by kernel_rfl) (by kernel_rfl) (fun _ _ _ h => h) (Or.inl ⟨by rfl, ?rt⟩) (by assumption) ?_; case rt => (intro w hSw; (try dsimp only at hSw); go_simp; (try with_reducible rfl))); (try simp only [Act.put, List.getElem_toArray, List.getElem_cons_succ, List.getElem_cons_zero, List.setIfInBounds_toArray, List.set_cons_zero, List.set_cons_succ])
            (try simp only [hA1, hA2])
            (refine wpAnyH_take (i := 4) (v := ?_) rfl (by kernel_rfl) (by kernel_rfl) (by kernel_rfl) (fun _ _ _ h => h) (Or.inl ⟨by rfl, ?rt⟩) (by assumption) ?_; case rt => (intro w hSw; (try dsimp only at hSw); go_simp; (try with_reducible rfl))); (try simp only [Act.put, List.getElem_toArray, List.getElem_cons_succ, List.getElem_cons_zero, List.setIfInBounds_toArray, List.set_cons_zero, List.set_cons_succ])
            (refine wpAnyH_take (i := 5) (v := ?_) rfl (by kernel_rfl) (by kernel_rfl) (by kernel_rfl) (fun _ _ _ h => h) (Or.inl ⟨by rfl, ?rt⟩) (by assumption) ?_; case rt => (intro w hSw; (try dsimp only at hSw); go_simp; (try with_reducible rfl))); (try simp only [Act.put, List.getElem_toArray, List.getElem_cons_succ, List.getElem_cons_zero, List.setIfInBounds_toArray, List.set_cons_zero, List.set_cons_succ])
            (refine wpAnyH_take (i := 6) (v := ?_) rfl (by kernel_rfl) (by kernel_rfl) (by kernel_rfl) (fun _ _ _ h => h) (Or.inl ⟨by rfl, ?rt⟩) (by assumption) ?_; case rt => (intro w hSw; (try dsimp only at hSw); go_simp; (try with_reducible rfl))); (try simp only [Act.put, List.getElem_toArray, List.getElem_cons_succ, List.getElem_cons_zero, List.setIfInBounds_toArray, List.set_cons_zero, List.set_cons_succ])
            (refine wpAnyH_take (i := 7) (v := ?_) rfl (by kernel_rfl) (by kernel_rfl) (by kernel_rfl) (fun _ _ _ h => h) (Or.inl ⟨by rfl, ?rt⟩) (by assumption) ?_; case rt => (intro w hSw; (try dsimp only at hSw); go_simp; (try with_reducible rfl))); (try simp only [Act.put, List.getElem_toArray, List.getElem_cons_succ, List.getElem_cons_zero, List.setIfInBounds_toArray, List.set_cons_zero, List.set_cons_succ])
            (refine wpAnyH_take (i := 8) (v := ?_) rfl (by kernel_rfl) (by kernel_rfl) (by kernel_rfl) (fun _ _ _ h => h) (Or.inl ⟨by rfl, ?rt⟩) (by assumption) ?_; case rt => (intro w hSw; (try dsimp only at hSw); go_simp; (try with_reducible rfl))); (try simp only [Act.put, List.getElem_toArray, List.getElem_cons_succ, List.getElem_cons_zero, List.setIfInBounds_toArray, List.set_cons_zero, List.set_cons_succ])
            (refine wpAnyH_take (i := 9) (v := ?_) rfl (by kernel_rfl) (by kernel_rfl) (by kernel_rfl) (fun _ _ _ h => h) (Or.inl ⟨by rfl, ?rt⟩) (by assumption) ?_; case rt => (intro w hSw; (try dsimp only at hSw); go_simp; (try with_reducible rfl))); (try simp only [Act.put, List.getElem_toArray, List.getElem_cons_succ, List.getElem_cons_zero, List.setIfInBounds_toArray, List.set_cons_zero, List.set_cons_succ])
            (refine wpAnyH_take (i := 10) (v := ?_) rfl (by kernel_rfl) (by kernel_rfl) (by kernel_rfl) (fun _ _ _ h => h) (Or.inl ⟨by rfl, ?rt⟩) (by assumption) ?_; case rt => (intro w hSw; (try dsimp only at hSw); go_simp; (try with_reducible rfl))); (try simp only [Act.put, List.getElem_toArray, List.getElem_cons_succ, List.getElem_cons_zero, List.setIfInBounds_toArray, List.set_cons_zero, List.set_cons_succ])
            (try simp only [hB1])
            (refine wpAnyH_take (i := 11) (v := ?_) rfl (by kernel_rfl) (by kernel_rfl) (by kernel_rfl) (fun _ _ _ h => h) (Or.inl ⟨by rfl, ?rt⟩) (by assumption) ?_; case rt => (intro w hSw; (try dsimp only at hSw); go_simp; (try with_reducible rfl))); (try simp only [Act.put, List.getElem_toArray, List.getElem_cons_succ, List.getElem_cons_zero, List.setIfInBounds_toArray, List.set_cons_zero, List.set_cons_succ])
            (refine wpAnyH_take (i := 12) (v := ?_) rfl (by kernel_rfl) (by kernel_rfl) (by kernel_rfl) (fun _ _ _ h => h) (Or.inl ⟨by rfl, ?rt⟩) (by assumption) ?_; case rt => (intro w hSw; (try dsimp only at hSw); go_simp; (try with_reducible rfl))); (try simp only [Act.put, List.getElem_toArray, List.getElem_cons_succ, List.getElem_cons_zero, List.setIfInBounds_toArray, List.set_cons_zero, List.set_cons_succ])
            (refine wpAnyH_take (i := 13) (v := ?_) rfl (by kernel_rfl) (by kernel_rfl) (by kernel_rfl) (fun _ _ _ h => h) (Or.inl ⟨by rfl, ?rt⟩) (by assumption) ?_; case rt => (intro w hSw; (try dsimp only at hSw); go_simp; (try with_reducible rfl))); (try simp only [Act.put, List.getElem_toArray, List.getElem_cons_succ, List.getElem_cons_zero, List.setIfInBounds_toArray, List.set_cons_zero, List.set_cons_succ])
            (refine wpAnyH_take (i := 14) (v := ?_) rfl (by kernel_rfl) (by kernel_rfl) (by kernel_rfl) (fun _ _ _ h => h) (Or.inl ⟨by rfl, ?rt⟩) (by assumption) ?_; case rt => (intro w hSw; (try dsimp only at hSw); go_simp; (try with_reducible rfl))); (try simp only [Act.put, List.getElem_toArray, List.getElem_cons_succ, List.getElem_cons_zero, List.setIfInBounds_toArray, List.set_cons_zero, List.set_cons_succ])
            (refine wpAnyH_take (i := 15) (v := ?_) rfl (by kernel_rfl) (by kernel_rfl) (by kernel_rfl) (fun _ _ _ h => h) (Or.inl ⟨by rfl, ?rt⟩) (by assumption) ?_; case rt => (intro w hSw; (try dsimp only at hSw); go_simp; (try with_reducible rfl))); (try simp only [Act.put, List.getElem_toArray, List.getElem_cons_succ, List.getElem_cons_zero, List.setIfInBounds_toArray, List.set_cons_zero, List.set_cons_succ])
            (refine wpAnyH_take (i := 16) (v := ?_) rfl (by kernel_rfl) (by kernel_rfl) (by kernel_rfl) (fun _ _ _ h => h) (Or.inl ⟨by rfl, ?rt⟩) (by assumption) ?_; case rt => (intro w hSw; (try dsimp only at hSw); go_simp; (try with_reducible rfl))); (try simp only [Act.put, List.getElem_toArray, List.getElem_cons_succ, List.getElem_cons_zero, List.setIfInBounds_toArray, List.set_cons_zero, List.set_cons_succ])
            (refine wpAnyH_take (i := 17) (v := ?_) rfl (by kernel_rfl) (by kernel_rfl) (by kernel_rfl) (fun _ _ _ h => h) (Or.inl ⟨by rfl, ?rt⟩) (by assumption) ?_; case rt => (intro w hSw; (try dsimp only at hSw); go_simp; (try with_reducible rfl))); (try simp only [Act.put, List.getElem_toArray, List.getElem_cons_succ, List.getElem_cons_zero, List.setIfInBounds_toArray, List.set_cons_zero, List.set_cons_succ])
            (try simp only [hC1, hC2])
            (refine wpAnyH_take (i := 18) (v := ?_) rfl (by kernel_rfl) (by kernel_rfl) (by kernel_rfl) (fun _ _ _ h => h) (Or.inl ⟨by rfl, ?rt⟩) (by assumption) ?_; case rt => (intro w hSw; (try dsimp only at hSw); go_simp; (try with_reducible rfl))); (try simp only [Act.put, List.getElem_toArray, List.getElem_cons_succ, List.getElem_cons_zero, List.setIfInBounds_toArray, List.set_cons_zero, List.set_cons_succ])
            refine wpAnyH_take (i := 19) (v := undef) rfl (by kernel_rfl) (by kernel_rfl) (by kernel_rfl) (fun _ _ _ h => h) (Or.inr ⟨by rfl, rfl⟩) (by assumption) ?_; (try simp only [Act.put, List.getElem_toArray, List.getElem_cons_succ, List.getElem_cons_zero, List.setIfInBounds_toArray, List.set_cons_zero, List.set_cons_succ])
            refine wpAnyH_take (i := 20) (v := undef) rfl (by kernel_rfl) (by kernel_rfl) (by kernel_rfl) (fun _ _ _ h => h) (Or.inr ⟨by rfl, rfl⟩) (by assumption) ?_; (try simp only [Act.put, List.getElem_toArray, List.getElem_cons_succ, List.getElem_cons_zero, List.setIfInBounds_toArray, List.set_cons_zero, List.set_cons_succ])
            refine wpAnyH_take (i := 21) (v := undef) rfl (by kernel_rfl) (by kernel_rfl) (by kernel_rfl) (fun _ _ _ h => h) (Or.inr ⟨by rfl, rfl⟩) (by assumption) ?_; (try simp only [Act.put, List.getElem_toArray, List.getElem_cons_succ, List.getElem_cons_zero, List.setIfInBounds_toArray, List.set_cons_zero, List.set_cons_succ])
            refine wpAnyH_take (i := 22) (v := undef) rfl (by kernel_rfl) (by kernel_rfl) (by kernel_rfl) (fun _ _ _ h => h) (Or.inr ⟨by rfl, rfl⟩) (by assumption) ?_; (try simp only [Act.put, List.getElem_toArray, List.getElem_cons_succ, List.getElem_cons_zero, List.setIfInBounds_toArray, List.set_cons_zero, List.set_cons_succ])
            refine wpAnyH_take (i := 23) (v := undef) rfl (by kernel_rfl) (by kernel_rfl) (by kernel_rfl) (fun _ _ _ h => h) (Or.inr ⟨by rfl, rfl⟩) (by assumption) ?_; (try simp only [Act.put, List.getElem_toArray, List.getElem_cons_succ, List.getElem_cons_zero, List.setIfInBounds_toArray, List.set_cons_zero, List.set_cons_succ])
            refine wpAnyH_take (i := 24) (v := undef) rfl (by kernel_rfl) (by kernel_rfl) (by kernel_rfl) (fun _ _ _ h => h) (Or.inr ⟨by rfl, rfl⟩) (by assumption) ?_; (try simp only [Act.put, List.getElem_toArray, List.getElem_cons_succ, List.getElem_cons_zero, List.setIfInBounds_toArray, List.set_cons_zero, List.set_cons_succ])
            refine wpAnyH_take (i := 25) (v := undef) rfl (by kernel_rfl) (by kernel_rfl) (by kernel_rfl) (fun _ _ _ h => h) (Or.inr ⟨by rfl, rfl⟩) (by assumption) ?_; (try simp only [Act.put, List.getElem_toArray, List.getElem_cons_succ, List.getElem_cons_zero, List.setIfInBounds_toArray, List.set_cons_zero, List.set_cons_succ])
            (refine wpAnyH_take (i := 26) (v := ?_) rfl (by kernel_rfl) (by kernel_rfl) (by kernel_rfl) (fun _ _ _ h => h) (Or.inl ⟨by rfl, ?rt⟩) (by assumption) ?_; case rt => (intro w hSw; (try dsimp only at hSw); go_simp; (try with_reducible rfl))); (try simp only [Act.put, List.getElem_toArray, List.getElem_cons_succ, List.getElem_cons_zero, List.setIfInBounds_toArray, List.set_cons_zero, List.set_cons_succ])
            (refine wpAnyH_take (i := 27) (v := ?_) rfl (by kernel_rfl) (by kernel_rfl) (by kernel_rfl) (fun _ _ _ h => h) (Or.inl ⟨by rfl, ?rt⟩) (by assumption) ?_; case rt => (intro w hSw; (try dsimp only at hSw); go_simp; (try with_reducible rfl))); (try simp only [Act.put, List.getElem_toArray, List.getElem_cons_succ, List.getElem_cons_zero, List.setIfInBounds_toArray, List.set_cons_zero, List.set_cons_succ])
            (refine wpAnyH_take (i := 28) (v := ?_) rfl (by kernel_rfl) (by kernel_rfl) (by kernel_rfl) (fun _ _ _ h => h) (Or.inl ⟨by rfl, ?rt⟩) (by assumption) ?_; case rt => (intro w hSw; (try dsimp only at hSw); go_simp; (try with_reducible rfl))); (try simp only [Act.put, List.getElem_toArray, List.getElem_cons_succ, List.getElem_cons_zero, List.setIfInBounds_toArray, List.set_cons_zero, List.set_cons_succ])
            refine wpAnyH_done (by kernel_rfl) ?_ _
            have g2 := hHeld.1
            clear hHeld hA1 hA2 hjz hB1 hC1 hC2 hlt hjk q1 q2 q3 t1 t2
            go_wp2_with fail
            obtain ⟨W2, hW2⟩ : ∃ W2, W2 = wr.drew := ⟨_, rfl⟩
            rw [← hW2] at g2 ⊢
            clear hW2
            have b2 : RowKit.Below wo.heap.size wo W2 := Bt HB2.out g2
            have hgo2 : go < W2.heap.size := Bl b2 hglo
            have hgf2 : gf < W2.heap.size := Bl b2 hglf
            have hbW2 : bb < W2.heap.size := Bl b2 hwr1
            have B2 := Lib.hid (Bt HBM.out b2)
            have O2 := Lib.hid (row_below OM.out b2)
            have F2 := Lib.hid (row_below FM.out b2)
            have CO2 := Lib.hid (fun j' u (hu : (flat encH O)[j']? = some u) => Bc b2 hglo (HCO.out j' u hu))
            obtain ⟨d1, d2, _, _, _, _⟩ := cells6 (blk_below HX.out b2)
            have SLD := Lib.hid (fun W (hb : RowKit.Below W2.heap.size W2 W) => (show Sl encH W (.slice (if capo = j then some ⟨go, 0, none⟩ else some ⟨go, j * 2, none⟩) (k - j) (capo - j)) (O.drop j) by
              have hol := HOL.out
              by_cases hjc2 : j < O.length
              · rw [if_neg (by omega)]
                have := sl_drop lenH (w := W) j (by omega : j ≤ O.length) (by omega) hcmo (Bl hb hgo2) (fun j' u hu => Bc hb hgo2 (CO2.out j' u hu))
                rwa [Nat.zero_add, hol] at this
              · exact ⟨_, capo - j, by rw [List.length_drop, hol], by rw [List.length_drop]; omega, by omega, fun h => absurd h (by rw [List.length_drop]; omega)⟩))
            have A3 := Lib.hid (Ba (Bd (Below.refl _ W2)) (.cells #[.int .i64 x1, .int .i64 x2] 42))
            have O3 := Lib.hid (show (W2.drew.alloc (.cells #[.int .i64 x1, .int .i64 x2] 42)).ownsRow W2.heap.size 42 2 (.slice (some ⟨W2.heap.size, 0, none⟩) 1 1) 1 (flat encH [(x1, x2)]) from World.ownsRow_lit W2.drew #[.int .i64 x1, .int .i64 x2] 1 (Nat.le_refl _) (by unfold maxLen; omega) rfl)
            have hjc : j ≤ capo := by omega
            clear b2 g2
            go_region_law (first
              | (refine step_app2 apH rfl (.tmp 60) (.tmp 63) rfl W2.heap.size (by rfl) (by rfl) O3.out rfl (SLD.out _ A3.out) (by have := HOL.out; first | (simp; done) | (simp; omega)) A3.out.size ?_; intro v1 w3 hown1 hgrow1 hat1 hnil1; have b3 := grownB A3.out O3.out hgrow1; have B3 := Lib.hid (Bt B2.out b3); have S3 := Lib.hid (row_sl lenH hown1 (by first | (simp; done) | (simp; omega))); have O5 := Lib.hid (row_front lenH (row_below O2.out b3) HOL.out.symm j (by omega)); have F5 := Lib.hid (row_below F2.out b3); clear hown1 hgrow1 hat1 hnil1 b3)
              | (refine step_app2 apH rfl (.tmp 57) (.tmp 64) rfl wq.heap.size (by rfl) (by rfl) O5.out (by have := HOL.out; first | (simp; done) | (simp; omega)) S3.out (by have := HOL.out; first | (simp; done) | (simp; omega)) B3.out.size ?_; intro v2 w4 hown2 hgrow2 hat2 hnil2))
            have e1 : O.take j ++ ([(x1, x2)] ++ O.drop j) = O' := by rw [KH.out]; exact HOE.out.symm
            rw [e1] at hown2
            have hol' : O'.length = k + 1 := by rw [← e1]; have := HOL.out; simp; omega
            rw [hol'] at hown2
            have R4 := Lib.hid hown2
            have B4 := Lib.hid (show RowKit.Below wq.heap.size wq w4 from grownB B3.out O5.out hgrow2)
            have V4 := Lib.hid (show v2 ≠ .slice none 0 0 from fun h => by
              obtain ⟨p, c, e, _, _, _⟩ := row_val hown2
              rw [e] at h
              simp only [Value.slice.injEq] at h
              omega)
            have F7 := Lib.hid (row_keep F5.out (fun g hg => hgrow2.block g (row_lt F5.out hg) (fun e => by
              simp only [Value.ownBlock, Option.some.injEq] at hg e
              exact HNE.out (by omega))))
            have N4 := Lib.hid (show ∀ g, v2.ownBlock = some g → g ≠ gf from fun g hg e => by
              obtain ⟨c1, k1⟩ := row_type hown2 hg
              obtain ⟨c2, k2⟩ := row_type F7.out (g := gf) rfl
              rw [e, k2] at k1
              simp at k1)
            clear hown2 hgrow2 hat2 hnil2 e1 hol' O2 A3 O3 SLD CO2 B2 F2 d1 d2 hbW2 hgo2 hgf2 O5 S3 F5 B3
            have hgf4 : gf < w4.heap.size := row_lt F7.out rfl
            have CF4 := Lib.hid (row_cellsN F7.out)
            have SLF := Lib.hid (fun W (hb : RowKit.Below w4.heap.size w4 W) => (show Sl encI W (.slice (if capf = j then some ⟨gf, 0, none⟩ else some ⟨gf, j, none⟩) (k - j) (capf - j)) (Fq.drop j) by
              have hol := HFL.out
              by_cases hjc2 : j < Fq.length
              · rw [if_neg (by omega)]
                have := sl_drop lenI (w := W) j (by omega : j ≤ Fq.length) (by omega) hcmf (Bl hb hgf4) (fun j' u hu => Bc hb hgf4 (CF4.out j' u hu))
                rwa [Nat.zero_add, hol, Nat.mul_one] at this
              · exact ⟨_, capf - j, by rw [List.length_drop, hol], by rw [List.length_drop]; omega, by omega, fun h => absurd h (by rw [List.length_drop]; omega)⟩))
            have A7 := Lib.hid (Ba (Bd (Below.refl _ w4)) (.cells #[.int .i64 D] 3))
            have O7 := Lib.hid (show (w4.drew.alloc (.cells #[.int .i64 D] 3)).ownsRow w4.heap.size 3 1 (.slice (some ⟨w4.heap.size, 0, none⟩) 1 1) 1 (flat encI [D]) from World.ownsRow_lit w4.drew #[.int .i64 D] 1 (Nat.le_refl _) (by unfold maxLen; omega) rfl)
            have hjf : j ≤ capf := by omega
            generalize (if capo = j then (some ⟨go, 0, none⟩ : Option Addr) else some ⟨go, j * 2, none⟩) = az
            go_wp2_with fail
            go_region_law (first
              | (refine step_app2 apI rfl (.tmp 70) (.tmp 73) rfl w4.heap.size (by rfl) (by rfl) O7.out rfl (SLF.out _ A7.out) (by have := HFL.out; first | (simp; done) | (simp; omega)) A7.out.size ?_; intro v5 w5 hown5 hgrow5 hat5 hnil5; have b5 := grownB A7.out O7.out hgrow5; have B5 := Lib.hid (Bt B4.out b5); have S5 := Lib.hid (row_sl lenI hown5 (by first | (simp; done) | (simp; omega))); have F9 := Lib.hid (row_front lenI (row_below F7.out b5) HFL.out.symm j (by omega)); have R5 := Lib.hid (row_below R4.out b5); clear hown5 hgrow5 hat5 hnil5 b5)
              | (refine step_app2 apI rfl (.tmp 68) (.tmp 74) rfl wq.heap.size (by rfl) (by rfl) F9.out (by have := HFL.out; first | (simp; done) | (simp; omega)) S5.out (by have := HFL.out; first | (simp; done) | (simp; omega)) B5.out.size ?_; intro v6 w6 hown6 hgrow6 hat6 hnil6))
            have e2 : Fq.take j ++ ([D] ++ Fq.drop j) = F' := by rw [KH.out]; exact HFE.out.symm
            rw [e2] at hown6
            have hol2 : F'.length = k + 1 := by rw [← e2]; have := HFL.out; simp; omega
            rw [hol2] at hown6
            have R6 := Lib.hid hown6
            have B6 := Lib.hid (show RowKit.Below wq.heap.size wq w6 from grownB B5.out F9.out hgrow6)
            have V6 := Lib.hid (show v6 ≠ .slice none 0 0 from fun h => by
              obtain ⟨p, c, e, _, _, _⟩ := row_val hown6
              rw [e] at h
              simp only [Value.slice.injEq] at h
              omega)
            have R7 := Lib.hid (row_keep R5.out (fun g hg => hgrow6.block g (row_lt R5.out hg) (fun e => by
              simp only [Value.ownBlock, Option.some.injEq] at e
              exact N4.out g hg (by omega))))
            clear hown6 hgrow6 hat6 hnil6 e2 hol2 R4 F7 N4 SLF A7 O7 CF4 R5 F9 S5 B5 B4
            generalize (if capf = j then (some ⟨gf, 0, none⟩ : Option Addr) else some ⟨gf, j, none⟩) = azf
            go_wp2
            go_roundw
            case measure => simp [intOf]; omega
            case rel => exact ⟨k + 1, by go_num, by omega, B6.out, V4.out, V6.out, by rw [HOO.out]; exact R7.out, by rw [HFF.out]; exact R6.out⟩
          ·
            have he' := he.symm
            subst he'
            have hA1 : decide ((j : Int) < (k : Int)) = true := decide_eq_true (by omega)
            have hA2 : decide (j < k) = true := decide_eq_true hjk
            have hjz : (j : Int) < (k : Int) := by omega
            have hB1 : decide (D < D) = false := decide_eq_false (Int.lt_irrefl _)
            have hC1 : decide (D = D) = true := decide_eq_true rfl
            have hC2 : (D == D) = true := by simp
            have RL := Lib.hid (fun W => (rless_is hlt W).mono (fun e w' h => (show e = .returned (.bool false) ∧ RowKit.Below W.heap.size W w' from ⟨h.1, h.2.below⟩)))
            go_wp2_with fail
            refine wp_region_held_drew (S := (fun w' => Below (wr).heap.size (wr) w' ∧ ∀ b_1 o, b_1 < (wr).heap.size → w'.cell? ⟨b_1, o, none⟩ = (wr).cell? ⟨b_1, o, none⟩)) (by kernel_rfl) (keep0 _) (fun hHeld => ?_)
            (refine wpAnyH_take (i := 0) (v := ?_) rfl (by kernel_rfl) (by kernel_rfl) (by kernel_rfl) (fun _ _ _ h => h) (Or.inl ⟨by rfl, ?rt⟩) (by assumption) ?_; case rt => (intro w hSw; (try dsimp only at hSw); go_simp; (try with_reducible rfl))); (try simp only [Act.put, List.getElem_toArray, List.getElem_cons_succ, List.getElem_cons_zero, List.setIfInBounds_toArray, List.set_cons_zero, List.set_cons_succ])
            (refine wpAnyH_take (i := 1) (v := ?_) rfl (by kernel_rfl) (by kernel_rfl) (by kernel_rfl) (fun _ _ _ h => h) (Or.inl ⟨by rfl, ?rt⟩) (by assumption) ?_; case rt => (intro w hSw; (try dsimp only at hSw); go_simp; (try with_reducible rfl))); (try simp only [Act.put, List.getElem_toArray, List.getElem_cons_succ, List.getElem_cons_zero, List.setIfInBounds_toArray, List.set_cons_zero, List.set_cons_succ])
            (refine wpAnyH_take (i := 2) (v := ?_) rfl (by kernel_rfl) (by kernel_rfl) (by kernel_rfl) (fun _ _ _ h => h) (Or.inl ⟨by rfl, ?rt⟩) (by assumption) ?_; case rt => (intro w hSw; (try dsimp only at hSw); go_simp; (try with_reducible rfl))); (try simp only [Act.put, List.getElem_toArray, List.getElem_cons_succ, List.getElem_cons_zero, List.setIfInBounds_toArray, List.set_cons_zero, List.set_cons_succ])
            (refine wpAnyH_take (i := 3) (v := ?_) rfl (by kernel_rfl) (by kernel_rfl) (by kernel_rfl) (fun _ _ _ h => h) (Or.inl ⟨by rfl, ?rt⟩) (by assumption) ?_; case rt => (intro w hSw; (try dsimp only at hSw); go_simp; (try with_reducible rfl))); (try simp only [Act.put, List.getElem_toArray, List.getElem_cons_succ, List.getElem_cons_zero, List.setIfInBounds_toArray, List.set_cons_zero, List.set_cons_succ])
            (try simp only [hA1, hA2])
            (refine wpAnyH_take (i := 4) (v := ?_) rfl (by kernel_rfl) (by kernel_rfl) (by kernel_rfl) (fun _ _ _ h => h) (Or.inl ⟨by rfl, ?rt⟩) (by assumption) ?_; case rt => (intro w hSw; (try dsimp only at hSw); go_simp; (try with_reducible rfl))); (try simp only [Act.put, List.getElem_toArray, List.getElem_cons_succ, List.getElem_cons_zero, List.setIfInBounds_toArray, List.set_cons_zero, List.set_cons_succ])
            (refine wpAnyH_take (i := 5) (v := ?_) rfl (by kernel_rfl) (by kernel_rfl) (by kernel_rfl) (fun _ _ _ h => h) (Or.inl ⟨by rfl, ?rt⟩) (by assumption) ?_; case rt => (intro w hSw; (try dsimp only at hSw); go_simp; (try with_reducible rfl))); (try simp only [Act.put, List.getElem_toArray, List.getElem_cons_succ, List.getElem_cons_zero, List.setIfInBounds_toArray, List.set_cons_zero, List.set_cons_succ])
            (refine wpAnyH_take (i := 6) (v := ?_) rfl (by kernel_rfl) (by kernel_rfl) (by kernel_rfl) (fun _ _ _ h => h) (Or.inl ⟨by rfl, ?rt⟩) (by assumption) ?_; case rt => (intro w hSw; (try dsimp only at hSw); go_simp; (try with_reducible rfl))); (try simp only [Act.put, List.getElem_toArray, List.getElem_cons_succ, List.getElem_cons_zero, List.setIfInBounds_toArray, List.set_cons_zero, List.set_cons_succ])
            (refine wpAnyH_take (i := 7) (v := ?_) rfl (by kernel_rfl) (by kernel_rfl) (by kernel_rfl) (fun _ _ _ h => h) (Or.inl ⟨by rfl, ?rt⟩) (by assumption) ?_; case rt => (intro w hSw; (try dsimp only at hSw); go_simp; (try with_reducible rfl))); (try simp only [Act.put, List.getElem_toArray, List.getElem_cons_succ, List.getElem_cons_zero, List.setIfInBounds_toArray, List.set_cons_zero, List.set_cons_succ])
            (refine wpAnyH_take (i := 8) (v := ?_) rfl (by kernel_rfl) (by kernel_rfl) (by kernel_rfl) (fun _ _ _ h => h) (Or.inl ⟨by rfl, ?rt⟩) (by assumption) ?_; case rt => (intro w hSw; (try dsimp only at hSw); go_simp; (try with_reducible rfl))); (try simp only [Act.put, List.getElem_toArray, List.getElem_cons_succ, List.getElem_cons_zero, List.setIfInBounds_toArray, List.set_cons_zero, List.set_cons_succ])
            (refine wpAnyH_take (i := 9) (v := ?_) rfl (by kernel_rfl) (by kernel_rfl) (by kernel_rfl) (fun _ _ _ h => h) (Or.inl ⟨by rfl, ?rt⟩) (by assumption) ?_; case rt => (intro w hSw; (try dsimp only at hSw); go_simp; (try with_reducible rfl))); (try simp only [Act.put, List.getElem_toArray, List.getElem_cons_succ, List.getElem_cons_zero, List.setIfInBounds_toArray, List.set_cons_zero, List.set_cons_succ])
            (refine wpAnyH_take (i := 10) (v := ?_) rfl (by kernel_rfl) (by kernel_rfl) (by kernel_rfl) (fun _ _ _ h => h) (Or.inl ⟨by rfl, ?rt⟩) (by assumption) ?_; case rt => (intro w hSw; (try dsimp only at hSw); go_simp; (try with_reducible rfl))); (try simp only [Act.put, List.getElem_toArray, List.getElem_cons_succ, List.getElem_cons_zero, List.setIfInBounds_toArray, List.set_cons_zero, List.set_cons_succ])
            (try simp only [hB1])
            (refine wpAnyH_take (i := 11) (v := ?_) rfl (by kernel_rfl) (by kernel_rfl) (by kernel_rfl) (fun _ _ _ h => h) (Or.inl ⟨by rfl, ?rt⟩) (by assumption) ?_; case rt => (intro w hSw; (try dsimp only at hSw); go_simp; (try with_reducible rfl))); (try simp only [Act.put, List.getElem_toArray, List.getElem_cons_succ, List.getElem_cons_zero, List.setIfInBounds_toArray, List.set_cons_zero, List.set_cons_succ])
            (refine wpAnyH_take (i := 12) (v := ?_) rfl (by kernel_rfl) (by kernel_rfl) (by kernel_rfl) (fun _ _ _ h => h) (Or.inl ⟨by rfl, ?rt⟩) (by assumption) ?_; case rt => (intro w hSw; (try dsimp only at hSw); go_simp; (try with_reducible rfl))); (try simp only [Act.put, List.getElem_toArray, List.getElem_cons_succ, List.getElem_cons_zero, List.setIfInBounds_toArray, List.set_cons_zero, List.set_cons_succ])
            (refine wpAnyH_take (i := 13) (v := ?_) rfl (by kernel_rfl) (by kernel_rfl) (by kernel_rfl) (fun _ _ _ h => h) (Or.inl ⟨by rfl, ?rt⟩) (by assumption) ?_; case rt => (intro w hSw; (try dsimp only at hSw); go_simp; (try with_reducible rfl))); (try simp only [Act.put, List.getElem_toArray, List.getElem_cons_succ, List.getElem_cons_zero, List.setIfInBounds_toArray, List.set_cons_zero, List.set_cons_succ])
            (refine wpAnyH_take (i := 14) (v := ?_) rfl (by kernel_rfl) (by kernel_rfl) (by kernel_rfl) (fun _ _ _ h => h) (Or.inl ⟨by rfl, ?rt⟩) (by assumption) ?_; case rt => (intro w hSw; (try dsimp only at hSw); go_simp; (try with_reducible rfl))); (try simp only [Act.put, List.getElem_toArray, List.getElem_cons_succ, List.getElem_cons_zero, List.setIfInBounds_toArray, List.set_cons_zero, List.set_cons_succ])
            (refine wpAnyH_take (i := 15) (v := ?_) rfl (by kernel_rfl) (by kernel_rfl) (by kernel_rfl) (fun _ _ _ h => h) (Or.inl ⟨by rfl, ?rt⟩) (by assumption) ?_; case rt => (intro w hSw; (try dsimp only at hSw); go_simp; (try with_reducible rfl))); (try simp only [Act.put, List.getElem_toArray, List.getElem_cons_succ, List.getElem_cons_zero, List.setIfInBounds_toArray, List.set_cons_zero, List.set_cons_succ])
            (refine wpAnyH_take (i := 16) (v := ?_) rfl (by kernel_rfl) (by kernel_rfl) (by kernel_rfl) (fun _ _ _ h => h) (Or.inl ⟨by rfl, ?rt⟩) (by assumption) ?_; case rt => (intro w hSw; (try dsimp only at hSw); go_simp; (try with_reducible rfl))); (try simp only [Act.put, List.getElem_toArray, List.getElem_cons_succ, List.getElem_cons_zero, List.setIfInBounds_toArray, List.set_cons_zero, List.set_cons_succ])
            (refine wpAnyH_take (i := 17) (v := ?_) rfl (by kernel_rfl) (by kernel_rfl) (by kernel_rfl) (fun _ _ _ h => h) (Or.inl ⟨by rfl, ?rt⟩) (by assumption) ?_; case rt => (intro w hSw; (try dsimp only at hSw); go_simp; (try with_reducible rfl))); (try simp only [Act.put, List.getElem_toArray, List.getElem_cons_succ, List.getElem_cons_zero, List.setIfInBounds_toArray, List.set_cons_zero, List.set_cons_succ])
            (try simp only [hC1, hC2])
            (refine wpAnyH_take (i := 18) (v := ?_) rfl (by kernel_rfl) (by kernel_rfl) (by kernel_rfl) (fun _ _ _ h => h) (Or.inl ⟨by rfl, ?rt⟩) (by assumption) ?_; case rt => (intro w hSw; (try dsimp only at hSw); go_simp; (try with_reducible rfl))); (try simp only [Act.put, List.getElem_toArray, List.getElem_cons_succ, List.getElem_cons_zero, List.setIfInBounds_toArray, List.set_cons_zero, List.set_cons_succ])
            (refine wpAnyH_take (i := 19) (v := ?_) rfl (by kernel_rfl) (by kernel_rfl) (by kernel_rfl) (fun _ _ _ h => h) (Or.inl ⟨by rfl, ?rt⟩) (by assumption) ?_; case rt => (intro w hSw; (try dsimp only at hSw); go_simp; (try with_reducible rfl))); (try simp only [Act.put, List.getElem_toArray, List.getElem_cons_succ, List.getElem_cons_zero, List.setIfInBounds_toArray, List.set_cons_zero, List.set_cons_succ])
            (refine wpAnyH_take (i := 20) (v := ?_) rfl (by kernel_rfl) (by kernel_rfl) (by kernel_rfl) (fun _ _ _ h => h) (Or.inl ⟨by rfl, ?rt⟩) (by assumption) ?_; case rt => (intro w hSw; (try dsimp only at hSw); go_simp; (try with_reducible rfl))); (try simp only [Act.put, List.getElem_toArray, List.getElem_cons_succ, List.getElem_cons_zero, List.setIfInBounds_toArray, List.set_cons_zero, List.set_cons_succ])
            (refine wpAnyH_take (i := 21) (v := ?_) rfl (by kernel_rfl) (by kernel_rfl) (by kernel_rfl) (fun _ _ _ h => h) (Or.inl ⟨by rfl, ?rt⟩) (by assumption) ?_; case rt => (intro w hSw; (try dsimp only at hSw); go_simp; (try with_reducible rfl))); (try simp only [Act.put, List.getElem_toArray, List.getElem_cons_succ, List.getElem_cons_zero, List.setIfInBounds_toArray, List.set_cons_zero, List.set_cons_succ])
            (refine wpAnyH_take (i := 22) (v := ?_) rfl (by kernel_rfl) (by kernel_rfl) (by kernel_rfl) (fun _ _ _ h => h) (Or.inl ⟨by rfl, ?rt⟩) (by assumption) ?_; case rt => (intro w hSw; (try dsimp only at hSw); go_simp; (try with_reducible rfl))); (try simp only [Act.put, List.getElem_toArray, List.getElem_cons_succ, List.getElem_cons_zero, List.setIfInBounds_toArray, List.set_cons_zero, List.set_cons_succ])
            (refine wpAnyH_take (i := 23) (v := ?_) rfl (by kernel_rfl) (by kernel_rfl) (by kernel_rfl) (fun _ _ _ h => h) (Or.inl ⟨by rfl, ?rt⟩) (by assumption) ?_; case rt => (intro w hSw; (try dsimp only at hSw); go_simp; (try with_reducible rfl))); (try simp only [Act.put, List.getElem_toArray, List.getElem_cons_succ, List.getElem_cons_zero, List.setIfInBounds_toArray, List.set_cons_zero, List.set_cons_succ])
            (refine wpAnyH_take (i := 24) (v := ?_) rfl (by kernel_rfl) (by kernel_rfl) (by kernel_rfl) (fun _ _ _ h => h) (Or.inl ⟨by rfl, ?rt⟩) (by assumption) ?_; case rt => (intro w hSw; (try dsimp only at hSw); go_simp; (try with_reducible rfl))); (try simp only [Act.put, List.getElem_toArray, List.getElem_cons_succ, List.getElem_cons_zero, List.setIfInBounds_toArray, List.set_cons_zero, List.set_cons_succ])
            (refine wpAnyH_ready (rs := [25]) (by kernel_rfl) (by simp) ?_; refine AllReadyH.cons rfl (fun K hK => ?_) AllReadyH.nil; go_simp; refine (RL.out _).mono ?_; rintro e w1 ⟨rfl, hb1⟩; refine hK.out _ _ (keepB (by assumption) hb1) (fun hHeld => ?_); clear hK K); (try simp only [Act.put, List.getElem_toArray, List.getElem_cons_succ, List.getElem_cons_zero, List.setIfInBounds_toArray, List.set_cons_zero, List.set_cons_succ])
            (refine wpAnyH_take (i := 26) (v := ?_) rfl (by kernel_rfl) (by kernel_rfl) (by kernel_rfl) (fun _ _ _ h => h) (Or.inl ⟨by rfl, ?rt⟩) (by assumption) ?_; case rt => (intro w hSw; (try dsimp only at hSw); go_simp; (try with_reducible rfl))); (try simp only [Act.put, List.getElem_toArray, List.getElem_cons_succ, List.getElem_cons_zero, List.setIfInBounds_toArray, List.set_cons_zero, List.set_cons_succ])
            (refine wpAnyH_take (i := 27) (v := ?_) rfl (by kernel_rfl) (by kernel_rfl) (by kernel_rfl) (fun _ _ _ h => h) (Or.inl ⟨by rfl, ?rt⟩) (by assumption) ?_; case rt => (intro w hSw; (try dsimp only at hSw); go_simp; (try with_reducible rfl))); (try simp only [Act.put, List.getElem_toArray, List.getElem_cons_succ, List.getElem_cons_zero, List.setIfInBounds_toArray, List.set_cons_zero, List.set_cons_succ])
            (refine wpAnyH_take (i := 28) (v := ?_) rfl (by kernel_rfl) (by kernel_rfl) (by kernel_rfl) (fun _ _ _ h => h) (Or.inl ⟨by rfl, ?rt⟩) (by assumption) ?_; case rt => (intro w hSw; (try dsimp only at hSw); go_simp; (try with_reducible rfl))); (try simp only [Act.put, List.getElem_toArray, List.getElem_cons_succ, List.getElem_cons_zero, List.setIfInBounds_toArray, List.set_cons_zero, List.set_cons_succ])
            refine wpAnyH_done (by kernel_rfl) ?_ _
            have g2 := hHeld.1
            clear hHeld hA1 hA2 hjz hB1 hC1 hC2 hlt hjk q1 q2 q3 RL t1 t2
            go_wp2_with fail
            obtain ⟨W2, rfl⟩ : ∃ W2, W2 = w1 := ⟨_, rfl⟩
            have b2 : RowKit.Below wo.heap.size wo W2 := Bt HB2.out g2
            have hgo2 : go < W2.heap.size := Bl b2 hglo
            have hgf2 : gf < W2.heap.size := Bl b2 hglf
            have hbW2 : bb < W2.heap.size := Bl b2 hwr1
            have B2 := Lib.hid (Bt HBM.out b2)
            have O2 := Lib.hid (row_below OM.out b2)
            have F2 := Lib.hid (row_below FM.out b2)
            have CO2 := Lib.hid (fun j' u (hu : (flat encH O)[j']? = some u) => Bc b2 hglo (HCO.out j' u hu))
            obtain ⟨d1, d2, _, _, _, _⟩ := cells6 (blk_below HX.out b2)
            have SLD := Lib.hid (fun W (hb : RowKit.Below W2.heap.size W2 W) => (show Sl encH W (.slice (if capo = j then some ⟨go, 0, none⟩ else some ⟨go, j * 2, none⟩) (k - j) (capo - j)) (O.drop j) by
              have hol := HOL.out
              by_cases hjc2 : j < O.length
              · rw [if_neg (by omega)]
                have := sl_drop lenH (w := W) j (by omega : j ≤ O.length) (by omega) hcmo (Bl hb hgo2) (fun j' u hu => Bc hb hgo2 (CO2.out j' u hu))
                rwa [Nat.zero_add, hol] at this
              · exact ⟨_, capo - j, by rw [List.length_drop, hol], by rw [List.length_drop]; omega, by omega, fun h => absurd h (by rw [List.length_drop]; omega)⟩))
            have A3 := Lib.hid (Ba (Bd (Below.refl _ W2)) (.cells #[.int .i64 x1, .int .i64 x2] 42))
            have O3 := Lib.hid (show (W2.drew.alloc (.cells #[.int .i64 x1, .int .i64 x2] 42)).ownsRow W2.heap.size 42 2 (.slice (some ⟨W2.heap.size, 0, none⟩) 1 1) 1 (flat encH [(x1, x2)]) from World.ownsRow_lit W2.drew #[.int .i64 x1, .int .i64 x2] 1 (Nat.le_refl _) (by unfold maxLen; omega) rfl)
            have hjc : j ≤ capo := by omega
            clear b2 g2
            go_region_law (first
              | (refine step_app2 apH rfl (.tmp 60) (.tmp 63) rfl W2.heap.size (by rfl) (by rfl) O3.out rfl (SLD.out _ A3.out) (by have := HOL.out; first | (simp; done) | (simp; omega)) A3.out.size ?_; intro v1 w3 hown1 hgrow1 hat1 hnil1; have b3 := grownB A3.out O3.out hgrow1; have B3 := Lib.hid (Bt B2.out b3); have S3 := Lib.hid (row_sl lenH hown1 (by first | (simp; done) | (simp; omega))); have O5 := Lib.hid (row_front lenH (row_below O2.out b3) HOL.out.symm j (by omega)); have F5 := Lib.hid (row_below F2.out b3); clear hown1 hgrow1 hat1 hnil1 b3)
              | (refine step_app2 apH rfl (.tmp 57) (.tmp 64) rfl wq.heap.size (by rfl) (by rfl) O5.out (by have := HOL.out; first | (simp; done) | (simp; omega)) S3.out (by have := HOL.out; first | (simp; done) | (simp; omega)) B3.out.size ?_; intro v2 w4 hown2 hgrow2 hat2 hnil2))
            have e1 : O.take j ++ ([(x1, x2)] ++ O.drop j) = O' := by rw [KH.out]; exact HOE.out.symm
            rw [e1] at hown2
            have hol' : O'.length = k + 1 := by rw [← e1]; have := HOL.out; simp; omega
            rw [hol'] at hown2
            have R4 := Lib.hid hown2
            have B4 := Lib.hid (show RowKit.Below wq.heap.size wq w4 from grownB B3.out O5.out hgrow2)
            have V4 := Lib.hid (show v2 ≠ .slice none 0 0 from fun h => by
              obtain ⟨p, c, e, _, _, _⟩ := row_val hown2
              rw [e] at h
              simp only [Value.slice.injEq] at h
              omega)
            have F7 := Lib.hid (row_keep F5.out (fun g hg => hgrow2.block g (row_lt F5.out hg) (fun e => by
              simp only [Value.ownBlock, Option.some.injEq] at hg e
              exact HNE.out (by omega))))
            have N4 := Lib.hid (show ∀ g, v2.ownBlock = some g → g ≠ gf from fun g hg e => by
              obtain ⟨c1, k1⟩ := row_type hown2 hg
              obtain ⟨c2, k2⟩ := row_type F7.out (g := gf) rfl
              rw [e, k2] at k1
              simp at k1)
            clear hown2 hgrow2 hat2 hnil2 e1 hol' O2 A3 O3 SLD CO2 B2 F2 d1 d2 hbW2 hgo2 hgf2 O5 S3 F5 B3
            have hgf4 : gf < w4.heap.size := row_lt F7.out rfl
            have CF4 := Lib.hid (row_cellsN F7.out)
            have SLF := Lib.hid (fun W (hb : RowKit.Below w4.heap.size w4 W) => (show Sl encI W (.slice (if capf = j then some ⟨gf, 0, none⟩ else some ⟨gf, j, none⟩) (k - j) (capf - j)) (Fq.drop j) by
              have hol := HFL.out
              by_cases hjc2 : j < Fq.length
              · rw [if_neg (by omega)]
                have := sl_drop lenI (w := W) j (by omega : j ≤ Fq.length) (by omega) hcmf (Bl hb hgf4) (fun j' u hu => Bc hb hgf4 (CF4.out j' u hu))
                rwa [Nat.zero_add, hol, Nat.mul_one] at this
              · exact ⟨_, capf - j, by rw [List.length_drop, hol], by rw [List.length_drop]; omega, by omega, fun h => absurd h (by rw [List.length_drop]; omega)⟩))
            have A7 := Lib.hid (Ba (Bd (Below.refl _ w4)) (.cells #[.int .i64 D] 3))
            have O7 := Lib.hid (show (w4.drew.alloc (.cells #[.int .i64 D] 3)).ownsRow w4.heap.size 3 1 (.slice (some ⟨w4.heap.size, 0, none⟩) 1 1) 1 (flat encI [D]) from World.ownsRow_lit w4.drew #[.int .i64 D] 1 (Nat.le_refl _) (by unfold maxLen; omega) rfl)
            have hjf : j ≤ capf := by omega
            generalize (if capo = j then (some ⟨go, 0, none⟩ : Option Addr) else some ⟨go, j * 2, none⟩) = az
            go_wp2_with fail
            go_region_law (first
              | (refine step_app2 apI rfl (.tmp 70) (.tmp 73) rfl w4.heap.size (by rfl) (by rfl) O7.out rfl (SLF.out _ A7.out) (by have := HFL.out; first | (simp; done) | (simp; omega)) A7.out.size ?_; intro v5 w5 hown5 hgrow5 hat5 hnil5; have b5 := grownB A7.out O7.out hgrow5; have B5 := Lib.hid (Bt B4.out b5); have S5 := Lib.hid (row_sl lenI hown5 (by first | (simp; done) | (simp; omega))); have F9 := Lib.hid (row_front lenI (row_below F7.out b5) HFL.out.symm j (by omega)); have R5 := Lib.hid (row_below R4.out b5); clear hown5 hgrow5 hat5 hnil5 b5)
              | (refine step_app2 apI rfl (.tmp 68) (.tmp 74) rfl wq.heap.size (by rfl) (by rfl) F9.out (by have := HFL.out; first | (simp; done) | (simp; omega)) S5.out (by have := HFL.out; first | (simp; done) | (simp; omega)) B5.out.size ?_; intro v6 w6 hown6 hgrow6 hat6 hnil6))
            have e2 : Fq.take j ++ ([D] ++ Fq.drop j) = F' := by rw [KH.out]; exact HFE.out.symm
            rw [e2] at hown6
            have hol2 : F'.length = k + 1 := by rw [← e2]; have := HFL.out; simp; omega
            rw [hol2] at hown6
            have R6 := Lib.hid hown6
            have B6 := Lib.hid (show RowKit.Below wq.heap.size wq w6 from grownB B5.out F9.out hgrow6)
            have V6 := Lib.hid (show v6 ≠ .slice none 0 0 from fun h => by
              obtain ⟨p, c, e, _, _, _⟩ := row_val hown6
              rw [e] at h
              simp only [Value.slice.injEq] at h
              omega)
            have R7 := Lib.hid (row_keep R5.out (fun g hg => hgrow6.block g (row_lt R5.out hg) (fun e => by
              simp only [Value.ownBlock, Option.some.injEq] at e
              exact N4.out g hg (by omega))))
            clear hown6 hgrow6 hat6 hnil6 e2 hol2 R4 F7 N4 SLF A7 O7 CF4 R5 F9 S5 B5 B4
            generalize (if capf = j then (some ⟨gf, 0, none⟩ : Option Addr) else some ⟨gf, j, none⟩) = azf
            go_wp2
            go_roundw
            case measure => simp [intOf]; omega
            case rel => exact ⟨k + 1, by go_num, by omega, B6.out, V4.out, V6.out, by rw [HOO.out]; exact R7.out, by rw [HFF.out]; exact R6.out⟩
    · have hin : k = B.length := by omega
      subst hin
      have HO2 := Lib.hid HO.out
      rw [List.take_length] at HO2
      have hS := Lib.hid (row_sl lenH HO2.out (by unfold oL; rw [List.length_map, farL_len HONE.out]))
      clear HO HO2
      go_wp2
      go_ret
      exact ⟨_, rfl, hS.out, Bt H1.out.2.2 HB.out⟩
end Go.Proofs.YtahichjiphjapaaGreatDoor
