import Derived.Test.YtahichjiphjapaaGreatDoorZ2
import Derived.Test.YtahichjiphjapaaGreatDoorZ0

/-
  The reference's PutHandle and Handles: a rising list with a handle; handles rising, each once.
-/
namespace Go.Proofs.YtahichjiphjapaaGreatDoor
set_option linter.unusedSimpArgs false
set_option linter.unusedVariables false
open Go.RowKit Go.Sort Go.Lib Go.Shelf

theorem headLess_step {α : Type} [Inhabited α] {lt : α → α → Bool} {x : α} : ∀ {l : List α} {k : Nat}, k ≤ headLess lt x l → k < l.length → (lt l[k]! x = true → k + 1 ≤ headLess lt x l) ∧ (lt l[k]! x = false → k = headLess lt x l)
  | [], _, _, h => absurd h (Nat.not_lt_zero _)
  | y :: r, 0, _, _ => by
    unfold headLess
    constructor
    · intro h; simp at h; simp [h]
    · intro h; simp at h; simp [h]
  | y :: r, k + 1, h1, h2 => by
    unfold headLess at h1 ⊢
    by_cases hy : lt y x = true
    · rw [if_pos hy] at h1 ⊢
      have ih := headLess_step (lt := lt) (x := x) (l := r) (k := k) (by omega) (by simpa using h2)
      constructor
      · intro h; have := ih.1 (by simpa using h); omega
      · intro h; have := ih.2 (by simpa using h); omega
    · rw [if_neg hy] at h1; omega

set_option maxHeartbeats 2000000 in
set_option maxRecDepth 100000 in
/-- The reference's PutHandle. -/
theorem put_call (base : Nat) (l : List Hd) (v : Value) (x1 x2 : Int) (w : World) (hrow : w.ownsRow base 42 2 v l.length (flat encH l)) (hv : v ≠ .slice none 0 0) (hbase : base ≤ w.heap.size) (hlen : l.length ≤ 100000) :
    Calls Tryz.prog 61 #[v, .agg #[.int .i64 x1, .int .i64 x2]] w fun e w' => ∃ v', e = .returned v' ∧ w'.ownsRow base 42 2 v' (put ltH (x1, x2) l).length (flat encH (put ltH (x1, x2) l)) ∧ v' ≠ .slice none 0 0 ∧ Below w.heap.size w w' := by
  have hsl := row_sl lenH hrow rfl
  obtain ⟨g, cap, rfl, hbg, hgl, hlc, hcm⟩ := row_form hrow hv
  have hcells : ∀ j u, (flat encH l)[j]? = some u → w.cell? ⟨g, 0 + j, none⟩ = some u := by
    intro j u hu
    have hp : 0 < l.length := by
      rcases Nat.eq_zero_or_pos l.length with h | h
      · rw [List.length_eq_zero_iff.1 h] at hu; simp [flat] at hu
      · exact h
    obtain ⟨p, c, e, _, _, hX⟩ := hsl
    simp only [Value.slice.injEq] at e
    obtain ⟨rfl, _, rfl⟩ := e
    obtain ⟨g', o, e, _, h⟩ := hX hp
    simp only [Option.some.injEq, Addr.mk.injEq, and_true] at e
    obtain ⟨rfl, rfl⟩ := e
    exact h j u hu
  have hpe : put ltH (x1, x2) l = if l[headLess ltH (x1, x2) l]? = some (x1, x2) then l else l.take (headLess ltH (x1, x2) l) ++ (x1, x2) :: l.drop (headLess ltH (x1, x2) l) := put_eq _ _
  have hml : cap ≤ 9223372036854775807 := by unfold maxLen at hcm; omega
  obtain ⟨H, hH⟩ : ∃ H, H = headLess ltH (x1, x2) l := ⟨_, rfl⟩
  rw [← hH] at hpe
  have hHl : H ≤ l.length := by rw [hH]; exact headLess_le _ _
  have PE := Lib.hid hpe
  have HC := Lib.hid hcells
  have HR := Lib.hid hrow
  have EH := Lib.hid hH
  have HCM := Lib.hid hcm
  clear hsl hrow hv hpe hcells hH hcm
  have eq1 := eqH_run
  have gd1 := gdH_run
  have mixed : Tryz.prog.follows .mixedOrders = true := by kernel_rfl
  go_enter Tryz.func61, Tryz.ntmps61
  go_wp2
  go_loopw [5] (fun i wr => ∃ k : Nat, k ≤ H ∧ i = .int .i64 k ∧ Gr (w.alloc (.cells #[.int .i64 x1, .int .i64 x2] 42)) wr) (fun i _ => H - (intOf i).toNat)
  case atStart => exact ⟨0, Nat.zero_le _, rfl, (by repeat (first | with_reducible exact Gr.refl _ | with_reducible assumption | with_reducible apply Gr.alloc | with_reducible apply Gr.drewN | with_reducible apply Gr.drew | with_reducible apply Gr.grow | (with_reducible refine Gr.trans ?_ (by assumption))))⟩
  case round =>
    obtain ⟨k, hk, rfl, hg⟩ := hrel
    have hb1 := hg.below
    have hlw : w.heap.size < wr.heap.size := by have := hb1.size; simp at this; omega
    have hgw : g < wr.heap.size := by omega
    have d1 : wr.cell? ⟨w.heap.size, 0, none⟩ = some (.int .i64 x1) := (hb1.cell (p := ⟨w.heap.size, 0, none⟩) (by simp)).trans (by simp)
    have d2 : wr.cell? ⟨w.heap.size, 1, none⟩ = some (.int .i64 x2) := (hb1.cell (p := ⟨w.heap.size, 1, none⟩) (by simp)).trans (by simp)
    have cat : ∀ i, i < l.length → wr.cell? ⟨g, 0 + i * 2, none⟩ = some (.int .i64 l[i]!.1) ∧ wr.cell? ⟨g, 0 + i * 2 + 1, none⟩ = some (.int .i64 l[i]!.2) := fun i hi => by
      obtain ⟨c1, c2⟩ := atH HC.out hi
      refine ⟨(hb1.cell (p := ⟨g, 0 + i * 2, none⟩) (by simp; omega)).trans ?_, (hb1.cell (p := ⟨g, 0 + i * 2 + 1, none⟩) (by simp; omega)).trans ?_⟩
      · rw [World.cell?_alloc_past (w := w) _ g _ hgl]; exact c1
      · rw [World.cell?_alloc_past (w := w) _ g _ hgl]; exact c2
    have CAT := Lib.hid cat
    have HG := Lib.hid hg
    clear cat hb1 hg
    by_cases hkn : k < l.length
    · obtain ⟨c1, c2⟩ := CAT.out k hkn
      simp only [Nat.zero_add] at c1 c2
      have hstep := Lib.hid (headLess_step (by rw [← EH.out]; exact hk : k ≤ headLess ltH (x1, x2) l) hkn)
      generalize hx : l[k]! = y at c1 c2
      obtain ⟨y1, y2⟩ := y
      dsimp only at c1 c2
      have HX := Lib.hid hx
      clear hx
      have e1 := cell_grown (show (⟨g, k * 2, none⟩ : Addr).block < wr.heap.size from hgw) c1
      have e2 := cell_grown (show (⟨g, k * 2 + 1, none⟩ : Addr).block < wr.heap.size from hgw) c2
      have e3 := cell_grown (show (⟨w.heap.size, 0, none⟩ : Addr).block < wr.heap.size from hlw) d1
      have e4 := cell_grown (show (⟨w.heap.size, 1, none⟩ : Addr).block < wr.heap.size from hlw) d2
      have hkz : (k : Int) < (l.length : Int) := by omega
      cases hb : ltH (y1, y2) (x1, x2)
      · -- the loop ends here
        have KH := Lib.hid (show k = H by rw [EH.out]; exact hstep.out.2 (by rw [HX.out]; exact hb))
        have hc := fun n os => rless_is hb (grow (wr.drewN n) os)
        go_wp2_with fail
        go_quiet_grown (first | (go_at_call 37; refine Calls.grown_of (hc _ _)))
        go_wp2_with fail
        obtain ⟨W1, hW1⟩ : ∃ W1, W1 = grow (wr.drewN nq) osq := ⟨_, rfl⟩
        have g1 : Gr (w.alloc (.cells #[.int .i64 x1, .int .i64 x2] 42)) W1 := by rw [hW1]; exact HG.out.drewN.grow
        have b1 := g1.below
        have s1 : wr.heap.size ≤ W1.heap.size := by rw [hW1, size_grow]; exact Nat.le_add_right _ _
        replace c1 : W1.cell? ⟨g, k * 2, none⟩ = some (.int .i64 y1) := by rw [hW1]; exact e1 nq osq
        replace c2 : W1.cell? ⟨g, k * 2 + 1, none⟩ = some (.int .i64 y2) := by rw [hW1]; exact e2 nq osq
        replace d1 : W1.cell? ⟨w.heap.size, 0, none⟩ = some (.int .i64 x1) := by rw [hW1]; exact e3 nq osq
        replace d2 : W1.cell? ⟨w.heap.size, 1, none⟩ = some (.int .i64 x2) := by rw [hW1]; exact e4 nq osq
        rw [← hW1]
        have hgw1 : g < W1.heap.size := by omega
        have hlw1 : w.heap.size < W1.heap.size := by omega
        have HG1 := Lib.hid g1
        clear hW1 e1 e2 e3 e4 hc g1 b1 s1 HG
        have e1 := cell_grown (show (⟨g, k * 2, none⟩ : Addr).block < W1.heap.size from hgw1) c1
        have e2 := cell_grown (show (⟨g, k * 2 + 1, none⟩ : Addr).block < W1.heap.size from hgw1) c2
        have e3 := cell_grown (show (⟨w.heap.size, 0, none⟩ : Addr).block < W1.heap.size from hlw1) d1
        have e4 := cell_grown (show (⟨w.heap.size, 1, none⟩ : Addr).block < W1.heap.size from hlw1) d2
        by_cases hxy : ((y1, y2) : Hd) = (x1, x2)
        · obtain ⟨rfl, rfl⟩ : y1 = x1 ∧ y2 = x2 := by simpa using hxy
          go_quiet_grown (fail)
          go_wp2
          go_ret
          have hk2 : l[k]? = some (y1, y2) := by rw [List.getElem?_eq_getElem hkn, ← HX.out, getElem!_pos l k hkn]
          have hp : put ltH (y1, y2) l = l := by rw [PE.out, ← KH.out, if_pos hk2]
          rw [hp]
          have hB : RowKit.Below w.heap.size w (grow (W1.drewN nq) osq) := Bt (Ba (Below.refl _ _) _) (HG1.out.drewN.grow).below
          exact ⟨_, rfl, row_below HR.out hB, by simp, hB⟩
        · have e5 := and_ne hxy
          have hk2 : ¬ l[k]? = some (x1, x2) := by rw [List.getElem?_eq_getElem hkn]; intro h; apply hxy; rw [← HX.out, getElem!_pos l k hkn]; exact Option.some.inj h
          have hp := Lib.hid (show put ltH (x1, x2) l = l.take k ++ (x1, x2) :: l.drop k by rw [PE.out, ← KH.out, if_neg hk2])
          clear hk2 hxy
          go_quiet_grown (fail)
          have g2 : Gr (w.alloc (.cells #[.int .i64 x1, .int .i64 x2] 42)) (grow (W1.drewN nq) osq) := HG1.out.drewN.grow
          generalize grow (W1.drewN nq) osq = W2 at g2 ⊢
          have HP := hp
          obtain ⟨a, ha⟩ : ∃ a, a = w.alloc (.cells #[.int .i64 x1, .int .i64 x2] 42) := ⟨_, rfl⟩
          have has : a.heap.size = w.heap.size + 1 := by rw [ha]; simp
          have DA : Hid (a.cell? ⟨w.heap.size, 0, none⟩ = some (.int .i64 x1) ∧ a.cell? ⟨w.heap.size, 1, none⟩ = some (.int .i64 x2)) := by rw [ha]; exact ⟨by simp, by simp⟩
          have CA : Hid (∀ j u, (flat encH l)[j]? = some u → a.cell? ⟨g, 0 + j, none⟩ = some u) := fun j u hu => by rw [ha, World.cell?_alloc_past (w := w) _ g _ hgl]; exact HC.out j u hu
          have WA : Hid (RowKit.Below w.heap.size w a) := by rw [ha]; exact Ba (Below.refl _ _) _
          rw [← ha] at g2
          clear ha
          have b2 := g2.below
          have SLT : ∀ W, RowKit.Below a.heap.size a W → Sl encH W (.slice (some ⟨g, 0, none⟩) k cap) (l.take k) := fun W hb => sl_take lenH k (by omega) hlc HCM.out (Bl hb (by omega)) (fun j u hu => Bc hb (by omega) (CA.out j u hu))
          have SLD : ∀ W, RowKit.Below a.heap.size a W → Sl encH W (.slice (some ⟨g, k * 2, none⟩) (l.length - k) (cap - k)) (l.drop k) := fun W hb => by have := sl_drop lenH (w := W) k (by omega) hlc HCM.out (Bl hb (by omega)) (fun j u hu => Bc hb (by omega) (CA.out j u hu)); rwa [Nat.zero_add] at this
          have a1 := Ba b2 (.cells #[] 42)
          have o1 : (W2.alloc (.cells #[] 42)).ownsRow a.heap.size 42 2 (.slice (some ⟨W2.heap.size, 0, none⟩) 0 0) 0 (flat encH []) := World.ownsRow_made _ #[] 0 b2.size (Nat.zero_le _) (by simp)
          have SLT := Lib.hid SLT
          have SLD := Lib.hid SLD
          have A1 := Lib.hid a1
          have O1 := Lib.hid o1
          have B2 := Lib.hid b2
          clear a1 o1 b2
          go_wp2_with (first
            | (at_builtin; refine wpl_app apH rfl _ _ rfl a.heap.size (by rfl) (by rfl) O1.out rfl (SLT.out _ A1.out) (by simp; omega) A1.out.size ?_; intro v1 w1 hown1 hgrow1 hnil1; have b3 := grownB A1.out O1.out hgrow1; have O3 := Lib.hid hown1; have N3 := Lib.hid (show v1 ≠ .slice none 0 0 from fun h => by simp [h] at hnil1); have d1 : w1.cell? ⟨w.heap.size, 0, none⟩ = some (.int .i64 x1) := Bc b3 (by omega) DA.out.1; have d2 : w1.cell? ⟨w.heap.size, 1, none⟩ = some (.int .i64 x2) := Bc b3 (by omega) DA.out.2; have A3 := Lib.hid (Ba b3 (.cells #[.int .i64 x1, .int .i64 x2] 42)); have O4 := Lib.hid (O3.out.alloc (.cells #[.int .i64 x1, .int .i64 x2] 42)); have S4 := Lib.hid (sl_lit (enc := encH) (w := w1) (cs := #[.int .i64 x1, .int .i64 x2]) (t := 42) (b := w1.heap.size) [(x1, x2)] rfl rfl (by unfold maxLen; simp)); clear hown1 hgrow1 hnil1 b3 O1)
            | (at_builtin; refine wpl_app apH rfl _ _ rfl a.heap.size (by rfl) (by rfl) O4.out (by first | (simp; done) | (simp; omega)) S4.out (by first | (simp; done) | (simp; omega)) A3.out.size ?_; intro v2 w2 hown2 hgrow2 hnil2; have b5 := grownB A3.out O4.out hgrow2; have B5 := Lib.hid b5; have O5 := Lib.hid hown2; have N5 := Lib.hid (show v2 ≠ .slice none 0 0 from fun h => N3.out (hnil2.1 h).1); clear hown2 hgrow2 hnil2 b5 O4)
            | (at_builtin; refine wpl_app apH rfl _ _ rfl a.heap.size (by rfl) (by rfl) O5.out (by first | (simp; done) | (simp; omega)) (SLD.out _ B5.out) (by first | (simp; done) | (simp; omega)) B5.out.size ?_; intro v3 w3 hown3 hgrow3 hnil3))
          have b6 := grownB B5.out O5.out hgrow3
          go_ret
          have hBw : RowKit.Below w.heap.size w w3 := WA.out.trans (b6.mono (by omega))
          refine ⟨v3, rfl, ?_, fun h => N5.out (hnil3.1 h).1, hBw⟩
          rw [HP.out]
          have e1 : ([] ++ l.take k ++ [(x1, x2)]) ++ l.drop k = l.take k ++ (x1, x2) :: l.drop k := by simp
          rw [e1] at hown3
          have e2 : ([] ++ l.take k ++ [(x1, x2)]).length + (l.drop k).length = (l.take k ++ (x1, x2) :: l.drop k).length := by simp; omega
          rw [e2] at hown3
          exact row_mono hown3 (show base ≤ a.heap.size by omega)
      · have hc := fun n os => rless_is hb (grow (wr.drewN n) os)
        have hkH : k + 1 ≤ H := by rw [EH.out]; exact hstep.out.1 (by rw [HX.out]; exact hb)
        go_wp2_with fail
        go_quiet_grown (first | (go_at_call 37; refine Calls.grown_of (hc _ _)))
        go_wp2
        go_roundw
        case measure => simp [intOf]; omega
        case rel => exact ⟨k + 1, hkH, by go_num, (HG.out.drewN).grow⟩
    · have KL := Lib.hid (show k = l.length by omega)
      have hkz : ¬ (k : Int) < (l.length : Int) := by omega
      have hk2 : ¬ l[H]? = some (x1, x2) := by rw [List.getElem?_eq_none (by omega)]; simp
      have hHk : H = k := by omega
      have HP := Lib.hid (show put ltH (x1, x2) l = l.take k ++ (x1, x2) :: l.drop k by rw [PE.out, if_neg hk2, hHk])
      clear hk2 hHk
      go_wp2_with fail
      go_quiet_grown (fail)
      have g1 : Gr (w.alloc (.cells #[.int .i64 x1, .int .i64 x2] 42)) (grow (wr.drewN nq) osq) := HG.out.drewN.grow
      generalize grow (wr.drewN nq) osq = W1 at g1 ⊢
      go_wp2_with fail
      go_quiet_grown (fail)
      have g2 : Gr (w.alloc (.cells #[.int .i64 x1, .int .i64 x2] 42)) (grow (W1.drewN nq) osq) := g1.drewN.grow
      generalize grow (W1.drewN nq) osq = W2 at g2 ⊢
      obtain ⟨a, ha⟩ : ∃ a, a = w.alloc (.cells #[.int .i64 x1, .int .i64 x2] 42) := ⟨_, rfl⟩
      have has : a.heap.size = w.heap.size + 1 := by rw [ha]; simp
      have DA : Hid (a.cell? ⟨w.heap.size, 0, none⟩ = some (.int .i64 x1) ∧ a.cell? ⟨w.heap.size, 1, none⟩ = some (.int .i64 x2)) := by rw [ha]; exact ⟨by simp, by simp⟩
      have CA : Hid (∀ j u, (flat encH l)[j]? = some u → a.cell? ⟨g, 0 + j, none⟩ = some u) := fun j u hu => by rw [ha, World.cell?_alloc_past (w := w) _ g _ hgl]; exact HC.out j u hu
      have WA : Hid (RowKit.Below w.heap.size w a) := by rw [ha]; exact Ba (Below.refl _ _) _
      rw [← ha] at g2
      clear ha
      have b2 := g2.below
      have SLT : ∀ W, RowKit.Below a.heap.size a W → Sl encH W (.slice (some ⟨g, 0, none⟩) k cap) (l.take k) := fun W hb => sl_take lenH k (by omega) hlc HCM.out (Bl hb (by omega)) (fun j u hu => Bc hb (by omega) (CA.out j u hu))
      have SLD : ∀ W, RowKit.Below a.heap.size a W → Sl encH W (.slice (if cap = k then some ⟨g, 0, none⟩ else some ⟨g, k * 2, none⟩) (l.length - k) (cap - k)) (l.drop k) := fun W hb => ⟨_, cap - k, by rw [List.length_drop], by rw [List.length_drop]; omega, by have := HCM.out; omega, fun h => absurd h (by rw [List.length_drop]; have := KL.out; omega)⟩
      have a1 := Ba b2 (.cells #[] 42)
      have o1 : (W2.alloc (.cells #[] 42)).ownsRow a.heap.size 42 2 (.slice (some ⟨W2.heap.size, 0, none⟩) 0 0) 0 (flat encH []) := World.ownsRow_made _ #[] 0 b2.size (Nat.zero_le _) (by simp)
      have SLT := Lib.hid SLT
      have SLD := Lib.hid SLD
      have A1 := Lib.hid a1
      have O1 := Lib.hid o1
      have B2 := Lib.hid b2
      clear a1 o1 b2
      go_wp2_with (first
        | (at_builtin; refine wpl_app apH rfl _ _ rfl a.heap.size (by rfl) (by rfl) O1.out rfl (SLT.out _ A1.out) (by simp; omega) A1.out.size ?_; intro v1 w1 hown1 hgrow1 hnil1; have b3 := grownB A1.out O1.out hgrow1; have O3 := Lib.hid hown1; have N3 := Lib.hid (show v1 ≠ .slice none 0 0 from fun h => by simp [h] at hnil1); have d1 : w1.cell? ⟨w.heap.size, 0, none⟩ = some (.int .i64 x1) := Bc b3 (by omega) DA.out.1; have d2 : w1.cell? ⟨w.heap.size, 1, none⟩ = some (.int .i64 x2) := Bc b3 (by omega) DA.out.2; have A3 := Lib.hid (Ba b3 (.cells #[.int .i64 x1, .int .i64 x2] 42)); have O4 := Lib.hid (O3.out.alloc (.cells #[.int .i64 x1, .int .i64 x2] 42)); have S4 := Lib.hid (sl_lit (enc := encH) (w := w1) (cs := #[.int .i64 x1, .int .i64 x2]) (t := 42) (b := w1.heap.size) [(x1, x2)] rfl rfl (by unfold maxLen; simp)); clear hown1 hgrow1 hnil1 b3 O1)
        | (at_builtin; refine wpl_app apH rfl _ _ rfl a.heap.size (by rfl) (by rfl) O4.out (by first | (simp; done) | (simp; omega)) S4.out (by first | (simp; done) | (simp; omega)) A3.out.size ?_; intro v2 w2 hown2 hgrow2 hnil2; have b5 := grownB A3.out O4.out hgrow2; have B5 := Lib.hid b5; have O5 := Lib.hid hown2; have N5 := Lib.hid (show v2 ≠ .slice none 0 0 from fun h => N3.out (hnil2.1 h).1); clear hown2 hgrow2 hnil2 b5 O4)
        | (at_builtin; refine wpl_app apH rfl _ _ rfl a.heap.size (by rfl) (by rfl) O5.out (by first | (simp; done) | (simp; omega)) (SLD.out _ B5.out) (by first | (simp; done) | (simp; omega)) B5.out.size ?_; intro v3 w3 hown3 hgrow3 hnil3))
      all_goals
        have b6 := grownB B5.out O5.out hgrow3
        go_ret
        have hBw : RowKit.Below w.heap.size w w3 := WA.out.trans (b6.mono (by omega))
        refine ⟨v3, rfl, ?_, fun h => N5.out (hnil3.1 h).1, hBw⟩
        rw [HP.out]
        have e1 : ([] ++ l.take k ++ [(x1, x2)]) ++ l.drop k = l.take k ++ (x1, x2) :: l.drop k := by simp
        rw [e1] at hown3
        have e2 : ([] ++ l.take k ++ [(x1, x2)]).length + (l.drop k).length = (l.take k ++ (x1, x2) :: l.drop k).length := by simp; omega
        rw [e2] at hown3
        exact row_mono hown3 (show base ≤ a.heap.size by omega)

set_option maxHeartbeats 1000000 in
set_option maxRecDepth 100000 in
/-- The reference's Handles: rising, each once. -/
theorem rhandles_call (l : List Hd) (v : Value) (w : World) (hl : Sl encH w v l) (hlen : l.length ≤ 100000) :
    Calls Tryz.prog 34 #[v] w fun e w' => ∃ v', e = .returned v' ∧ w'.ownsRow w.heap.size 42 2 v' (srt ltH l).length (flat encH (srt ltH l)) ∧ v' ≠ .slice none 0 0 ∧ Below w.heap.size w w' := by
  obtain ⟨p, cap, rfl, h1, h2, h⟩ := hl
  have HL := Lib.hid h
  have hz : (l.length : Int) ≤ 100000 := by omega
  clear h
  go_enter Tryz.func34, Tryz.ntmps34
  go_wp2
  go_loopw [3, 9] (fun v i wr => ∃ k : Nat, k ≤ l.length ∧ i = .int .i64 k ∧ RowKit.Below w.heap.size w wr ∧ v ≠ .slice none 0 0 ∧ wr.ownsRow w.heap.size 42 2 v (srt ltH (l.take k)).length (flat encH (srt ltH (l.take k)))) (fun _ i _ => l.length - (intOf i).toNat)
  case atStart => exact ⟨0, Nat.zero_le _, rfl, (by repeat (first | with_reducible exact Below.refl _ _ | with_reducible assumption | with_reducible apply Ba | with_reducible apply Bd | with_reducible apply Bn | with_reducible apply Bg | (with_reducible refine Bs ?_ (by first | (simp; done) | (simp; omega)) _) | (with_reducible refine Bt ?_ (by assumption)) | (with_reducible refine Bt ?_ (Gr.below (by assumption))))), by simp, World.ownsRow_made w #[] 0 (Nat.le_refl _) (Nat.zero_le _) (by simp)⟩
  case round =>
    obtain ⟨k, hk, rfl, hb, hv, ho⟩ := hrel
    by_cases hkn : k < l.length
    · obtain ⟨g, o, rfl, hg1, hg2⟩ := HL.out (by omega)
      obtain ⟨c1, c2⟩ := atH hg2 hkn
      replace c1 := Bc hb hg1 c1
      replace c2 := Bc hb hg1 c2
      have et := srt_take (lt := ltH) l k hkn
      rw [← getElem!_pos l k hkn] at et
      have hlen2 : (srt ltH (l.take k)).length ≤ 100000 := by have := srt_len ltH (l.take k); simp at this; omega
      generalize hx : l[k]! = x at *
      obtain ⟨x1, x2⟩ := x
      dsimp only at c1 c2
      have HB := Lib.hid hb
      have HV := Lib.hid hv
      have HO := Lib.hid ho
      have ET := Lib.hid et
      have H2 := Lib.hid hlen2
      have HB2 := Lib.hid (Ba hb (.cells #[.int .i64 x1, .int .i64 x2] 42))
      have HO2 := Lib.hid (ho.alloc (.cells #[.int .i64 x1, .int .i64 x2] 42))
      clear hg2 hx hb hv ho et hlen2
      go_wp2_with (go_at_call 61; refine (put_call w.heap.size _ _ _ _ _ HO2.out HV.out HB2.out.size H2.out).mono ?_; rintro e w1 ⟨v1, rfl, ho1, hv1, hb1⟩)
      go_roundw
      case measure => simp [intOf]; omega
      case rel => exact ⟨k + 1, by omega, by go_num, Bt HB2.out hb1, hv1, by rw [ET.out]; exact ho1⟩
    · have hkn' : k = l.length := by omega
      rw [hkn', List.take_length] at ho
      have HO := Lib.hid ho
      have HV := Lib.hid hv
      have KN := Lib.hid hkn'
      clear ho hv hkn'
      go_wp2
      go_ret
      exact ⟨_, rfl, HO.out, HV.out, hb⟩
end Go.Proofs.YtahichjiphjapaaGreatDoor
