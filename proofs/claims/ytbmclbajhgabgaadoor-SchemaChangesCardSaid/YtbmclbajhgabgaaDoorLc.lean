/-
  The walk of SchemaChanges (written by mkvv.py).
-/
import Derived.Test.YtbmclbajhgabgaaDoorLt
import Derived.Test.YtbmclbajhgabgaaDoorVv
namespace Go.Proofs.YtbmclbajhgabgaaDoor
set_option linter.unusedSimpArgs false
set_option linter.unusedVariables false
open Go.RowKit Go.Sort Go.Lib Go.Shelf

/-- What a slice holds stays where an append writes another block. -/
theorem sl_grown {w w' : World} {b n c : Nat} {l : List Vl} {v : Value} (h : Sl encV w (.slice (some ⟨b, 0, none⟩) n c) l) (hg : w.grownBy w' v.ownBlock) (hne : ∀ g, v.ownBlock = some g → g ≠ b) : Sl encV w' (.slice (some ⟨b, 0, none⟩) n c) l := by
  obtain ⟨p, cap, e, h1, h2, h3⟩ := h
  refine ⟨p, cap, e, h1, h2, fun hl => ?_⟩
  obtain ⟨g, o, e2, hgl, hc⟩ := h3 hl
  simp only [Value.slice.injEq] at e
  obtain ⟨rfl, rfl, rfl⟩ := e
  simp only [Option.some.injEq, Addr.mk.injEq] at e2
  obtain ⟨rfl, rfl, _⟩ := e2
  exact ⟨b, 0, rfl, Nat.lt_of_lt_of_le hgl hg.size, fun j u hu => (World.cell?_of_block (w := w) (a := ⟨b, 0 + j, none⟩) (hg.block b hgl (fun e => hne b e.symm rfl))).trans (hc j u hu)⟩
theorem made_V (n : Nat) (hn : n ≤ 100000) : ∃ Z : Array Value, Z.size = (n + 3) * 3 ∧ ∀ W : World, (Instr.makeSlice 31 (.int .i64 0) (.int .i64 ((n : Int) + 3))).run Tryd.prog W = .ok (.slice (some ⟨W.heap.size, 0, none⟩) 0 (n + 3)) (W.alloc (.cells Z 23)) := by
  obtain ⟨i, hi, hz1, hs1, hb1⟩ := apV.hi
  refine ⟨madeCells (Value.agg #[.int .i64 0, .int .i64 0, .int .i64 0]).cells (((n : Int) + 3).toNat * i.size), ?_, fun W => ?_⟩
  · rw [size_madeCells, hs1]; congr 1
  · have := run_make (P := Tryd.prog) W 31 23 i (.agg #[.int .i64 0, .int .i64 0, .int .i64 0]) apV.ht hi hz1 .i64 .i64 0 ((n : Int) + 3) (Int.le_refl _) (by omega) (by rw [hb1]; omega) (by omega)
    have e : ((n : Int) + 3).toNat = n + 3 := by omega
    rw [e] at this ⊢
    exact this
/-- The cells of the element behind the row. -/
theorem in_cells {W : World} {g : Nat} {L : List Vl} {x : Vl} (h : ∀ (j : Nat) (u : Value), (flat encV (L ++ [x, x]))[j]? = some u → W.cell? ⟨g, j, none⟩ = some u) :
    W.cell? ⟨g, L.length * 3, none⟩ = some (.int .i64 x.1) ∧ W.cell? ⟨g, L.length * 3 + 1, none⟩ = some (.int .i64 x.2.1) ∧ W.cell? ⟨g, L.length * 3 + 2, none⟩ = some (.int .i64 x.2.2) := by
  have hlt : L.length < (L ++ [x, x]).length := by simp
  have hx : (L ++ [x, x])[L.length]! = x := by rw [getElem!_pos (L ++ [x, x]) L.length hlt]; simp
  refine ⟨h (L.length * 3 + 0) _ ?_, h (L.length * 3 + 1) _ ?_, h (L.length * 3 + 2) _ ?_⟩
  all_goals (rw [flat_get lenV _ _ _ hlt (by omega), hx]; rfl)
theorem in_sl {W : World} {g cap : Nat} {L : List Vl} {x : Vl} (h : ∀ (j : Nat) (u : Value), (flat encV (L ++ [x, x]))[j]? = some u → W.cell? ⟨g, j, none⟩ = some u) (hg : g < W.heap.size) (hc : L.length ≤ cap) (hm : cap ≤ maxLen) : Sl encV W (.slice (some ⟨g, 0, none⟩) L.length cap) L :=
  ⟨_, cap, rfl, hc, hm, fun _ => ⟨g, 0, rfl, hg, fun j u hu => by
    rw [Nat.zero_add]
    refine h j u ?_
    rw [flat_append, List.getElem?_append_left (List.getElem?_eq_some_iff.1 hu).1]
    exact hu⟩⟩

set_option maxHeartbeats 8000000 in
set_option maxRecDepth 100000 in
theorem changes_walk (l : List Vl) (v : Value) (x1 x2 x3 : Int) (w : World) (hl : Sl encV w v l) (A : Nat → Addr) (hE : Er w A) :
    Calls Tryd.prog 6 #[v, .agg #[.int .i64 x1, .int .i64 x2, .int .i64 x3]] w fun e w' => e = .returned (.bool true) ∧ RowKit.Below w.heap.size w w' := by
  have HE := Lib.hid hE
  have HS := Lib.hid hl
  obtain ⟨p, cap, rfl, hl1, hl2, _⟩ := hl
  have hbig : l.length ≤ 9223372036854775807 := by unfold maxLen at hl2; omega
  clear hE hl2
  obtain ⟨n, HN⟩ : ∃ n, Hid (n = rowN l) := ⟨_, rfl⟩
  go_enter Tryd.func6, Tryd.ntmps6
  go_wp2_with fail
  refine (alive_any A _ (HE.out.below (Ba (Below.refl _ w) (.cells #[.int .i64 x1, .int .i64 x2, .int .i64 x3] 23)))).mono ?_
  rintro e w1 ⟨rfl, hb1⟩
  have B1 := Lib.hid (Bt (Ba (Below.refl _ w) (.cells #[.int .i64 x1, .int .i64 x2, .int .i64 x3] 23)) hb1)
  have c10 : w1.cell? ⟨w.heap.size, 0, none⟩ = some (.int .i64 x1) := Bc hb1 (by simp) (by simp)
  have c11 : w1.cell? ⟨w.heap.size, 1, none⟩ = some (.int .i64 x2) := Bc hb1 (by simp) (by simp)
  have c12 : w1.cell? ⟨w.heap.size, 2, none⟩ = some (.int .i64 x3) := Bc hb1 (by simp) (by simp)
  have hl1' : w.heap.size < w1.heap.size := Bl hb1 (by simp)
  clear hb1
  by_cases hlen : l.length ≤ 20
  · have hlt : ¬ (20 : Int) < (l.length : Int) := by omega
    go_wp2_with fail
    refine (rrow_call l _ w1 (HS.out.below B1.out) (by omega)).mono ?_
    rw [← HN.out]
    rintro e w2 ⟨⟨v2, rfl, hs2⟩, hb2⟩
    have c20 : w2.cell? ⟨w.heap.size, 0, none⟩ = some (.int .i64 x1) := Bc hb2 hl1' c10
    have c21 : w2.cell? ⟨w.heap.size, 1, none⟩ = some (.int .i64 x2) := Bc hb2 hl1' c11
    have c22 : w2.cell? ⟨w.heap.size, 2, none⟩ = some (.int .i64 x3) := Bc hb2 hl1' c12
    have hl2 : w.heap.size < w2.heap.size := Bl hb2 hl1'
    have B2 := Lib.hid (Bt B1.out hb2)
    have HS2 := Lib.hid hs2
    obtain ⟨p5, cap5, rfl, hq1, hq2, _⟩ := hs2
    clear hb2 c10 c11 c12
    by_cases h0 : n = 0
    · have HRT := Lib.hid (row_right (l := l) (by rw [← HN.out]; exact h0)).1
      have HLL := Lib.hid (rowL_len l)
      subst h0
      generalize rowL l = L at *
      have hLL := HLL.out
      have FC : Hid (∀ W, Calls Tryd.prog 13 #[.agg #[.int .i64 x1, .int .i64 x2, .int .i64 x3]] W fun e w' => e = .returned (.int .i64 (chk (x1, x2, x3) : Nat)) ∧ Gr W w') := fun W => rcheck_any (x1, x2, x3) W
      by_cases hk : chk (x1, x2, x3) = 0
      · rw [hk] at FC
        have HK := Lib.hid hk
        clear hk
        go_wp2_with fail
        refine (FC.out w2).mono ?_
        rintro e w3 ⟨rfl, hg3⟩
        have hb3 := hg3.below
        have c30 : w3.cell? ⟨w.heap.size, 0, none⟩ = some (.int .i64 x1) := Bc hb3 hl2 c20
        have c31 : w3.cell? ⟨w.heap.size, 1, none⟩ = some (.int .i64 x2) := Bc hb3 hl2 c21
        have c32 : w3.cell? ⟨w.heap.size, 2, none⟩ = some (.int .i64 x3) := Bc hb3 hl2 c22
        have hl3 : w.heap.size < w3.heap.size := Bl hb3 hl2
        have B3 := Lib.hid (Bt B2.out hb3)
        have S3 := Lib.hid (HS2.out.below hb3)
        clear hg3 hb3 c20 c21 c22 FC
        obtain ⟨Z, hZ, hmk⟩ := made_V L.length (by omega)
        have OZ := Lib.hid (show ∀ W : World, w3.heap.size ≤ W.heap.size → (W.alloc (.cells Z 23)).ownsRow w3.heap.size 23 3 (.slice (some ⟨W.heap.size, 0, none⟩) 0 (L.length + 3)) ([] : List Vl).length (flat encV []) from fun W h => World.ownsRow_made W Z (L.length + 3) h (by unfold maxLen; omega) hZ)
        have hw3' : IntKind.i64.wrap ((L.length : Int) + 3) = (L.length : Int) + 3 := by rw [IntKind.wrap_i64]; omega
        clear hZ
        go_upto_region 8 with fail
        go_cut [7] (fun s7 wx => ∃ g cap : Nat, s7 = .slice (some ⟨g, 0, none⟩) L.length cap ∧ RowKit.Below w3.heap.size w3 wx ∧ g < wx.heap.size ∧ L.length + 2 ≤ cap ∧ cap ≤ maxLen ∧ ∀ (j : Nat) (u : Value), (flat encV (L ++ [(x1, x2, x3), (x1, x2, x3)]))[j]? = some u → wx.cell? ⟨g, j, none⟩ = some u)
        case first =>
          have OZ1 := Lib.hid (show ((w3.alloc (.cells Z 23)).drew).ownsRow w3.heap.size 23 3 (.slice (some ⟨w3.heap.size, 0, none⟩) 0 (L.length + 3)) ([] : List Vl).length (flat encV []) from OZ.out w3 (Nat.le_refl _))
          have OZ1b := Lib.hid (show (((w3.alloc (.cells Z 23)).alloc (.cells #[.int .i64 x1, .int .i64 x2, .int .i64 x3, .int .i64 x1, .int .i64 x2, .int .i64 x3] 23)).drew).ownsRow w3.heap.size 23 3 (.slice (some ⟨w3.heap.size, 0, none⟩) 0 (L.length + 3)) ([] : List Vl).length (flat encV []) from own_below (OZ.out w3 (Nat.le_refl _)) (Bd (Ba (Below.refl _ _) _)))
          have OZ2 := Lib.hid (show (((w3.alloc (.cells #[.int .i64 x1, .int .i64 x2, .int .i64 x3, .int .i64 x1, .int .i64 x2, .int .i64 x3] 23)).alloc (.cells Z 23)).drew).ownsRow w3.heap.size 23 3 (.slice (some ⟨w3.heap.size + 1, 0, none⟩) 0 (L.length + 3)) ([] : List Vl).length (flat encV []) from by have := OZ.out (w3.alloc (.cells #[.int .i64 x1, .int .i64 x2, .int .i64 x3, .int .i64 x1, .int .i64 x2, .int .i64 x3] 23)) (by simp); rw [show (w3.alloc (.cells #[.int .i64 x1, .int .i64 x2, .int .i64 x3, .int .i64 x1, .int .i64 x2, .int .i64 x3] 23)).heap.size = w3.heap.size + 1 from by simp] at this; exact this)
          have SX1b := Lib.hid (show Sl encV (((w3.alloc (.cells Z 23)).alloc (.cells #[.int .i64 x1, .int .i64 x2, .int .i64 x3, .int .i64 x1, .int .i64 x2, .int .i64 x3] 23)).drew) (.slice (some ⟨w3.heap.size + 1, 0, none⟩) 2 2) [(x1, x2, x3), (x1, x2, x3)] from Sl.below (sl_lit (enc := encV) (w := w3.alloc (.cells Z 23)) (cs := #[.int .i64 x1, .int .i64 x2, .int .i64 x3, .int .i64 x1, .int .i64 x2, .int .i64 x3]) (t := 23) (b := w3.heap.size + 1) [(x1, x2, x3), (x1, x2, x3)] (by simp) rfl (by unfold maxLen; simp)) (Bd (Below.refl _ _)))
          have SX2 := Lib.hid (show Sl encV (((w3.alloc (.cells #[.int .i64 x1, .int .i64 x2, .int .i64 x3, .int .i64 x1, .int .i64 x2, .int .i64 x3] 23)).alloc (.cells Z 23)).drew) (.slice (some ⟨w3.heap.size, 0, none⟩) 2 2) [(x1, x2, x3), (x1, x2, x3)] from Sl.below (sl_lit (enc := encV) (w := w3) (cs := #[.int .i64 x1, .int .i64 x2, .int .i64 x3, .int .i64 x1, .int .i64 x2, .int .i64 x3]) (t := 23) (b := w3.heap.size) [(x1, x2, x3), (x1, x2, x3)] rfl rfl (by unfold maxLen; simp)) (Bd (Ba (Below.refl _ _) _)))
          refine wp_region_held_drew (S := (fun w' => Below (w3).heap.size (w3) w' ∧ ∀ b_1 o, b_1 < (w3).heap.size → w'.cell? ⟨b_1, o, none⟩ = (w3).cell? ⟨b_1, o, none⟩)) (by kernel_rfl) (keep0 _) (fun hHeld => ?_)
          (refine wpAnyH_take (i := 0) (v := ?_) rfl (by kernel_rfl) (by kernel_rfl) (by kernel_rfl) (fun _ _ _ h => h) (Or.inl ⟨by rfl, ?rt⟩) (by assumption) ?_; case rt => (intro w hSw; (try dsimp only at hSw); go_simp; (try with_reducible rfl))); (try simp only [Act.put, List.getElem_toArray, List.getElem_cons_succ, List.getElem_cons_zero, List.setIfInBounds_toArray, List.set_cons_zero, List.set_cons_succ])
          (refine wpAnyH_take (i := 1) (v := ?_) rfl (by kernel_rfl) (by kernel_rfl) (by kernel_rfl) (fun _ _ _ h => h) (Or.inl ⟨by rfl, ?rt⟩) (by assumption) ?_; case rt => (intro w hSw; (try dsimp only at hSw); go_simp; (try with_reducible rfl))); (try simp only [Act.put, List.getElem_toArray, List.getElem_cons_succ, List.getElem_cons_zero, List.setIfInBounds_toArray, List.set_cons_zero, List.set_cons_succ])
          (refine wpAnyH_take (i := 2) (v := ?_) rfl (by kernel_rfl) (by kernel_rfl) (by kernel_rfl) (fun _ _ _ h => h) (Or.inl ⟨by rfl, ?rt⟩) (by assumption) ?_; case rt => (intro w hSw; (try dsimp only at hSw); go_simp; (try with_reducible rfl))); (try simp only [Act.put, List.getElem_toArray, List.getElem_cons_succ, List.getElem_cons_zero, List.setIfInBounds_toArray, List.set_cons_zero, List.set_cons_succ])
          (refine wpAnyH_take (i := 4) (v := ?_) rfl (by kernel_rfl) (by kernel_rfl) (by kernel_rfl) (fun _ _ _ h => h) (Or.inl ⟨by rfl, ?rt⟩) (by assumption) ?_; case rt => (intro w hSw; (try dsimp only at hSw); go_simp; (try with_reducible rfl))); (try simp only [Act.put, List.getElem_toArray, List.getElem_cons_succ, List.getElem_cons_zero, List.setIfInBounds_toArray, List.set_cons_zero, List.set_cons_succ])
          (refine wpAnyH_take (i := 6) (v := ?_) rfl (by kernel_rfl) (by kernel_rfl) (by kernel_rfl) (fun _ _ _ h => h) (Or.inl ⟨by rfl, ?rt⟩) (by assumption) ?_; case rt => (intro w hSw; (try dsimp only at hSw); go_simp; (try with_reducible rfl))); (try simp only [Act.put, List.getElem_toArray, List.getElem_cons_succ, List.getElem_cons_zero, List.setIfInBounds_toArray, List.set_cons_zero, List.set_cons_succ])
          (refine wpAnyH_take (i := 7) (v := ?_) rfl (by kernel_rfl) (by kernel_rfl) (by kernel_rfl) (fun _ _ _ h => h) (Or.inl ⟨by rfl, ?rt⟩) (by assumption) ?_; case rt => (intro w hSw; (try dsimp only at hSw); go_simp; (try with_reducible rfl))); (try simp only [Act.put, List.getElem_toArray, List.getElem_cons_succ, List.getElem_cons_zero, List.setIfInBounds_toArray, List.set_cons_zero, List.set_cons_succ])
          (refine wpAnyH_take (i := 10) (v := ?_) rfl (by kernel_rfl) (by kernel_rfl) (by kernel_rfl) (fun _ _ _ h => h) (Or.inl ⟨by rfl, ?rt⟩) (by assumption) ?_; case rt => (intro w hSw; (try dsimp only at hSw); go_simp; (try with_reducible rfl))); (try simp only [Act.put, List.getElem_toArray, List.getElem_cons_succ, List.getElem_cons_zero, List.setIfInBounds_toArray, List.set_cons_zero, List.set_cons_succ])
          (refine wpAnyH_take (i := 11) (v := ?_) rfl (by kernel_rfl) (by kernel_rfl) (by kernel_rfl) (fun _ _ _ h => h) (Or.inl ⟨by rfl, ?rt⟩) (by assumption) ?_; case rt => (intro w hSw; (try dsimp only at hSw); go_simp; (try with_reducible rfl))); (try simp only [Act.put, List.getElem_toArray, List.getElem_cons_succ, List.getElem_cons_zero, List.setIfInBounds_toArray, List.set_cons_zero, List.set_cons_succ])
          refine wpAnyH_ready (rs := [3, 8]) (by kernel_rfl) (by simp) ?_; refine (AllReadyH.cons rfl (fun K hK => ?_) (AllReadyH.cons rfl (fun K hK => ?_) AllReadyH.nil))
          · go_simp; refine hK.out _ _ (keepA (by assumption) _) (fun hHeld => ?_); clear hK K; (try simp only [Act.put, List.getElem_toArray, List.getElem_cons_succ, List.getElem_cons_zero, List.setIfInBounds_toArray, List.set_cons_zero, List.set_cons_succ])
            refine wpAnyH_ready (rs := [5, 8]) (by kernel_rfl) (by simp) ?_; refine (AllReadyH.cons rfl (fun K hK => ?_) (AllReadyH.cons rfl (fun K hK => ?_) AllReadyH.nil))
            · refine wp_app2 apV (.tmp 30) (.tmp 31) rfl w3.heap.size (by rfl) (by rfl) (OZ1.out) rfl (S3.out.below (And.left (by assumption))) (by simp; omega) (RowKit.Below.size (And.left (by assumption) : RowKit.Below w3.heap.size w3 _)) ?_; intro va wa howna hgrowa hata hnila; have hba := grownB (And.left (by assumption)) (OZ1.out) hgrowa; refine hK.out _ _ (keepOfB hba) (fun hHeld => ?_); clear hK K; (try simp only [Act.put, List.getElem_toArray, List.getElem_cons_succ, List.getElem_cons_zero, List.setIfInBounds_toArray, List.set_cons_zero, List.set_cons_succ])
              refine wpAnyH_ready (rs := [8]) (by kernel_rfl) (by simp) ?_; refine (AllReadyH.cons rfl (fun K hK => ?_) AllReadyH.nil)
              go_simp; refine hK.out _ _ (keepA (by assumption) _) (fun hHeld => ?_); clear hK K; (try simp only [Act.put, List.getElem_toArray, List.getElem_cons_succ, List.getElem_cons_zero, List.setIfInBounds_toArray, List.set_cons_zero, List.set_cons_succ])
              refine wpAnyH_ready (rs := [9]) (by kernel_rfl) (by simp) ?_; refine (AllReadyH.cons rfl (fun K hK => ?_) AllReadyH.nil)
              refine wp_app2 apV (.tmp 32) (.tmp 35) rfl w3.heap.size (by rfl) (by rfl) (own_below howna (Ba (Below.refl _ _) _)) rfl (sl_lit (enc := encV) (w := wa) (cs := #[.int .i64 x1, .int .i64 x2, .int .i64 x3, .int .i64 x1, .int .i64 x2, .int .i64 x3]) (t := 23) (b := wa.heap.size) [(x1, x2, x3), (x1, x2, x3)] (by simp) rfl (by unfold maxLen; simp)) (by simp; omega) (RowKit.Below.size (And.left (by assumption) : RowKit.Below w3.heap.size w3 _)) ?_; intro vb wb hownb hgrowb hatb hnilb; have hbb := grownB (And.left (by assumption)) (own_below howna (Ba (Below.refl _ _) _)) hgrowb; refine hK.out _ _ (keepOfB hbb) (fun hHeld => ?_); clear hK K; (try simp only [Act.put, List.getElem_toArray, List.getElem_cons_succ, List.getElem_cons_zero, List.setIfInBounds_toArray, List.set_cons_zero, List.set_cons_succ])
              have hownb2 := hownb
              rw [show ([] ++ L : List Vl) = L from rfl] at hownb2
              have hne : vb ≠ .slice none 0 0 := fun e => by subst e; rcases hownb2.2 with ⟨_, h⟩ | ⟨g, cap, cur, h, _⟩; (simp at h); cases h
              obtain ⟨g, cap8, rfl, hg1, hg2, hg3, hg4⟩ := row_form hownb2 hne
              have hcl : ∀ (j : Nat) (u : Value), (flat encV (L ++ [(x1, x2, x3), (x1, x2, x3)]))[j]? = some u → wb.cell? ⟨g, j, none⟩ = some u := fun j u hu => by have := cellsI hownb2 j u hu; rwa [Nat.zero_add] at this
              have hlen8 : (L ++ [((x1, x2, x3) : Vl), (x1, x2, x3)]).length = L.length + 2 := by simp
              rw [hlen8] at hg3
              have hc8 : L.length ≤ cap8 := by omega
              have hc8i : (L.length : Int) ≤ (cap8 : Int) := by omega
              (refine wpAnyH_take (i := 12) (v := ?_) rfl (by kernel_rfl) (by kernel_rfl) (by kernel_rfl) (fun _ _ _ h => h) (Or.inl ⟨by rfl, ?rt⟩) (by assumption) ?_; case rt => (intro w hSw; (try dsimp only at hSw); go_simp; (try with_reducible rfl))); (try simp only [Act.put, List.getElem_toArray, List.getElem_cons_succ, List.getElem_cons_zero, List.setIfInBounds_toArray, List.set_cons_zero, List.set_cons_succ])
              (refine wpAnyH_take (i := 13) (v := ?_) rfl (by kernel_rfl) (by kernel_rfl) (by kernel_rfl) (fun _ _ _ h => h) (Or.inl ⟨by rfl, ?rt⟩) (by assumption) ?_; case rt => (intro w hSw; (try dsimp only at hSw); go_simp; (try with_reducible rfl))); (try simp only [Act.put, List.getElem_toArray, List.getElem_cons_succ, List.getElem_cons_zero, List.setIfInBounds_toArray, List.set_cons_zero, List.set_cons_succ])
              refine wpAnyH_done (by kernel_rfl) ?_ _
              go_wp2
              go_meet
              exact ⟨g, cap8, rfl, And.left (by assumption), hg2, hg3, hg4, hcl⟩
            · go_simp; refine hK.out _ _ (keepA (by assumption) _) (fun hHeld => ?_); clear hK K; (try simp only [Act.put, List.getElem_toArray, List.getElem_cons_succ, List.getElem_cons_zero, List.setIfInBounds_toArray, List.set_cons_zero, List.set_cons_succ])
              refine wpAnyH_ready (rs := [5]) (by kernel_rfl) (by simp) ?_; refine (AllReadyH.cons rfl (fun K hK => ?_) AllReadyH.nil)
              refine wp_app2 apV (.tmp 30) (.tmp 31) rfl w3.heap.size (by rfl) (by rfl) (OZ1b.out) rfl (S3.out.below (And.left (by assumption))) (by simp; omega) (RowKit.Below.size (And.left (by assumption) : RowKit.Below w3.heap.size w3 _)) ?_; intro va wa howna hgrowa hata hnila; have hba := grownB (And.left (by assumption)) (OZ1b.out) hgrowa; refine hK.out _ _ (keepOfB hba) (fun hHeld => ?_); clear hK K; (try simp only [Act.put, List.getElem_toArray, List.getElem_cons_succ, List.getElem_cons_zero, List.setIfInBounds_toArray, List.set_cons_zero, List.set_cons_succ])
              refine wpAnyH_ready (rs := [9]) (by kernel_rfl) (by simp) ?_; refine (AllReadyH.cons rfl (fun K hK => ?_) AllReadyH.nil)
              refine wp_app2 apV (.tmp 32) (.tmp 35) rfl w3.heap.size (by rfl) (by rfl) (howna) rfl (sl_grown SX1b.out hgrowa (fun g h => by simp only [Value.ownBlock, Option.some.injEq] at h; omega)) (by simp; omega) (RowKit.Below.size (And.left (by assumption) : RowKit.Below w3.heap.size w3 _)) ?_; intro vb wb hownb hgrowb hatb hnilb; have hbb := grownB (And.left (by assumption)) (howna) hgrowb; refine hK.out _ _ (keepOfB hbb) (fun hHeld => ?_); clear hK K; (try simp only [Act.put, List.getElem_toArray, List.getElem_cons_succ, List.getElem_cons_zero, List.setIfInBounds_toArray, List.set_cons_zero, List.set_cons_succ])
              have hownb2 := hownb
              rw [show ([] ++ L : List Vl) = L from rfl] at hownb2
              have hne : vb ≠ .slice none 0 0 := fun e => by subst e; rcases hownb2.2 with ⟨_, h⟩ | ⟨g, cap, cur, h, _⟩; (simp at h); cases h
              obtain ⟨g, cap8, rfl, hg1, hg2, hg3, hg4⟩ := row_form hownb2 hne
              have hcl : ∀ (j : Nat) (u : Value), (flat encV (L ++ [(x1, x2, x3), (x1, x2, x3)]))[j]? = some u → wb.cell? ⟨g, j, none⟩ = some u := fun j u hu => by have := cellsI hownb2 j u hu; rwa [Nat.zero_add] at this
              have hlen8 : (L ++ [((x1, x2, x3) : Vl), (x1, x2, x3)]).length = L.length + 2 := by simp
              rw [hlen8] at hg3
              have hc8 : L.length ≤ cap8 := by omega
              have hc8i : (L.length : Int) ≤ (cap8 : Int) := by omega
              (refine wpAnyH_take (i := 12) (v := ?_) rfl (by kernel_rfl) (by kernel_rfl) (by kernel_rfl) (fun _ _ _ h => h) (Or.inl ⟨by rfl, ?rt⟩) (by assumption) ?_; case rt => (intro w hSw; (try dsimp only at hSw); go_simp; (try with_reducible rfl))); (try simp only [Act.put, List.getElem_toArray, List.getElem_cons_succ, List.getElem_cons_zero, List.setIfInBounds_toArray, List.set_cons_zero, List.set_cons_succ])
              (refine wpAnyH_take (i := 13) (v := ?_) rfl (by kernel_rfl) (by kernel_rfl) (by kernel_rfl) (fun _ _ _ h => h) (Or.inl ⟨by rfl, ?rt⟩) (by assumption) ?_; case rt => (intro w hSw; (try dsimp only at hSw); go_simp; (try with_reducible rfl))); (try simp only [Act.put, List.getElem_toArray, List.getElem_cons_succ, List.getElem_cons_zero, List.setIfInBounds_toArray, List.set_cons_zero, List.set_cons_succ])
              refine wpAnyH_done (by kernel_rfl) ?_ _
              go_wp2
              go_meet
              exact ⟨g, cap8, rfl, And.left (by assumption), hg2, hg3, hg4, hcl⟩
          · go_simp; refine hK.out _ _ (keepA (by assumption) _) (fun hHeld => ?_); clear hK K; (try simp only [Act.put, List.getElem_toArray, List.getElem_cons_succ, List.getElem_cons_zero, List.setIfInBounds_toArray, List.set_cons_zero, List.set_cons_succ])
            refine wpAnyH_ready (rs := [3]) (by kernel_rfl) (by simp) ?_; refine (AllReadyH.cons rfl (fun K hK => ?_) AllReadyH.nil)
            go_simp; refine hK.out _ _ (keepA (by assumption) _) (fun hHeld => ?_); clear hK K; (try simp only [Act.put, List.getElem_toArray, List.getElem_cons_succ, List.getElem_cons_zero, List.setIfInBounds_toArray, List.set_cons_zero, List.set_cons_succ])
            refine wpAnyH_ready (rs := [5]) (by kernel_rfl) (by simp) ?_; refine (AllReadyH.cons rfl (fun K hK => ?_) AllReadyH.nil)
            refine wp_app2 apV (.tmp 30) (.tmp 31) rfl w3.heap.size (by rfl) (by rfl) (OZ2.out) rfl (S3.out.below (And.left (by assumption))) (by simp; omega) (RowKit.Below.size (And.left (by assumption) : RowKit.Below w3.heap.size w3 _)) ?_; intro va wa howna hgrowa hata hnila; have hba := grownB (And.left (by assumption)) (OZ2.out) hgrowa; refine hK.out _ _ (keepOfB hba) (fun hHeld => ?_); clear hK K; (try simp only [Act.put, List.getElem_toArray, List.getElem_cons_succ, List.getElem_cons_zero, List.setIfInBounds_toArray, List.set_cons_zero, List.set_cons_succ])
            refine wpAnyH_ready (rs := [9]) (by kernel_rfl) (by simp) ?_; refine (AllReadyH.cons rfl (fun K hK => ?_) AllReadyH.nil)
            refine wp_app2 apV (.tmp 32) (.tmp 35) rfl w3.heap.size (by rfl) (by rfl) (howna) rfl (sl_grown SX2.out hgrowa (fun g h => by simp only [Value.ownBlock, Option.some.injEq] at h; omega)) (by simp; omega) (RowKit.Below.size (And.left (by assumption) : RowKit.Below w3.heap.size w3 _)) ?_; intro vb wb hownb hgrowb hatb hnilb; have hbb := grownB (And.left (by assumption)) (howna) hgrowb; refine hK.out _ _ (keepOfB hbb) (fun hHeld => ?_); clear hK K; (try simp only [Act.put, List.getElem_toArray, List.getElem_cons_succ, List.getElem_cons_zero, List.setIfInBounds_toArray, List.set_cons_zero, List.set_cons_succ])
            have hownb2 := hownb
            rw [show ([] ++ L : List Vl) = L from rfl] at hownb2
            have hne : vb ≠ .slice none 0 0 := fun e => by subst e; rcases hownb2.2 with ⟨_, h⟩ | ⟨g, cap, cur, h, _⟩; (simp at h); cases h
            obtain ⟨g, cap8, rfl, hg1, hg2, hg3, hg4⟩ := row_form hownb2 hne
            have hcl : ∀ (j : Nat) (u : Value), (flat encV (L ++ [(x1, x2, x3), (x1, x2, x3)]))[j]? = some u → wb.cell? ⟨g, j, none⟩ = some u := fun j u hu => by have := cellsI hownb2 j u hu; rwa [Nat.zero_add] at this
            have hlen8 : (L ++ [((x1, x2, x3) : Vl), (x1, x2, x3)]).length = L.length + 2 := by simp
            rw [hlen8] at hg3
            have hc8 : L.length ≤ cap8 := by omega
            have hc8i : (L.length : Int) ≤ (cap8 : Int) := by omega
            (refine wpAnyH_take (i := 12) (v := ?_) rfl (by kernel_rfl) (by kernel_rfl) (by kernel_rfl) (fun _ _ _ h => h) (Or.inl ⟨by rfl, ?rt⟩) (by assumption) ?_; case rt => (intro w hSw; (try dsimp only at hSw); go_simp; (try with_reducible rfl))); (try simp only [Act.put, List.getElem_toArray, List.getElem_cons_succ, List.getElem_cons_zero, List.setIfInBounds_toArray, List.set_cons_zero, List.set_cons_succ])
            (refine wpAnyH_take (i := 13) (v := ?_) rfl (by kernel_rfl) (by kernel_rfl) (by kernel_rfl) (fun _ _ _ h => h) (Or.inl ⟨by rfl, ?rt⟩) (by assumption) ?_; case rt => (intro w hSw; (try dsimp only at hSw); go_simp; (try with_reducible rfl))); (try simp only [Act.put, List.getElem_toArray, List.getElem_cons_succ, List.getElem_cons_zero, List.setIfInBounds_toArray, List.set_cons_zero, List.set_cons_succ])
            refine wpAnyH_done (by kernel_rfl) ?_ _
            go_wp2
            go_meet
            exact ⟨g, cap8, rfl, And.left (by assumption), hg2, hg3, hg4, hcl⟩
        case rest =>
          obtain ⟨g, cap8, rfl, hb4, hg4, hc4, hm4, hcl⟩ := hcut
          obtain ⟨w4, rfl⟩ : ∃ wz : World, wz = wc := ⟨_, rfl⟩
          have c40 : w4.cell? ⟨w.heap.size, 0, none⟩ = some (.int .i64 x1) := Bc hb4 hl3 c30
          have c41 : w4.cell? ⟨w.heap.size, 1, none⟩ = some (.int .i64 x2) := Bc hb4 hl3 c31
          have c42 : w4.cell? ⟨w.heap.size, 2, none⟩ = some (.int .i64 x3) := Bc hb4 hl3 c32
          have hl4 : w.heap.size < w4.heap.size := Bl hb4 hl3
          have B4 := Lib.hid (Bt B3.out hb4)
          have S4 := Lib.hid (S3.out.below hb4)
          have I4 := Lib.hid (in_sl hcl hg4 (by omega) hm4)
          have CL4 := Lib.hid (in_cells hcl)
          clear hb4 c30 c31 c32 hcl hmk OZ hw3'
          obtain ⟨PL, HPL⟩ : ∃ PL, Hid (PL = putV L (x1, x2, x3)) := ⟨_, rfl⟩
          obtain ⟨D, HD⟩ : ∃ D, Hid (D = dropV L x1) := ⟨_, rfl⟩
          have CP : Hid (∀ W, RowKit.Below w4.heap.size w4 W → Calls Tryd.prog 27 #[.slice (some ⟨g, 0, none⟩) L.length cap8, .agg #[.int .i64 x1, .int .i64 x2, .int .i64 x3]] W fun e w' => (∃ v', e = .returned v' ∧ Sl encV w' v' PL) ∧ RowKit.Below W.heap.size W w') := fun W h => by rw [HPL.out]; exact put_call L _ x1 x2 x3 W (I4.out.below h) HRT.out.1 (by omega)
          have CD : Hid (∀ W, RowKit.Below w4.heap.size w4 W → Calls Tryd.prog 28 #[.slice (some ⟨g, 0, none⟩) L.length cap8, .int .i64 x1] W fun e w' => (∃ v', e = .returned v' ∧ Sl encV w' v' D) ∧ RowKit.Below W.heap.size W w') := fun W h => by rw [HD.out]; exact (drop_call L _ x1 W (I4.out.below h) (by omega)).mono fun e w' ⟨v', h1, h2, h3⟩ => ⟨⟨v', h1, row_sl lenV h2 rfl⟩, h3⟩
          go_upto_region 9 with fail
          go_cut [8, 9] (fun s8 s9 wx => Sl encV wx s8 PL ∧ Sl encV wx s9 D ∧ RowKit.Below w4.heap.size w4 wx)
          case first =>
            refine wp_region_held_drew (S := (fun w' => Below (w4).heap.size (w4) w' ∧ ∀ b_1 o, b_1 < (w4).heap.size → w'.cell? ⟨b_1, o, none⟩ = (w4).cell? ⟨b_1, o, none⟩)) (by kernel_rfl) (keep0 _) (fun hHeld => ?_)
            (refine wpAnyH_take (i := 0) (v := ?_) rfl (by kernel_rfl) (by kernel_rfl) (by kernel_rfl) (fun _ _ _ h => h) (Or.inl ⟨by rfl, ?rt⟩) (by assumption) ?_; case rt => (intro w hSw; (try dsimp only at hSw); go_simp; (try with_reducible rfl))); (try simp only [Act.put, List.getElem_toArray, List.getElem_cons_succ, List.getElem_cons_zero, List.setIfInBounds_toArray, List.set_cons_zero, List.set_cons_succ])
            (refine wpAnyH_take (i := 1) (v := ?_) rfl (by kernel_rfl) (by kernel_rfl) (by kernel_rfl) (fun _ _ _ h => h) (Or.inl ⟨by rfl, ?rt⟩) (by assumption) ?_; case rt => (intro w hSw; (try dsimp only at hSw); go_simp; (try with_reducible rfl))); (try simp only [Act.put, List.getElem_toArray, List.getElem_cons_succ, List.getElem_cons_zero, List.setIfInBounds_toArray, List.set_cons_zero, List.set_cons_succ])
            (refine wpAnyH_take (i := 3) (v := ?_) rfl (by kernel_rfl) (by kernel_rfl) (by kernel_rfl) (fun _ _ _ h => h) (Or.inl ⟨by rfl, ?rt⟩) (by assumption) ?_; case rt => (intro w hSw; (try dsimp only at hSw); go_simp; (try with_reducible rfl))); (try simp only [Act.put, List.getElem_toArray, List.getElem_cons_succ, List.getElem_cons_zero, List.setIfInBounds_toArray, List.set_cons_zero, List.set_cons_succ])
            (refine wpAnyH_take (i := 4) (v := ?_) rfl (by kernel_rfl) (by kernel_rfl) (by kernel_rfl) (fun _ _ _ h => h) (Or.inl ⟨by rfl, ?rt⟩) (by assumption) ?_; case rt => (intro w hSw; (try dsimp only at hSw); go_simp; (try with_reducible rfl))); (try simp only [Act.put, List.getElem_toArray, List.getElem_cons_succ, List.getElem_cons_zero, List.setIfInBounds_toArray, List.set_cons_zero, List.set_cons_succ])
            (refine wpAnyH_take (i := 5) (v := ?_) rfl (by kernel_rfl) (by kernel_rfl) (by kernel_rfl) (fun _ _ _ h => h) (Or.inl ⟨by rfl, ?rt⟩) (by assumption) ?_; case rt => (intro w hSw; (try dsimp only at hSw); go_simp; (try with_reducible rfl))); (try simp only [Act.put, List.getElem_toArray, List.getElem_cons_succ, List.getElem_cons_zero, List.setIfInBounds_toArray, List.set_cons_zero, List.set_cons_succ])
            refine wpAnyH_ready (rs := [2]) (by kernel_rfl) (by simp) ?_; refine (AllReadyH.cons rfl (fun K hK => ?_) AllReadyH.nil)
            go_simp; refine (CP.out _ (And.left (by assumption))).mono ?_; rintro e w1 ⟨⟨v8, rfl, hs8⟩, hb1⟩; refine hK.out _ _ (keepB (by assumption) hb1) (fun hHeld => ?_); clear hK K; (try simp only [Act.put, List.getElem_toArray, List.getElem_cons_succ, List.getElem_cons_zero, List.setIfInBounds_toArray, List.set_cons_zero, List.set_cons_succ]); have S8 := Lib.hid hs8; clear hs8
            clear hb1
            refine wpAnyH_ready (rs := [6]) (by kernel_rfl) (by simp) ?_; refine (AllReadyH.cons rfl (fun K hK => ?_) AllReadyH.nil)
            go_simp; refine (CD.out _ (And.left (by assumption))).mono ?_; rintro e w1 ⟨⟨v9, rfl, hs9⟩, hb1⟩; refine hK.out _ _ (keepB (by assumption) hb1) (fun hHeld => ?_); clear hK K; (try simp only [Act.put, List.getElem_toArray, List.getElem_cons_succ, List.getElem_cons_zero, List.setIfInBounds_toArray, List.set_cons_zero, List.set_cons_succ]); have S9 := Lib.hid hs9; clear hs9
            (refine wpAnyH_take (i := 7) (v := ?_) rfl (by kernel_rfl) (by kernel_rfl) (by kernel_rfl) (fun _ _ _ h => h) (Or.inl ⟨by rfl, ?rt⟩) (by assumption) ?_; case rt => (intro w hSw; (try dsimp only at hSw); go_simp; (try with_reducible rfl))); (try simp only [Act.put, List.getElem_toArray, List.getElem_cons_succ, List.getElem_cons_zero, List.setIfInBounds_toArray, List.set_cons_zero, List.set_cons_succ])
            (refine wpAnyH_take (i := 8) (v := ?_) rfl (by kernel_rfl) (by kernel_rfl) (by kernel_rfl) (fun _ _ _ h => h) (Or.inl ⟨by rfl, ?rt⟩) (by assumption) ?_; case rt => (intro w hSw; (try dsimp only at hSw); go_simp; (try with_reducible rfl))); (try simp only [Act.put, List.getElem_toArray, List.getElem_cons_succ, List.getElem_cons_zero, List.setIfInBounds_toArray, List.set_cons_zero, List.set_cons_succ])
            refine wpAnyH_done (by kernel_rfl) ?_ _
            go_wp2
            go_meet
            exact ⟨S8.out.below hb1, S9.out, And.left (by assumption)⟩
          case rest =>
            obtain ⟨hs8, hs9, hb5⟩ := hcut
            obtain ⟨w5, rfl⟩ : ∃ wz : World, wz = wc := ⟨_, rfl⟩
            have c50 : w5.cell? ⟨w.heap.size, 0, none⟩ = some (.int .i64 x1) := Bc hb5 hl4 c40
            have c51 : w5.cell? ⟨w.heap.size, 1, none⟩ = some (.int .i64 x2) := Bc hb5 hl4 c41
            have c52 : w5.cell? ⟨w.heap.size, 2, none⟩ = some (.int .i64 x3) := Bc hb5 hl4 c42
            have hl5 : w.heap.size < w5.heap.size := Bl hb5 hl4
            have hg5 : g < w5.heap.size := Bl hb5 hg4
            have e50 : w5.cell? ⟨g, L.length * 3, none⟩ = some (.int .i64 x1) := Bc hb5 hg4 CL4.out.1
            have e51 : w5.cell? ⟨g, L.length * 3 + 1, none⟩ = some (.int .i64 x2) := Bc hb5 hg4 CL4.out.2.1
            have e52 : w5.cell? ⟨g, L.length * 3 + 2, none⟩ = some (.int .i64 x3) := Bc hb5 hg4 CL4.out.2.2
            have B5 := Lib.hid (Bt B4.out hb5)
            have S5 := Lib.hid (S4.out.below hb5)
            have I5 := Lib.hid (I4.out.below hb5)
            have S8 := Lib.hid hs8
            have S9 := Lib.hid hs9
            clear hs8 hs9 hb5 c40 c41 c42 CP CD
            have RP : Hid (∀ W, RowKit.Below w5.heap.size w5 W → Calls Tryd.prog 29 #[.slice p5 L.length cap5, .agg #[.int .i64 x1, .int .i64 x2, .int .i64 x3]] W fun e w' => (∃ v', e = .returned v' ∧ Sl encV w' v' PL) ∧ RowKit.Below W.heap.size W w') := fun W h => by rw [HPL.out]; exact rput_call L _ x1 x2 x3 W (S5.out.below h) HRT.out HK.out (by omega)
            have RD : Hid (∀ W, RowKit.Below w5.heap.size w5 W → Calls Tryd.prog 30 #[.slice p5 L.length cap5, .int .i64 x1] W fun e w' => (∃ v', e = .returned v' ∧ Sl encV w' v' D) ∧ RowKit.Below W.heap.size W w') := fun W h => by rw [HD.out]; exact (rdrop_call L _ x1 W (S5.out.below h) (by omega)).mono fun e w' ⟨v', h1, h2, h3⟩ => ⟨⟨v', h1, row_sl lenV h2 rfl⟩, h3⟩
            have hwl : IntKind.i64.wrap ((L.length : Int) + 1) = (L.length : Int) + 1 := by rw [IntKind.wrap_i64]; omega
            have hli : (L.length : Int) + 1 ≤ (cap8 : Int) := by omega
            have hln : ((L.length : Int) + 1).toNat = L.length + 1 := by omega
            have hl0 : (0 : Int) ≤ (L.length : Int) + 1 := by omega
            have hlx : (L.length : Int) < (L.length : Int) + 1 := by omega
            clear HPL HD
            go_wp2_with fail
            refine wp_region_held_drew (S := (fun w' => Below (w5).heap.size (w5) w' ∧ ∀ b_1 o, b_1 < (w5).heap.size → w'.cell? ⟨b_1, o, none⟩ = (w5).cell? ⟨b_1, o, none⟩)) (by kernel_rfl) (keep0 _) (fun hHeld => ?_)
            (refine wpAnyH_take (i := 0) (v := ?_) rfl (by kernel_rfl) (by kernel_rfl) (by kernel_rfl) (fun _ _ _ h => h) (Or.inl ⟨by rfl, ?rt⟩) (by assumption) ?_; case rt => (intro w hSw; (try dsimp only at hSw); go_simp; (try with_reducible rfl))); (try simp only [Act.put, List.getElem_toArray, List.getElem_cons_succ, List.getElem_cons_zero, List.setIfInBounds_toArray, List.set_cons_zero, List.set_cons_succ])
            (refine wpAnyH_take (i := 1) (v := ?_) rfl (by kernel_rfl) (by kernel_rfl) (by kernel_rfl) (fun _ _ _ h => h) (Or.inl ⟨by rfl, ?rt⟩) (by assumption) ?_; case rt => (intro w hSw; (try dsimp only at hSw); go_simp; (try with_reducible rfl))); (try simp only [Act.put, List.getElem_toArray, List.getElem_cons_succ, List.getElem_cons_zero, List.setIfInBounds_toArray, List.set_cons_zero, List.set_cons_succ])
            (refine wpAnyH_take (i := 2) (v := ?_) rfl (by kernel_rfl) (by kernel_rfl) (by kernel_rfl) (fun _ _ _ h => h) (Or.inl ⟨by rfl, ?rt⟩) (by assumption) ?_; case rt => (intro w hSw; (try dsimp only at hSw); go_simp; (try with_reducible rfl))); (try simp only [Act.put, List.getElem_toArray, List.getElem_cons_succ, List.getElem_cons_zero, List.setIfInBounds_toArray, List.set_cons_zero, List.set_cons_succ])
            refine wpAnyH_ready (rs := [3]) (by kernel_rfl) (by simp) ?_; refine (AllReadyH.cons rfl (fun K hK => ?_) AllReadyH.nil)
            go_simp; refine (RP.out _ (And.left (by assumption))).mono ?_; rintro e w1 ⟨⟨v50, rfl, hs50⟩, hb1⟩; refine hK.out _ _ (keepB (by assumption) hb1) (fun hHeld => ?_); clear hK K; (try simp only [Act.put, List.getElem_toArray, List.getElem_cons_succ, List.getElem_cons_zero, List.setIfInBounds_toArray, List.set_cons_zero, List.set_cons_succ]); have S50 := Lib.hid hs50; clear hs50 hb1
            refine wpAnyH_ready (rs := [4]) (by kernel_rfl) (by simp) ?_; refine (AllReadyH.cons rfl (fun K hK => ?_) AllReadyH.nil)
            go_simp; refine (same_is (S8.out.below (And.left (by assumption))) S50.out).mono ?_; rintro e w1 ⟨rfl, hg1⟩; have hb1 := hg1.below; refine hK.out _ _ (keepB (by assumption) hb1) (fun hHeld => ?_); clear hK K; (try simp only [Act.put, List.getElem_toArray, List.getElem_cons_succ, List.getElem_cons_zero, List.setIfInBounds_toArray, List.set_cons_zero, List.set_cons_succ]); clear hb1 hg1
            (refine wpAnyH_take (i := 5) (v := ?_) rfl (by kernel_rfl) (by kernel_rfl) (by kernel_rfl) (fun _ _ _ h => h) (Or.inl ⟨by rfl, ?rt⟩) (by assumption) ?_; case rt => (intro w hSw; (try dsimp only at hSw); go_simp; (try with_reducible rfl))); (try simp only [Act.put, List.getElem_toArray, List.getElem_cons_succ, List.getElem_cons_zero, List.setIfInBounds_toArray, List.set_cons_zero, List.set_cons_succ])
            (refine wpAnyH_take (i := 6) (v := ?_) rfl (by kernel_rfl) (by kernel_rfl) (by kernel_rfl) (fun _ _ _ h => h) (Or.inl ⟨by rfl, ?rt⟩) (by assumption) ?_; case rt => (intro w hSw; (try dsimp only at hSw); go_simp; (try with_reducible rfl))); (try simp only [Act.put, List.getElem_toArray, List.getElem_cons_succ, List.getElem_cons_zero, List.setIfInBounds_toArray, List.set_cons_zero, List.set_cons_succ])
            (refine wpAnyH_take (i := 7) (v := ?_) rfl (by kernel_rfl) (by kernel_rfl) (by kernel_rfl) (fun _ _ _ h => h) (Or.inl ⟨by rfl, ?rt⟩) (by assumption) ?_; case rt => (intro w hSw; (try dsimp only at hSw); go_simp; (try with_reducible rfl))); (try simp only [Act.put, List.getElem_toArray, List.getElem_cons_succ, List.getElem_cons_zero, List.setIfInBounds_toArray, List.set_cons_zero, List.set_cons_succ])
            (refine wpAnyH_take (i := 8) (v := ?_) rfl (by kernel_rfl) (by kernel_rfl) (by kernel_rfl) (fun _ _ _ h => h) (Or.inl ⟨by rfl, ?rt⟩) (by assumption) ?_; case rt => (intro w hSw; (try dsimp only at hSw); go_simp; (try with_reducible rfl))); (try simp only [Act.put, List.getElem_toArray, List.getElem_cons_succ, List.getElem_cons_zero, List.setIfInBounds_toArray, List.set_cons_zero, List.set_cons_succ])
            (refine wpAnyH_take (i := 9) (v := ?_) rfl (by kernel_rfl) (by kernel_rfl) (by kernel_rfl) (fun _ _ _ h => h) (Or.inl ⟨by rfl, ?rt⟩) (by assumption) ?_; case rt => (intro w hSw; (try dsimp only at hSw); go_simp; (try with_reducible rfl))); (try simp only [Act.put, List.getElem_toArray, List.getElem_cons_succ, List.getElem_cons_zero, List.setIfInBounds_toArray, List.set_cons_zero, List.set_cons_succ])
            refine wpAnyH_ready (rs := [10]) (by kernel_rfl) (by simp) ?_; refine (AllReadyH.cons rfl (fun K hK => ?_) AllReadyH.nil)
            go_simp; refine (RD.out _ (And.left (by assumption))).mono ?_; rintro e w1 ⟨⟨v57, rfl, hs57⟩, hb1⟩; refine hK.out _ _ (keepB (by assumption) hb1) (fun hHeld => ?_); clear hK K; (try simp only [Act.put, List.getElem_toArray, List.getElem_cons_succ, List.getElem_cons_zero, List.setIfInBounds_toArray, List.set_cons_zero, List.set_cons_succ]); have S57 := Lib.hid hs57; clear hs57 hb1
            refine wpAnyH_ready (rs := [11]) (by kernel_rfl) (by simp) ?_; refine (AllReadyH.cons rfl (fun K hK => ?_) AllReadyH.nil)
            go_simp; refine (same_is (S9.out.below (And.left (by assumption))) S57.out).mono ?_; rintro e w1 ⟨rfl, hg1⟩; have hb1 := hg1.below; refine hK.out _ _ (keepB (by assumption) hb1) (fun hHeld => ?_); clear hK K; (try simp only [Act.put, List.getElem_toArray, List.getElem_cons_succ, List.getElem_cons_zero, List.setIfInBounds_toArray, List.set_cons_zero, List.set_cons_succ]); clear hb1 hg1
            (refine wpAnyH_take (i := 12) (v := ?_) rfl (by kernel_rfl) (by kernel_rfl) (by kernel_rfl) (fun _ _ _ h => h) (Or.inl ⟨by rfl, ?rt⟩) (by assumption) ?_; case rt => (intro w hSw; (try dsimp only at hSw); go_simp; (try with_reducible rfl))); (try simp only [Act.put, List.getElem_toArray, List.getElem_cons_succ, List.getElem_cons_zero, List.setIfInBounds_toArray, List.set_cons_zero, List.set_cons_succ])
            (refine wpAnyH_take (i := 13) (v := ?_) rfl (by kernel_rfl) (by kernel_rfl) (by kernel_rfl) (fun _ _ _ h => h) (Or.inl ⟨by rfl, ?rt⟩) (by assumption) ?_; case rt => (intro w hSw; (try dsimp only at hSw); go_simp; (try with_reducible rfl))); (try simp only [Act.put, List.getElem_toArray, List.getElem_cons_succ, List.getElem_cons_zero, List.setIfInBounds_toArray, List.set_cons_zero, List.set_cons_succ])
            (refine wpAnyH_take (i := 14) (v := ?_) rfl (by kernel_rfl) (by kernel_rfl) (by kernel_rfl) (fun _ _ _ h => h) (Or.inl ⟨by rfl, ?rt⟩) (by assumption) ?_; case rt => (intro w hSw; (try dsimp only at hSw); go_simp; (try with_reducible rfl))); (try simp only [Act.put, List.getElem_toArray, List.getElem_cons_succ, List.getElem_cons_zero, List.setIfInBounds_toArray, List.set_cons_zero, List.set_cons_succ])
            (refine wpAnyH_take (i := 15) (v := ?_) rfl (by kernel_rfl) (by kernel_rfl) (by kernel_rfl) (fun _ _ _ h => h) (Or.inl ⟨by rfl, ?rt⟩) (by assumption) ?_; case rt => (intro w hSw; (try dsimp only at hSw); go_simp; (try with_reducible rfl))); (try simp only [Act.put, List.getElem_toArray, List.getElem_cons_succ, List.getElem_cons_zero, List.setIfInBounds_toArray, List.set_cons_zero, List.set_cons_succ])
            refine wpAnyH_ready (rs := [16]) (by kernel_rfl) (by simp) ?_; refine (AllReadyH.cons rfl (fun K hK => ?_) AllReadyH.nil)
            go_simp; refine (same_is (I5.out.below (And.left (by assumption))) (S5.out.below (And.left (by assumption)))).mono ?_; rintro e w1 ⟨rfl, hg1⟩; have hb1 := hg1.below; refine hK.out _ _ (keepB (by assumption) hb1) (fun hHeld => ?_); clear hK K; (try simp only [Act.put, List.getElem_toArray, List.getElem_cons_succ, List.getElem_cons_zero, List.setIfInBounds_toArray, List.set_cons_zero, List.set_cons_succ]); clear hb1 hg1
            (refine wpAnyH_take (i := 17) (v := ?_) rfl (by kernel_rfl) (by kernel_rfl) (by kernel_rfl) (fun _ _ _ h => h) (Or.inl ⟨by rfl, ?rt⟩) (by assumption) ?_; case rt => (intro w hSw; (try dsimp only at hSw); go_simp; (try with_reducible rfl))); (try simp only [Act.put, List.getElem_toArray, List.getElem_cons_succ, List.getElem_cons_zero, List.setIfInBounds_toArray, List.set_cons_zero, List.set_cons_succ])
            (refine wpAnyH_take (i := 18) (v := ?_) rfl (by kernel_rfl) (by kernel_rfl) (by kernel_rfl) (fun _ _ _ h => h) (Or.inl ⟨by rfl, ?rt⟩) (by assumption) ?_; case rt => (intro w hSw; (try dsimp only at hSw); go_simp; (try with_reducible rfl))); (try simp only [Act.put, List.getElem_toArray, List.getElem_cons_succ, List.getElem_cons_zero, List.setIfInBounds_toArray, List.set_cons_zero, List.set_cons_succ])
            (refine wpAnyH_take (i := 19) (v := ?_) rfl (by kernel_rfl) (by kernel_rfl) (by kernel_rfl) (fun _ _ _ h => h) (Or.inl ⟨by rfl, ?rt⟩) (by assumption) ?_; case rt => (intro w hSw; (try dsimp only at hSw); go_simp; (try with_reducible rfl))); (try simp only [Act.put, List.getElem_toArray, List.getElem_cons_succ, List.getElem_cons_zero, List.setIfInBounds_toArray, List.set_cons_zero, List.set_cons_succ])
            (refine wpAnyH_take (i := 20) (v := ?_) rfl (by kernel_rfl) (by kernel_rfl) (by kernel_rfl) (fun _ _ _ h => h) (Or.inl ⟨by rfl, ?rt⟩) (by assumption) ?_; case rt => (intro w hSw; (try dsimp only at hSw); go_simp; (try with_reducible rfl))); (try simp only [Act.put, List.getElem_toArray, List.getElem_cons_succ, List.getElem_cons_zero, List.setIfInBounds_toArray, List.set_cons_zero, List.set_cons_succ])
            (refine wpAnyH_take (i := 24) (v := ?_) rfl (by kernel_rfl) (by kernel_rfl) (by kernel_rfl) (fun _ _ _ h => h) (Or.inl ⟨by rfl, ?rt⟩) (by assumption) ?_; case rt => (intro w hSw; (try dsimp only at hSw); go_simp; (try with_reducible rfl))); (try simp only [Act.put, List.getElem_toArray, List.getElem_cons_succ, List.getElem_cons_zero, List.setIfInBounds_toArray, List.set_cons_zero, List.set_cons_succ])
            (refine wpAnyH_take (i := 28) (v := ?_) rfl (by kernel_rfl) (by kernel_rfl) (by kernel_rfl) (fun _ _ _ h => h) (Or.inl ⟨by rfl, ?rt⟩) (by assumption) ?_; case rt => (intro w hSw; (try dsimp only at hSw); go_simp; (try with_reducible rfl))); (try simp only [Act.put, List.getElem_toArray, List.getElem_cons_succ, List.getElem_cons_zero, List.setIfInBounds_toArray, List.set_cons_zero, List.set_cons_succ])
            (refine wpAnyH_take (i := 21) (v := ?_) rfl (by kernel_rfl) (by kernel_rfl) (by kernel_rfl) (fun _ _ _ h => h) (Or.inl ⟨by rfl, ?rt⟩) (by assumption) ?_; case rt => (intro w hSw; (try dsimp only at hSw); go_simp; (try with_reducible rfl))); (try simp only [Act.put, List.getElem_toArray, List.getElem_cons_succ, List.getElem_cons_zero, List.setIfInBounds_toArray, List.set_cons_zero, List.set_cons_succ])
            (refine wpAnyH_take (i := 22) (v := ?_) rfl (by kernel_rfl) (by kernel_rfl) (by kernel_rfl) (fun _ _ _ h => h) (Or.inl ⟨by rfl, ?rt⟩) (by assumption) ?_; case rt => (intro w hSw; (try dsimp only at hSw); go_simp; (try with_reducible rfl))); (try simp only [Act.put, List.getElem_toArray, List.getElem_cons_succ, List.getElem_cons_zero, List.setIfInBounds_toArray, List.set_cons_zero, List.set_cons_succ])
            (refine wpAnyH_take (i := 23) (v := ?_) rfl (by kernel_rfl) (by kernel_rfl) (by kernel_rfl) (fun _ _ _ h => h) (Or.inl ⟨by rfl, ?rt⟩) (by assumption) ?_; case rt => (intro w hSw; (try dsimp only at hSw); go_simp; (try with_reducible rfl))); (try simp only [Act.put, List.getElem_toArray, List.getElem_cons_succ, List.getElem_cons_zero, List.setIfInBounds_toArray, List.set_cons_zero, List.set_cons_succ])
            (refine wpAnyH_take (i := 25) (v := ?_) rfl (by kernel_rfl) (by kernel_rfl) (by kernel_rfl) (fun _ _ _ h => h) (Or.inl ⟨by rfl, ?rt⟩) (by assumption) ?_; case rt => (intro w hSw; (try dsimp only at hSw); go_simp; (try with_reducible rfl))); (try simp only [Act.put, List.getElem_toArray, List.getElem_cons_succ, List.getElem_cons_zero, List.setIfInBounds_toArray, List.set_cons_zero, List.set_cons_succ])
            (refine wpAnyH_take (i := 26) (v := ?_) rfl (by kernel_rfl) (by kernel_rfl) (by kernel_rfl) (fun _ _ _ h => h) (Or.inl ⟨by rfl, ?rt⟩) (by assumption) ?_; case rt => (intro w hSw; (try dsimp only at hSw); go_simp; (try with_reducible rfl))); (try simp only [Act.put, List.getElem_toArray, List.getElem_cons_succ, List.getElem_cons_zero, List.setIfInBounds_toArray, List.set_cons_zero, List.set_cons_succ])
            (refine wpAnyH_take (i := 27) (v := ?_) rfl (by kernel_rfl) (by kernel_rfl) (by kernel_rfl) (fun _ _ _ h => h) (Or.inl ⟨by rfl, ?rt⟩) (by assumption) ?_; case rt => (intro w hSw; (try dsimp only at hSw); go_simp; (try with_reducible rfl))); (try simp only [Act.put, List.getElem_toArray, List.getElem_cons_succ, List.getElem_cons_zero, List.setIfInBounds_toArray, List.set_cons_zero, List.set_cons_succ])
            (refine wpAnyH_take (i := 29) (v := ?_) rfl (by kernel_rfl) (by kernel_rfl) (by kernel_rfl) (fun _ _ _ h => h) (Or.inl ⟨by rfl, ?rt⟩) (by assumption) ?_; case rt => (intro w hSw; (try dsimp only at hSw); go_simp; (try with_reducible rfl))); (try simp only [Act.put, List.getElem_toArray, List.getElem_cons_succ, List.getElem_cons_zero, List.setIfInBounds_toArray, List.set_cons_zero, List.set_cons_succ])
            (refine wpAnyH_take (i := 30) (v := ?_) rfl (by kernel_rfl) (by kernel_rfl) (by kernel_rfl) (fun _ _ _ h => h) (Or.inl ⟨by rfl, ?rt⟩) (by assumption) ?_; case rt => (intro w hSw; (try dsimp only at hSw); go_simp; (try with_reducible rfl))); (try simp only [Act.put, List.getElem_toArray, List.getElem_cons_succ, List.getElem_cons_zero, List.setIfInBounds_toArray, List.set_cons_zero, List.set_cons_succ])
            (refine wpAnyH_take (i := 31) (v := ?_) rfl (by kernel_rfl) (by kernel_rfl) (by kernel_rfl) (fun _ _ _ h => h) (Or.inl ⟨by rfl, ?rt⟩) (by assumption) ?_; case rt => (intro w hSw; (try dsimp only at hSw); go_simp; (try with_reducible rfl))); (try simp only [Act.put, List.getElem_toArray, List.getElem_cons_succ, List.getElem_cons_zero, List.setIfInBounds_toArray, List.set_cons_zero, List.set_cons_succ])
            refine wpAnyH_done (by kernel_rfl) ?_ _
            go_wp2
            go_ret
            exact ⟨by simp, Bt B5.out (And.left (by assumption))⟩
      · have hne : ((chk (x1, x2, x3) : Int) != 0) = true := by simp; omega
        have hne2 : ((chk (x1, x2, x3) : Int) == 0) = false := beq_eq_false_iff_ne.2 (by omega)
        generalize chk (x1, x2, x3) = cn at *
        clear hk
        go_wp2_with fail
        refine (FC.out w2).mono ?_
        rintro e w3 ⟨rfl, hg3⟩
        go_wp2
        go_ret
        exact ⟨rfl, Bt B2.out hg3.below⟩
    · have hne : ((n : Int) != 0) = true := by simp; omega
      have hne2 : ((n : Int) == 0) = false := beq_eq_false_iff_ne.2 (by omega)
      go_wp2
      go_ret
      exact ⟨rfl, B2.out⟩
  · have hlt : (20 : Int) < (l.length : Int) := by omega
    go_wp2
    go_ret
    exact ⟨rfl, B1.out⟩
end Go.Proofs.YtbmclbajhgabgaaDoor
