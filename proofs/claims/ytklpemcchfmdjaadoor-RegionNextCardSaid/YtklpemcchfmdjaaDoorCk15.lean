/-
  Regions: Clone, Block, Free.
-/
import Derived.Test.YtklpemcchfmdjaaDoorSz15
import Derived.Test.YtklpemcchfmdjaaDoorTw15
namespace Go.Proofs.YtklpemcchfmdjaaDoor
set_option linter.unusedSimpArgs false
set_option linter.unusedVariables false
open Go.RowKit Go.Sort Go.Lib Go.Shelf

section
variable {pa : Nat} {g : Gd} {b : List Bool} {M : Nat → Prop} {w w' : World}
set_option maxHeartbeats 4000000 in
set_option maxRecDepth 100000 in
theorem rgclone_call (h : RgAt w M pa g b) : Calls Tryd.prog 16 #[psR pa] w fun e w' => ∃ pb, e = .returned (psR pb) ∧ RgAt w' (Fresh w w') pb g b ∧ RowKit.Below w.heap.size w w' := by
  have HOk := Lib.hid h.ok
  have HLn := Lib.hid h.len
  obtain ⟨v, hI, h3, h1, h2⟩ := h.open
  obtain ⟨blk, cap, rfl, k1, k2, k3, k4, k5⟩ := hI.open (by omega) (by omega)
  have hl := hI.lt
  obtain ⟨c0, c1⟩ := hI.cells
  have CC := Lib.hid (fun W (hb : RowKit.Below w.heap.size w W) => cloneI_call (labG g b) _ W ((row_sl lenI hI.2.2.1 rfl).below hb) (by omega) (by omega))
  obtain ⟨L, hL⟩ : ∃ L, L = labG g b := ⟨_, rfl⟩
  have HL := Lib.hid hL
  rw [← hL] at CC c1 k1
  obtain ⟨W, hW⟩ : ∃ W, W = g.w := ⟨_, rfl⟩
  have HWW := Lib.hid hW
  rw [← hW] at c0
  clear hI h hL h3 hW
  unfold psR
  go_enter Tryd.func16, Tryd.ntmps16
  go_wp2_with fail
  refine wp_region_held_drew (S := (fun w' => Below (w).heap.size (w) w' ∧ ∀ b_1 o, b_1 < (w).heap.size → w'.cell? ⟨b_1, o, none⟩ = (w).cell? ⟨b_1, o, none⟩)) (by kernel_rfl) (keep0 _) (fun hHeld => ?_)
  (refine wpAnyH_take (i := 0) (v := ?_) rfl (by kernel_rfl) (by kernel_rfl) (by kernel_rfl) (fun _ _ _ h => h) (Or.inl ⟨by rfl, ?rt⟩) (by assumption) ?_; case rt => (intro w hSw; (try dsimp only at hSw); go_simp; (try with_reducible rfl))); (try simp only [Act.put, List.getElem_toArray, List.getElem_cons_succ, List.getElem_cons_zero, List.setIfInBounds_toArray, List.set_cons_zero, List.set_cons_succ])
  (refine wpAnyH_take (i := 1) (v := ?_) rfl (by kernel_rfl) (by kernel_rfl) (by kernel_rfl) (fun _ _ _ h => h) (Or.inl ⟨by rfl, ?rt⟩) (by assumption) ?_; case rt => (intro w hSw; (try dsimp only at hSw); go_simp; (try with_reducible rfl))); (try simp only [Act.put, List.getElem_toArray, List.getElem_cons_succ, List.getElem_cons_zero, List.setIfInBounds_toArray, List.set_cons_zero, List.set_cons_succ])
  (refine wpAnyH_take (i := 2) (v := ?_) rfl (by kernel_rfl) (by kernel_rfl) (by kernel_rfl) (fun _ _ _ h => h) (Or.inl ⟨by rfl, ?rt⟩) (by assumption) ?_; case rt => (intro w hSw; (try dsimp only at hSw); go_simp; (try with_reducible rfl))); (try simp only [Act.put, List.getElem_toArray, List.getElem_cons_succ, List.getElem_cons_zero, List.setIfInBounds_toArray, List.set_cons_zero, List.set_cons_succ])
  (refine wpAnyH_take (i := 3) (v := ?_) rfl (by kernel_rfl) (by kernel_rfl) (by kernel_rfl) (fun _ _ _ h => h) (Or.inl ⟨by rfl, ?rt⟩) (by assumption) ?_; case rt => (intro w hSw; (try dsimp only at hSw); go_simp; (try with_reducible rfl))); (try simp only [Act.put, List.getElem_toArray, List.getElem_cons_succ, List.getElem_cons_zero, List.setIfInBounds_toArray, List.set_cons_zero, List.set_cons_succ])
  (refine wpAnyH_take (i := 4) (v := ?_) rfl (by kernel_rfl) (by kernel_rfl) (by kernel_rfl) (fun _ _ _ h => h) (Or.inl ⟨by rfl, ?rt⟩) (by assumption) ?_; case rt => (intro w hSw; (try dsimp only at hSw); go_simp; (try with_reducible rfl))); (try simp only [Act.put, List.getElem_toArray, List.getElem_cons_succ, List.getElem_cons_zero, List.setIfInBounds_toArray, List.set_cons_zero, List.set_cons_succ])
  (refine wpAnyH_take (i := 5) (v := ?_) rfl (by kernel_rfl) (by kernel_rfl) (by kernel_rfl) (fun _ _ _ h => h) (Or.inl ⟨by rfl, ?rt⟩) (by assumption) ?_; case rt => (intro w hSw; (try dsimp only at hSw); go_simp; (try with_reducible rfl))); (try simp only [Act.put, List.getElem_toArray, List.getElem_cons_succ, List.getElem_cons_zero, List.setIfInBounds_toArray, List.set_cons_zero, List.set_cons_succ])
  (refine wpAnyH_take (i := 6) (v := ?_) rfl (by kernel_rfl) (by kernel_rfl) (by kernel_rfl) (fun _ _ _ h => h) (Or.inl ⟨by rfl, ?rt⟩) (by assumption) ?_; case rt => (intro w hSw; (try dsimp only at hSw); go_simp; (try with_reducible rfl))); (try simp only [Act.put, List.getElem_toArray, List.getElem_cons_succ, List.getElem_cons_zero, List.setIfInBounds_toArray, List.set_cons_zero, List.set_cons_succ])
  (refine wpAnyH_take (i := 7) (v := ?_) rfl (by kernel_rfl) (by kernel_rfl) (by kernel_rfl) (fun _ _ _ h => h) (Or.inl ⟨by rfl, ?rt⟩) (by assumption) ?_; case rt => (intro w hSw; (try dsimp only at hSw); go_simp; (try with_reducible rfl))); (try simp only [Act.put, List.getElem_toArray, List.getElem_cons_succ, List.getElem_cons_zero, List.setIfInBounds_toArray, List.set_cons_zero, List.set_cons_succ])
  (refine wpAnyH_ready (rs := [8]) (by kernel_rfl) (by simp) ?_; refine AllReadyH.cons rfl (fun K hK => ?_) AllReadyH.nil; go_simp; refine (CC.out _ hHeld.1).mono ?_; rintro e w2 ⟨v, rfl, ho, hb2⟩; obtain ⟨p9, cap9, rfl, -, -, -⟩ := row_val ho; have OU := Lib.hid (And.intro ho hHeld.1.size); refine hK.out _ _ (keepB (by assumption) hb2) (fun hHeld => ?_); clear hK K ho hb2); (try simp only [Act.put, List.getElem_toArray, List.getElem_cons_succ, List.getElem_cons_zero, List.setIfInBounds_toArray, List.set_cons_zero, List.set_cons_succ])
  (refine wpAnyH_take (i := 9) (v := ?_) rfl (by kernel_rfl) (by kernel_rfl) (by kernel_rfl) (fun _ _ _ h => h) (Or.inl ⟨by rfl, ?rt⟩) (by assumption) ?_; case rt => (intro w hSw; (try dsimp only at hSw); go_simp; (try with_reducible rfl))); (try simp only [Act.put, List.getElem_toArray, List.getElem_cons_succ, List.getElem_cons_zero, List.setIfInBounds_toArray, List.set_cons_zero, List.set_cons_succ])
  (refine wpAnyH_ready (rs := [10]) (by kernel_rfl) (by simp) ?_; refine AllReadyH.cons rfl (fun K hK => ?_) AllReadyH.nil; go_simp; refine hK.out _ _ (keepA (by assumption) _) (fun hHeld2 => ?_); clear hK K); (try simp only [Act.put, List.getElem_toArray, List.getElem_cons_succ, List.getElem_cons_zero, List.setIfInBounds_toArray, List.set_cons_zero, List.set_cons_succ])
  (refine wpAnyH_take (i := 11) (v := ?_) rfl (by kernel_rfl) (by kernel_rfl) (by kernel_rfl) (fun _ _ _ h => h) (Or.inl ⟨by rfl, ?rt⟩) (by assumption) ?_; case rt => (intro w hSw; (try dsimp only at hSw); go_simp; (try with_reducible rfl))); (try simp only [Act.put, List.getElem_toArray, List.getElem_cons_succ, List.getElem_cons_zero, List.setIfInBounds_toArray, List.set_cons_zero, List.set_cons_succ])
  refine wpAnyH_done (by kernel_rfl) ?_ _
  have O2 := Lib.hid (row_mono OU.out.1 OU.out.2)
  have B2 := Lib.hid hHeld.1
  have hsw := B2.out.size
  have O3 := Lib.hid (row_below O2.out (Ba (Below.refl _ w2) (.cells #[.int .i64 W, .slice p9 L.length cap9] 57)))
  clear OU hHeld hHeld2 CC
  go_wp2
  go_ret
  refine ⟨w2.heap.size, rfl, ⟨⟨.slice p9 L.length cap9, by rw [← HWW.out, ← HL.out]; exact ⟨heap_alloc_new w2 _, .inr ⟨hsw, by simp⟩, row_fresh (w := w) O3.out⟩⟩, HOk.out, HLn.out⟩, by have := B2.out; exact (by repeat (first | with_reducible exact Below.refl _ _ | with_reducible assumption | with_reducible apply Ba | with_reducible apply Bd | with_reducible apply Bn | with_reducible apply Bg | (with_reducible refine Bs ?_ (by first | (simp; done) | (simp; omega)) _) | (with_reducible refine Bt ?_ (by assumption)) | (with_reducible refine Bt ?_ (Gr.below (by assumption)))))⟩
/-- What a call asks of its tiles. -/
theorem blk_any {L : List Int} {b : List Bool} {n : Nat} (hL : L.length = n) (hlb : ∀ x, x < n → decide (L[x]! = -1) = b[x]!) {l : List Int} (hin : outT n l = false) : (l.any (blkL' L) = l.any fun t => b[t.toNat]! != false) ∧ (l.any (freeL' L) = l.any fun t => b[t.toNat]! != true) ∧ ∀ t ∈ l, 0 ≤ t ∧ t < (n : Int) := by
  have key : ∀ t ∈ l, 0 ≤ t ∧ t < (n : Int) := fun t ht => by
    unfold outT at hin
    have := List.any_eq_false.1 hin t ht
    simp at this
    omega
  have cong : ∀ (p q : Int → Bool), (∀ t ∈ l, p t = q t) → l.any p = l.any q := fun p q hpq => by
    clear key hin
    induction l with
    | nil => rfl
    | cons a r ih => rw [List.any_cons, List.any_cons, hpq a List.mem_cons_self, ih (fun t ht => hpq t (List.mem_cons_of_mem _ ht))]
  refine ⟨cong _ _ fun t ht => ?_, cong _ _ fun t ht => ?_, key⟩
  · obtain ⟨h0, h1⟩ := key t ht
    unfold blkL'
    rw [hL, inT_iff.2 ⟨h0, h1⟩, hlb t.toNat (by omega)]
    simp
  · obtain ⟨h0, h1⟩ := key t ht
    unfold freeL'
    rw [hL, inT_iff.2 ⟨h0, h1⟩, hlb t.toNat (by omega)]
    simp
theorem out_lacks (L : List Int) (l : List Int) : l.any (fun t => !inT L.length t) = outT L.length l := by
  unfold outT
  congr 1
  funext t
  unfold inT
  rw [Bool.eq_iff_iff]
  simp <;> omega
theorem enLacks : ∀ args w, (callFunc 31 args).run Tryd.prog w = .ok (.enter 31 args) w := enters_of Tryd.func31 (by kernel_rfl) rfl
theorem enBlockd : ∀ args w, (callFunc 32 args).run Tryd.prog w = .ok (.enter 32 args) w := enters_of Tryd.func32 (by kernel_rfl) rfl
theorem enFreed : ∀ args w, (callFunc 35 args).run Tryd.prog w = .ok (.enter 35 args) w := enters_of Tryd.func35 (by kernel_rfl) rfl
theorem labG_bl {g : Gd} (hg : grOk g = true) (b : List Bool) : ∀ x, x < ntl g → decide ((labG g b)[x]! = -1) = b[x]! := fun x hx => by
  show decide ((grG g b).labs[x]! = -1) = _
  rw [labs_get (by rw [grG_n hg]; exact hx), labI_none, grG_bl hg]
set_option maxHeartbeats 4000000 in
set_option maxRecDepth 100000 in
theorem block_call (h : RgAt w M pa g b) (hM : ∀ b, M b → b < w.heap.size) (l : List Int) (v : Value) (hs : Sl encI w v l) (hl : l.length ≤ 1024) (hv : ∀ k, v.ownBlock = some k → ¬ M k) (eR eB : TypeId × Value) (hR : w.cell? ⟨1, 0, none⟩ = some (.iface eR.1 eR.2)) (hB : w.cell? ⟨7, 0, none⟩ = some (.iface eB.1 eB.2)) :
    Calls Tryd.prog 14 #[psR pa, v] w fun e w' => e = .returned (errT3 eR eB (askT b l false 8)) ∧ RgAt w' (New M w w') pa g (changeT b l false 8) ∧ Tch M w w' := by
  obtain ⟨vr, hI, h3, h1, h2⟩ := h.open
  have hok := h.ok
  have hbl := h.len
  have CL := Lib.hid (containsI_call 31 (psR pa) enLacks (fun t => !inT (labG g b).length t) l v w hs hl (fun W hb t => lacks_call (hI.below hb) (by omega) (by omega) t))
  have CB := Lib.hid (containsI_call 32 (psR pa) enBlockd (blkL' (labG g b)) l v w hs hl (fun W hb t => blocked_call (hI.below hb) (by omega) (by omega) t))
  have TW := Lib.hid (twice_call l v w hs hl)
  have HL1 := out_lacks (labG g b) l
  rw [h3] at HL1
  rw [h3, HL1] at CL
  have HI := Lib.hid hI
  have HR := Lib.hid hR
  have HBB := Lib.hid hB
  have hrl := cell_lt hR
  have hbl2 := cell_lt hB
  have HVV := Lib.hid (show ∃ q n c, v = .slice q n c from by obtain ⟨q, c, e, -⟩ := hs; exact ⟨q, _, c, e⟩)
  have HAT := Lib.hid (show RgAt w (New M w w) pa g b from h.mono (fun _ e => .inl e))
  cases ho : outT (ntl g) l
  · obtain ⟨ha1, -, hin⟩ := blk_any h3 (labG_bl hok b) ho
    have CH := Lib.hid (fun W' (hb : RowKit.Below w.heap.size w W') => change_call hok hbl (hI.below hb) (fun b e => Nat.lt_of_lt_of_le (hM b e) hb.size) l (hs.below hb) hl hin hv false)
    have ht := twiceT_any b false l
    rw [← ha1] at ht
    have HASK : Hid (askT b l false 8 = if (l.any (blkL' (labG g b)) || !decide l.Nodup) = true then 8 else 0) := Lib.hid (by unfold askT; rw [hbl, ho, ht, if_neg (by simp)])
    rw [ho] at CL
    unfold changeT
    rw [HASK.out]
    obtain ⟨q, n, c, rfl⟩ := HVV.out
    clear hs hI h hR hB ha1 ht hin HL1 ho hv hM h3 h1 h2 hl
    generalize labG g b = L at *
    cases hx : l.any (blkL' L)
    · rw [hx] at CB
      cases hd : !decide l.Nodup
      · rw [hd] at TW
        rw [if_neg (by simp), if_pos rfl]
        have e0 : errT3 eR eB 0 = .nilIface := rfl
        rw [e0]
        clear hx hd e0
        unfold psR at *
        go_enter Tryd.func14, Tryd.ntmps14
        go_wp2_with fail
        refine CL.out.mono ?_
        rintro e w1 ⟨rfl, rfl⟩
        go_wp2_with fail
        refine CB.out.mono ?_
        rintro e w1 ⟨rfl, rfl⟩
        go_wp2_with fail
        refine TW.out.mono ?_
        rintro e w2 ⟨rfl, hb2⟩
        have B2 := Lib.hid hb2
        clear hb2
        go_wp2_with fail
        refine (CH.out _ B2.out).mono ?_
        rintro e w3 ⟨rfl, hr3, ht3⟩
        have R3 := Lib.hid hr3
        have T3 := Lib.hid ((Tch.of (M := M) B2.out).more ht3)
        clear hr3 ht3
        go_wp2
        go_ret
        exact ⟨rfl, ⟨⟨_, R3.out.mono (fun _ e => .inl e)⟩, HAT.out.ok, by rw [setT_len]; exact HAT.out.len⟩, T3.out⟩
      · rw [hd] at TW
        rw [if_pos (by simp)]
        have e0 : errT3 eR eB 8 = .iface eB.1 eB.2 := rfl
        rw [e0, if_neg (by decide)]
        have HB1 := Lib.hid (fun W' (hb : RowKit.Below w.heap.size w W') => Bc hb hbl2 HBB.out)
        clear hx hd e0 CH
        unfold psR at *
        go_enter Tryd.func14, Tryd.ntmps14
        go_wp2_with fail
        refine CL.out.mono ?_
        rintro e w1 ⟨rfl, rfl⟩
        go_wp2_with fail
        refine CB.out.mono ?_
        rintro e w1 ⟨rfl, rfl⟩
        go_wp2_with fail
        refine TW.out.mono ?_
        rintro e w2 ⟨rfl, hb2⟩
        have B2 := Lib.hid hb2
        have hc2 := HB1.out w2 hb2
        clear hb2
        go_wp2
        go_ret
        exact ⟨rfl, (HAT.out.below B2.out).mono (fun x e => e.elim .inl (fun e => absurd e (by omega))), Tch.of B2.out⟩
    · rw [hx] at CB
      rw [if_pos (by simp)]
      have e0 : errT3 eR eB 8 = .iface eB.1 eB.2 := rfl
      rw [e0, if_neg (by decide)]
      have hc := HBB.out
      clear hx e0 CH TW
      unfold psR at *
      go_enter Tryd.func14, Tryd.ntmps14
      go_wp2_with fail
      refine CL.out.mono ?_
      rintro e w1 ⟨rfl, rfl⟩
      go_wp2_with fail
      refine CB.out.mono ?_
      rintro e w1 ⟨rfl, rfl⟩
      go_wp2
      go_ret
      exact ⟨rfl, HAT.out, Tch.refl _ _⟩
  · rw [ho] at CL
    have HASK : Hid (askT b l false 8 = 1) := Lib.hid (by unfold askT; rw [hbl, ho]; rfl)
    unfold changeT
    rw [HASK.out, if_neg (by decide)]
    have e0 : errT3 eR eB 1 = .iface eR.1 eR.2 := rfl
    rw [e0]
    obtain ⟨q, n, c, rfl⟩ := HVV.out
    have hc := HR.out
    clear hs hI h hR hB HL1 ho hv hM h3 h1 h2 hl e0 CB TW hbl hok
    unfold psR at *
    go_enter Tryd.func14, Tryd.ntmps14
    go_wp2_with fail
    refine CL.out.mono ?_
    rintro e w1 ⟨rfl, rfl⟩
    go_wp2
    go_ret
    exact ⟨rfl, HAT.out, Tch.refl _ _⟩
set_option maxHeartbeats 4000000 in
set_option maxRecDepth 100000 in
theorem rgfree_call (h : RgAt w M pa g b) (hM : ∀ b, M b → b < w.heap.size) (l : List Int) (v : Value) (hs : Sl encI w v l) (hl : l.length ≤ 1024) (hv : ∀ k, v.ownBlock = some k → ¬ M k) (eR eB : TypeId × Value) (hR : w.cell? ⟨1, 0, none⟩ = some (.iface eR.1 eR.2)) (hB : w.cell? ⟨6, 0, none⟩ = some (.iface eB.1 eB.2)) :
    Calls Tryd.prog 15 #[psR pa, v] w fun e w' => e = .returned (errT3 eR eB (askT b l true 6)) ∧ RgAt w' (New M w w') pa g (changeT b l true 6) ∧ Tch M w w' := by
  obtain ⟨vr, hI, h3, h1, h2⟩ := h.open
  have hok := h.ok
  have hbl := h.len
  have CL := Lib.hid (containsI_call 31 (psR pa) enLacks (fun t => !inT (labG g b).length t) l v w hs hl (fun W hb t => lacks_call (hI.below hb) (by omega) (by omega) t))
  have CB := Lib.hid (containsI_call 35 (psR pa) enFreed (freeL' (labG g b)) l v w hs hl (fun W hb t => free_call (hI.below hb) (by omega) (by omega) t))
  have TW := Lib.hid (twice_call l v w hs hl)
  have HL1 := out_lacks (labG g b) l
  rw [h3] at HL1
  rw [h3, HL1] at CL
  have HI := Lib.hid hI
  have HR := Lib.hid hR
  have HBB := Lib.hid hB
  have hrl := cell_lt hR
  have hbl2 := cell_lt hB
  have HVV := Lib.hid (show ∃ q n c, v = .slice q n c from by obtain ⟨q, c, e, -⟩ := hs; exact ⟨q, _, c, e⟩)
  have HAT := Lib.hid (show RgAt w (New M w w) pa g b from h.mono (fun _ e => .inl e))
  cases ho : outT (ntl g) l
  · obtain ⟨-, ha1, hin⟩ := blk_any h3 (labG_bl hok b) ho
    have CH := Lib.hid (fun W' (hb : RowKit.Below w.heap.size w W') => change_call hok hbl (hI.below hb) (fun b e => Nat.lt_of_lt_of_le (hM b e) hb.size) l (hs.below hb) hl hin hv true)
    have ht := twiceT_any b true l
    rw [← ha1] at ht
    have HASK : Hid (askT b l true 6 = if (l.any (freeL' (labG g b)) || !decide l.Nodup) = true then 6 else 0) := Lib.hid (by unfold askT; rw [hbl, ho, ht, if_neg (by simp)])
    rw [ho] at CL
    unfold changeT
    rw [HASK.out]
    obtain ⟨q, n, c, rfl⟩ := HVV.out
    clear hs hI h hR hB ha1 ht hin HL1 ho hv hM h3 h1 h2 hl
    generalize labG g b = L at *
    cases hx : l.any (freeL' L)
    · rw [hx] at CB
      cases hd : !decide l.Nodup
      · rw [hd] at TW
        rw [if_neg (by simp), if_pos rfl]
        have e0 : errT3 eR eB 0 = .nilIface := rfl
        rw [e0]
        clear hx hd e0
        unfold psR at *
        go_enter Tryd.func15, Tryd.ntmps15
        go_wp2_with fail
        refine CL.out.mono ?_
        rintro e w1 ⟨rfl, rfl⟩
        go_wp2_with fail
        refine CB.out.mono ?_
        rintro e w1 ⟨rfl, rfl⟩
        go_wp2_with fail
        refine TW.out.mono ?_
        rintro e w2 ⟨rfl, hb2⟩
        have B2 := Lib.hid hb2
        clear hb2
        go_wp2_with fail
        refine (CH.out _ B2.out).mono ?_
        rintro e w3 ⟨rfl, hr3, ht3⟩
        have R3 := Lib.hid hr3
        have T3 := Lib.hid ((Tch.of (M := M) B2.out).more ht3)
        clear hr3 ht3
        go_wp2
        go_ret
        exact ⟨rfl, ⟨⟨_, R3.out.mono (fun _ e => .inl e)⟩, HAT.out.ok, by rw [setT_len]; exact HAT.out.len⟩, T3.out⟩
      · rw [hd] at TW
        rw [if_pos (by simp)]
        have e0 : errT3 eR eB 6 = .iface eB.1 eB.2 := rfl
        rw [e0, if_neg (by decide)]
        have HB1 := Lib.hid (fun W' (hb : RowKit.Below w.heap.size w W') => Bc hb hbl2 HBB.out)
        clear hx hd e0 CH
        unfold psR at *
        go_enter Tryd.func15, Tryd.ntmps15
        go_wp2_with fail
        refine CL.out.mono ?_
        rintro e w1 ⟨rfl, rfl⟩
        go_wp2_with fail
        refine CB.out.mono ?_
        rintro e w1 ⟨rfl, rfl⟩
        go_wp2_with fail
        refine TW.out.mono ?_
        rintro e w2 ⟨rfl, hb2⟩
        have B2 := Lib.hid hb2
        have hc2 := HB1.out w2 hb2
        clear hb2
        go_wp2
        go_ret
        exact ⟨rfl, (HAT.out.below B2.out).mono (fun x e => e.elim .inl (fun e => absurd e (by omega))), Tch.of B2.out⟩
    · rw [hx] at CB
      rw [if_pos (by simp)]
      have e0 : errT3 eR eB 6 = .iface eB.1 eB.2 := rfl
      rw [e0, if_neg (by decide)]
      have hc := HBB.out
      clear hx e0 CH TW
      unfold psR at *
      go_enter Tryd.func15, Tryd.ntmps15
      go_wp2_with fail
      refine CL.out.mono ?_
      rintro e w1 ⟨rfl, rfl⟩
      go_wp2_with fail
      refine CB.out.mono ?_
      rintro e w1 ⟨rfl, rfl⟩
      go_wp2
      go_ret
      exact ⟨rfl, HAT.out, Tch.refl _ _⟩
  · rw [ho] at CL
    have HASK : Hid (askT b l true 6 = 1) := Lib.hid (by unfold askT; rw [hbl, ho]; rfl)
    unfold changeT
    rw [HASK.out, if_neg (by decide)]
    have e0 : errT3 eR eB 1 = .iface eR.1 eR.2 := rfl
    rw [e0]
    obtain ⟨q, n, c, rfl⟩ := HVV.out
    have hc := HR.out
    clear hs hI h hR hB HL1 ho hv hM h3 h1 h2 hl e0 CB TW hbl hok
    unfold psR at *
    go_enter Tryd.func15, Tryd.ntmps15
    go_wp2_with fail
    refine CL.out.mono ?_
    rintro e w1 ⟨rfl, rfl⟩
    go_wp2
    go_ret
    exact ⟨rfl, HAT.out, Tch.refl _ _⟩
end
end Go.Proofs.YtklpemcchfmdjaaDoor
