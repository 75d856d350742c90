import Derived.Test.YtahichjiphjapaaGreatDoorZ50
import Derived.Test.YtahichjiphjapaaGreatDoorZ52
import Derived.Test.YtahichjiphjapaaGreatDoorZ12
import Derived.Test.YtahichjiphjapaaGreatDoorZ1

/-
  Package near: within.
-/
namespace Go.Proofs.YtahichjiphjapaaGreatDoor
set_option linter.unusedSimpArgs false
set_option linter.unusedVariables false
open Go.RowKit Go.Sort Go.Lib Go.Shelf

/-- Which handles count, as a function says it, wherever nothing that was there has changed. -/
structure CntF (w0 : World) (fc : FuncId) (vc : Array Value) (cnt : Hd → Bool) : Prop where
  en : ∀ args w, (callFunc fc args).run Tryz.prog w = .ok (.enter fc args) w
  ask : ∀ (x y : Int) (W : World), RowKit.Below w0.heap.size w0 W → Calls Tryz.prog fc (#[.agg #[.int .i64 x, .int .i64 y]] ++ vc) W fun e w' => e = .returned (.bool (cnt (x, y))) ∧ RowKit.Below W.heap.size W w'
theorem CntF.below {w0 w1 : World} {fc : FuncId} {vc : Array Value} {cnt : Hd → Bool} (h : CntF w0 fc vc cnt) (hb : RowKit.Below w0.heap.size w0 w1) : CntF w1 fc vc cnt :=
  ⟨h.en, fun x y W hW => h.ask x y W (Bt hb hW)⟩
/-- within's variables. -/
structure EnvN (W : World) (bp br bc : Nat) (x y r : Int) (fc : FuncId) (vc : Array Value) : Prop where
  p1 : W.cell? ⟨bp, 0, none⟩ = some (.int .i64 x)
  p2 : W.cell? ⟨bp, 1, none⟩ = some (.int .i64 y)
  r : W.cell? ⟨br, 0, none⟩ = some (.int .i64 r)
  c : W.cell? ⟨bc, 0, none⟩ = some (.func (.func fc) #[] vc)
theorem EnvN.below {W W' : World} {bp br bc : Nat} {x y r : Int} {fc : FuncId} {vc : Array Value} (h : EnvN W bp br bc x y r fc vc) (hb : RowKit.Below W.heap.size W W') : EnvN W' bp br bc x y r fc vc :=
  ⟨Bc hb (cell_lt h.p1) h.p1, Bc hb (cell_lt h.p2) h.p2, Bc hb (cell_lt h.r) h.r, Bc hb (cell_lt h.c) h.c⟩
theorem i64_in {n : Int} (h1 : 0 ≤ n) (h2 : n ≤ 70368744177664) : IntKind.i64.wrap n = n := by
  simp [IntKind.wrap, IntKind.bits, IntKind.signed]
  omega
section
variable {bp br bc : Nat} {x y r : Int} {fc : FuncId} {vc : Array Value} {cnt : Hd → Bool}
set_option maxHeartbeats 1000000 in
set_option maxRecDepth 100000 in
theorem wit1_call (W : World) (hE : EnvN W bp br bc x y r fc vc) (hp : reachB x y = true) (h0 : 0 ≤ r) (h1 : r ≤ 8388608) (k : Nat) (c2 c3 : Int) (hr : rightC ((k : Int), c2, c3) = true) :
    Calls Tryz.prog 53 #[clV ((k : Int), c2, c3), .pointer (some ⟨bp, 0, none⟩), .pointer (some ⟨br, 0, none⟩)] W fun e w' => e = .returned (.bool (entN (x, y) r ((k : Int), c2, c3))) ∧ RowKit.Below W.heap.size W w' := by
  have GC := Lib.hid (fun W => ngap_call x y k c2 c3 W hp hr)
  obtain ⟨e1, e2⟩ := sq_bd (d := r) (by omega) (by omega)
  unfold entN
  generalize gapI (x, y) (sqC ((k : Int), c2, c3)) = D at *
  have hw : wrap64 (r * r) = r * r := IntWalk.wrap64_in _ ⟨by omega, by omega⟩
  obtain ⟨a1, a2, a3, a4⟩ := hE
  have l1 := cell_lt a1
  have l3 := cell_lt a3
  have mixed : Tryz.prog.follows .mixedOrders = true := by kernel_rfl
  go_enter Tryz.func53, Tryz.ntmps53
  go_wp2_with fail
  refine wp_region_held_drew (S := (fun w' => Below (W.alloc (.cells #[.int .i64 k, .int .i64 c2, .int .i64 c3] 87)).heap.size (W.alloc (.cells #[.int .i64 k, .int .i64 c2, .int .i64 c3] 87)) w' ∧ ∀ b_1 o, b_1 < (W.alloc (.cells #[.int .i64 k, .int .i64 c2, .int .i64 c3] 87)).heap.size → w'.cell? ⟨b_1, o, none⟩ = (W.alloc (.cells #[.int .i64 k, .int .i64 c2, .int .i64 c3] 87)).cell? ⟨b_1, o, none⟩)) (by kernel_rfl) (keep0 _) (fun hHeld => ?_)
  (refine wpAnyH_take (i := 0) (v := ?_) rfl (by kernel_rfl) (by kernel_rfl) (by kernel_rfl) (fun _ _ _ h => h) (Or.inl ⟨by rfl, ?rt⟩) (by assumption) ?_; case rt => (intro w hSw; (try dsimp only at hSw); go_simp; (try with_reducible rfl))); (try simp only [Act.put, List.getElem_toArray, List.getElem_cons_succ, List.getElem_cons_zero, List.setIfInBounds_toArray, List.set_cons_zero, List.set_cons_succ])
  (refine wpAnyH_take (i := 1) (v := ?_) rfl (by kernel_rfl) (by kernel_rfl) (by kernel_rfl) (fun _ _ _ h => h) (Or.inl ⟨by rfl, ?rt⟩) (by assumption) ?_; case rt => (intro w hSw; (try dsimp only at hSw); go_simp; (try with_reducible rfl))); (try simp only [Act.put, List.getElem_toArray, List.getElem_cons_succ, List.getElem_cons_zero, List.setIfInBounds_toArray, List.set_cons_zero, List.set_cons_succ])
  (refine wpAnyH_take (i := 3) (v := ?_) rfl (by kernel_rfl) (by kernel_rfl) (by kernel_rfl) (fun _ _ _ h => h) (Or.inl ⟨by rfl, ?rt⟩) (by assumption) ?_; case rt => (intro w hSw; (try dsimp only at hSw); go_simp; (try with_reducible rfl))); (try simp only [Act.put, List.getElem_toArray, List.getElem_cons_succ, List.getElem_cons_zero, List.setIfInBounds_toArray, List.set_cons_zero, List.set_cons_succ])
  (refine wpAnyH_take (i := 4) (v := ?_) rfl (by kernel_rfl) (by kernel_rfl) (by kernel_rfl) (fun _ _ _ h => h) (Or.inl ⟨by rfl, ?rt⟩) (by assumption) ?_; case rt => (intro w hSw; (try dsimp only at hSw); go_simp; (try with_reducible rfl))); (try simp only [Act.put, List.getElem_toArray, List.getElem_cons_succ, List.getElem_cons_zero, List.setIfInBounds_toArray, List.set_cons_zero, List.set_cons_succ])
  (refine wpAnyH_take (i := 5) (v := ?_) rfl (by kernel_rfl) (by kernel_rfl) (by kernel_rfl) (fun _ _ _ h => h) (Or.inl ⟨by rfl, ?rt⟩) (by assumption) ?_; case rt => (intro w hSw; (try dsimp only at hSw); go_simp; (try with_reducible rfl))); (try simp only [Act.put, List.getElem_toArray, List.getElem_cons_succ, List.getElem_cons_zero, List.setIfInBounds_toArray, List.set_cons_zero, List.set_cons_succ])
  (refine wpAnyH_ready (rs := [2]) (by kernel_rfl) (by simp) ?_; refine AllReadyH.cons rfl (fun K hK => ?_) AllReadyH.nil; go_simp; refine (GC.out _).mono ?_; rintro e w1 ⟨rfl, hb1⟩; refine hK.out _ _ (keepB (by assumption) hb1) (fun hHeld => ?_); clear hK K); (try simp only [Act.put, List.getElem_toArray, List.getElem_cons_succ, List.getElem_cons_zero, List.setIfInBounds_toArray, List.set_cons_zero, List.set_cons_succ])
  (refine wpAnyH_take (i := 6) (v := ?_) rfl (by kernel_rfl) (by kernel_rfl) (by kernel_rfl) (fun _ _ _ h => h) (Or.inl ⟨by rfl, ?rt⟩) (by assumption) ?_; case rt => (intro w hSw; (try dsimp only at hSw); go_simp; (try with_reducible rfl))); (try simp only [Act.put, List.getElem_toArray, List.getElem_cons_succ, List.getElem_cons_zero, List.setIfInBounds_toArray, List.set_cons_zero, List.set_cons_succ])
  (refine wpAnyH_take (i := 7) (v := ?_) rfl (by kernel_rfl) (by kernel_rfl) (by kernel_rfl) (fun _ _ _ h => h) (Or.inl ⟨by rfl, ?rt⟩) (by assumption) ?_; case rt => (intro w hSw; (try dsimp only at hSw); go_simp; (try with_reducible rfl))); (try simp only [Act.put, List.getElem_toArray, List.getElem_cons_succ, List.getElem_cons_zero, List.setIfInBounds_toArray, List.set_cons_zero, List.set_cons_succ])
  refine wpAnyH_done (by kernel_rfl) ?_ _
  go_wp2
  go_ret
  exact ⟨ret_bool (by simp [i64_in e1 e2]), (by repeat (first | with_reducible exact Below.refl _ _ | with_reducible assumption | with_reducible apply Ba | with_reducible apply Bd | with_reducible apply Bn | with_reducible apply Bg | (with_reducible refine Bs ?_ (by first | (simp; done) | (simp; omega)) _) | (with_reducible refine Bt ?_ (by assumption)) | (with_reducible refine Bt ?_ (Gr.below (by assumption)))))⟩
/-- What holds within the walk. -/
def IWi (W1 : World) (x y r : Int) (cnt : Hd → Bool) : Inv := fun s Y W => LV encF 77 3 59 W1.heap.size (hitL (x, y) r cnt (tellL s)) Y W ∧ RowKit.Below W1.heap.size W1 W
theorem iwi_stab (W1 : World) : Stab (IWi W1 x y r cnt) := fun s Y W W' ⟨h1, h2⟩ hb => ⟨h1.below hb, Bt h2 hb⟩
set_option maxHeartbeats 4000000 in
set_option maxRecDepth 100000 in
theorem wit2_call (W1 : World) (hE : EnvN W1 bp br bc x y r fc vc) (hc : CntF W1 fc vc cnt) (hp : reachB x y = true) (h0 : 0 ≤ r) (h1 : r ≤ 8388608) (s : List Ev) (Y : Nat → Prop) (W : World) (b : Bxd) (hb : okR b.2 = true) (hi : IWi W1 x y r cnt s Y W) (ho : OwnB Y W) (hlen : (hitL (x, y) r cnt (tellL s)).length ≤ 10000) :
    Calls Tryz.prog 55 #[.agg #[.int .i64 b.1.1, .int .i64 b.1.2], .agg #[.int .i64 b.2.1, .int .i64 b.2.2.1, .int .i64 b.2.2.2.1, .int .i64 b.2.2.2.2], .pointer (some ⟨bp, 0, none⟩), .pointer (some ⟨br, 0, none⟩), .pointer (some ⟨bc, 0, none⟩), .pointer (some ⟨W1.heap.size, 0, none⟩)] W fun e w' => (∃ r, e = .returned r) ∧ Cb (IWi W1 x y r cnt) (s ++ [Ev.tell b]) Y W w' := by
  have HM := Lib.hid (hitL_snoc (x, y) r cnt (tellL s) b)
  rw [← tellL_tell] at HM
  have HI := Lib.hid hi
  have HIs := Lib.hid (Cb.refl hi ho)
  have HO := Lib.hid ho
  obtain ⟨⟨v, k1, k2, k3, k4⟩, hbW⟩ := hi
  obtain ⟨⟨z1, z2⟩, b1, b2, b3, b4⟩ := b
  have CC := Lib.hid (fun W' (hW : RowKit.Below W.heap.size W W') => hc.ask z1 z2 W' (Bt hbW hW))
  have DC := Lib.hid (fun W => ndist_call x y b1 b2 b3 b4 W hp hb)
  have hen := hc.en
  obtain ⟨e1, e2⟩ := sq_bd (d := r) (by omega) (by omega)
  obtain ⟨a1, a2, a3, a4⟩ := hE.below hbW
  have l1 := cell_lt a1
  have l3 := cell_lt a3
  have l4 := cell_lt a4
  dsimp only at HM ⊢
  unfold faB at HM
  dsimp only at HM
  generalize hD : sqI (x, y) (ctrB (b1, b2, b3, b4)) = D at *
  have H1 := Lib.hid k1
  have H2 := Lib.hid k2
  have H3 := Lib.hid k3
  have HLV := Lib.hid k4
  obtain ⟨lv, hlv⟩ : ∃ lv, lv = W1.heap.size := ⟨_, rfl⟩
  have HLE := Lib.hid hlv
  rw [← hlv] at H1 H2 H3 HLV k1 ⊢
  have hlw := HLV.out
  clear hD hc hE hb ho k2 k3 k4 hlv hbW
  have hnoth : ¬ (D ≤ r * r ∧ cnt (z1, z2) = true) → Cb (IWi W1 x y r cnt) (s ++ [Ev.tell ((z1, z2), (b1, b2, b3, b4))]) Y W W := fun hn => by
    rw [if_neg hn, List.append_nil] at HM
    exact ⟨Y, ⟨by rw [HM.out]; exact HI.out.1, HI.out.2⟩, Tch.refl _ _, fun z e => ⟨.inl e, HO.out z e⟩⟩
  have HN := Lib.hid hnoth
  clear hnoth
  by_cases hd : D ≤ r * r
  · cases hcn : cnt (z1, z2) with
    | false =>
      rw [hcn] at CC
      have HC := Lib.hid (HN.out (by rw [hcn]; simp))
      clear HN HM hcn k1
      go_enter Tryz.func55, Tryz.ntmps55
      go_wp2_with fail
      refine (DC.out _).mono ?_
      rintro e w1 ⟨rfl, hb1⟩
      obtain ⟨kk1, -⟩ := three_blk (w := W) (o1 := .cells #[.int .i64 z1, .int .i64 z2] 42) (o2 := .cells #[.int .i64 b1, .int .i64 b2, .int .i64 b3, .int .i64 b4] 45) hb1
      obtain ⟨x1, x2, -⟩ := two_cells kk1
      have hxl := cell_lt x1
      have B1 := Lib.hid (by exact (by repeat (first | with_reducible exact Below.refl _ _ | with_reducible assumption | with_reducible apply Ba | with_reducible apply Bd | with_reducible apply Bn | with_reducible apply Bg | (with_reducible refine Bs ?_ (by first | (simp; done) | (simp; omega)) _) | (with_reducible refine Bt ?_ (by assumption)) | (with_reducible refine Bt ?_ (Gr.below (by assumption))))) : RowKit.Below W.heap.size W w1)
      have c3 := Bc B1.out l3 a3
      have c4 := Bc B1.out l4 a4
      have m3 := Bl B1.out l3
      have m4 := Bl B1.out l4
      have C1 := Lib.hid (CC.out w1 B1.out)
      clear hb1 kk1 a1 a2 a3 a4 l1 l3 l4 CC
      go_wp2_with fail
      refine C1.out.mono ?_
      rintro e w2 ⟨rfl, hb2⟩
      have B2 := Lib.hid (Bt B1.out hb2)
      clear hb2
      go_wp2
      first | go_end0 | refine bodyPost_ret (results_none rfl _ _ _) rfl ?_
      exact ⟨⟨_, rfl⟩, Cb.below (iwi_stab _) HC.out B2.out⟩
    | true =>
      rw [hcn] at CC
      rw [if_pos ⟨hd, hcn⟩] at HM
      obtain ⟨q1, -⟩ := one_cell k1
      clear HN hcn k1
      go_enter Tryz.func55, Tryz.ntmps55
      go_wp2_with fail
      refine (DC.out _).mono ?_
      rintro e w1 ⟨rfl, hb1⟩
      obtain ⟨kk1, -⟩ := three_blk (w := W) (o1 := .cells #[.int .i64 z1, .int .i64 z2] 42) (o2 := .cells #[.int .i64 b1, .int .i64 b2, .int .i64 b3, .int .i64 b4] 45) hb1
      have KK1 := Lib.hid kk1
      obtain ⟨x1, x2, -⟩ := two_cells kk1
      have hxl := cell_lt x1
      have B1 := Lib.hid (by exact (by repeat (first | with_reducible exact Below.refl _ _ | with_reducible assumption | with_reducible apply Ba | with_reducible apply Bd | with_reducible apply Bn | with_reducible apply Bg | (with_reducible refine Bs ?_ (by first | (simp; done) | (simp; omega)) _) | (with_reducible refine Bt ?_ (by assumption)) | (with_reducible refine Bt ?_ (Gr.below (by assumption))))) : RowKit.Below W.heap.size W w1)
      have c3 := Bc B1.out l3 a3
      have c4 := Bc B1.out l4 a4
      have m3 := Bl B1.out l3
      have m4 := Bl B1.out l4
      have C1 := Lib.hid (CC.out w1 B1.out)
      clear hb1 kk1 a1 a2 a3 a4 l1 l3 l4 CC
      go_wp2_with fail
      refine C1.out.mono ?_
      rintro e w2 ⟨rfl, hb2⟩
      have b2' := Bt B1.out hb2
      have kk2 := blk_below KK1.out hb2
      clear x1 x2 hxl c3 c4 m3 m4
      obtain ⟨x1, x2, -⟩ := two_cells kk2
      have hxl := cell_lt x1
      have y1 := Bc b2' hlw q1
      have hlv2 : lv < w2.heap.size := Bl b2' hlw
      have H12 := Lib.hid (blk_below H1.out b2')
      have O3 := Lib.hid ((row_below H2.out b2').alloc (.cells #[.int .i64 z1, .int .i64 z2, .int .i64 D] 77))
      have S3 := Lib.hid (sl_lit (enc := encF) (w := w2) (cs := #[.int .i64 z1, .int .i64 z2, .int .i64 D]) (t := 77) (b := w2.heap.size) [(D, (z1, z2))] rfl rfl (by unfold maxLen; simp))
      have HL := Lib.hid hlen
      have B2 := Lib.hid (Ba b2' (.cells #[.int .i64 z1, .int .i64 z2, .int .i64 D] 77))
      clear hb2 b2' kk2 hlen q1
      go_wp2_with (at_builtin; (refine wpl_app2 apF rfl _ _ rfl (lv + 1) (by rfl) (by rfl) O3.out rfl S3.out (by have := HL.out; simp; omega) (by simp; omega) ?_; intro v3 w3 hown3 hgrow3 hor3 hnil3; obtain ⟨p3, cap3, rfl, hx3, hy3, hz3⟩ := row_val hown3; clear hx3 hy3 hz3; have k9 : w3.cell? ⟨lv, 0, none⟩ = some v ∧ w3.frozen? ⟨lv, 0, none⟩ = false := one_cell ((hgrow3.block lv (by simp; omega) (fun e => by have := row_base0 H2.out e.symm; omega)).trans (blk_below H12.out (Ba (Below.refl _ _) _))); obtain ⟨k9, k8⟩ := k9; have HG := Lib.hid hgrow3; have HNN := Lib.hid hown3; have HOR := Lib.hid hor3; clear hgrow3 hown3 hor3 hnil3; fail_if_success done))
      first | go_end0 | refine bodyPost_ret (results_none rfl _ _ _) rfl ?_
      obtain ⟨Y', l1, l2, l3⟩ := LV.app H1.out H2.out H3.out B2.out HNN.out HG.out HOR.out
      simp only [List.length_append, List.length_singleton] at l1 l2 l3
      rw [HLE.out] at l1 l2 l3 ⊢
      refine ⟨⟨_, rfl⟩, Y', ⟨by rw [HM.out]; exact l1, ?_⟩, l2, l3⟩
      refine HI.out.2.trans (Tch.below l2 (fun b e => ?_) (by have := HI.out.2.size; omega))
      have hle := HLE.out
      rcases (H3.out b).1 e with c | c
      · omega
      · have := row_base0 H2.out c
        omega
  · have HC := Lib.hid (HN.out (fun h => hd h.1))
    clear HN HM CC k1
    go_enter Tryz.func55, Tryz.ntmps55
    go_wp2_with fail
    refine (DC.out _).mono ?_
    rintro e w1 ⟨rfl, hb1⟩
    have B1 := Lib.hid (by exact (by repeat (first | with_reducible exact Below.refl _ _ | with_reducible assumption | with_reducible apply Ba | with_reducible apply Bd | with_reducible apply Bn | with_reducible apply Bg | (with_reducible refine Bs ?_ (by first | (simp; done) | (simp; omega)) _) | (with_reducible refine Bt ?_ (by assumption)) | (with_reducible refine Bt ?_ (Gr.below (by assumption))))) : RowKit.Below W.heap.size W w1)
    have c1 := Bc B1.out l3 a3
    have m1 := Bl B1.out l3
    clear hb1
    go_wp2
    first | go_end0 | refine bodyPost_ret (results_none rfl _ _ _) rfl ?_
    exact ⟨⟨_, rfl⟩, Cb.below (iwi_stab _) HC.out B1.out⟩
end
end Go.Proofs.YtahichjiphjapaaGreatDoor

/-
  Package near: within, over the walk.
-/
namespace Go.Proofs.YtahichjiphjapaaGreatDoor
set_option linter.unusedSimpArgs false
set_option linter.unusedVariables false
open Go.RowKit Go.Sort Go.Lib Go.Shelf

theorem once_sub {B l : List Bxd} (ho : OnceB B) (hn : l.Nodup) (hs : ∀ b ∈ l, b ∈ B) : OnceB l := by
  unfold OnceB
  rw [List.Nodup, List.pairwise_map]
  exact hn.imp_of_mem fun {a b} ha hb hab e => hab (ho.eq (hs a ha) (hs b hb) e)
section
variable {w : World} {M : Nat → Prop} {pt : Nat} {B : List Bxd} {x y r : Int} {fc : FuncId} {vc : Array Value} {cnt : Hd → Bool}
theorem mem_midN {α : Type} {s t : List α} {x : α} {E : List α} (h : s ++ x :: t = E) : x ∈ E := by rw [← h]; simp
theorem ask_fineN {p : Cl → Bool} {R : Rw} {c : Cl} (h : Ev.ask c ∈ evs p R 9 []) : ∃ (k : Nat) (x y : Int), c = ((k : Int), x, y) ∧ rightC ((k : Int), x, y) = true := by
  obtain ⟨t, h1, _, _, h3, h4⟩ := (ask_evs 9 []).1 h
  rw [List.nil_append] at h1
  have e1 := cellU_depth t
  have e2 := cellU_nonneg t
  have e3 := cellU_in t h4 (by omega)
  rw [← h1] at e1 e2 e3
  obtain ⟨c1, c2, c3⟩ := c
  dsimp only at e1 e2 e3
  refine ⟨t.length, c2, c3, by rw [← e1], ?_⟩
  unfold rightC
  simp only [Bool.and_eq_true, decide_eq_true_eq, Int.toNat_natCast]
  omega
set_option maxHeartbeats 4000000 in
set_option maxRecDepth 100000 in
theorem within_call (hp : TrAt w M pt B) (hl : B.length ≤ 200) (hc : CntF w fc vc cnt) (hP : reachB x y = true) (h0 : 0 ≤ r) (h1 : r ≤ 8388608) :
    Calls Tryz.prog 27 #[.pointer (some ⟨pt, 0, none⟩), .agg #[.int .i64 x, .int .i64 y], .int .i64 r, .func (.func fc) #[] vc] w fun e w' => ∃ v' l, e = .returned v' ∧ OnceB l ∧ (∀ b, b ∈ l ↔ b ∈ B ∧ seenB (entN (x, y) r) b.2 = true) ∧ w'.ownsRow w.heap.size 77 3 v' (hitL (x, y) r cnt l).length (flat encF (hitL (x, y) r cnt l)) ∧ RowKit.Below w.heap.size w w' := by
  obtain ⟨mb, R, rv, q4, hT⟩ := hp.thr
  have hM : ∀ b, Thr w M b → b < w.heap.size := fun b e => e.2
  have hnd := hT.rows.evs_nodup (entN (x, y) r)
  have hmem : ∀ b, b ∈ tellL (evs (entN (x, y) r) R 9 []) ↔ b ∈ B ∧ seenB (entN (x, y) r) b.2 = true := fun b => by rw [mem_tellL]; exact hT.rows.tells hT.ok _ b
  have HL1 := Lib.hid hmem
  have HL2 := Lib.hid (once_sub hT.once (nodup_tellL hnd) (fun b hb => ((hmem b).1 hb).1))
  have hlen : (tellL (evs (entN (x, y) r) R 9 [])).length ≤ 200 := Nat.le_trans (nodup_sub_len (nodup_tellL hnd) (fun z hz => ((hmem z).1 hz).1)) hl
  obtain ⟨W1, hW1⟩ : ∃ W1, W1 = ((w.alloc (.cells #[.int .i64 x, .int .i64 y] 24)).alloc (.cells #[.int .i64 r] 3)).alloc (.cells #[.func (.func fc) #[] vc] 61) := ⟨_, rfl⟩
  have hs1 : W1.heap.size = w.heap.size + 3 := by rw [hW1]; simp
  have b1 : RowKit.Below w.heap.size w W1 := by rw [hW1]; exact Ba (Ba (Ba (Below.refl _ w) _) _) _
  obtain ⟨kk1, kk2⟩ := three_blk (w := w) (o1 := .cells #[.int .i64 x, .int .i64 y] 24) (o2 := .cells #[.int .i64 r] 3) (w3 := W1) (by rw [hW1]; exact Ba (Below.refl _ _) _)
  have kk3 := heap_alloc_new ((w.alloc (.cells #[.int .i64 x, .int .i64 y] 24)).alloc (.cells #[.int .i64 r] 3)) (.cells #[.func (.func fc) #[] vc] 61)
  rw [← hW1, show ((w.alloc (.cells #[.int .i64 x, .int .i64 y] 24)).alloc (.cells #[.int .i64 r] 3)).heap.size = w.heap.size + 1 + 1 by simp] at kk3
  have henv : EnvN W1 w.heap.size (w.heap.size + 1) (w.heap.size + 1 + 1) x y r fc vc := ⟨(blk_cell kk1 0).trans rfl, (blk_cell kk1 1).trans rfl, (blk_cell kk2 0).trans rfl, (blk_cell kk3 0).trans rfl⟩
  have hbW := b1.trans ((Ba (Below.refl _ W1) (.cells #[.slice none 0 0] 59)).mono b1.size)
  have h00 : IWi W1 x y r cnt [] (fun b => b = W1.heap.size) (W1.alloc (.cells #[.slice none 0 0] 59)) := by
    have e : hitL (x, y) r cnt (tellL []) = [] := rfl
    unfold IWi
    rw [e]
    exact ⟨LV.new W1, Ba (Below.refl _ _) _⟩
  have HW := Lib.hid (show Calls Tryz.prog 52 #[pp pt, .func (.func 53) #[] #[pp w.heap.size, pp (w.heap.size + 1)], .func (.func 55) #[] #[pp w.heap.size, pp (w.heap.size + 1), pp (w.heap.size + 1 + 1), pp W1.heap.size]] (W1.alloc (.cells #[.slice none 0 0] 59)) (fun e w' => (∃ r, e = .returned r) ∧ Cb (IWi W1 x y r cnt) (evs (entN (x, y) r) R 9 []) (fun b => b = W1.heap.size) (W1.alloc (.cells #[.slice none 0 0] 59)) w') from by
    refine walkG_call (M := Thr w M) { hT with blk := blk_below hT.blk hbW, map := hT.map.below hbW, nd := hT.nd.below hbW } (by omega) (fun z e => ⟨fun h => ?_, Nat.lt_of_lt_of_le (hM z e) hbW.size⟩) (iwi_stab W1) _ _ _ (entN (x, y) r) (.inl ⟨_, _, rfl⟩) (enters_of Tryz.func53 (by kernel_rfl) rfl) ?_ (tell_func (iwi_stab W1) _ _ _ (enters_of Tryz.func55 (by kernel_rfl) rfl) ?_) h00 (fun z e => by rw [e]; simp)
    · have h2 := hM z e
      omega
    · intro s t Y W' c' hs hi ho
      obtain ⟨k, c2, c3, rfl, hr⟩ := ask_fineN (mem_midN hs)
      refine (wit1_call W' (henv.below hi.2) hP h0 h1 k c2 c3 hr).mono fun e w' ⟨he, hb⟩ => ⟨he, Cb.below (iwi_stab W1) (Cb.refl ⟨by rw [tellL_ask]; exact hi.1, hi.2⟩ ho) hb⟩
    · intro s t Y W' b' hs hi ho
      have hm := (hT.rows.tells hT.ok _ b').1 (mem_midN hs)
      refine wit2_call W1 henv (hc.below b1) hP h0 h1 s Y W' b' (hT.ok b' hm.1).1 hi ho ?_
      have h2 := hitL_len (x, y) r cnt (tellL s)
      have h3 : (tellL s).length ≤ (tellL (evs (entN (x, y) r) R 9 [])).length := by
        rw [← hs]
        unfold tellL
        rw [List.filterMap_append, List.length_append]
        omega
      omega)
  have B1 := Lib.hid b1
  have B2 := Lib.hid hbW
  have HW1 := Lib.hid hW1
  have HS1 := Lib.hid hs1
  clear hs1
  have hmf : ∀ (fn : Fn) (first cap : Array Value) (w : World), (Instr.makeFunc fn first cap).run Tryz.prog w = .ok (.func fn first cap) w := fun _ _ _ _ => rfl
  clear hT hnd hM hp hc henv b1 hbW kk1 kk2 kk3 hmem hW1 h00 hlen hP h0 h1 hl
  go_enter Tryz.func27, Tryz.ntmps27
  go_wp2_with fail
  rw [← HW1.out, show w.heap.size + 1 + 1 + 1 = W1.heap.size from HS1.out.symm]
  refine HW.out.mono ?_
  rintro e w3 ⟨⟨r', rfl⟩, Y', ⟨⟨v, k1, k2, k3, k4⟩, k5⟩, t3, o3⟩
  obtain ⟨c1, -⟩ := one_cell k1
  have R3 := Lib.hid (row_mono k2 (show w.heap.size ≤ W1.heap.size + 1 by have := HS1.out; omega))
  have B3 := Lib.hid (B1.out.trans (k5.mono B1.out.size))
  clear k1 k2 k3 k5 t3 o3
  go_wp2
  go_ret
  exact ⟨_, _, rfl, HL2.out, HL1.out, R3.out, B3.out⟩
end
end Go.Proofs.YtahichjiphjapaaGreatDoor
