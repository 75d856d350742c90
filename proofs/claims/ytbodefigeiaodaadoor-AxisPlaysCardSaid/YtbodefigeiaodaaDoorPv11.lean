/-
  Package axis: Put of a span.
-/
import Derived.Test.YtbodefigeiaodaaDoorPu11
namespace Go.Proofs.YtbodefigeiaodaaDoor
set_option linter.unusedSimpArgs false
set_option linter.unusedVariables false
open Go.RowKit Go.Sort Go.Lib Go.Shelf

attribute [local go_sem] Oper.semAt_some
section
variable {pa : Nat} {L : List Spn} {M : Nat → Prop} {w : World}
set_option maxHeartbeats 4000000 in
set_option maxRecDepth 100000 in
theorem put_yes (h : AxAt w M pa L) (x y s1 s2 : Int) (hx : HdOk (x, y)) (hsp : spanB s1 s2 = true) (hlen : L.length ≤ 200) (t : TypeId) (u : Value) (hE : w.cell? ⟨2, 0, none⟩ = some (.iface t u)) :
    Calls Tryd.prog 10 #[.pointer (some ⟨pa, 0, none⟩), .agg #[.int .i64 x, .int .i64 y], .int .i64 s1, .int .i64 s2] w fun e w' => e = .returned .nilIface ∧ AxAt w' (New M w w') pa (without L (x, y) ++ [((x, y), (s1, s2))]) ∧ Tch M w w' := by
  obtain ⟨mp0, sp0, v0, K0, hI0, hK0, ho0, hok0⟩ := h
  obtain ⟨hI, hTM⟩ := hI0.tight
  have HA := Lib.hid (show AxAt w (own4 pa mp0 sp0 v0) pa L from ⟨mp0, sp0, v0, K0, hI, hK0, ho0, hok0⟩)
  have hpal := hI.lt
  have HTM := Lib.hid hTM
  have HR := Lib.hid (fun W => reach_any s1 s2 W)
  have HE := Lib.hid hE
  unfold spanB at hsp
  simp only [Bool.and_eq_true, decide_eq_true_eq] at hsp
  rw [hsp.2] at HR
  have hng : ¬ s1 > s2 := by omega
  clear hI0 hI hTM hK0 ho0 hok0 hE hsp
  generalize own4 pa mp0 sp0 v0 = T0 at *
  obtain ⟨n0, hn0⟩ : ∃ n0, n0 = w.heap.size := ⟨_, rfl⟩
  refine callsIn_wide (n := 6).1 ?_
  refine callsIn_of_wp_marks Tryd.func10 rfl trivial ?_ rfl
  simp only [Tryd.ntmps10, List.size_toArray, List.length_cons, List.length_nil, Nat.reduceAdd, Nat.reduceSub, Array.replicate_succ, Array.replicate_zero, List.push_toArray, List.append_toArray, List.nil_append, List.cons_append]
  have HN0 := Lib.hid hn0
  clear hn0
  gi_wp2_with fail
  refine ⟨trivial, callsIn_wide.2 ((HR.out _).mono ?_)⟩
  rintro e w1 ⟨rfl, hg1⟩
  have hb0 := Ba (Ba (Below.refl _ w) (.cells #[.pointer (some ⟨pa, 0, none⟩)] 24)) (.cells #[.int .i64 x, .int .i64 y] 28)
  obtain ⟨k1, k2⟩ := three_blk hg1
  have hb1 := Lib.hid (Bt hb0 hg1)
  have hs1 : w.heap.size + 2 ≤ w1.heap.size := by have := hg1.size; simp at this; omega
  have DR := Lib.hid (drop_any (HA.out.below hb1.out) x y hx hlen t u (Bc hb1.out (cell_lt HE.out) HE.out))
  rw [← HN0.out] at k1 k2 hs1 ⊢
  have K1 := Lib.hid (And.intro k1 k2)
  obtain ⟨c0, _⟩ := one_cell k1
  obtain ⟨d0, d1, _⟩ := two_cells k2
  have l0 := cell_lt c0
  have l1 := cell_lt d0
  clear k1 k2 hb0 hg1
  gi_wp2_with fail
  refine ⟨trivial, callsIn_wide.2 (DR.out.mono ?_)⟩
  rintro e w2 ⟨⟨r, rfl⟩, hA2, hT2⟩
  obtain ⟨mp, sp, v, K, hI2, hK, ho, hok⟩ := hA2
  obtain ⟨hI, hTM2⟩ := hI2.tight
  clear hI2
  have hT0 : ∀ b, T0 b → b < n0 := fun b e => by rw [HN0.out]; exact (HTM.out b e).2
  have hl0 : ∀ b, own4 pa mp sp v b → (T0 b ∨ w1.heap.size ≤ b) ∧ b < w2.heap.size := fun b e => ⟨(hTM2 b e).1.elim .inl (fun e => .inr e.1), (hTM2 b e).2⟩
  have HL0 := Lib.hid hl0
  have hap : ∀ b, own4 pa mp sp v b → b ≠ n0 ∧ b ≠ n0 + 1 := fun b e => by
    rcases (hl0 b e).1 with c | c
    · have := hT0 b c; omega
    · omega
  have K2 := Lib.hid (And.intro (hT2.blk K1.out.1 (fun e => by have := hT0 _ e; omega)) (hT2.blk K1.out.2 (fun e => by have := hT0 _ e; omega)))
  have T2 := Lib.hid hT2
  have HAP := Lib.hid hap
  have HT0 := Lib.hid hT0
  obtain ⟨n1, hn1⟩ : ∃ n1, n1 = w2.heap.size := ⟨_, rfl⟩
  have hn1s : w1.heap.size ≤ n1 := by rw [hn1]; exact hT2.size
  have B3 := Lib.hid (Ba (Below.refl _ w2) (.cells #[.int .i64 s1, .int .i64 s2] 84))
  have I3 := Lib.hid (hI.below B3.out)
  have K3 := Lib.hid (And.intro (blk_below K2.out.1 B3.out) (And.intro (blk_below K2.out.2 B3.out) (hn1 ▸ heap_alloc_new w2 (.cells #[.int .i64 s1, .int .i64 s2] 84))))
  have HW3 : ∃ w3, w3 = w2.alloc (.cells #[.int .i64 s1, .int .i64 s2] 84) := ⟨_, rfl⟩
  obtain ⟨w3, hw3⟩ := HW3
  have hs3 : w3.heap.size = n1 + 1 := by rw [hw3, hn1]; simp
  rw [← hw3] at B3 I3 K3
  have HMC := Lib.hid (fun W => meeting_call pa s1 s2 W)
  have a0 := (one_cell K2.out.1).1
  have b0 : w2.cell? ⟨n0, 0, none⟩ = some (.pointer (some ⟨pa, 0, none⟩)) := a0
  clear hT2 hTM2 hI hT0 hl0 hap l0 l1 c0 d0 d1 DR
  have l0 := cell_lt b0
  have hnn : n0 ≠ w2.heap.size := by omega
  clear a0
  gi_wp2_with fail
  rw [← hw3, ← hn1]
  have HW := Lib.hid (And.intro hw3 hn1)
  clear hw3 hn1 hnn b0 l0
  refine ⟨trivial, callsIn_wide.2 ((HMC.out _).mono ?_)⟩
  rintro e w6 ⟨rfl, hw6⟩
  gi_wp2_with fail
  obtain ⟨n2, hn2⟩ : ∃ n2, n2 = w6.heap.size := ⟨_, rfl⟩
  have hb6 : RowKit.Below w3.heap.size w3 w6 := by rw [hw6]; exact Ba (Ba (Below.refl _ w3) _) _
  obtain ⟨q1, q2⟩ := three_blk (w := w3) (o1 := .cells #[.pointer (some ⟨pa, 0, none⟩)] 24) (o2 := .cells #[.int .i64 s1, .int .i64 s2] 84) (w3 := w6) (by rw [hw6]; exact Below.refl _ _)
  have hs6 : n2 = n1 + 3 := by rw [hn2, hw6]; simp; omega
  rw [hs3] at q1 q2
  rw [← hw6]
  clear hw6
  have I6 := Lib.hid (I3.out.below hb6)
  have KB6 := Lib.hid (And.intro (blk_below K3.out.1 hb6) (And.intro (blk_below K3.out.2.1 hb6) (blk_below K3.out.2.2 hb6)))
  have T6 := Lib.hid ((T2.out.bel B3.out).bel hb6)
  have hlt6 : ∀ b, own4 pa mp sp v b → b < n1 := fun b e => by rw [HW.out.2]; exact (HL0.out b e).2
  have HLT := Lib.hid hlt6
  have hItF : ItF w6 n2 mp pa sp (n1 + 1) (n1 + 1 + 1) v (without L (x, y)) (s1, s2) := by
    have hI := I6.out
    obtain ⟨es, cc, hme⟩ := hI.2.1.is
    have hrm := row_not_map hI.2.2.2 hme
    have hpa := hlt6 pa (.inl rfl)
    have hmp := hlt6 mp (.inr (.inl rfl))
    have hsp := hlt6 sp (.inr (.inr (.inl rfl)))
    exact ⟨q1, q2, hI.head, hI.2.2.1, ⟨hI.2.2.2.1, fun g hg => ⟨fun e => hrm (by rw [← e]; exact hg), by have := hlt6 g (.inr (.inr (.inr hg))); omega⟩⟩, ⟨by omega, by omega⟩, ⟨by omega, by omega⟩, ⟨by omega, hI.pm⟩, ⟨by omega, hI.1.2.2.2.2.symm⟩⟩
  have hmpl := hlt6 mp (.inr (.inl rfl))
  have hpal' := hlt6 pa (.inl rfl)
  have hspl := hlt6 sp (.inr (.inr (.inl rfl)))
  have hmp6 : mp < n2 := by omega
  have hl1 : (without L (x, y)).length ≤ 1000 := by have := without_len L (x, y); omega
  have hno : ∀ b ∈ without L (x, y), b.1 ≠ (x, y) := fun b hb => (mem_without.1 hb).2
  have HNO := Lib.hid hno
  have HOK := Lib.hid hok
  have HK := Lib.hid hK
  have HO := Lib.hid ho
  have STOP := Lib.hid (fun (l : Nat) (J Jx : List (Met (without L (x, y)) (s1, s2)) → World → Prop) (W : World) (hW : RowKit.Below w6.heap.size w6 W) (hJ : AbidesFrom W.heap.size J) hY (h0 : J [] W) => meet_in 5 (by omega) l (n1 + 1) (n1 + 1 + 1) n2 mp pa sp v (without L (x, y)) (s1, s2) ho hok hl1 J Jx hY W hJ (hItF.off hW) (by rw [hn2]; exact hW.size) h0)
  have HME := Lib.hid I6.out.2.1
  have HN2 := Lib.hid hn2
  clear hItF q1 q2 hno hok hK ho hlt6 hb6 hn2
  refine wpIn_rangeFunc_ownH (α := Met (without L (x, y)) (s1, s2)) rfl (by omega) (gf := MeetF) (lb := #[.pointer (some ⟨n1 + 1, 0, none⟩), .pointer (some ⟨n1 + 1 + 1, 0, none⟩)]) rfl trivial (enters_of Tryd.func53 (by kernel_rfl) rfl)
    (encs := fun x => #[.agg #[.int .i64 x.1.1, .int .i64 x.1.2]]) (Kp := KpM mp n2) (S := AllIn) (Sp := fun _ => True) (N := 2 * (without L (x, y)).length) (w0 := w6) (fun l J Jx W hW hJ _ hY h0 => STOP.out l J Jx W hW hJ hY h0) kp_trans (fun W l o o' hl _ _ _ => kp_put W l o' (by rw [HN2.out]; exact hl)) (Below.refl _ _) (fun _ => rfl)
    (IPr mp n2 w6 (joinsK K (x, y)))
    (fun _ _ _ => False)
    (by rw [← HN2.out]; exact ipr_own hmp6)
    (fun _ _ _ _ _ hs _ _ => hs)
    ⟨Tch.refl _ _, HME.out⟩
    (fun z a' W => AxR n2 (fun Bx q => { tmps := #[.pointer (some ⟨pa, 0, none⟩), .agg #[.int .i64 x, .int .i64 y], .int .i64 s1, .int .i64 s2, .pointer (some ⟨n0, 0, none⟩), .pointer (some ⟨n0 + 1, 0, none⟩), undef, undef, .nilIface, .pointer (some ⟨n1, 0, none⟩), .pointer (some ⟨Bx, 0, none⟩), undef, undef, .int .i64 s1, .int .i64 s2, .bool false, .bool false, .int .i64 s1, .int .i64 s2, .agg #[.int .i64 s1, .int .i64 s2], .bool true, .bool false, .bool false, undef, .pointer (some ⟨pa, 0, none⟩), .agg #[.int .i64 x, .int .i64 y], r, .int .i64 s1, .int .i64 s2, .agg #[.int .i64 s1, .int .i64 s2], .pointer (some ⟨pa, 0, none⟩), .agg #[.int .i64 s1, .int .i64 s2], .func (.func MeetF) #[] #[.pointer (some ⟨n1 + 1, 0, none⟩), .pointer (some ⟨n1 + 1 + 1, 0, none⟩)], .agg #[.int .i64 q.1, .int .i64 q.2], undef, undef, undef, undef, undef, undef, undef, undef, undef, undef, undef, undef, undef, undef, undef, undef, undef, undef, undef, undef, undef, undef, undef, undef, undef, undef, undef, undef, undef, undef, undef, undef, undef], defers := [] }) z.1 a' W)
    (fun z a' => by rw [← HN2.out]; exact axr_own) ?assign ?body ?done ?stop
  case assign =>
    intro l pre z W K1 hI hK1
    gi_wp2
    refine hK1 _ _ ((KeepsOthers.alloc W _).from _) (Tch.of (Ba (Below.refl _ W) _)) (hI.bel (Ba (Below.refl _ W) _)) ⟨W.heap.size, by rw [HN2.out]; exact hI.1.size, heap_alloc_new W _, rfl⟩
  case body =>
    rintro l pre z a' W hl ⟨r, hr⟩ ⟨hKp, hMq⟩ ⟨Bx, hBx, hbx, rfl⟩ hlt
    obtain ⟨bz, hbz, e1z, e2z⟩ := z.2
    have hzn := HNO.out bz hbz
    have hzok := HOK.out bz hbz
    rw [e1z] at hzn hzok
    have hpn := joinsK_snoc K (x, y) (pre.map (fun x => x.1)) z.1
    have hkl : (joinsK K (x, y) (pre.map (fun x => x.1))).length < 100000 := by
      have hnd := nodup_joinsK (x, y) (pre.map (fun x => x.1)) K HK.out.1
      have := PM.len (L := without L (x, y) ++ [((x, y), (s1, s2))]) hnd (fun q hq => by
        rw [PM.put HNO.out]
        rcases (mem_joinsK (x, y) q _ _).1 hq with e | ⟨y', hy', e⟩
        · exact .inl ((HK.out.2 q).1 e)
        · obtain ⟨zz, hzz, rfl⟩ := List.mem_map.1 hy'
          obtain ⟨b, hb, f1, f2⟩ := zz.2
          exact .inr ⟨b, hb, f2, by rw [f1]; exact e⟩)
      have h2 := without_len L (x, y)
      have h3 : (without L (x, y) ++ [((x, y), (s1, s2))]).length ≤ 201 := by simp; omega
      have h4 := Nat.mul_le_mul h3 h3
      omega
    have hmap : ((pre ++ [z]).map (fun x => x.1)) = pre.map (fun x => x.1) ++ [z.1] := by simp
    obtain ⟨⟨z1, z2⟩, hz⟩ := z
    dsimp only at hzn hzok hpn hmap hbx
    have PT := Lib.hid (fun (W' : World) (hm : MapQ W' mp (joinsK K (x, y) (pre.map (fun x => x.1))).length (prF (joinsK K (x, y) (pre.map (fun x => x.1))))) => join_call x y z1 z2 (fun e => hzn e.symm) hx hzok hm hkl)
    have HPN := Lib.hid hpn
    have HMP := Lib.hid hmap
    have n0mp : n0 ≠ mp := fun e => (HAP.out mp (.inr (.inl rfl))).1 e.symm
    have n1mp : n0 + 1 ≠ mp := fun e => (HAP.out mp (.inr (.inl rfl))).2 e.symm
    have a0 := (one_cell (hKp.blk KB6.out.1 (fun e => e.elim n0mp (fun e => by omega)))).1
    obtain ⟨a1, a2, _⟩ := two_cells (hKp.blk KB6.out.2.1 (fun e => e.elim n1mp (fun e => by omega)))
    obtain ⟨⟨a3, _, _⟩, _⟩ := three_cells (hKp.blk I6.out.head (fun e => e.elim (fun e => I6.out.pm e) (fun e => by omega)))
    obtain ⟨a4, a5, _⟩ := two_cells hbx
    have l0 := cell_lt a0
    have l1 := cell_lt a1
    have l3 := cell_lt a3
    have l4 := cell_lt a4
    have HKp := Lib.hid hKp
    have HMq := Lib.hid hMq
    have hbm : Bx ≠ mp := by omega
    have hpm6 := I6.out.pm
    unfold mpV at PT
    clear hpn hmap hKp hMq hbx hkl hzn hzok
    gi_wp2_with fail
    refine wpIn_region_round (S := fun W2 => W2.cell? ⟨n0, 0, none⟩ = some (.pointer (some ⟨pa, 0, none⟩)) ∧ (W2.cell? ⟨n0 + 1, 0, none⟩ = some (.int .i64 x) ∧ W2.cell? ⟨n0 + 1, 1, none⟩ = some (.int .i64 y)) ∧ W2.cell? ⟨pa, 0, none⟩ = some (.map (some mp)) ∧ W2.cell? ⟨Bx, 0, none⟩ = some (.int .i64 z1) ∧ W2.cell? ⟨Bx, 1, none⟩ = some (.int .i64 z2)) (by kernel_rfl) (by rintro ⟨_, _, q⟩; exact q) (by kernel_rfl) ⟨a0, ⟨a1, a2⟩, a3, a4, a5⟩ (fun hHeld => ?_)
    (refine wpAnyH_take (i := 0) (v := ?_) rfl (by kernel_rfl) (by kernel_rfl) (by kernel_rfl) (fun _ _ _ h => h) (Or.inl ⟨by rfl, ?rt⟩) (by assumption) ?_; case rt => (intro w hSw; (try dsimp only at hSw); go_simp; (try with_reducible rfl))); (try simp only [Act.put, List.getElem_toArray, List.getElem_cons_succ, List.getElem_cons_zero, List.setIfInBounds_toArray, List.set_cons_zero, List.set_cons_succ])
    (refine wpAnyH_take (i := 1) (v := ?_) rfl (by kernel_rfl) (by kernel_rfl) (by kernel_rfl) (fun _ _ _ h => h) (Or.inl ⟨by rfl, ?rt⟩) (by assumption) ?_; case rt => (intro w hSw; (try dsimp only at hSw); go_simp; (try with_reducible rfl))); (try simp only [Act.put, List.getElem_toArray, List.getElem_cons_succ, List.getElem_cons_zero, List.setIfInBounds_toArray, List.set_cons_zero, List.set_cons_succ])
    (refine wpAnyH_take (i := 2) (v := ?_) rfl (by kernel_rfl) (by kernel_rfl) (by kernel_rfl) (fun _ _ _ h => h) (Or.inl ⟨by rfl, ?rt⟩) (by assumption) ?_; case rt => (intro w hSw; (try dsimp only at hSw); go_simp; (try with_reducible rfl))); (try simp only [Act.put, List.getElem_toArray, List.getElem_cons_succ, List.getElem_cons_zero, List.setIfInBounds_toArray, List.set_cons_zero, List.set_cons_succ])
    (refine wpAnyH_take (i := 3) (v := ?_) rfl (by kernel_rfl) (by kernel_rfl) (by kernel_rfl) (fun _ _ _ h => h) (Or.inl ⟨by rfl, ?rt⟩) (by assumption) ?_; case rt => (intro w hSw; (try dsimp only at hSw); go_simp; (try with_reducible rfl))); (try simp only [Act.put, List.getElem_toArray, List.getElem_cons_succ, List.getElem_cons_zero, List.setIfInBounds_toArray, List.set_cons_zero, List.set_cons_succ])
    (refine wpAnyH_take (i := 4) (v := ?_) rfl (by kernel_rfl) (by kernel_rfl) (by kernel_rfl) (fun _ _ _ h => h) (Or.inl ⟨by rfl, ?rt⟩) (by assumption) ?_; case rt => (intro w hSw; (try dsimp only at hSw); go_simp; (try with_reducible rfl))); (try simp only [Act.put, List.getElem_toArray, List.getElem_cons_succ, List.getElem_cons_zero, List.setIfInBounds_toArray, List.set_cons_zero, List.set_cons_succ])
    (refine wpAnyH_take (i := 5) (v := ?_) rfl (by kernel_rfl) (by kernel_rfl) (by kernel_rfl) (fun _ _ _ h => h) (Or.inl ⟨by rfl, ?rt⟩) (by assumption) ?_; case rt => (intro w hSw; (try dsimp only at hSw); go_simp; (try with_reducible rfl))); (try simp only [Act.put, List.getElem_toArray, List.getElem_cons_succ, List.getElem_cons_zero, List.setIfInBounds_toArray, List.set_cons_zero, List.set_cons_succ])
    refine wpAnyH_ready (rs := [6]) (by kernel_rfl) (by simp) ?_
    refine AllReadyH.cons rfl (fun K hK => ?_) AllReadyH.nil
    go_simp
    refine (PT.out W.drew (HMq.out.blk rfl)).mono ?_
    rintro e w7 ⟨rfl, hm7, ht7⟩
    refine hK.out _ _ ⟨ht7.cell l0 n0mp a0, ⟨ht7.cell l1 n1mp a1, ht7.cell l1 n1mp a2⟩, ht7.cell l3 hpm6 a3, ht7.cell l4 hbm a4, ht7.cell l4 hbm a5⟩ (fun hHeld => ?_); clear hK K; (try simp only [Act.put, List.getElem_toArray, List.getElem_cons_succ, List.getElem_cons_zero, List.setIfInBounds_toArray, List.set_cons_zero, List.set_cons_succ])
    refine wpAnyH_done (by kernel_rfl) ?_ _
    clear hHeld
    have ht8 : Tch (fun k => k = mp) W w7 := (tch_drew _ W).more ht7
    exact ⟨kp_from (by rw [← HN2.out]; exact hmp6) (ht8.mono (fun b e => .inl e)), ht8.mono (fun b e => .inl e), ⟨HKp.out.more (ht8.mono (fun b e => .inl e)), by
      rw [HMP.out, HPN.out]
      exact hm7⟩⟩
  case done =>
    rintro D ys W hD hall ⟨hKp, hMq⟩ hKd
    have hKO := KOf.put (s := ((x, y), (s1, s2))) HNO.out HK.out hall
    have HKO := Lib.hid hKO
    clear hall hKO
    have hD2 : n2 ≤ D := by rw [HN2.out]; exact hD
    have hDW : D < W.heap.size := (Array.getElem?_eq_some_iff.1 hKd).1
    have n0mp : n0 ≠ mp := fun e => (HAP.out mp (.inr (.inl rfl))).1 e.symm
    have n1mp : n0 + 1 ≠ mp := fun e => (HAP.out mp (.inr (.inl rfl))).2 e.symm
    have n0sp : n0 ≠ sp := fun e => (HAP.out sp (.inr (.inr (.inl rfl)))).1 e.symm
    have n1sp : n0 + 1 ≠ sp := fun e => (HAP.out sp (.inr (.inr (.inl rfl)))).2 e.symm
    have n0pa : n0 ≠ pa := fun e => (HAP.out pa (.inl rfl)).1 e.symm
    have k1 := hKp.blk KB6.out.1 (fun e => e.elim n0mp (fun e => by omega))
    have k2 := hKp.blk KB6.out.2.1 (fun e => e.elim n1mp (fun e => by omega))
    have k3 := hKp.blk KB6.out.2.2 (fun e => e.elim (fun e => by omega) (fun e => by omega))
    have I7 := I6.out.pairs (K' := joinsK K (x, y) (ys.map (fun x => x.1))) hMq (fun b hb hb2 hne => hKp.block b hb2 (fun e => e.elim hne (fun e => by have := HLT.out b hb; omega)))
    generalize joinsK K (x, y) (ys.map (fun x => x.1)) = K' at *
    obtain ⟨w8, hrun, hm8, hg8⟩ := (I7.2.2.1.below (Bd (Below.refl _ W))).put mptS (by have := without_len L (x, y); omega) (x, y) hx (s1, s2)
    have hnone : spF (without L (x, y)) (x, y) = none := spF_none HNO.out
    rw [hnone] at hm8
    have HM8 := Lib.hid ((hm8.cnt (show (if (none : Option IV).isSome then (without L (x, y)).length else (without L (x, y)).length + 1) = (without L (x, y) ++ [((x, y), (s1, s2))]).length by simp)).congr (g := spF (without L (x, y) ++ [((x, y), (s1, s2))])) (fun z => (spF_snoc (s := ((x, y), (s1, s2))) HNO.out z).symm))
    unfold mH ivV at hrun
    dsimp only at hrun
    have hblk : ∀ {b : Nat} {o : Obj}, W.heap[b]? = some o → b ≠ sp → w8.heap[b]? = some o := fun {b o} hb hne => (hg8.block b (Array.getElem?_eq_some_iff.1 hb).1 (fun e => hne (by cases e; rfl))).trans hb
    have k1' := hblk k1 n0sp
    have k2' := hblk k2 n1sp
    have k3' := hblk k3 (by omega)
    have kD' := hblk hKd (by omega)
    have hs8 : W.heap.size ≤ w8.heap.size := hg8.size
    have I8 : AxIs w8 (own4 pa mp sp v) pa mp sp v (without L (x, y) ++ [((x, y), (s1, s2))]) K' (endsL (without L (x, y))) := I7.spans HM8.out (fun b _ hb hne => hg8.block b hb (fun e => hne (by cases e; rfl)))
    have T8 : Tch (own4 pa mp sp v) W w8 := ⟨hg8.os, hg8.tape, hg8.output, hg8.size, fun k hk hn => hg8.block k hk (fun e => hn (.inr (.inr (.inl (by cases e; rfl)))))⟩
    obtain ⟨c0, _⟩ := one_cell k1
    obtain ⟨d0, d1, _⟩ := two_cells k2
    obtain ⟨e0, e1, _⟩ := two_cells k3
    obtain ⟨⟨_, c1, _⟩, _⟩ := three_cells I7.head
    obtain ⟨c0', _⟩ := one_cell k1'
    obtain ⟨d0', d1', _⟩ := two_cells k2'
    obtain ⟨e0', e1', _⟩ := two_cells k3'
    obtain ⟨⟨_, c1', _⟩, _⟩ := three_cells I8.head
    have l0 := cell_lt c0
    have l1 := cell_lt d0
    have l2 := cell_lt e0
    have l3 := cell_lt c1
    have l0' := cell_lt c0'
    have l1' := cell_lt d0'
    have l2' := cell_lt e0'
    have KB8 := Lib.hid (And.intro k1' (And.intro k2' (And.intro k3' kD')))
    have I8' := Lib.hid I8
    have T8' := Lib.hid T8
    have T7' := Lib.hid hKp
    clear hKp hMq hKd k1 k2 k3 k1' k2' k3' kD' I7 I8 T8 hm8 hg8 hblk hnone
    gi_wp2_with fail
    refine wpIn_wide.2 (wp_region_noPanic ?_)
    refine wp_region_held_drew (S := fun W2 => W2.cell? ⟨n0, 0, none⟩ = some (.pointer (some ⟨pa, 0, none⟩)) ∧ (W2.cell? ⟨n0 + 1, 0, none⟩ = some (.int .i64 x) ∧ W2.cell? ⟨n0 + 1, 1, none⟩ = some (.int .i64 y)) ∧ (W2.cell? ⟨n1, 0, none⟩ = some (.int .i64 s1) ∧ W2.cell? ⟨n1, 1, none⟩ = some (.int .i64 s2)) ∧ W2.cell? ⟨pa, 1, none⟩ = some (.map (some sp))) (by kernel_rfl) ⟨c0, ⟨d0, d1⟩, ⟨e0, e1⟩, c1⟩ (fun hHeld => ?_)
    (refine wpAnyH_take (i := 0) (v := ?_) rfl (by kernel_rfl) (by kernel_rfl) (by kernel_rfl) (fun _ _ _ h => h) (Or.inl ⟨by rfl, ?rt⟩) (by assumption) ?_; case rt => (intro w hSw; (try dsimp only at hSw); go_simp; (try with_reducible rfl))); (try simp only [Act.put, List.getElem_toArray, List.getElem_cons_succ, List.getElem_cons_zero, List.setIfInBounds_toArray, List.set_cons_zero, List.set_cons_succ])
    (refine wpAnyH_take (i := 1) (v := ?_) rfl (by kernel_rfl) (by kernel_rfl) (by kernel_rfl) (fun _ _ _ h => h) (Or.inl ⟨by rfl, ?rt⟩) (by assumption) ?_; case rt => (intro w hSw; (try dsimp only at hSw); go_simp; (try with_reducible rfl))); (try simp only [Act.put, List.getElem_toArray, List.getElem_cons_succ, List.getElem_cons_zero, List.setIfInBounds_toArray, List.set_cons_zero, List.set_cons_succ])
    (refine wpAnyH_take (i := 2) (v := ?_) rfl (by kernel_rfl) (by kernel_rfl) (by kernel_rfl) (fun _ _ _ h => h) (Or.inl ⟨by rfl, ?rt⟩) (by assumption) ?_; case rt => (intro w hSw; (try dsimp only at hSw); go_simp; (try with_reducible rfl))); (try simp only [Act.put, List.getElem_toArray, List.getElem_cons_succ, List.getElem_cons_zero, List.setIfInBounds_toArray, List.set_cons_zero, List.set_cons_succ])
    (refine wpAnyH_take (i := 3) (v := ?_) rfl (by kernel_rfl) (by kernel_rfl) (by kernel_rfl) (fun _ _ _ h => h) (Or.inl ⟨by rfl, ?rt⟩) (by assumption) ?_; case rt => (intro w hSw; (try dsimp only at hSw); go_simp; (try with_reducible rfl))); (try simp only [Act.put, List.getElem_toArray, List.getElem_cons_succ, List.getElem_cons_zero, List.setIfInBounds_toArray, List.set_cons_zero, List.set_cons_succ])
    (refine wpAnyH_take (i := 4) (v := ?_) rfl (by kernel_rfl) (by kernel_rfl) (by kernel_rfl) (fun _ _ _ h => h) (Or.inl ⟨by rfl, ?rt⟩) (by assumption) ?_; case rt => (intro w hSw; (try dsimp only at hSw); go_simp; (try with_reducible rfl))); (try simp only [Act.put, List.getElem_toArray, List.getElem_cons_succ, List.getElem_cons_zero, List.setIfInBounds_toArray, List.set_cons_zero, List.set_cons_succ])
    (refine wpAnyH_take (i := 5) (v := ?_) rfl (by kernel_rfl) (by kernel_rfl) (by kernel_rfl) (fun _ _ _ h => h) (Or.inl ⟨by rfl, ?rt⟩) (by assumption) ?_; case rt => (intro w hSw; (try dsimp only at hSw); go_simp; (try with_reducible rfl))); (try simp only [Act.put, List.getElem_toArray, List.getElem_cons_succ, List.getElem_cons_zero, List.setIfInBounds_toArray, List.set_cons_zero, List.set_cons_succ])
    refine wpAnyH_ready (rs := [6]) (by kernel_rfl) (by simp) ?_
    refine AllReadyH.cons rfl (fun K hK => ?_) AllReadyH.nil
    go_simp
    refine hK.out _ _ ⟨c0', ⟨d0', d1'⟩, ⟨e0', e1'⟩, c1'⟩ (fun hHeld => ?_); clear hK K; (try simp only [Act.put, List.getElem_toArray, List.getElem_cons_succ, List.getElem_cons_zero, List.setIfInBounds_toArray, List.set_cons_zero, List.set_cons_succ])
    refine wpAnyH_done (by kernel_rfl) ?_ _
    refine NoPanic.normal ?_
    clear hHeld hrun c0 d0 d1 e0 e1 c1 l0 l1 l2 l3
    have EN := Lib.hid (fun W => ends_of s1 s2 x y W)
    unfold endsV at EN
    gi_wp2_with fail
    refine ⟨trivial, callsIn_wide.2 ((EN.out _).mono ?_)⟩
    rintro e w9 ⟨rfl, hb9⟩
    obtain ⟨n3, hn3⟩ : ∃ n3, n3 = w9.heap.size := ⟨_, rfl⟩
    have I9 := Lib.hid (I8'.out.below hb9)
    have KB9 := Lib.hid (And.intro (blk_below KB8.out.1 hb9) (blk_below KB8.out.2.2.2 hb9))
    have T9 := Lib.hid hb9
    have hs9 : w8.heap.size ≤ n3 := by rw [hn3]; exact hb9.size
    clear hb9 c0' d0' d1' e0' e1' c1' l0' l1' l2' EN
    have hn3' := Lib.hid hn3
    clear hn3
    gi_wp2
    gi_loopw [50] (fun u wr => ∃ (i : Nat) (v' : Value), u = .int .i64 i ∧ i ≤ 2 ∧ AxIs wr (fun b => own4 pa mp sp v b ∨ n3 ≤ b) pa mp sp v' (without L (x, y) ++ [((x, y), (s1, s2))]) K' (pE (without L (x, y)) ((x, y), (s1, s2)) i) ∧
        (wr.heap[n0]? = some (.cells #[.pointer (some ⟨pa, 0, none⟩)] 24 (0, 0)) ∧ wr.heap[D]? = some (.deferred (some []))) ∧
        Tch (fun b => own4 pa mp sp v b ∨ n3 ≤ b) w9 wr ∧ n3 ≤ wr.heap.size) (fun u _ => 2 - (intOf u).toNat)
    case atStart => exact ⟨0, v, rfl, by omega, I9.out.mono (fun b e => .inl e), KB9.out, Tch.refl _ _, by rw [hn3'.out]; exact Nat.le_refl _⟩
    case round =>
      obtain ⟨i, v', rfl, hi2, hI', ⟨k1, kD⟩, hT', hsz'⟩ := hrel
      clear I9 KB9
      have HI' := Lib.hid hI'
      have HT' := Lib.hid hT'
      have HKD := Lib.hid (And.intro k1 kD)
      by_cases hlt : i < 2
      · obtain ⟨e, he, hmem, hrise, hle, hnext⟩ := pE_step HNO.out hlt (s := ((x, y), (s1, s2)))
        have he2 : (i = 0 ∧ e = (s1, false, x, y)) ∨ (i = 1 ∧ e = (s2, true, x, y)) := by
          rcases Nat.lt_or_ge i 1 with c | c
          · obtain rfl : i = 0 := by omega
            exact .inl ⟨rfl, he⟩
          · obtain rfl : i = 1 := by omega
            exact .inr ⟨rfl, he⟩
        have HN := Lib.hid hnext
        have hkl : headLess ltE e (pE (without L (x, y)) ((x, y), (s1, s2)) i) ≤ (pE (without L (x, y)) ((x, y), (s1, s2)) i).length := headLess_le e _
        have HPUT := Lib.hid (put_new sto_en e hmem)
        have hlw := without_len L (x, y)
        have hEl : (pE (without L (x, y)) ((x, y), (s1, s2)) i).length ≤ 1000 := by omega
        generalize pE (without L (x, y)) ((x, y), (s1, s2)) i = E at *
        have PL0 := Lib.hid (fun W (hW : RowKit.Below wr.heap.size wr W) => place_call (HI'.out.below hW) hrise (by omega) e)
        generalize headLess ltE e E = k at *
        obtain ⟨c0, _⟩ := one_cell k1
        have l0 := cell_lt c0
        clear he hmem hrise hnext hI' hT' hle hlw
        rcases he2 with ⟨rfl, he⟩ | ⟨rfl, he⟩
        all_goals
          have HE2 := Lib.hid he
          clear he
          gi_wp2_with fail
          rename_i KK hKK
          refine hKK _ _ ?_
          clear hKK KK
          first
            | (rw [show ∀ h, (Value.agg ((#[.int .i64 s1, .bool false, .int .i64 x, .int .i64 y, .int .i64 s2, .bool true, .int .i64 x, .int .i64 y] : Array Value).extract (Int.toNat 0 * (Tryd.prog.types[55]'h).size) (Int.toNat 0 * (Tryd.prog.types[55]'h).size + (Tryd.prog.types[55]'h).size))) = aggE e from fun h => by rw [HE2.out]; kernel_rfl])
            | (rw [show ∀ h, (Value.agg ((#[.int .i64 s1, .bool false, .int .i64 x, .int .i64 y, .int .i64 s2, .bool true, .int .i64 x, .int .i64 y] : Array Value).extract (Int.toNat 1 * (Tryd.prog.types[55]'h).size) (Int.toNat 1 * (Tryd.prog.types[55]'h).size + (Tryd.prog.types[55]'h).size))) = aggE e from fun h => by rw [HE2.out]; kernel_rfl])
          (try simp only [Act.put, List.getElem_toArray, List.getElem_cons_succ, List.getElem_cons_zero, List.setIfInBounds_toArray, List.set_cons_zero, List.set_cons_succ])
          clear HE2
          obtain ⟨e1, e2, e3, e4⟩ := e
          unfold aggE at PL0 ⊢
          dsimp only at PL0 ⊢
          gi_wp2_with fail
          obtain ⟨wa, hwa⟩ : ∃ wa, wa = wr.alloc (.cells #[.int .i64 e1, .bool e2, .int .i64 e3, .int .i64 e4] 55) := ⟨_, rfl⟩
          have hba : RowKit.Below wr.heap.size wr wa := by rw [hwa]; exact Ba (Below.refl _ wr) _
          have hba' := Lib.hid hba
          have ke : wa.heap[wr.heap.size]? = some (.cells #[.int .i64 e1, .bool e2, .int .i64 e3, .int .i64 e4] 55 (0, 0)) := by rw [hwa]; exact heap_alloc_new wr _
          have PL := Lib.hid (fun W (hW : RowKit.Below wa.heap.size wa W) => PL0.out W (Bt hba hW))
          have IA := Lib.hid (HI'.out.below hba)
          have HC2 := Lib.hid (fun W (hW : RowKit.Below wa.heap.size wa W) => ((HI'.out.below (Bt hba hW)).cells).1.2.2)
          have kk1 := blk_below k1 hba
          have HS : Hid (∀ W, RowKit.Below wa.heap.size wa W → W.cell? ⟨n0, 0, none⟩ = some (.pointer (some ⟨pa, 0, none⟩)) ∧ W.cell? ⟨wr.heap.size, 0, none⟩ = some (.int .i64 e1) ∧ W.cell? ⟨wr.heap.size, 1, none⟩ = some (.bool e2) ∧ W.cell? ⟨wr.heap.size, 2, none⟩ = some (.int .i64 e3) ∧ W.cell? ⟨wr.heap.size, 3, none⟩ = some (.int .i64 e4)) := fun W hW => by
            have h1 := blk_below ke hW
            exact ⟨(one_cell (blk_below kk1 hW)).1, by simp [World.cell?, h1], by simp [World.cell?, h1], by simp [World.cell?, h1], by simp [World.cell?, h1]⟩
          have TA := Lib.hid (HT'.out.bel hba)
          have KA := Lib.hid (And.intro (blk_below HKD.out.1 hba) (blk_below HKD.out.2 hba))
          have hoe : ∀ g, v'.ownBlock = some g → g < wr.heap.size := fun g e => row_lt HI'.out.2.2.2.1 e
          have hpe : pa < wr.heap.size := HI'.out.lt
          have hDe : D < wr.heap.size := (Array.getElem?_eq_some_iff.1 HKD.out.2).1
          have hRw : ∀ b, v'.ownBlock = some b → own4 pa mp sp v b ∨ n3 ≤ b := fun b e => HI'.out.2.2.2.2 b e
          have hsa : wr.heap.size < wa.heap.size := by rw [hwa]; simp
          have l0a : n0 < wa.heap.size := by omega
          have n0eb : n0 ≠ wr.heap.size := by omega
          rw [← hwa]
          generalize wr.heap.size = eb at *
          clear hwa hba PL0 c0 l0 k1 kk1 ke
          refine wpIn_wide.2 (wp_region_noPanic ?_)
          refine wp_region_held_drew (S := fun W2 => W2.cell? ⟨n0, 0, none⟩ = some (.pointer (some ⟨pa, 0, none⟩)) ∧ W2.cell? ⟨eb, 0, none⟩ = some (.int .i64 e1) ∧ W2.cell? ⟨eb, 1, none⟩ = some (.bool e2) ∧ W2.cell? ⟨eb, 2, none⟩ = some (.int .i64 e3) ∧ W2.cell? ⟨eb, 3, none⟩ = some (.int .i64 e4)) (by kernel_rfl) (HS.out _ (by repeat (first | with_reducible exact Below.refl _ _ | with_reducible assumption | with_reducible apply Ba | with_reducible apply Bd | with_reducible apply Bn | with_reducible apply Bg | (with_reducible refine Bs ?_ (by first | (simp; done) | (simp; omega)) _) | (with_reducible refine Bt ?_ (by assumption)) | (with_reducible refine Bt ?_ (Gr.below (by assumption)))))) (fun hHeld => ?_)
          (refine wpAnyH_take (i := 0) (v := ?_) rfl (by kernel_rfl) (by kernel_rfl) (by kernel_rfl) (fun _ _ _ h => h) (Or.inl ⟨by rfl, ?rt⟩) (by assumption) ?_; case rt => (intro w hSw; (try dsimp only at hSw); go_simp; (try with_reducible rfl))); (try simp only [Act.put, List.getElem_toArray, List.getElem_cons_succ, List.getElem_cons_zero, List.setIfInBounds_toArray, List.set_cons_zero, List.set_cons_succ])
          (refine wpAnyH_take (i := 1) (v := ?_) rfl (by kernel_rfl) (by kernel_rfl) (by kernel_rfl) (fun _ _ _ h => h) (Or.inl ⟨by rfl, ?rt⟩) (by assumption) ?_; case rt => (intro w hSw; (try dsimp only at hSw); go_simp; (try with_reducible rfl))); (try simp only [Act.put, List.getElem_toArray, List.getElem_cons_succ, List.getElem_cons_zero, List.setIfInBounds_toArray, List.set_cons_zero, List.set_cons_succ])
          (refine wpAnyH_take (i := 2) (v := ?_) rfl (by kernel_rfl) (by kernel_rfl) (by kernel_rfl) (fun _ _ _ h => h) (Or.inl ⟨by rfl, ?rt⟩) (by assumption) ?_; case rt => (intro w hSw; (try dsimp only at hSw); go_simp; (try with_reducible rfl))); (try simp only [Act.put, List.getElem_toArray, List.getElem_cons_succ, List.getElem_cons_zero, List.setIfInBounds_toArray, List.set_cons_zero, List.set_cons_succ])
          (refine wpAnyH_take (i := 3) (v := ?_) rfl (by kernel_rfl) (by kernel_rfl) (by kernel_rfl) (fun _ _ _ h => h) (Or.inl ⟨by rfl, ?rt⟩) (by assumption) ?_; case rt => (intro w hSw; (try dsimp only at hSw); go_simp; (try with_reducible rfl))); (try simp only [Act.put, List.getElem_toArray, List.getElem_cons_succ, List.getElem_cons_zero, List.setIfInBounds_toArray, List.set_cons_zero, List.set_cons_succ])
          (refine wpAnyH_take (i := 5) (v := ?_) rfl (by kernel_rfl) (by kernel_rfl) (by kernel_rfl) (fun _ _ _ h => h) (Or.inl ⟨by rfl, ?rt⟩) (by assumption) ?_; case rt => (intro w hSw; (try dsimp only at hSw); go_simp; (try with_reducible rfl))); (try simp only [Act.put, List.getElem_toArray, List.getElem_cons_succ, List.getElem_cons_zero, List.setIfInBounds_toArray, List.set_cons_zero, List.set_cons_succ])
          (refine wpAnyH_take (i := 6) (v := ?_) rfl (by kernel_rfl) (by kernel_rfl) (by kernel_rfl) (fun _ _ _ h => h) (Or.inl ⟨by rfl, ?rt⟩) (by assumption) ?_; case rt => (intro w hSw; (try dsimp only at hSw); go_simp; (try with_reducible rfl))); (try simp only [Act.put, List.getElem_toArray, List.getElem_cons_succ, List.getElem_cons_zero, List.setIfInBounds_toArray, List.set_cons_zero, List.set_cons_succ])
          (refine wpAnyH_take (i := 8) (v := ?_) rfl (by kernel_rfl) (by kernel_rfl) (by kernel_rfl) (fun _ _ _ h => h) (Or.inl ⟨by rfl, ?rt⟩) (by assumption) ?_; case rt => (intro w hSw; (try dsimp only at hSw); go_simp; (try with_reducible rfl))); (try simp only [Act.put, List.getElem_toArray, List.getElem_cons_succ, List.getElem_cons_zero, List.setIfInBounds_toArray, List.set_cons_zero, List.set_cons_succ])
          refine' cut_fam (C := fun W vb => RowKit.Below wa.heap.size wa W ∧ W.heap[vb]? = some (.cells #[.int .i64 e1, .bool e2, .int .i64 e3, .int .i64 e4] 55 (0, 0)) ∧ wa.heap.size ≤ vb) (fun hkey => ?_) _
          rotate_left
          · refine wpAnyH_ready (rs := [4, 7, 9]) (by kernel_rfl) (by simp) ?_
            refine AllReadyH.cons rfl (fun K hK => ?_) ?_
            · have hc4 := HC2.out (wa.drew) (by repeat (first | with_reducible exact Below.refl _ _ | with_reducible assumption | with_reducible apply Ba | with_reducible apply Bd | with_reducible apply Bn | with_reducible apply Bg | (with_reducible refine Bs ?_ (by first | (simp; done) | (simp; omega)) _) | (with_reducible refine Bt ?_ (by assumption)) | (with_reducible refine Bt ?_ (Gr.below (by assumption)))))
              have hl4 := cell_lt hc4
              go_simp
              refine hK.out _ _ (HS.out _ (by repeat (first | with_reducible exact Below.refl _ _ | with_reducible assumption | with_reducible apply Ba | with_reducible apply Bd | with_reducible apply Bn | with_reducible apply Bg | (with_reducible refine Bs ?_ (by first | (simp; done) | (simp; omega)) _) | (with_reducible refine Bt ?_ (by assumption)) | (with_reducible refine Bt ?_ (Gr.below (by assumption)))))) (fun hHeld => ?_); clear hK K hc4 hl4; (try simp only [Act.put, List.getElem_toArray, List.getElem_cons_succ, List.getElem_cons_zero, List.setIfInBounds_toArray, List.set_cons_zero, List.set_cons_succ])
              refine wpAnyH_ready (rs := [7, 9]) (by kernel_rfl) (by simp) ?_
              refine AllReadyH.cons rfl (fun K hK => ?_) ?_
              · go_simp
                refine (PL.out (wa.drew) (by repeat (first | with_reducible exact Below.refl _ _ | with_reducible assumption | with_reducible apply Ba | with_reducible apply Bd | with_reducible apply Bn | with_reducible apply Bg | (with_reducible refine Bs ?_ (by first | (simp; done) | (simp; omega)) _) | (with_reducible refine Bt ?_ (by assumption)) | (with_reducible refine Bt ?_ (Gr.below (by assumption)))))).mono ?_
                rintro e w4 ⟨rfl, hg4⟩
                have hb4 : RowKit.Below (wa.drew).heap.size (wa.drew) w4 := hg4.below
                clear hg4
                refine hK.out _ _ (HS.out _ (by repeat (first | with_reducible exact Below.refl _ _ | with_reducible assumption | with_reducible apply Ba | with_reducible apply Bd | with_reducible apply Bn | with_reducible apply Bg | (with_reducible refine Bs ?_ (by first | (simp; done) | (simp; omega)) _) | (with_reducible refine Bt ?_ (by assumption)) | (with_reducible refine Bt ?_ (Gr.below (by assumption)))))) (fun hHeld => ?_); clear hK K; (try simp only [Act.put, List.getElem_toArray, List.getElem_cons_succ, List.getElem_cons_zero, List.setIfInBounds_toArray, List.set_cons_zero, List.set_cons_succ])
                refine wpAnyH_ready (rs := [9]) (by kernel_rfl) (by simp) ?_
                refine AllReadyH.cons rfl (fun K hK => ?_) ?_
                · go_simp
                  refine hK.out _ _ (HS.out _ (by repeat (first | with_reducible exact Below.refl _ _ | with_reducible assumption | with_reducible apply Ba | with_reducible apply Bd | with_reducible apply Bn | with_reducible apply Bg | (with_reducible refine Bs ?_ (by first | (simp; done) | (simp; omega)) _) | (with_reducible refine Bt ?_ (by assumption)) | (with_reducible refine Bt ?_ (Gr.below (by assumption)))))) (fun hHeld => ?_); clear hK K; (try simp only [Act.put, List.getElem_toArray, List.getElem_cons_succ, List.getElem_cons_zero, List.setIfInBounds_toArray, List.set_cons_zero, List.set_cons_succ])
                  have hC : RowKit.Below wa.heap.size wa (w4.alloc (.cells #[.int .i64 e1, .bool e2, .int .i64 e3, .int .i64 e4] 55)) ∧ (w4.alloc (.cells #[.int .i64 e1, .bool e2, .int .i64 e3, .int .i64 e4] 55)).heap[w4.heap.size]? = some (.cells #[.int .i64 e1, .bool e2, .int .i64 e3, .int .i64 e4] 55 (0, 0)) ∧ wa.heap.size ≤ w4.heap.size := ⟨(by repeat (first | with_reducible exact Below.refl _ _ | with_reducible assumption | with_reducible apply Ba | with_reducible apply Bd | with_reducible apply Bn | with_reducible apply Bg | (with_reducible refine Bs ?_ (by first | (simp; done) | (simp; omega)) _) | (with_reducible refine Bt ?_ (by assumption)) | (with_reducible refine Bt ?_ (Gr.below (by assumption))))), heap_alloc_new _ _, hb4.size⟩
                  clear hb4 hHeld
                  generalize w4.alloc (.cells #[.int .i64 e1, .bool e2, .int .i64 e3, .int .i64 e4] 55) = Wx at hC ⊢
                  generalize w4.heap.size = vbx at hC ⊢
                  exact hkey _ _ hC
                exact AllReadyH.nil
              refine AllReadyH.cons rfl (fun K hK => ?_) ?_
              · go_simp
                refine hK.out _ _ (HS.out _ (by repeat (first | with_reducible exact Below.refl _ _ | with_reducible assumption | with_reducible apply Ba | with_reducible apply Bd | with_reducible apply Bn | with_reducible apply Bg | (with_reducible refine Bs ?_ (by first | (simp; done) | (simp; omega)) _) | (with_reducible refine Bt ?_ (by assumption)) | (with_reducible refine Bt ?_ (Gr.below (by assumption)))))) (fun hHeld => ?_); clear hK K; (try simp only [Act.put, List.getElem_toArray, List.getElem_cons_succ, List.getElem_cons_zero, List.setIfInBounds_toArray, List.set_cons_zero, List.set_cons_succ])
                refine wpAnyH_ready (rs := [7]) (by kernel_rfl) (by simp) ?_
                refine AllReadyH.cons rfl (fun K hK => ?_) ?_
                · go_simp
                  refine (PL.out ((wa.alloc (.cells #[.int .i64 e1, .bool e2, .int .i64 e3, .int .i64 e4] 55)).drew) (by repeat (first | with_reducible exact Below.refl _ _ | with_reducible assumption | with_reducible apply Ba | with_reducible apply Bd | with_reducible apply Bn | with_reducible apply Bg | (with_reducible refine Bs ?_ (by first | (simp; done) | (simp; omega)) _) | (with_reducible refine Bt ?_ (by assumption)) | (with_reducible refine Bt ?_ (Gr.below (by assumption)))))).mono ?_
                  rintro e w4 ⟨rfl, hg4⟩
                  have hb4 : RowKit.Below ((wa.alloc (.cells #[.int .i64 e1, .bool e2, .int .i64 e3, .int .i64 e4] 55)).drew).heap.size ((wa.alloc (.cells #[.int .i64 e1, .bool e2, .int .i64 e3, .int .i64 e4] 55)).drew) w4 := hg4.below
                  clear hg4
                  refine hK.out _ _ (HS.out _ (by repeat (first | with_reducible exact Below.refl _ _ | with_reducible assumption | with_reducible apply Ba | with_reducible apply Bd | with_reducible apply Bn | with_reducible apply Bg | (with_reducible refine Bs ?_ (by first | (simp; done) | (simp; omega)) _) | (with_reducible refine Bt ?_ (by assumption)) | (with_reducible refine Bt ?_ (Gr.below (by assumption)))))) (fun hHeld => ?_); clear hK K; (try simp only [Act.put, List.getElem_toArray, List.getElem_cons_succ, List.getElem_cons_zero, List.setIfInBounds_toArray, List.set_cons_zero, List.set_cons_succ])
                  have hC : RowKit.Below wa.heap.size wa w4 ∧ w4.heap[wa.heap.size]? = some (.cells #[.int .i64 e1, .bool e2, .int .i64 e3, .int .i64 e4] 55 (0, 0)) ∧ wa.heap.size ≤ wa.heap.size := ⟨(by repeat (first | with_reducible exact Below.refl _ _ | with_reducible assumption | with_reducible apply Ba | with_reducible apply Bd | with_reducible apply Bn | with_reducible apply Bg | (with_reducible refine Bs ?_ (by first | (simp; done) | (simp; omega)) _) | (with_reducible refine Bt ?_ (by assumption)) | (with_reducible refine Bt ?_ (Gr.below (by assumption))))), blk_below (show (wa.alloc (.cells #[.int .i64 e1, .bool e2, .int .i64 e3, .int .i64 e4] 55)).drew.heap[wa.heap.size]? = _ from heap_alloc_new wa (.cells #[.int .i64 e1, .bool e2, .int .i64 e3, .int .i64 e4] 55)) hb4, Nat.le_refl _⟩
                  clear hb4 hHeld
                  generalize hv : wa.heap.size = vbx
                  have hC2 : RowKit.Below wa.heap.size wa w4 ∧ w4.heap[vbx]? = some (.cells #[.int .i64 e1, .bool e2, .int .i64 e3, .int .i64 e4] 55 (0, 0)) ∧ wa.heap.size ≤ vbx := by rw [← hv]; exact hC
                  clear hv hC
                  exact hkey _ _ hC2
                exact AllReadyH.nil
              exact AllReadyH.nil
            refine AllReadyH.cons rfl (fun K hK => ?_) ?_
            · go_simp
              refine (PL.out (wa.drew) (by repeat (first | with_reducible exact Below.refl _ _ | with_reducible assumption | with_reducible apply Ba | with_reducible apply Bd | with_reducible apply Bn | with_reducible apply Bg | (with_reducible refine Bs ?_ (by first | (simp; done) | (simp; omega)) _) | (with_reducible refine Bt ?_ (by assumption)) | (with_reducible refine Bt ?_ (Gr.below (by assumption)))))).mono ?_
              rintro e w4 ⟨rfl, hg4⟩
              have hb4 : RowKit.Below (wa.drew).heap.size (wa.drew) w4 := hg4.below
              clear hg4
              refine hK.out _ _ (HS.out _ (by repeat (first | with_reducible exact Below.refl _ _ | with_reducible assumption | with_reducible apply Ba | with_reducible apply Bd | with_reducible apply Bn | with_reducible apply Bg | (with_reducible refine Bs ?_ (by first | (simp; done) | (simp; omega)) _) | (with_reducible refine Bt ?_ (by assumption)) | (with_reducible refine Bt ?_ (Gr.below (by assumption)))))) (fun hHeld => ?_); clear hK K; (try simp only [Act.put, List.getElem_toArray, List.getElem_cons_succ, List.getElem_cons_zero, List.setIfInBounds_toArray, List.set_cons_zero, List.set_cons_succ])
              refine wpAnyH_ready (rs := [4, 9]) (by kernel_rfl) (by simp) ?_
              refine AllReadyH.cons rfl (fun K hK => ?_) ?_
              · have hc4 := HC2.out (w4) (by repeat (first | with_reducible exact Below.refl _ _ | with_reducible assumption | with_reducible apply Ba | with_reducible apply Bd | with_reducible apply Bn | with_reducible apply Bg | (with_reducible refine Bs ?_ (by first | (simp; done) | (simp; omega)) _) | (with_reducible refine Bt ?_ (by assumption)) | (with_reducible refine Bt ?_ (Gr.below (by assumption)))))
                have hl4 := cell_lt hc4
                go_simp
                refine hK.out _ _ (HS.out _ (by repeat (first | with_reducible exact Below.refl _ _ | with_reducible assumption | with_reducible apply Ba | with_reducible apply Bd | with_reducible apply Bn | with_reducible apply Bg | (with_reducible refine Bs ?_ (by first | (simp; done) | (simp; omega)) _) | (with_reducible refine Bt ?_ (by assumption)) | (with_reducible refine Bt ?_ (Gr.below (by assumption)))))) (fun hHeld => ?_); clear hK K hc4 hl4; (try simp only [Act.put, List.getElem_toArray, List.getElem_cons_succ, List.getElem_cons_zero, List.setIfInBounds_toArray, List.set_cons_zero, List.set_cons_succ])
                refine wpAnyH_ready (rs := [9]) (by kernel_rfl) (by simp) ?_
                refine AllReadyH.cons rfl (fun K hK => ?_) ?_
                · go_simp
                  refine hK.out _ _ (HS.out _ (by repeat (first | with_reducible exact Below.refl _ _ | with_reducible assumption | with_reducible apply Ba | with_reducible apply Bd | with_reducible apply Bn | with_reducible apply Bg | (with_reducible refine Bs ?_ (by first | (simp; done) | (simp; omega)) _) | (with_reducible refine Bt ?_ (by assumption)) | (with_reducible refine Bt ?_ (Gr.below (by assumption)))))) (fun hHeld => ?_); clear hK K; (try simp only [Act.put, List.getElem_toArray, List.getElem_cons_succ, List.getElem_cons_zero, List.setIfInBounds_toArray, List.set_cons_zero, List.set_cons_succ])
                  have hC : RowKit.Below wa.heap.size wa (w4.alloc (.cells #[.int .i64 e1, .bool e2, .int .i64 e3, .int .i64 e4] 55)) ∧ (w4.alloc (.cells #[.int .i64 e1, .bool e2, .int .i64 e3, .int .i64 e4] 55)).heap[w4.heap.size]? = some (.cells #[.int .i64 e1, .bool e2, .int .i64 e3, .int .i64 e4] 55 (0, 0)) ∧ wa.heap.size ≤ w4.heap.size := ⟨(by repeat (first | with_reducible exact Below.refl _ _ | with_reducible assumption | with_reducible apply Ba | with_reducible apply Bd | with_reducible apply Bn | with_reducible apply Bg | (with_reducible refine Bs ?_ (by first | (simp; done) | (simp; omega)) _) | (with_reducible refine Bt ?_ (by assumption)) | (with_reducible refine Bt ?_ (Gr.below (by assumption))))), heap_alloc_new _ _, hb4.size⟩
                  clear hb4 hHeld
                  generalize w4.alloc (.cells #[.int .i64 e1, .bool e2, .int .i64 e3, .int .i64 e4] 55) = Wx at hC ⊢
                  generalize w4.heap.size = vbx at hC ⊢
                  exact hkey _ _ hC
                exact AllReadyH.nil
              refine AllReadyH.cons rfl (fun K hK => ?_) ?_
              · go_simp
                refine hK.out _ _ (HS.out _ (by repeat (first | with_reducible exact Below.refl _ _ | with_reducible assumption | with_reducible apply Ba | with_reducible apply Bd | with_reducible apply Bn | with_reducible apply Bg | (with_reducible refine Bs ?_ (by first | (simp; done) | (simp; omega)) _) | (with_reducible refine Bt ?_ (by assumption)) | (with_reducible refine Bt ?_ (Gr.below (by assumption)))))) (fun hHeld => ?_); clear hK K; (try simp only [Act.put, List.getElem_toArray, List.getElem_cons_succ, List.getElem_cons_zero, List.setIfInBounds_toArray, List.set_cons_zero, List.set_cons_succ])
                refine wpAnyH_ready (rs := [4]) (by kernel_rfl) (by simp) ?_
                refine AllReadyH.cons rfl (fun K hK => ?_) ?_
                · have hc4 := HC2.out ((w4).alloc (.cells #[.int .i64 e1, .bool e2, .int .i64 e3, .int .i64 e4] 55)) (by repeat (first | with_reducible exact Below.refl _ _ | with_reducible assumption | with_reducible apply Ba | with_reducible apply Bd | with_reducible apply Bn | with_reducible apply Bg | (with_reducible refine Bs ?_ (by first | (simp; done) | (simp; omega)) _) | (with_reducible refine Bt ?_ (by assumption)) | (with_reducible refine Bt ?_ (Gr.below (by assumption)))))
                  have hl4 := cell_lt hc4
                  go_simp
                  refine hK.out _ _ (HS.out _ (by repeat (first | with_reducible exact Below.refl _ _ | with_reducible assumption | with_reducible apply Ba | with_reducible apply Bd | with_reducible apply Bn | with_reducible apply Bg | (with_reducible refine Bs ?_ (by first | (simp; done) | (simp; omega)) _) | (with_reducible refine Bt ?_ (by assumption)) | (with_reducible refine Bt ?_ (Gr.below (by assumption)))))) (fun hHeld => ?_); clear hK K hc4 hl4; (try simp only [Act.put, List.getElem_toArray, List.getElem_cons_succ, List.getElem_cons_zero, List.setIfInBounds_toArray, List.set_cons_zero, List.set_cons_succ])
                  have hC : RowKit.Below wa.heap.size wa (w4.alloc (.cells #[.int .i64 e1, .bool e2, .int .i64 e3, .int .i64 e4] 55)) ∧ (w4.alloc (.cells #[.int .i64 e1, .bool e2, .int .i64 e3, .int .i64 e4] 55)).heap[w4.heap.size]? = some (.cells #[.int .i64 e1, .bool e2, .int .i64 e3, .int .i64 e4] 55 (0, 0)) ∧ wa.heap.size ≤ w4.heap.size := ⟨(by repeat (first | with_reducible exact Below.refl _ _ | with_reducible assumption | with_reducible apply Ba | with_reducible apply Bd | with_reducible apply Bn | with_reducible apply Bg | (with_reducible refine Bs ?_ (by first | (simp; done) | (simp; omega)) _) | (with_reducible refine Bt ?_ (by assumption)) | (with_reducible refine Bt ?_ (Gr.below (by assumption))))), heap_alloc_new _ _, hb4.size⟩
                  clear hb4 hHeld
                  generalize w4.alloc (.cells #[.int .i64 e1, .bool e2, .int .i64 e3, .int .i64 e4] 55) = Wx at hC ⊢
                  generalize w4.heap.size = vbx at hC ⊢
                  exact hkey _ _ hC
                exact AllReadyH.nil
              exact AllReadyH.nil
            refine AllReadyH.cons rfl (fun K hK => ?_) ?_
            · go_simp
              refine hK.out _ _ (HS.out _ (by repeat (first | with_reducible exact Below.refl _ _ | with_reducible assumption | with_reducible apply Ba | with_reducible apply Bd | with_reducible apply Bn | with_reducible apply Bg | (with_reducible refine Bs ?_ (by first | (simp; done) | (simp; omega)) _) | (with_reducible refine Bt ?_ (by assumption)) | (with_reducible refine Bt ?_ (Gr.below (by assumption)))))) (fun hHeld => ?_); clear hK K; (try simp only [Act.put, List.getElem_toArray, List.getElem_cons_succ, List.getElem_cons_zero, List.setIfInBounds_toArray, List.set_cons_zero, List.set_cons_succ])
              refine wpAnyH_ready (rs := [4, 7]) (by kernel_rfl) (by simp) ?_
              refine AllReadyH.cons rfl (fun K hK => ?_) ?_
              · have hc4 := HC2.out ((wa.alloc (.cells #[.int .i64 e1, .bool e2, .int .i64 e3, .int .i64 e4] 55)).drew) (by repeat (first | with_reducible exact Below.refl _ _ | with_reducible assumption | with_reducible apply Ba | with_reducible apply Bd | with_reducible apply Bn | with_reducible apply Bg | (with_reducible refine Bs ?_ (by first | (simp; done) | (simp; omega)) _) | (with_reducible refine Bt ?_ (by assumption)) | (with_reducible refine Bt ?_ (Gr.below (by assumption)))))
                have hl4 := cell_lt hc4
                go_simp
                refine hK.out _ _ (HS.out _ (by repeat (first | with_reducible exact Below.refl _ _ | with_reducible assumption | with_reducible apply Ba | with_reducible apply Bd | with_reducible apply Bn | with_reducible apply Bg | (with_reducible refine Bs ?_ (by first | (simp; done) | (simp; omega)) _) | (with_reducible refine Bt ?_ (by assumption)) | (with_reducible refine Bt ?_ (Gr.below (by assumption)))))) (fun hHeld => ?_); clear hK K hc4 hl4; (try simp only [Act.put, List.getElem_toArray, List.getElem_cons_succ, List.getElem_cons_zero, List.setIfInBounds_toArray, List.set_cons_zero, List.set_cons_succ])
                refine wpAnyH_ready (rs := [7]) (by kernel_rfl) (by simp) ?_
                refine AllReadyH.cons rfl (fun K hK => ?_) ?_
                · go_simp
                  refine (PL.out ((wa.alloc (.cells #[.int .i64 e1, .bool e2, .int .i64 e3, .int .i64 e4] 55)).drew) (by repeat (first | with_reducible exact Below.refl _ _ | with_reducible assumption | with_reducible apply Ba | with_reducible apply Bd | with_reducible apply Bn | with_reducible apply Bg | (with_reducible refine Bs ?_ (by first | (simp; done) | (simp; omega)) _) | (with_reducible refine Bt ?_ (by assumption)) | (with_reducible refine Bt ?_ (Gr.below (by assumption)))))).mono ?_
                  rintro e w4 ⟨rfl, hg4⟩
                  have hb4 : RowKit.Below ((wa.alloc (.cells #[.int .i64 e1, .bool e2, .int .i64 e3, .int .i64 e4] 55)).drew).heap.size ((wa.alloc (.cells #[.int .i64 e1, .bool e2, .int .i64 e3, .int .i64 e4] 55)).drew) w4 := hg4.below
                  clear hg4
                  refine hK.out _ _ (HS.out _ (by repeat (first | with_reducible exact Below.refl _ _ | with_reducible assumption | with_reducible apply Ba | with_reducible apply Bd | with_reducible apply Bn | with_reducible apply Bg | (with_reducible refine Bs ?_ (by first | (simp; done) | (simp; omega)) _) | (with_reducible refine Bt ?_ (by assumption)) | (with_reducible refine Bt ?_ (Gr.below (by assumption)))))) (fun hHeld => ?_); clear hK K; (try simp only [Act.put, List.getElem_toArray, List.getElem_cons_succ, List.getElem_cons_zero, List.setIfInBounds_toArray, List.set_cons_zero, List.set_cons_succ])
                  have hC : RowKit.Below wa.heap.size wa w4 ∧ w4.heap[wa.heap.size]? = some (.cells #[.int .i64 e1, .bool e2, .int .i64 e3, .int .i64 e4] 55 (0, 0)) ∧ wa.heap.size ≤ wa.heap.size := ⟨(by repeat (first | with_reducible exact Below.refl _ _ | with_reducible assumption | with_reducible apply Ba | with_reducible apply Bd | with_reducible apply Bn | with_reducible apply Bg | (with_reducible refine Bs ?_ (by first | (simp; done) | (simp; omega)) _) | (with_reducible refine Bt ?_ (by assumption)) | (with_reducible refine Bt ?_ (Gr.below (by assumption))))), blk_below (show (wa.alloc (.cells #[.int .i64 e1, .bool e2, .int .i64 e3, .int .i64 e4] 55)).drew.heap[wa.heap.size]? = _ from heap_alloc_new wa (.cells #[.int .i64 e1, .bool e2, .int .i64 e3, .int .i64 e4] 55)) hb4, Nat.le_refl _⟩
                  clear hb4 hHeld
                  generalize hv : wa.heap.size = vbx
                  have hC2 : RowKit.Below wa.heap.size wa w4 ∧ w4.heap[vbx]? = some (.cells #[.int .i64 e1, .bool e2, .int .i64 e3, .int .i64 e4] 55 (0, 0)) ∧ wa.heap.size ≤ vbx := by rw [← hv]; exact hC
                  clear hv hC
                  exact hkey _ _ hC2
                exact AllReadyH.nil
              refine AllReadyH.cons rfl (fun K hK => ?_) ?_
              · go_simp
                refine (PL.out ((wa.alloc (.cells #[.int .i64 e1, .bool e2, .int .i64 e3, .int .i64 e4] 55)).drew) (by repeat (first | with_reducible exact Below.refl _ _ | with_reducible assumption | with_reducible apply Ba | with_reducible apply Bd | with_reducible apply Bn | with_reducible apply Bg | (with_reducible refine Bs ?_ (by first | (simp; done) | (simp; omega)) _) | (with_reducible refine Bt ?_ (by assumption)) | (with_reducible refine Bt ?_ (Gr.below (by assumption)))))).mono ?_
                rintro e w4 ⟨rfl, hg4⟩
                have hb4 : RowKit.Below ((wa.alloc (.cells #[.int .i64 e1, .bool e2, .int .i64 e3, .int .i64 e4] 55)).drew).heap.size ((wa.alloc (.cells #[.int .i64 e1, .bool e2, .int .i64 e3, .int .i64 e4] 55)).drew) w4 := hg4.below
                clear hg4
                refine hK.out _ _ (HS.out _ (by repeat (first | with_reducible exact Below.refl _ _ | with_reducible assumption | with_reducible apply Ba | with_reducible apply Bd | with_reducible apply Bn | with_reducible apply Bg | (with_reducible refine Bs ?_ (by first | (simp; done) | (simp; omega)) _) | (with_reducible refine Bt ?_ (by assumption)) | (with_reducible refine Bt ?_ (Gr.below (by assumption)))))) (fun hHeld => ?_); clear hK K; (try simp only [Act.put, List.getElem_toArray, List.getElem_cons_succ, List.getElem_cons_zero, List.setIfInBounds_toArray, List.set_cons_zero, List.set_cons_succ])
                refine wpAnyH_ready (rs := [4]) (by kernel_rfl) (by simp) ?_
                refine AllReadyH.cons rfl (fun K hK => ?_) ?_
                · have hc4 := HC2.out (w4) (by repeat (first | with_reducible exact Below.refl _ _ | with_reducible assumption | with_reducible apply Ba | with_reducible apply Bd | with_reducible apply Bn | with_reducible apply Bg | (with_reducible refine Bs ?_ (by first | (simp; done) | (simp; omega)) _) | (with_reducible refine Bt ?_ (by assumption)) | (with_reducible refine Bt ?_ (Gr.below (by assumption)))))
                  have hl4 := cell_lt hc4
                  go_simp
                  refine hK.out _ _ (HS.out _ (by repeat (first | with_reducible exact Below.refl _ _ | with_reducible assumption | with_reducible apply Ba | with_reducible apply Bd | with_reducible apply Bn | with_reducible apply Bg | (with_reducible refine Bs ?_ (by first | (simp; done) | (simp; omega)) _) | (with_reducible refine Bt ?_ (by assumption)) | (with_reducible refine Bt ?_ (Gr.below (by assumption)))))) (fun hHeld => ?_); clear hK K hc4 hl4; (try simp only [Act.put, List.getElem_toArray, List.getElem_cons_succ, List.getElem_cons_zero, List.setIfInBounds_toArray, List.set_cons_zero, List.set_cons_succ])
                  have hC : RowKit.Below wa.heap.size wa w4 ∧ w4.heap[wa.heap.size]? = some (.cells #[.int .i64 e1, .bool e2, .int .i64 e3, .int .i64 e4] 55 (0, 0)) ∧ wa.heap.size ≤ wa.heap.size := ⟨(by repeat (first | with_reducible exact Below.refl _ _ | with_reducible assumption | with_reducible apply Ba | with_reducible apply Bd | with_reducible apply Bn | with_reducible apply Bg | (with_reducible refine Bs ?_ (by first | (simp; done) | (simp; omega)) _) | (with_reducible refine Bt ?_ (by assumption)) | (with_reducible refine Bt ?_ (Gr.below (by assumption))))), blk_below (show (wa.alloc (.cells #[.int .i64 e1, .bool e2, .int .i64 e3, .int .i64 e4] 55)).drew.heap[wa.heap.size]? = _ from heap_alloc_new wa (.cells #[.int .i64 e1, .bool e2, .int .i64 e3, .int .i64 e4] 55)) hb4, Nat.le_refl _⟩
                  clear hb4 hHeld
                  generalize hv : wa.heap.size = vbx
                  have hC2 : RowKit.Below wa.heap.size wa w4 ∧ w4.heap[vbx]? = some (.cells #[.int .i64 e1, .bool e2, .int .i64 e3, .int .i64 e4] 55 (0, 0)) ∧ wa.heap.size ≤ vbx := by rw [← hv]; exact hC
                  clear hv hC
                  exact hkey _ _ hC2
                exact AllReadyH.nil
              exact AllReadyH.nil
            exact AllReadyH.nil
          · rintro W5 vb ⟨hW, hvb, hvs⟩
            have I5 := IA.out.below hW
            have INS := Lib.hid (insertE_call (M := fun g => v'.ownBlock = some g) E k hkl (e1, e2, e3, e4) v' vb W5 ⟨I5.2.2.2.1, fun g hg => hg⟩ hvb (fun e => by have := row_lt IA.out.2.2.2.1 e; omega) hEl)
            have HI5 := Lib.hid I5
            have T5 := Lib.hid (TA.out.bel hW)
            obtain ⟨z0, z1, z2, z3, z4⟩ := HS.out W5 hW
            have hown : v'.ownBlock ≠ some pa := fun e => by
              obtain ⟨cs, hc⟩ := row_type I5.2.2.2.1 e
              exact type_apart I5.head hc tAE rfl
            have kD5 := blk_below KA.out.2 hW
            have k05 := blk_below KA.out.1 hW
            have hown0 : v'.ownBlock ≠ some n0 := fun e => by
              obtain ⟨cs, hc⟩ := row_type I5.2.2.2.1 e
              exact type_apart k05 hc (by decide) rfl
            have hownD : v'.ownBlock ≠ some D := fun e => by
              obtain ⟨cs, hc⟩ := row_type I5.2.2.2.1 e
              rw [kD5] at hc
              cases hc
            have howne : v'.ownBlock ≠ some eb := fun e => by have := hoe _ e; omega
            have l05 := cell_lt z0
            have le5 := cell_lt z1
            have hsW : wa.heap.size ≤ W5.heap.size := hW.size
            have KD5 := Lib.hid (And.intro k05 kD5)
            have HS5 := Lib.hid hs9
            have hnd : ¬ D = pa := by omega
            clear I5 hW hvb kD5 k05
            refine wpAnyH_ready (rs := [10]) (by kernel_rfl) (by simp) ?_
            refine AllReadyH.cons rfl (fun K hK => ?_) AllReadyH.nil
            go_simp
            refine INS.out.mono ?_
            rintro e w5 ⟨v5, rfl, hr5, ht5⟩
            have hd5 := ht5.blk HI5.out.head hown
            obtain ⟨⟨_, _, r2⟩, rf⟩ := three_cells hd5
            have hp5 := cell_lt r2
            have y0 := ht5.cell l05 hown0 z0
            have y1 := ht5.cell le5 howne z1
            have y2 := ht5.cell le5 howne z2
            have y3 := ht5.cell le5 howne z3
            have y4 := ht5.cell le5 howne z4
            have HP5 := Lib.hid (HI5.out.putE (hr5.mono (M' := fun b => own4 pa mp sp v b ∨ n3 ≤ b) (fun b e => e.elim (fun e => hRw b e) (fun e => .inr (by omega)))) ht5)
            have hsz5 := ht5.size
            have far : ∀ (b o : Nat) (U Z : Value), b ≠ pa → w5.cell? ⟨b, o, none⟩ = some U → (w5.setCell ⟨pa, 2, none⟩ Z).cell? ⟨b, o, none⟩ = some U := fun b o U Z hne h => (World.cell?_setCell_other _ _ _ _ (by simp [hne])).trans h
            have hSs : ∀ Z, (w5.setCell ⟨pa, 2, none⟩ Z).cell? ⟨n0, 0, none⟩ = some (.pointer (some ⟨pa, 0, none⟩)) ∧ (w5.setCell ⟨pa, 2, none⟩ Z).cell? ⟨eb, 0, none⟩ = some (.int .i64 e1) ∧ (w5.setCell ⟨pa, 2, none⟩ Z).cell? ⟨eb, 1, none⟩ = some (.bool e2) ∧ (w5.setCell ⟨pa, 2, none⟩ Z).cell? ⟨eb, 2, none⟩ = some (.int .i64 e3) ∧ (w5.setCell ⟨pa, 2, none⟩ Z).cell? ⟨eb, 3, none⟩ = some (.int .i64 e4) := fun Z =>
              ⟨far _ _ _ _ n0pa y0, far _ _ _ _ (by omega) y1, far _ _ _ _ (by omega) y2, far _ _ _ _ (by omega) y3, far _ _ _ _ (by omega) y4⟩
            obtain ⟨p5, cp5, hv5, _, _, _⟩ := row_val hr5.1
            obtain ⟨nn, hnn⟩ : ∃ nn, nn = (E.take k ++ [((e1, e2, e3, e4) : En)] ++ E.drop k).length := ⟨_, rfl⟩
            rw [← hnn] at hv5
            rw [hv5] at HP5 ⊢
            have HSS := Lib.hid hSs
            have Y := Lib.hid (And.intro y0 (And.intro y1 (And.intro y2 (And.intro y3 y4))))
            clear hr5 ht5 hd5 hnn far hSs y0 y1 y2 y3 y4 z0 z1 z2 z3 z4
            refine hK.out _ _ Y.out (fun hHeld => ?_); clear hK K; (try simp only [Act.put, List.getElem_toArray, List.getElem_cons_succ, List.getElem_cons_zero, List.setIfInBounds_toArray, List.set_cons_zero, List.set_cons_succ])
            (refine wpAnyH_take (i := 11) (v := ?_) rfl (by kernel_rfl) (by kernel_rfl) (by kernel_rfl) (fun _ _ _ h => h) (Or.inl ⟨by rfl, ?rt⟩) (by assumption) ?_; case rt => (intro w hSw; (try dsimp only at hSw); go_simp; (try with_reducible rfl))); (try simp only [Act.put, List.getElem_toArray, List.getElem_cons_succ, List.getElem_cons_zero, List.setIfInBounds_toArray, List.set_cons_zero, List.set_cons_succ])
            (refine wpAnyH_take (i := 12) (v := ?_) rfl (by kernel_rfl) (by kernel_rfl) (by kernel_rfl) (fun _ _ _ h => h) (Or.inl ⟨by rfl, ?rt⟩) (by assumption) ?_; case rt => (intro w hSw; (try dsimp only at hSw); go_simp; (try with_reducible rfl))); (try simp only [Act.put, List.getElem_toArray, List.getElem_cons_succ, List.getElem_cons_zero, List.setIfInBounds_toArray, List.set_cons_zero, List.set_cons_succ])
            refine wpAnyH_ready (rs := [13]) (by kernel_rfl) (by simp) ?_
            refine AllReadyH.cons rfl (fun K hK => ?_) AllReadyH.nil
            go_simp
            refine hK.out _ _ (HSS.out _) (fun hHeld => ?_); clear hK K; (try simp only [Act.put, List.getElem_toArray, List.getElem_cons_succ, List.getElem_cons_zero, List.setIfInBounds_toArray, List.set_cons_zero, List.set_cons_succ])
            refine wpAnyH_done (by kernel_rfl) ?_ _
            refine NoPanic.normal ?_
            clear hHeld hv5 r2 rf
            rw [← HPUT.out, ← HN.out] at HP5
            have TF := Lib.hid (T5.out.more HP5.out.2)
            have hRn0 : ¬ (own4 pa mp sp v n0 ∨ n3 ≤ n0) := fun e => e.elim (fun e => (HAP.out _ e).1 rfl) (fun e => by have := hs9; omega)
            have hRD : ¬ (own4 pa mp sp v D ∨ n3 ≤ D) := fun e => e.elim (fun e => by have := HLT.out _ e; omega) (fun e => by have := hs9; omega)
            have KF := Lib.hid (And.intro (HP5.out.2.blk KD5.out.1 hRn0) (HP5.out.2.blk KD5.out.2 hRD))
            have SF := Lib.hid HP5.out.2.size
            gi_wp2
            go_roundw
            case measure => decide
            case rel => first | exact ⟨1, _, rfl, by omega, HP5.out.1, KF.out, TF.out, by have := SF.out; omega⟩ | exact ⟨2, _, rfl, by omega, HP5.out.1, KF.out, TF.out, by have := SF.out; omega⟩
      · obtain rfl : i = 2 := by omega
        have HIF : AxIs wr (fun b => own4 pa mp sp v b ∨ n3 ≤ b) pa mp sp v' (without L (x, y) ++ [((x, y), (s1, s2))]) K' (endsL (without L (x, y) ++ [((x, y), (s1, s2))])) := HI'.out
        have HIF := Lib.hid HIF
        clear hlt hi2 hI' hT' k1 kD HI'
        gi_wp2
        refine ⟨by simp, .inl ⟨_, _, rfl, run_takeDeferred HKD.out.2, ?_⟩⟩
        have hDw : D < wr.heap.size := (Array.getElem?_eq_some_iff.1 HKD.out.2).1
        have tD : Tch (fun b => b = D) wr (wr.putObj D (.deferred none)) := by
          have hg := grownBy_putObj' wr D (.deferred none)
          exact ⟨hg.os, hg.tape, hg.output, hg.size, fun k hk hn => hg.block k hk (fun e => by cases e; exact hn rfl)⟩
        have hIF2 := HIF.out.kept tD (fun b e1 e2 => e1.elim (fun e => by have := HLT.out _ e; omega) (fun e => by omega))
        obtain ⟨hT9, hTM9⟩ := hIF2.tight
        have hTw : ∀ b, T0 b → b < w.heap.size := fun b e => (HTM.out b e).2
        have tZ : Tch (fun b => T0 b ∨ w.heap.size ≤ b) w (wr.putObj D (.deferred none)) := by
          have hn0 := HN0.out
          have hb1' := hb1.out.size
          have z1 : Tch (fun b => T0 b ∨ w.heap.size ≤ b) w w6 := (Tch.of hb1.out).more (T6.out.mono (fun b e => .inl e))
          have ho4 : ∀ b, own4 pa mp sp v b → T0 b ∨ w.heap.size ≤ b := fun b e => (HL0.out b e).1.elim .inl (fun e => .inr (by omega))
          have z2 : Tch (fun b => T0 b ∨ w.heap.size ≤ b) w w9 := ((z1.more (T7'.out.mono (fun b e => e.elim (fun e => by rw [e]; exact ho4 mp (.inr (.inl rfl))) (fun e => .inr (by omega))))).more (T8'.out.mono ho4)).bel T9.out
          exact (z2.more (HT'.out.mono (fun b e => e.elim (ho4 b) (fun e => .inr (by omega))))).more (tD.mono (fun b e => .inr (by omega)))
        refine ⟨_, results_tmp rfl _ _ _, rfl, ⟨mp, sp, v', K', hT9.mono (fun b e => ?_), HKO.out, ?_, ?_⟩, ⟨tZ.os, tZ.tape, tZ.output, tZ.size, fun k hk hn => tZ.block k hk (fun e => e.elim (fun e => hn (HTM.out k e).1) (fun e => by omega))⟩⟩
        · have hlt9 := (hTM9 b e).2
          rcases (hTM9 b e).1 with c | c
          · rcases (HL0.out b c).1 with d | d
            · exact .inl (HTM.out b d).1
            · exact .inr ⟨by have := hb1.out.size; omega, hlt9⟩
          · exact .inr ⟨by have := hb1.out.size; omega, hlt9⟩
        · exact HO.out.snoc HNO.out
        · intro b hb
          rcases List.mem_append.1 hb with hb | hb
          · exact HOK.out b hb
          · rw [List.mem_singleton] at hb
            rw [hb]
            exact hx
  case stop =>
    rintro D c pre W _ _ h _
    exact h.elim
end
end Go.Proofs.YtbodefigeiaodaaDoor
