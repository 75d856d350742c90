import Derived.Test.YtahichjiphjapaaGreatDoorZ40
import Derived.Defers
import Derived.Recover
import Derived.Laws.EntriesVeiled

/-
  Package quad: Walk.
-/
namespace Go.Proofs.YtahichjiphjapaaGreatDoor
set_option linter.unusedSimpArgs false
set_option linter.unusedVariables false
open Go.RowKit Go.Sort Go.Lib Go.Shelf

theorem walk1_idle (w : World) :
    CallsD Tryz.prog 83 #[] .returning w fun e u' w' => (∃ r, e = .returned r) ∧ u' = .returning ∧ w' = w := by
  refine callsD_of_wpS Tryz.func83 rfl fun c₀ cs hu => ?_
  apply wpS_region
  cases c₀
  simp_all [wpOpsS, go_sem, recoverD, hu, Tryz.ntmps83, bodyPostS, results, Tryz.results83]
section
variable {w : World} {M : Nat → Prop} {pt mb : Nat} {R : Rw} {rv : Value} {q : Q4} {B : List Bxd} {I : Inv} {Y : Nat → Prop}
set_option maxHeartbeats 4000000 in
set_option maxRecDepth 100000 in
theorem walkG_call (hp : TrIs w M pt mb R rv q B) (hl : B.length ≤ 1000) (hMY : ∀ b, M b → ¬ Y b ∧ b < w.heap.size) (hI : Stab I) (fe : FuncId) (ve : Array Value) (av : Value) (p : Cl → Bool)
    (hav : (∃ fa va, av = .func (.func fa) #[] va) ∨ av = .nilFunc) (hen : ∀ args w, (callFunc fe args).run Tryz.prog w = .ok (.enter fe args) w)
    (he : ∀ (s t : List Ev) (Y : Nat → Prop) (W : World) (c : Cl), s ++ Ev.ask c :: t = evs p R 9 [] → I s Y W → OwnB Y W → Calls Tryz.prog fe (#[clV c] ++ ve) W fun e w' => e = .returned (.bool (p c)) ∧ Cb I (s ++ [Ev.ask c]) Y W w')
    (ht : Tells I (evs p R 9 []) av) (h0 : I [] Y w) (ho : OwnB Y w) :
    Calls Tryz.prog 52 #[pp pt, .func (.func fe) #[] ve, av] w fun e w' => (∃ r, e = .returned r) ∧ Cb I (evs p R 9 []) Y w w' := by
  have hq := eqE_func
  have HP := Lib.hid hp
  obtain ⟨c0, c1, c2, c3, c4, c5⟩ := hp.cells
  have hpl := cell_lt c0
  have hmf : ∀ (fn : Fn) (first cap : Array Value) (w : World), (Instr.makeFunc fn first cap).run Tryz.prog w = .ok (.func fn first cap) w := fun _ _ _ _ => rfl
  have HW := Lib.hid (fun eb ab kb => walk2_call (E := evs p R 9 []) (eb := eb) (ab := ab) (kb := kb) (Mn := Nds M pt mb) hI hen he ht (fun u => Nat.le_trans (nodup_sub_len (hp.rows.nodup u) (fun z hz => ((hp.rows.mem u z).1 hz).1)) hl) 8)
  have HI := Lib.hid hI
  have HI0 := Lib.hid h0
  have HO := Lib.hid ho
  obtain ⟨q1, q2, q3_, q4⟩ := q
  dsimp only at c2 c3 c4 c5
  obtain ⟨W1, hW1⟩ : ∃ W1, W1 = ((w.alloc (.cells #[.func (.func fe) #[] ve] 101)).alloc (.cells #[av] 103)).alloc (.cells #[.func (.func 84) #[] #[pp w.heap.size, pp (w.heap.size + 1), pp (w.heap.size + 1 + 1)]] 131) := ⟨_, rfl⟩
  have hs1 : W1.heap.size = w.heap.size + 3 := by rw [hW1]; simp
  have b1 : RowKit.Below w.heap.size w W1 := by rw [hW1]; exact Ba (Ba (Ba (Below.refl _ w) _) _) _
  have hnY : ∀ z, w.heap.size ≤ z → ¬ Y z := fun z h e => by have := ho z e; omega
  obtain ⟨kk1, kk2⟩ := three_blk (w := w) (o1 := .cells #[.func (.func fe) #[] ve] 101) (o2 := .cells #[av] 103) (w3 := W1) (by rw [hW1]; exact Ba (Below.refl _ _) _)
  have kk3 := heap_alloc_new ((w.alloc (.cells #[.func (.func fe) #[] ve] 101)).alloc (.cells #[av] 103)) (.cells #[.func (.func 84) #[] #[pp w.heap.size, pp (w.heap.size + 1), pp (w.heap.size + 1 + 1)]] 131)
  rw [← hW1, show ((w.alloc (.cells #[.func (.func fe) #[] ve] 101)).alloc (.cells #[av] 103)).heap.size = w.heap.size + 1 + 1 by simp] at kk3
  have henv : EnvW w.heap.size (w.heap.size + 1) (w.heap.size + 1 + 1) fe ve av Y W1 := ⟨(blk_cell kk1 0).trans rfl, (blk_cell kk2 0).trans rfl, (blk_cell kk3 0).trans rfl, hnY _ (by omega), hnY _ (by omega), hnY _ (by omega)⟩
  have HENV := Lib.hid henv
  have z1 := henv.k
  have hz1 := cell_lt z1
  have B1 := Lib.hid b1
  have hYp : ¬ Y pt := (hMY pt hp.inT).1
  have x1 := Bc b1 hpl c1
  have x2 := Bc b1 hpl c2
  have x3 := Bc b1 hpl c3
  have x4 := Bc b1 hpl c4
  have x5 := Bc b1 hpl c5
  have hpl1 := cell_lt x1
  have hS := Lib.hid (show ∀ W', Tch Y W1 W' → (W'.cell? ⟨w.heap.size + 1 + 1, 0, none⟩ = some (.func (.func 84) #[] #[pp w.heap.size, pp (w.heap.size + 1), pp (w.heap.size + 1 + 1)]) ∧ (W'.cell? ⟨pt, 1, none⟩ = some rv ∧ W'.cell? ⟨pt, 2, none⟩ = some (pV q1) ∧ W'.cell? ⟨pt, 3, none⟩ = some (pV q2) ∧ W'.cell? ⟨pt, 4, none⟩ = some (pV q3_) ∧ W'.cell? ⟨pt, 5, none⟩ = some (pV q4))) from fun W' h =>
    ⟨h.cell hz1 henv.ny.2.2 z1, h.cell hpl1 hYp x1, h.cell hpl1 hYp x2, h.cell hpl1 hYp x3, h.cell hpl1 hYp x4, h.cell hpl1 hYp x5⟩)
  have WC := Lib.hid (fun W' (hb : RowKit.Below W1.heap.size W1 W') => HW.out w.heap.size (w.heap.size + 1) (w.heap.size + 1 + 1) [] (ndV rv (q1, q2, q3_, q4)) [] [] Y W' (fun i hi => by cases hi) (by simp) ⟨rv, (q1, q2, q3_, q4), rfl, (show atR R [] = R from rfl) ▸ (hp.nd.below (b1.trans (hb.mono b1.size)))⟩ (fun z e => ⟨(hMY z e.1).1, Nat.lt_of_lt_of_le (hMY z e.1).2 (Nat.le_trans b1.size hb.size)⟩) (henv.below hb) (by simp) (hI _ _ _ _ h0 (b1.trans (hb.mono b1.size))) (fun z e => Nat.lt_of_lt_of_le (ho z e) (Nat.le_trans b1.size hb.size)))
  have HW1 := Lib.hid hW1
  have hws : w.heap.size < W1.heap.size := by omega
  clear hI ht he h0 ho hp hW1 HW henv b1 hnY hs1 kk1 kk2 kk3
  rcases hav with ⟨fa, va, rfl⟩ | rfl
  all_goals
    go_enter_defers Tryz.func52, Tryz.ntmps52
    go_wp2_with fail
    rw [← HW1.out]
    refine wp_region_noPanic ?_
    refine wp_region_held_drew (S := fun W' => W'.cell? ⟨w.heap.size + 1 + 1, 0, none⟩ = some (.func (.func 84) #[] #[pp w.heap.size, pp (w.heap.size + 1), pp (w.heap.size + 1 + 1)]) ∧ (W'.cell? ⟨pt, 1, none⟩ = some rv ∧ W'.cell? ⟨pt, 2, none⟩ = some (pV q1) ∧ W'.cell? ⟨pt, 3, none⟩ = some (pV q2) ∧ W'.cell? ⟨pt, 4, none⟩ = some (pV q3_) ∧ W'.cell? ⟨pt, 5, none⟩ = some (pV q4))) (by kernel_rfl) (hS.out _ ((Tch.refl _ _).drew)) (fun hHeld => ?_)
    (refine wpAnyH_take (i := 0) (v := ?_) rfl (by kernel_rfl) (by kernel_rfl) (by kernel_rfl) (fun _ _ _ h => h) (Or.inl ⟨by rfl, ?rt⟩) (by assumption) ?_; case rt => (intro w hSw; (try dsimp only at hSw); go_simp; (try with_reducible rfl))); (try simp only [Act.put, List.getElem_toArray, List.getElem_cons_succ, List.getElem_cons_zero, List.setIfInBounds_toArray, List.set_cons_zero, List.set_cons_succ])
    (refine wpAnyH_take (i := 1) (v := ?_) rfl (by kernel_rfl) (by kernel_rfl) (by kernel_rfl) (fun _ _ _ h => h) (Or.inl ⟨by rfl, ?rt⟩) (by assumption) ?_; case rt => (intro w hSw; (try dsimp only at hSw); go_simp; (try with_reducible rfl))); (try simp only [Act.put, List.getElem_toArray, List.getElem_cons_succ, List.getElem_cons_zero, List.setIfInBounds_toArray, List.set_cons_zero, List.set_cons_succ])
    (refine wpAnyH_take (i := 2) (v := ?_) rfl (by kernel_rfl) (by kernel_rfl) (by kernel_rfl) (fun _ _ _ h => h) (Or.inl ⟨by rfl, ?rt⟩) (by assumption) ?_; case rt => (intro w hSw; (try dsimp only at hSw); go_simp; (try with_reducible rfl))); (try simp only [Act.put, List.getElem_toArray, List.getElem_cons_succ, List.getElem_cons_zero, List.setIfInBounds_toArray, List.set_cons_zero, List.set_cons_succ])
    (refine wpAnyH_take (i := 3) (v := ?_) rfl (by kernel_rfl) (by kernel_rfl) (by kernel_rfl) (fun _ _ _ h => h) (Or.inl ⟨by rfl, ?rt⟩) (by assumption) ?_; case rt => (intro w hSw; (try dsimp only at hSw); go_simp; (try with_reducible rfl))); (try simp only [Act.put, List.getElem_toArray, List.getElem_cons_succ, List.getElem_cons_zero, List.setIfInBounds_toArray, List.set_cons_zero, List.set_cons_succ])
    (refine wpAnyH_take (i := 4) (v := ?_) rfl (by kernel_rfl) (by kernel_rfl) (by kernel_rfl) (fun _ _ _ h => h) (Or.inl ⟨by rfl, ?rt⟩) (by assumption) ?_; case rt => (intro w hSw; (try dsimp only at hSw); go_simp; (try with_reducible rfl))); (try simp only [Act.put, List.getElem_toArray, List.getElem_cons_succ, List.getElem_cons_zero, List.setIfInBounds_toArray, List.set_cons_zero, List.set_cons_succ])
    (refine wpAnyH_take (i := 5) (v := ?_) rfl (by kernel_rfl) (by kernel_rfl) (by kernel_rfl) (fun _ _ _ h => h) (Or.inl ⟨by rfl, ?rt⟩) (by assumption) ?_; case rt => (intro w hSw; (try dsimp only at hSw); go_simp; (try with_reducible rfl))); (try simp only [Act.put, List.getElem_toArray, List.getElem_cons_succ, List.getElem_cons_zero, List.setIfInBounds_toArray, List.set_cons_zero, List.set_cons_succ])
    (refine wpAnyH_ready (rs := [6]) (by kernel_rfl) (by simp) ?_; refine AllReadyH.cons rfl (fun K hK => ?_) AllReadyH.nil; go_simp)
    refine (WC.out _ (Bd (Below.refl _ _))).mono ?_
    rintro e w2 ⟨⟨r, rfl⟩, hc2⟩
    refine hK.out _ _ (hS.out _ ((Tch.refl _ _).drew.more hc2.tch)) (fun hHeld => ?_)
    clear hK K
    (try simp only [Act.put, List.getElem_toArray, List.getElem_cons_succ, List.getElem_cons_zero, List.setIfInBounds_toArray, List.set_cons_zero, List.set_cons_succ])
    refine wpAnyH_done (by kernel_rfl) ?_ _
    refine NoPanic.normal ?_
    have HC2 := Lib.hid (Cb.pre (B1.out.trans ((Bd (Below.refl _ W1)).mono B1.out.size)) hc2)
    clear hHeld hc2
    refine leaves_cons (f := 83) (args := #[]) (by simp) (by simp [go_sem]) ?_
    refine (walk1_idle _).mono ?_
    rintro e u' w'' ⟨⟨r', rfl⟩, rfl, rfl⟩
    exact ⟨_, results_none rfl _ _ _, ⟨_, rfl⟩, HC2.out⟩
end
end Go.Proofs.YtahichjiphjapaaGreatDoor
