/-
  The reference's maps of tiles: Drop.
-/
import Derived.Test.YtmeinjkpbijaeaaDoorRp14
namespace Go.Proofs.YtmeinjkpbijaeaaDoor
set_option linter.unusedSimpArgs false
set_option linter.unusedVariables false
open Go.RowKit Go.Sort Go.Lib Go.Shelf

theorem set_get {l : List Int} {t : Nat} (h : t < l.length) (a : Int) : (l.set t a)[t]! = a := by
  rw [getElem!_pos _ _ (by simpa using h)]
  simp
section
variable {pa : Nat} {g : Gd} {c : List Int} {M : Nat → Prop} {w : World}
set_option maxHeartbeats 4000000 in
set_option maxRecDepth 100000 in
theorem rdrop_none (hp : MpAt 59 w M pa g c) (hM : ∀ b, M b → b < w.heap.size) (hB : Bdd c 1000) (b : Bx4) (hn : anyL c (und g b) = true) :
    Calls Tryd.prog 23 #[ptP pa, bxV b] w fun e w' => ∃ v, e = .returned (.tuple #[v, .int .i64 3]) ∧ OwnI w' w.heap.size v [] ∧ RowKit.Below w.heap.size w w' := by
  have UC := Lib.hid (fun W' => runder_call g b W')
  have HP := Lib.hid hp
  have hl := hp.lt
  have UM : Hid (∀ t ∈ und g b, 0 ≤ t ∧ t < (c.length : Int)) := Lib.hid (fun t ht => by rw [hp.len]; exact und_mem ht)
  have UN := Lib.hid (und_nodup g b)
  have ULn : (und g b).length ≤ 1024 := Nat.le_trans (und_len g b) (ntl_cast hp.ok).2.1
  have HLN := Lib.hid hp.len
  have HB := Lib.hid hB
  have HM := Lib.hid hM
  have HAN := Lib.hid hn
  clear hn
  obtain ⟨blk, cap, hI, -⟩ := hp.open
  obtain ⟨c0, c1, c2, c3, c4, -⟩ := hI.cells
  generalize und g b = l at *
  obtain ⟨W, H, S, X, Y⟩ := g
  obtain ⟨b1, b2, b3, b4⟩ := b
  dsimp only at c0 c1 c2 c3 c4
  obtain ⟨w1, hw1⟩ : ∃ w1, w1 = ((w.alloc (.cells #[.int .i64 b1, .int .i64 b2, .int .i64 b3, .int .i64 b4] 37)).alloc (.cells #[] 3)) := ⟨_, rfl⟩
  have B1 : Hid (RowKit.Below w.heap.size w w1) := Lib.hid (by rw [hw1]; exact (by repeat (first | with_reducible exact Below.refl _ _ | with_reducible assumption | with_reducible apply Ba | with_reducible apply Bd | with_reducible apply Bn | with_reducible apply Bg | (with_reducible refine Bs ?_ (by first | (simp; done) | (simp; omega)) _) | (with_reducible refine Bt ?_ (by assumption)) | (with_reducible refine Bt ?_ (Gr.below (by assumption))))))
  have hs1 : w1.heap.size = w.heap.size + 1 + 1 := by rw [hw1]; simp
  have k1 : w1.heap[w.heap.size]? = some (.cells #[.int .i64 b1, .int .i64 b2, .int .i64 b3, .int .i64 b4] 37) := by rw [hw1]; exact blk_below (heap_alloc_new w _) (Ba (Below.refl _ _) _)
  have OL : Hid (OwnI w1 w.heap.size (.slice (some ⟨w.heap.size + 1, 0, none⟩) 0 0) []) := Lib.hid (by
    have := World.ownsRow_made (base := w.heap.size) (e := 3) (size := 1) (w.alloc (.cells #[.int .i64 b1, .int .i64 b2, .int .i64 b3, .int .i64 b4] 37)) #[] 0 (by simp) (Nat.zero_le _) (by simp)
    rw [show (w.alloc (.cells #[.int .i64 b1, .int .i64 b2, .int .i64 b3, .int .i64 b4] 37)).heap.size = w.heap.size + 1 by simp] at this
    rw [hw1]
    exact this)
  obtain ⟨y1, y2, y3, y4⟩ := cells4 k1
  have hz1 := cell_lt y1
  replace c0 := Bc B1.out hl c0
  replace c1 := Bc B1.out hl c1
  replace c2 := Bc B1.out hl c2
  replace c3 := Bc B1.out hl c3
  replace c4 := Bc B1.out hl c4
  have hl1 := Bl B1.out hl
  have HW := Lib.hid hw1
  have HS1 := Lib.hid hs1
  clear hw1 k1 hI hp hB hM hs1
  unfold ptP at *
  go_enter Tryd.func23, Tryd.ntmps23
  go_wp2_with fail
  rw [← HW.out]
  refine wp_region_held_drew (S := (fun w' => Below (w1).heap.size (w1) w' ∧ ∀ b_1 o, b_1 < (w1).heap.size → w'.cell? ⟨b_1, o, none⟩ = (w1).cell? ⟨b_1, o, none⟩)) (by kernel_rfl) (keep0 _) (fun hHeld => ?_)
  (refine wpAnyH_take (i := 0) (v := ?_) rfl (by kernel_rfl) (by kernel_rfl) (by kernel_rfl) (fun _ _ _ h => h) (Or.inl ⟨by rfl, ?rt⟩) (by assumption) ?_; case rt => (intro w hSw; (try dsimp only at hSw); go_simp; (try with_reducible rfl))); (try simp only [Act.put, List.getElem_toArray, List.getElem_cons_succ, List.getElem_cons_zero, List.setIfInBounds_toArray, List.set_cons_zero, List.set_cons_succ])
  (refine wpAnyH_take (i := 1) (v := ?_) rfl (by kernel_rfl) (by kernel_rfl) (by kernel_rfl) (fun _ _ _ h => h) (Or.inl ⟨by rfl, ?rt⟩) (by assumption) ?_; case rt => (intro w hSw; (try dsimp only at hSw); go_simp; (try with_reducible rfl))); (try simp only [Act.put, List.getElem_toArray, List.getElem_cons_succ, List.getElem_cons_zero, List.setIfInBounds_toArray, List.set_cons_zero, List.set_cons_succ])
  (refine wpAnyH_take (i := 2) (v := ?_) rfl (by kernel_rfl) (by kernel_rfl) (by kernel_rfl) (fun _ _ _ h => h) (Or.inl ⟨by rfl, ?rt⟩) (by assumption) ?_; case rt => (intro w hSw; (try dsimp only at hSw); go_simp; (try with_reducible rfl))); (try simp only [Act.put, List.getElem_toArray, List.getElem_cons_succ, List.getElem_cons_zero, List.setIfInBounds_toArray, List.set_cons_zero, List.set_cons_succ])
  (refine wpAnyH_take (i := 3) (v := ?_) rfl (by kernel_rfl) (by kernel_rfl) (by kernel_rfl) (fun _ _ _ h => h) (Or.inl ⟨by rfl, ?rt⟩) (by assumption) ?_; case rt => (intro w hSw; (try dsimp only at hSw); go_simp; (try with_reducible rfl))); (try simp only [Act.put, List.getElem_toArray, List.getElem_cons_succ, List.getElem_cons_zero, List.setIfInBounds_toArray, List.set_cons_zero, List.set_cons_succ])
  (refine wpAnyH_take (i := 4) (v := ?_) rfl (by kernel_rfl) (by kernel_rfl) (by kernel_rfl) (fun _ _ _ h => h) (Or.inl ⟨by rfl, ?rt⟩) (by assumption) ?_; case rt => (intro w hSw; (try dsimp only at hSw); go_simp; (try with_reducible rfl))); (try simp only [Act.put, List.getElem_toArray, List.getElem_cons_succ, List.getElem_cons_zero, List.setIfInBounds_toArray, List.set_cons_zero, List.set_cons_succ])
  (refine wpAnyH_ready (rs := [5]) (by kernel_rfl) (by simp) ?_; refine AllReadyH.cons rfl (fun K hK => ?_) AllReadyH.nil; go_simp; refine (UC.out _).mono ?_; rintro e w2 ⟨vu, rfl, ho, hb2⟩; obtain ⟨q, cp, rfl, -, -, hq⟩ := row_val ho; have OU := Lib.hid (And.intro ho hHeld.1.size); refine hK.out _ _ (keepB (by assumption) hb2) (fun hHeld => ?_); clear hK K ho hb2); (try simp only [Act.put, List.getElem_toArray, List.getElem_cons_succ, List.getElem_cons_zero, List.setIfInBounds_toArray, List.set_cons_zero, List.set_cons_succ])
  (refine wpAnyH_take (i := 6) (v := ?_) rfl (by kernel_rfl) (by kernel_rfl) (by kernel_rfl) (fun _ _ _ h => h) (Or.inl ⟨by rfl, ?rt⟩) (by assumption) ?_; case rt => (intro w hSw; (try dsimp only at hSw); go_simp; (try with_reducible rfl))); (try simp only [Act.put, List.getElem_toArray, List.getElem_cons_succ, List.getElem_cons_zero, List.setIfInBounds_toArray, List.set_cons_zero, List.set_cons_succ])
  refine wpAnyH_done (by kernel_rfl) ?_ _
  have B2 := Lib.hid (Bt B1.out hHeld.1)
  have OU2 := Lib.hid (row_mono OU.out.1 OU.out.2)
  have OL2 := Lib.hid (row_below OL.out hHeld.1)
  have HP2 := Lib.hid (HP.out.below B2.out)
  obtain ⟨U, hU⟩ : ∃ U : Nat → Prop, ∀ b, U b ↔ (Value.slice q l.length cp).ownBlock = some b := ⟨fun b => (Value.slice q l.length cp).ownBlock = some b, fun b => Iff.rfl⟩
  have HU : Hid (∀ b, U b → w.heap.size + 1 + 1 ≤ b ∧ b < w2.heap.size) := Lib.hid (fun b e => ⟨by rw [← HS1.out]; exact row_base0 OU2.out ((hU b).1 e), row_lt OU2.out ((hU b).1 e)⟩)
  have HU0 := Lib.hid hU
  have HRM : Hid (∀ b, M b → ¬ OffZ U w.heap.size b) := Lib.hid (fun b e f => by have := HM.out b e; have := f.1; omega)
  have RV0 : Hid (RowAt encI 3 1 w2 (OffZ U w.heap.size) (.slice (some ⟨w.heap.size + 1, 0, none⟩) 0 0) []) := Lib.hid ⟨row_mono OL2.out (Nat.zero_le _), fun gg e => by
    simp only [Value.ownBlock, Option.some.injEq] at e
    subst e
    exact ⟨by omega, fun f => by have := HU.out _ f; omega⟩⟩
  have hsw := B2.out.size
  have HQ := Lib.hid hq
  clear c0 c1 c2 c3 c4 y1 y2 y3 y4 hHeld OU hU OL OL2 hq
  have OV := Lib.hid (own_of_rowat RV0.out (base := w.heap.size) (fun b e => e.1))
  go_wp2_with fail
  go_loopw [21] (fun i wr => ∃ k : Nat, k ≤ l.length ∧ i = .int .i64 k ∧ wr = w2 ∧ Hid ((l.take k).any (fun t => decide (c[t.toNat]! = 0)) = false)) (fun i _ => l.length - (intOf i).toNat)
  case atStart => exact ⟨0, Nat.zero_le _, rfl, rfl, Lib.hid (by simp)⟩
  case round =>
    obtain ⟨k, hk, rfl, rfl, hu⟩ := hrel
    by_cases hkn : k < l.length
    · have hkz : (k : Int) < (l.length : Int) := by omega
      obtain ⟨gu, rfl, hgu, hou⟩ := HQ.out (by omega)
      have cu := row_cell1 encI1 OU2.out k hkn
      have hgur := cell_lt cu
      have hmem : l[k]! ∈ l := by rw [getElem!_pos l k hkn]; exact List.getElem_mem hkn
      obtain ⟨t0, t1⟩ := UM.out _ hmem
      have AT := Lib.hid (any_take hkn (fun t => decide (c[t.toNat]! = 0)))
      have AY := Lib.hid (any_at hkn (fun t => decide (c[t.toNat]! = 0)))
      generalize l[k]! = tz at *
      obtain ⟨t, rfl⟩ : ∃ t : Nat, tz = t := ⟨tz.toNat, by omega⟩
      have hct : t < c.length := by omega
      obtain ⟨bk, cap, hI, h1, h2, h3, h4, h5, h6⟩ := HP2.out.open
      obtain ⟨-, -, -, -, -, d5⟩ := hI.cells
      have hlr := hI.lt
      obtain ⟨e1, f1⟩ := hI.get hct
      have htz : (t : Int) < (c.length : Int) := by omega
      by_cases hx : c[t]! = 0
      · have HAY := Lib.hid (AY.out (by simpa using hx))
        have e0 : (c[t]! == 0) = true := by simpa using hx
        have e0' : decide (c[t]! = 0) = true := decide_eq_true hx
        generalize c[t]! = x at *
        clear hx hmem hI hou AT AY
        go_wp2
        exact bodyPost_ret (v := .tuple #[.slice (some ⟨w.heap.size + 1, 0, none⟩) 0 0, .int .i64 3]) (by simp [results, Tryd.results23, go_sem, *]) rfl ⟨_, rfl, OV.out, B2.out⟩
      · have HAT : Hid ((l.take (k + 1)).any (fun t => decide (c[t.toNat]! = 0)) = false) := Lib.hid (by rw [AT.out, hu.out]; simpa using hx)
        have e0 : (c[t]! == 0) = false := by simpa using hx
        have e0' : decide (c[t]! = 0) = false := decide_eq_false hx
        generalize c[t]! = x at *
        clear hx hmem hI hou AT AY
        go_wp2
        go_roundw
        case measure => simp only [intOf]; omega
        case rel => exact ⟨k + 1, by omega, by go_num, by trivial, HAT⟩
    · obtain rfl : k = l.length := by omega
      rw [List.take_length] at hu
      have := HAN.out
      unfold anyL at this
      rw [hu.out] at this
      cases this
set_option maxHeartbeats 4000000 in
set_option maxRecDepth 100000 in
theorem rdrop_call (hp : MpAt 59 w M pa g c) (hM : ∀ b, M b → b < w.heap.size) (hB : Bdd c 1000) (b : Bx4) (hn : anyL c (und g b) = false) :
    Calls Tryd.prog 23 #[ptP pa, bxV b] w fun e w' => ∃ v, e = .returned (.tuple #[v, .int .i64 0]) ∧ OwnI w' w.heap.size v (freeL (upd (-1) c (und g b)) (und g b)) ∧ MpAt 59 w' M pa g (upd (-1) c (und g b)) ∧ Tch M w w' := by
  unfold freeL
  have UC := Lib.hid (fun W' => runder_call g b W')
  have HP := Lib.hid hp
  have hl := hp.lt
  have UM : Hid (∀ t ∈ und g b, 0 ≤ t ∧ t < (c.length : Int)) := Lib.hid (fun t ht => by rw [hp.len]; exact und_mem ht)
  have UN := Lib.hid (und_nodup g b)
  have ULn : (und g b).length ≤ 1024 := Nat.le_trans (und_len g b) (ntl_cast hp.ok).2.1
  have HLN := Lib.hid hp.len
  have HB := Lib.hid hB
  have HM := Lib.hid hM
  have HAN := Lib.hid hn
  clear hn
  obtain ⟨blk, cap, hI, -⟩ := hp.open
  obtain ⟨c0, c1, c2, c3, c4, -⟩ := hI.cells
  generalize und g b = l at *
  obtain ⟨W, H, S, X, Y⟩ := g
  obtain ⟨b1, b2, b3, b4⟩ := b
  dsimp only at c0 c1 c2 c3 c4
  obtain ⟨w1, hw1⟩ : ∃ w1, w1 = ((w.alloc (.cells #[.int .i64 b1, .int .i64 b2, .int .i64 b3, .int .i64 b4] 37)).alloc (.cells #[] 3)) := ⟨_, rfl⟩
  have B1 : Hid (RowKit.Below w.heap.size w w1) := Lib.hid (by rw [hw1]; exact (by repeat (first | with_reducible exact Below.refl _ _ | with_reducible assumption | with_reducible apply Ba | with_reducible apply Bd | with_reducible apply Bn | with_reducible apply Bg | (with_reducible refine Bs ?_ (by first | (simp; done) | (simp; omega)) _) | (with_reducible refine Bt ?_ (by assumption)) | (with_reducible refine Bt ?_ (Gr.below (by assumption))))))
  have hs1 : w1.heap.size = w.heap.size + 1 + 1 := by rw [hw1]; simp
  have k1 : w1.heap[w.heap.size]? = some (.cells #[.int .i64 b1, .int .i64 b2, .int .i64 b3, .int .i64 b4] 37) := by rw [hw1]; exact blk_below (heap_alloc_new w _) (Ba (Below.refl _ _) _)
  have OL : Hid (OwnI w1 w.heap.size (.slice (some ⟨w.heap.size + 1, 0, none⟩) 0 0) []) := Lib.hid (by
    have := World.ownsRow_made (base := w.heap.size) (e := 3) (size := 1) (w.alloc (.cells #[.int .i64 b1, .int .i64 b2, .int .i64 b3, .int .i64 b4] 37)) #[] 0 (by simp) (Nat.zero_le _) (by simp)
    rw [show (w.alloc (.cells #[.int .i64 b1, .int .i64 b2, .int .i64 b3, .int .i64 b4] 37)).heap.size = w.heap.size + 1 by simp] at this
    rw [hw1]
    exact this)
  obtain ⟨y1, y2, y3, y4⟩ := cells4 k1
  have hz1 := cell_lt y1
  replace c0 := Bc B1.out hl c0
  replace c1 := Bc B1.out hl c1
  replace c2 := Bc B1.out hl c2
  replace c3 := Bc B1.out hl c3
  replace c4 := Bc B1.out hl c4
  have hl1 := Bl B1.out hl
  have HW := Lib.hid hw1
  have HS1 := Lib.hid hs1
  clear hw1 k1 hI hp hB hM hs1
  unfold ptP at *
  go_enter Tryd.func23, Tryd.ntmps23
  go_wp2_with fail
  rw [← HW.out]
  refine wp_region_held_drew (S := (fun w' => Below (w1).heap.size (w1) w' ∧ ∀ b_1 o, b_1 < (w1).heap.size → w'.cell? ⟨b_1, o, none⟩ = (w1).cell? ⟨b_1, o, none⟩)) (by kernel_rfl) (keep0 _) (fun hHeld => ?_)
  (refine wpAnyH_take (i := 0) (v := ?_) rfl (by kernel_rfl) (by kernel_rfl) (by kernel_rfl) (fun _ _ _ h => h) (Or.inl ⟨by rfl, ?rt⟩) (by assumption) ?_; case rt => (intro w hSw; (try dsimp only at hSw); go_simp; (try with_reducible rfl))); (try simp only [Act.put, List.getElem_toArray, List.getElem_cons_succ, List.getElem_cons_zero, List.setIfInBounds_toArray, List.set_cons_zero, List.set_cons_succ])
  (refine wpAnyH_take (i := 1) (v := ?_) rfl (by kernel_rfl) (by kernel_rfl) (by kernel_rfl) (fun _ _ _ h => h) (Or.inl ⟨by rfl, ?rt⟩) (by assumption) ?_; case rt => (intro w hSw; (try dsimp only at hSw); go_simp; (try with_reducible rfl))); (try simp only [Act.put, List.getElem_toArray, List.getElem_cons_succ, List.getElem_cons_zero, List.setIfInBounds_toArray, List.set_cons_zero, List.set_cons_succ])
  (refine wpAnyH_take (i := 2) (v := ?_) rfl (by kernel_rfl) (by kernel_rfl) (by kernel_rfl) (fun _ _ _ h => h) (Or.inl ⟨by rfl, ?rt⟩) (by assumption) ?_; case rt => (intro w hSw; (try dsimp only at hSw); go_simp; (try with_reducible rfl))); (try simp only [Act.put, List.getElem_toArray, List.getElem_cons_succ, List.getElem_cons_zero, List.setIfInBounds_toArray, List.set_cons_zero, List.set_cons_succ])
  (refine wpAnyH_take (i := 3) (v := ?_) rfl (by kernel_rfl) (by kernel_rfl) (by kernel_rfl) (fun _ _ _ h => h) (Or.inl ⟨by rfl, ?rt⟩) (by assumption) ?_; case rt => (intro w hSw; (try dsimp only at hSw); go_simp; (try with_reducible rfl))); (try simp only [Act.put, List.getElem_toArray, List.getElem_cons_succ, List.getElem_cons_zero, List.setIfInBounds_toArray, List.set_cons_zero, List.set_cons_succ])
  (refine wpAnyH_take (i := 4) (v := ?_) rfl (by kernel_rfl) (by kernel_rfl) (by kernel_rfl) (fun _ _ _ h => h) (Or.inl ⟨by rfl, ?rt⟩) (by assumption) ?_; case rt => (intro w hSw; (try dsimp only at hSw); go_simp; (try with_reducible rfl))); (try simp only [Act.put, List.getElem_toArray, List.getElem_cons_succ, List.getElem_cons_zero, List.setIfInBounds_toArray, List.set_cons_zero, List.set_cons_succ])
  (refine wpAnyH_ready (rs := [5]) (by kernel_rfl) (by simp) ?_; refine AllReadyH.cons rfl (fun K hK => ?_) AllReadyH.nil; go_simp; refine (UC.out _).mono ?_; rintro e w2 ⟨vu, rfl, ho, hb2⟩; obtain ⟨q, cp, rfl, -, -, hq⟩ := row_val ho; have OU := Lib.hid (And.intro ho hHeld.1.size); refine hK.out _ _ (keepB (by assumption) hb2) (fun hHeld => ?_); clear hK K ho hb2); (try simp only [Act.put, List.getElem_toArray, List.getElem_cons_succ, List.getElem_cons_zero, List.setIfInBounds_toArray, List.set_cons_zero, List.set_cons_succ])
  (refine wpAnyH_take (i := 6) (v := ?_) rfl (by kernel_rfl) (by kernel_rfl) (by kernel_rfl) (fun _ _ _ h => h) (Or.inl ⟨by rfl, ?rt⟩) (by assumption) ?_; case rt => (intro w hSw; (try dsimp only at hSw); go_simp; (try with_reducible rfl))); (try simp only [Act.put, List.getElem_toArray, List.getElem_cons_succ, List.getElem_cons_zero, List.setIfInBounds_toArray, List.set_cons_zero, List.set_cons_succ])
  refine wpAnyH_done (by kernel_rfl) ?_ _
  have B2 := Lib.hid (Bt B1.out hHeld.1)
  have OU2 := Lib.hid (row_mono OU.out.1 OU.out.2)
  have OL2 := Lib.hid (row_below OL.out hHeld.1)
  have HP2 := Lib.hid (HP.out.below B2.out)
  obtain ⟨U, hU⟩ : ∃ U : Nat → Prop, ∀ b, U b ↔ (Value.slice q l.length cp).ownBlock = some b := ⟨fun b => (Value.slice q l.length cp).ownBlock = some b, fun b => Iff.rfl⟩
  have HU : Hid (∀ b, U b → w.heap.size + 1 + 1 ≤ b ∧ b < w2.heap.size) := Lib.hid (fun b e => ⟨by rw [← HS1.out]; exact row_base0 OU2.out ((hU b).1 e), row_lt OU2.out ((hU b).1 e)⟩)
  have HU0 := Lib.hid hU
  have HRM : Hid (∀ b, M b → ¬ OffZ U w.heap.size b) := Lib.hid (fun b e f => by have := HM.out b e; have := f.1; omega)
  have RV0 : Hid (RowAt encI 3 1 w2 (OffZ U w.heap.size) (.slice (some ⟨w.heap.size + 1, 0, none⟩) 0 0) []) := Lib.hid ⟨row_mono OL2.out (Nat.zero_le _), fun gg e => by
    simp only [Value.ownBlock, Option.some.injEq] at e
    subst e
    exact ⟨by omega, fun f => by have := HU.out _ f; omega⟩⟩
  have hsw := B2.out.size
  have HQ := Lib.hid hq
  clear c0 c1 c2 c3 c4 y1 y2 y3 y4 hHeld OU hU OL OL2 hq
  go_wp2_with fail
  go_loopw [21] (fun i wr => ∃ k : Nat, k ≤ l.length ∧ i = .int .i64 k ∧ wr = w2 ∧ Hid ((l.take k).any (fun t => decide (c[t.toNat]! = 0)) = false)) (fun i _ => l.length - (intOf i).toNat)
  case atStart => exact ⟨0, Nat.zero_le _, rfl, rfl, Lib.hid (by simp)⟩
  case round =>
    obtain ⟨k, hk, rfl, rfl, hu⟩ := hrel
    by_cases hkn : k < l.length
    · have hkz : (k : Int) < (l.length : Int) := by omega
      obtain ⟨gu, rfl, hgu, hou⟩ := HQ.out (by omega)
      have cu := row_cell1 encI1 OU2.out k hkn
      have hgur := cell_lt cu
      have hmem : l[k]! ∈ l := by rw [getElem!_pos l k hkn]; exact List.getElem_mem hkn
      obtain ⟨t0, t1⟩ := UM.out _ hmem
      have AT := Lib.hid (any_take hkn (fun t => decide (c[t.toNat]! = 0)))
      have AY := Lib.hid (any_at hkn (fun t => decide (c[t.toNat]! = 0)))
      generalize l[k]! = tz at *
      obtain ⟨t, rfl⟩ : ∃ t : Nat, tz = t := ⟨tz.toNat, by omega⟩
      have hct : t < c.length := by omega
      obtain ⟨bk, cap, hI, h1, h2, h3, h4, h5, h6⟩ := HP2.out.open
      obtain ⟨-, -, -, -, -, d5⟩ := hI.cells
      have hlr := hI.lt
      obtain ⟨e1, f1⟩ := hI.get hct
      have htz : (t : Int) < (c.length : Int) := by omega
      by_cases hx : c[t]! = 0
      · have HAY := Lib.hid (AY.out (by simpa using hx))
        have e0 : (c[t]! == 0) = true := by simpa using hx
        have e0' : decide (c[t]! = 0) = true := decide_eq_true hx
        generalize c[t]! = x at *
        clear hx hmem hI hou AT AY
        have := HAN.out
        unfold anyL at this
        rw [HAY.out] at this
        cases this
      · have HAT : Hid ((l.take (k + 1)).any (fun t => decide (c[t.toNat]! = 0)) = false) := Lib.hid (by rw [AT.out, hu.out]; simpa using hx)
        have e0 : (c[t]! == 0) = false := by simpa using hx
        have e0' : decide (c[t]! = 0) = false := decide_eq_false hx
        generalize c[t]! = x at *
        clear hx hmem hI hou AT AY
        go_wp2
        go_roundw
        case measure => simp only [intOf]; omega
        case rel => exact ⟨k + 1, by omega, by go_num, by trivial, HAT⟩
    · obtain rfl : k = l.length := by omega
      rw [List.take_length] at hu
      have HNZ : Hid (∀ t ∈ l, c[t.toNat]! ≠ 0) := Lib.hid (fun t ht e => by have := HAN.out; unfold anyL at this; rw [List.any_eq_false] at this; exact this t ht (decide_eq_true e))
      have HUG : Hid (∀ (t : Nat), (t : Int) ∈ l → t < c.length → (upd (-1) c l)[t]! = c[t]! + -1) := Lib.hid (fun t ht hc => by rw [upd_get (-1) c UN.out (fun u h => (UM.out u h).1) hc, if_pos ht])
      obtain ⟨f2, hf2⟩ : ∃ f2 : Int → Bool, f2 = fun t => decide ((upd (-1) c l)[t.toNat]! = 0) := ⟨_, rfl⟩
      have HF2 := Lib.hid hf2
      clear hf2 hu
      generalize wr = w5 at *
      go_wp2_with fail
      go_loopw [6, 37] (fun v i wr => ∃ k : Nat, k ≤ l.length ∧ i = .int .i64 k ∧ RowAt encI 3 1 wr (OffZ U w.heap.size) v ((l.take k).filter f2) ∧ MpAt 59 wr M pa ⟨W, H, S, X, Y⟩ (upd (-1) c (l.take k)) ∧ Tch (fun b => M b ∨ OffZ U w.heap.size b) w5 wr) (fun _ i _ => l.length - (intOf i).toNat)
      case atStart => exact ⟨0, Nat.zero_le _, rfl, RV0.out, HP2.out, Tch.refl _ _⟩
      case round =>
        obtain ⟨k, hk, rfl, hv, hm, ht⟩ := hrel
        have HT := Lib.hid ht
        have HMp := Lib.hid hm
        have HV := Lib.hid hv
        by_cases hkn : k < l.length
        · have hkz : (k : Int) < (l.length : Int) := by omega
          obtain ⟨gu, rfl, hgu, hou⟩ := HQ.out (by omega)
          have hUg := (HU0.out gu).2 hou
          have cu := row_cell1 encI1 OU2.out k hkn
          have hgu3 := cell_lt cu
          replace cu := ht.cell hgu3 (fun e => e.elim (fun e => by have := HM.out _ e; have := (HU.out _ hUg).1; omega) (fun e => e.2 hUg)) cu
          have hgur := ht.lt hgu3
          have hmem : l[k]! ∈ l := by rw [getElem!_pos l k hkn]; exact List.getElem_mem hkn
          obtain ⟨t0, t1⟩ := UM.out _ hmem
          have hbf := upd_before hkn UN.out (-1) (c := c) (fun t h => ⟨(UM.out t h).1, by have := UM.out t h; omega⟩)
          have htk := upd_take hkn (-1) c
          have hnz := HNZ.out _ hmem
          have FY := Lib.hid (filter_yes hkn f2)
          have FN := Lib.hid (filter_not hkn f2)
          unfold bmp at htk
          rw [hbf] at htk
          generalize l[k]! = tz at *
          obtain ⟨t, rfl⟩ : ∃ t : Nat, tz = t := ⟨tz.toNat, by omega⟩
          rw [Int.toNat_natCast] at hbf htk hnz
          have hct : t < c.length := by omega
          have hug := HUG.out t hmem hct
          have hf2t : f2 (t : Int) = decide (c[t]! + -1 = 0) := by rw [HF2.out, ← hug]; rfl
          have hcl := upd_len (-1) c (l.take k)
          obtain ⟨bk, cap, hI, h1, h2, h3, h4, h5, h6⟩ := hm.open
          obtain ⟨-, -, -, -, -, d5⟩ := hI.cells
          have hlr := hI.lt
          obtain ⟨e1, f1⟩ := hI.get (j := t) (by omega)
          have bdt := HB.out t hct
          have hlen : ((l.take k).filter f2).length ≤ 1024 := Nat.le_trans (List.length_filter_le _ _) (by rw [List.length_take]; omega)
          rw [hbf] at e1
          have HCL : Hid ((upd (-1) c (l.take (k + 1))).length = ntl ⟨W, H, S, X, Y⟩) := Lib.hid (by rw [upd_len]; exact HLN.out)
          have htz : (t : Int) < (c.length : Int) := by omega
          have hs2 := ht.size
          obtain ⟨P0, T1⟩ := hI.cell hm.far t (c[t]! + -1)
          have g1 := (P0.get (j := t) (by rw [List.length_set]; omega)).1
          rw [set_get (by omega)] at g1
          have d6 := P0.cells.2.2.2.2.2
          have hl6 := P0.lt
          have m6 := cell_lt g1
          rw [← htk] at P0
          obtain ⟨y, hy⟩ : ∃ y, y = c[t]! + -1 := ⟨_, rfl⟩
          have hy2 : c[t]! - 1 = y := by omega
          have hy3 : 0 ≤ y ∧ y ≤ 1000 := by omega
          have hyw : wrap64 (c[t]! - 1) = y := by rw [hy2]; exact IntWalk.wrap64_in _ ⟨by omega, by omega⟩
          rw [← hy] at P0 T1 g1 d6 hl6 m6 hf2t
          have HP9 := Lib.hid P0
          have hv6 := hv.kept T1 (fun b e f => HRM.out b f e)
          have HT6 := Lib.hid (ht.more (T1.mono (fun b e => Or.inl e)))
          have hsz6 : wr.heap.size ≤ (wr.setCell ⟨bk, t, none⟩ (.int .i64 y)).heap.size := T1.size
          have HFAR := Lib.hid hm.far
          have HOK := Lib.hid hm.ok
          rw [hcl] at d5 d6 h1
          by_cases hx : y = 0
          · have HFT := Lib.hid (FY.out (by rw [hf2t]; exact decide_eq_true hx))
            have e0 : (y == 0) = true := by simpa using hx
            have e0' : decide (y = 0) = true := decide_eq_true hx
            have L5 := Lib.hid (sl_lit (enc := encI) (w := wr.setCell ⟨bk, t, none⟩ (.int .i64 y)) (cs := #[.int .i64 (t : Int)]) (t := 3) (b := (wr.setCell ⟨bk, t, none⟩ (.int .i64 y)).heap.size) [(t : Int)] rfl rfl (by unfold maxLen; simp))
            have hss : (wr.setCell ⟨bk, t, none⟩ (.int .i64 y)).heap.size = wr.heap.size := by simp
            rw [hss] at L5
            have HR5 : Hid (RowAt encI 3 1 ((wr.setCell ⟨bk, t, none⟩ (.int .i64 y)).alloc (.cells #[.int .i64 (t : Int)] 3)) (OffZ U w.heap.size) _ _) := Lib.hid (hv6.below (Ba (Below.refl _ _) _))
            have O5 := Lib.hid HR5.out.1
            have HS5 : Hid (w5.heap.size ≤ ((wr.setCell ⟨bk, t, none⟩ (.int .i64 y)).alloc (.cells #[.int .i64 (t : Int)] 3)).heap.size ∧ w.heap.size ≤ w5.heap.size) := Lib.hid ⟨by simp; omega, hsw⟩
            have HI5 : Hid (MpIs 59 ((wr.setCell ⟨bk, t, none⟩ (.int .i64 y)).alloc (.cells #[.int .i64 (t : Int)] 3)) M pa _ ⟨W, H, S, X, Y⟩ _) := Lib.hid (HP9.out.below (Ba (Below.refl _ _) _))
            have HT5 := Lib.hid (HT6.out.alloc (.cells #[.int .i64 (t : Int)] 3))
            generalize (l.take k).filter f2 = L at *
            generalize c[t]! = x at *
            clear hx hy FY FN hbf htk hmem hm hv ht hI hcl hou HMp HV P0 T1 hv6 hug hf2t hss hnz
            go_wp2_with (at_builtin; refine wpl_app2 apI rfl _ _ rfl 0 (by rfl) (by rfl) O5.out rfl L5.out (by simp; omega) (Nat.zero_le _) ?_; intro v7 w7 hown7 hgrow7 hat7 hnil7; obtain ⟨r7, t7⟩ := row7 (U := U) (b0 := w.heap.size) HR5.out hown7 hgrow7 hat7 (fun b e => ⟨by have := (HU.out b e).2; have := HS5.out; omega, by have := HS5.out; omega⟩) (by have := HS5.out; omega); have HP7 := Lib.hid (HI5.out.kept t7 HRM.out); have HR7 := Lib.hid r7; have HT7 := Lib.hid (HT5.out.more (t7.mono (fun b e => Or.inr e))); clear hown7 hgrow7 hat7 hnil7 r7 t7)
            go_roundw
            case measure => simp only [intOf]; omega
            case rel => exact ⟨k + 1, by omega, by go_num, by rw [HFT.out]; exact HR7.out, ⟨⟨_, HP7.out⟩, HOK.out, HCL.out, HFAR.out⟩, HT7.out⟩
          · have HFT := Lib.hid (FN.out (by rw [hf2t]; exact decide_eq_false hx))
            have e0 : (y == 0) = false := by simpa using hx
            have e0' : decide (y = 0) = false := decide_eq_false hx
            have HR9 := Lib.hid hv6
            generalize (l.take k).filter f2 = L at *
            generalize c[t]! = x at *
            clear hx hy FY FN hbf htk hmem hm hv ht hI hcl hou HMp HV P0 T1 hv6 hug hf2t hnz
            go_wp2
            go_roundw
            case measure => simp only [intOf]; omega
            case rel => exact ⟨k + 1, by omega, by go_num, by rw [HFT.out]; exact HR9.out, ⟨⟨_, HP9.out⟩, HOK.out, HCL.out, HFAR.out⟩, HT6.out⟩
        · obtain rfl : k = l.length := by omega
          rw [List.take_length] at HMp HV
          rw [HF2.out] at HV
          obtain ⟨v9, hv9⟩ : ∃ v9, v9 = u6 := ⟨_, rfl⟩
          have OV := Lib.hid (own_of_rowat HV.out (base := w.heap.size) (fun b e => e.1))
          have TW := Lib.hid (show Tch M w wr from ⟨HT.out.os.trans B2.out.os, HT.out.tape.trans B2.out.tape, HT.out.output.trans B2.out.output, Nat.le_trans B2.out.size HT.out.size, fun bb hbb hnm => (HT.out.block bb (Nat.lt_of_lt_of_le hbb B2.out.size) (fun e => e.elim hnm (fun f => by have := f.1; omega))).trans (B2.out.block bb hbb)⟩)
          clear hm hv ht hv9
          go_wp2
          exact bodyPost_ret (v := .tuple #[u6, .int .i64 0]) (by simp [results, Tryd.results23, go_sem, *]) rfl ⟨_, rfl, OV.out, HMp.out, TW.out⟩
end
end Go.Proofs.YtmeinjkpbijaeaaDoor
