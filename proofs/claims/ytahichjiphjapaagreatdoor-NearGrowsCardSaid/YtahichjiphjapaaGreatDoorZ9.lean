import Derived.Test.YtahichjiphjapaaGreatDoorZ8

/-
  Package quad: a node changed at the end of a way.
-/
namespace Go.Proofs.YtahichjiphjapaaGreatDoor
set_option linter.unusedSimpArgs false
set_option linter.unusedVariables false
open Go.RowKit Go.Sort Go.Lib Go.Shelf

theorem nd_put (rv : Value) (q : Q4) {i : Nat} (hi : i < 4) (p : Option Nat) : (ndC rv q).setIfInBounds (1 + i) (pV p) = ndC rv (q.put i p) := by
  rcases (show i = 0 ∨ i = 1 ∨ i = 2 ∨ i = 3 by omega) with rfl | rfl | rfl | rfl <;> rfl
/-- What do does to a row that holds l. -/
def Does (w0 : World) (fd : FuncId) (cv : Array Value) (l l' : List Bxd) : Prop :=
  ∀ (W : World) (rv : Value), RowKit.Below w0.heap.size w0 W → Sl encHB W rv l → Calls Tryz.prog fd (#[rv] ++ cv) W fun e w' => ∃ v', e = .returned v' ∧ w'.ownsRow W.heap.size 96 6 v' l'.length (flat encHB l') ∧ RowKit.Below W.heap.size W w'
section
variable {w : World} {M : Nat → Prop} {n : Nat} {R : Rw} {rv : Value} {q : Q4} {w0 : World} {fd : FuncId} {cv : Array Value} {l l' : List Bxd}
set_option maxHeartbeats 1000000 in
set_option maxRecDepth 100000 in
theorem changed_nil (hdo : Does w0 fd cv l l') (hen : ∀ args w, (callFunc fd args).run Tryz.prog w = .ok (.enter fd args) w) (hb0 : RowKit.Below w0.heap.size w0 w) (h : NdV w M n R rv q) (hM : ∀ b, M b → b < w.heap.size) (hl : R [] = l) (wv : Value) (hw : Sl encI w wv []) :
    Calls Tryz.prog 46 #[ndV rv q, wv, .func (.func fd) #[] cv] w fun e w' => ∃ v', e = .returned v' ∧ IsNd w' (New M w w') n (setR R [] l') v' ∧ RowKit.Below w.heap.size w w' := by
  have HH := Lib.hid h
  have HSL := Lib.hid (show Sl encHB w rv l by rw [← hl]; exact h.1.sl lenHB)
  obtain ⟨p, cap, rfl, hc, _⟩ := h.val
  obtain ⟨pw, cw, rfl, _, _, _⟩ := hw
  obtain ⟨q1, q2, q3, q4⟩ := q
  rw [hl] at *
  have HD := Lib.hid hdo
  have HB0 := Lib.hid hb0
  have hmf : ∀ (fn : Fn) (first cap : Array Value) (w : World), (Instr.makeFunc fn first cap).run Tryz.prog w = .ok (.func fn first cap) w := fun _ _ _ _ => rfl
  have b0 := Ba (Ba (Below.refl _ w) (.cells #[.slice p l.length cap, .pointer (aV q1), .pointer (aV q2), .pointer (aV q3), .pointer (aV q4)] 83)) (.cells #[.slice none 0 0, .pointer none, .pointer none, .pointer none, .pointer none] 83)
  have k0 := three_blk (w := w) (o1 := .cells #[.slice p l.length cap, .pointer (aV q1), .pointer (aV q2), .pointer (aV q3), .pointer (aV q4)] 83) (o2 := .cells #[.slice none 0 0, .pointer none, .pointer none, .pointer none, .pointer none] 83) (Below.refl _ _)
  obtain ⟨W0, hW0⟩ : ∃ W0, W0 = (w.alloc (.cells #[.slice p l.length cap, .pointer (aV q1), .pointer (aV q2), .pointer (aV q3), .pointer (aV q4)] 83)).alloc (.cells #[.slice none 0 0, .pointer none, .pointer none, .pointer none, .pointer none] 83) := ⟨_, rfl⟩
  have hs0 : W0.heap.size = w.heap.size + 2 := by rw [hW0]; simp
  rw [← hW0] at b0 k0
  have HW0 := Lib.hid hW0
  have HK0 := Lib.hid k0
  have B0 := Lib.hid b0
  clear h hdo hb0 hl b0 hW0
  change Calls Tryz.prog 46 #[.agg #[.slice p l.length cap, .pointer (aV q1), .pointer (aV q2), .pointer (aV q3), .pointer (aV q4)], .slice pw 0 cw, .func (.func fd) #[] cv] w _
  go_enter Tryz.func46, Tryz.ntmps46
  go_wp2_with fail
  rw [← HW0.out]
  refine (HD.out _ _ ((HB0.out.trans (B0.out.mono HB0.out.size))) (HSL.out.below B0.out)).mono ?_
  rintro e w1 ⟨v1, rfl, ho1, hb1⟩
  have B1 := Lib.hid (Bt B0.out hb1)
  obtain ⟨p1, cap1, rfl, _, _, _⟩ := row_val ho1
  have k1 := blk_below k0.1 hb1
  have k2 := blk_below k0.2 hb1
  obtain ⟨c1, c2, c3, c4, c5⟩ := cells5 k1
  obtain ⟨d1, d2, d3, d4, d5⟩ := cells5 k2
  have f1 := frz0 k1 0
  have g1 := frz0 k2 0
  have g2 := frz0 k2 1
  have g3 := frz0 k2 2
  have g4 := frz0 k2 3
  have g5 := frz0 k2 4
  have hl1 := cell_lt c1
  have hl2 := cell_lt d1
  have O1 := Lib.hid (row_mono ho1 (show w.heap.size + 2 ≤ W0.heap.size by omega))
  have hne : w.heap.size ≠ w.heap.size + 1 := by omega
  clear ho1 hb1 k0 k1 k2 hs0
  generalize hL' : l'.length = n' at *
  go_wp2
  refine bodyPost_ret (v := .agg #[.slice p1 n' cap1, .pointer (aV q1), .pointer (aV q2), .pointer (aV q3), .pointer (aV q4)]) ?_ rfl ?_
  · simp [results, Tryz.results46, go_sem, *]
  · have T1 := ((((((Tch.set w1 (M := fun b => b = w.heap.size ∨ b = w.heap.size + 1) (p := ⟨w.heap.size, 0, none⟩) (.inl rfl) (.slice p1 n' cap1)).more (Tch.set _ (p := ⟨w.heap.size + 1, 0, none⟩) (.inr rfl) (.slice p1 n' cap1))).more (Tch.set _ (p := ⟨w.heap.size + 1, 1, none⟩) (.inr rfl) (pV q1))).more (Tch.set _ (p := ⟨w.heap.size + 1, 2, none⟩) (.inr rfl) (pV q2))).more (Tch.set _ (p := ⟨w.heap.size + 1, 3, none⟩) (.inr rfl) (pV q3))).more (Tch.set _ (p := ⟨w.heap.size + 1, 4, none⟩) (.inr rfl) (pV q4)))
    have hb2 : RowKit.Below w.heap.size w _ := B1.out.trans (Tch.below T1 (fun b e => by omega) B1.out.size)
    refine ⟨_, rfl, ⟨_, (q1, q2, q3, q4), rfl, ?_⟩, hb2⟩
    have hN := (HH.out.below B1.out).kept T1 (fun b e => by have := hM b e; omega)
    refine NdV.here (NdV.mono (fun b e => Or.inl e) hN) ⟨row_mono (row_keep (by rw [hL']; exact O1.out) (fun g hg => T1.block g (row_lt O1.out hg) (fun e => by have := row_base0 O1.out hg; omega))) (Nat.zero_le _), fun g hg => .inr ?_⟩
    have h1 := row_base0 O1.out hg
    have h2 := row_lt O1.out hg
    exact ⟨by omega, Nat.lt_of_lt_of_le h2 T1.size⟩
end
end Go.Proofs.YtahichjiphjapaaGreatDoor

/-
  Package quad: a node changed at the end of any way.
-/
namespace Go.Proofs.YtahichjiphjapaaGreatDoor
set_option linter.unusedSimpArgs false
set_option linter.unusedVariables false
open Go.RowKit Go.Sort Go.Lib Go.Shelf

theorem tch5 {w w' : World} {M : Nat → Prop} {p : Nat} (h : Tch M w w') (hp : M p) (a b c d e : Value) : Tch M w (((((w'.setCell ⟨p, 0, none⟩ a).setCell ⟨p, 1, none⟩ b).setCell ⟨p, 2, none⟩ c).setCell ⟨p, 3, none⟩ d).setCell ⟨p, 4, none⟩ e) :=
  ((((h.more (Tch.set _ (p := ⟨p, 0, none⟩) hp a)).more (Tch.set _ (p := ⟨p, 1, none⟩) hp b)).more (Tch.set _ (p := ⟨p, 2, none⟩) hp c)).more (Tch.set _ (p := ⟨p, 3, none⟩) hp d)).more (Tch.set _ (p := ⟨p, 4, none⟩) hp e)
section
variable {w0 : World} {fd : FuncId} {cv : Array Value} {l l' : List Bxd}
/-- What changed is to say. -/
def Chg (w0 : World) (fd : FuncId) (cv : Array Value) (l l' : List Bxd) (n : Nat) : Prop :=
  ∀ (way : List Nat) (w : World) (M : Nat → Prop) (R : Rw) (v wv : Value), (∀ b, M b → b < w.heap.size) → RowKit.Below w0.heap.size w0 w → IsNd w M n R v → Dig R → (∀ i ∈ way, i < 4) → way.length ≤ n → R way = l → Sl encI w wv (way.map Int.ofNat) →
    Calls Tryz.prog 46 #[v, wv, .func (.func fd) #[] cv] w fun e w' => ∃ v', e = .returned v' ∧ IsNd w' (New M w w') n (setR R way l') v' ∧ RowKit.Below w.heap.size w w'
set_option maxHeartbeats 4000000 in
set_option maxRecDepth 100000 in
theorem changed_cons {n : Nat} (ih : Chg w0 fd cv l l' n) (i : Nat) (u : List Nat) (w : World) (M : Nat → Prop) (R : Rw) (rv : Value) (q : Q4) (wv : Value) (hM : ∀ b, M b → b < w.heap.size) (hb0 : RowKit.Below w0.heap.size w0 w) (h : NdV w M (n + 1) R rv q) (hDg : Dig R) (hi : i < 4) (hu : ∀ i ∈ u, i < 4) (hlen : u.length ≤ n) (hl : R (i :: u) = l) (hw : Sl encI w wv ((i :: u).map Int.ofNat)) :
    Calls Tryz.prog 46 #[ndV rv q, wv, .func (.func fd) #[] cv] w fun e w' => ∃ v', e = .returned v' ∧ IsNd w' (New M w w') (n + 1) (setR R (i :: u) l') v' ∧ RowKit.Below w.heap.size w w' := by
  have HH := Lib.hid h
  have HWV := Lib.hid hw
  obtain ⟨p, cap, rfl, hc, _⟩ := h.val
  obtain ⟨pw, cw, rfl, hcw, hcm, hws⟩ := hw
  have hN1 : ((i :: u).map Int.ofNat).length = u.length + 1 := by simp
  have hcw1 : u.length + 1 ≤ cw := by rw [← hN1]; exact hcw
  have hfr := HWV.out.behind lenI 1 (by rw [hN1]; omega)
  rw [hN1] at *
  obtain ⟨g, o, rfl, hg, hcs⟩ := hws (by first | omega | simp)
  have HFR := Lib.hid (show Sl encI w (.slice (if cw = 1 then some ⟨g, o, none⟩ else some ⟨g, o + 1, none⟩) u.length (cw - 1)) (u.map Int.ofNat) by simpa [Addr.add] using hfr)
  clear hfr
  have hc0 : w.cell? ⟨g, o, none⟩ = some (.int .i64 i) := by simpa using hcs 0 (.int .i64 i) rfl
  obtain ⟨q1, q2, q3_, q4⟩ := q
  have HB0 := Lib.hid hb0
  have b0 := Ba (Ba (Below.refl _ w) (.cells #[.slice p (R []).length cap, .pointer (aV q1), .pointer (aV q2), .pointer (aV q3_), .pointer (aV q4)] 83)) (.cells #[.slice none 0 0, .pointer none, .pointer none, .pointer none, .pointer none] 83)
  have k0 := three_blk (w := w) (o1 := .cells #[.slice p (R []).length cap, .pointer (aV q1), .pointer (aV q2), .pointer (aV q3_), .pointer (aV q4)] 83) (o2 := .cells #[.slice none 0 0, .pointer none, .pointer none, .pointer none, .pointer none] 83) (Below.refl _ _)
  obtain ⟨W0, hW0⟩ : ∃ W0, W0 = (w.alloc (.cells #[.slice p (R []).length cap, .pointer (aV q1), .pointer (aV q2), .pointer (aV q3_), .pointer (aV q4)] 83)).alloc (.cells #[.slice none 0 0, .pointer none, .pointer none, .pointer none, .pointer none] 83) := ⟨_, rfl⟩
  have hs0 : W0.heap.size = w.heap.size + 2 := by rw [hW0]; simp
  rw [← hW0] at b0 k0
  have HW0 := Lib.hid hW0
  have HK0 := Lib.hid k0
  have B0 := Lib.hid b0
  have hc1 : W0.cell? ⟨g, o, none⟩ = some (.int .i64 i) := Bc b0 hg hc0
  obtain ⟨c1, c2, c3, c4, c5⟩ := cells5 k0.1
  obtain ⟨bs, hbs⟩ : ∃ bs, bs = w.heap.size := ⟨_, rfl⟩
  have HBS := Lib.hid hbs
  have hgb : g ≠ bs := by omega
  rw [← hbs] at c1 c2 c3 c4 c5
  have hbl : bs < W0.heap.size := by omega
  have hle : (1 : Int) ≤ (u.length : Int) + 1 := by omega
  have hle0 : (0 : Int) < (u.length : Int) + 1 := by omega
  have hlc : 1 ≤ cw := by omega
  have hmc : cw ≤ 9223372036854775807 := by unfold maxLen at hcm; omega
  have HL := Lib.hid hl
  clear h hb0 hl b0 hW0 hcs hws k0 hbs hc0
  change Calls Tryz.prog 46 #[.agg #[.slice p (R []).length cap, .pointer (aV q1), .pointer (aV q2), .pointer (aV q3_), .pointer (aV q4)], .slice (some ⟨g, o, none⟩) (u.length + 1) cw, .func (.func fd) #[] cv] w _
  go_enter Tryz.func46, Tryz.ntmps46
  go_wp2_with fail
  rw [← HW0.out, ← HBS.out]
  refine wp_region_held_drew (S := fun W => Tch (fun b => b = bs) W0 W ∧ W.cell? ⟨g, o, none⟩ = some (.int .i64 i)) (by kernel_rfl) ⟨(Tch.refl _ _).drew, hc1⟩ (fun hHeld => ?_)
  (refine wpAnyH_take (i := 0) (v := ?_) rfl (by kernel_rfl) (by kernel_rfl) (by kernel_rfl) (fun _ _ _ h => h) (Or.inl ⟨by rfl, ?rt⟩) (by assumption) ?_; case rt => (intro w hSw; (try dsimp only at hSw); go_simp; (try with_reducible rfl))); (try simp only [Act.put, List.getElem_toArray, List.getElem_cons_succ, List.getElem_cons_zero, List.setIfInBounds_toArray, List.set_cons_zero, List.set_cons_succ])
  (refine wpAnyH_take (i := 1) (v := ?_) rfl (by kernel_rfl) (by kernel_rfl) (by kernel_rfl) (fun _ _ _ h => h) (Or.inl ⟨by rfl, ?rt⟩) (by assumption) ?_; case rt => (intro w hSw; (try dsimp only at hSw); go_simp; (try with_reducible rfl))); (try simp only [Act.put, List.getElem_toArray, List.getElem_cons_succ, List.getElem_cons_zero, List.setIfInBounds_toArray, List.set_cons_zero, List.set_cons_succ])
  (refine wpAnyH_take (i := 2) (v := ?_) rfl (by kernel_rfl) (by kernel_rfl) (by kernel_rfl) (fun _ _ _ h => h) (Or.inl ⟨by rfl, ?rt⟩) (by assumption) ?_; case rt => (intro w hSw; (try dsimp only at hSw); go_simp; (try with_reducible rfl))); (try simp only [Act.put, List.getElem_toArray, List.getElem_cons_succ, List.getElem_cons_zero, List.setIfInBounds_toArray, List.set_cons_zero, List.set_cons_succ])
  (refine wpAnyH_take (i := 4) (v := ?_) rfl (by kernel_rfl) (by kernel_rfl) (by kernel_rfl) (fun _ _ _ h => h) (Or.inl ⟨by rfl, ?rt⟩) (by assumption) ?_; case rt => (intro w hSw; (try dsimp only at hSw); go_simp; (try with_reducible rfl))); (try simp only [Act.put, List.getElem_toArray, List.getElem_cons_succ, List.getElem_cons_zero, List.setIfInBounds_toArray, List.set_cons_zero, List.set_cons_succ])
  (refine wpAnyH_take (i := 5) (v := ?_) rfl (by kernel_rfl) (by kernel_rfl) (by kernel_rfl) (fun _ _ _ h => h) (Or.inl ⟨by rfl, ?rt⟩) (by assumption) ?_; case rt => (intro w hSw; (try dsimp only at hSw); go_simp; (try with_reducible rfl))); (try simp only [Act.put, List.getElem_toArray, List.getElem_cons_succ, List.getElem_cons_zero, List.setIfInBounds_toArray, List.set_cons_zero, List.set_cons_succ])
  (refine wpAnyH_take (i := 6) (v := ?_) rfl (by kernel_rfl) (by kernel_rfl) (by kernel_rfl) (fun _ _ _ h => h) (Or.inl ⟨by rfl, ?rt⟩) (by assumption) ?_; case rt => (intro w hSw; (try dsimp only at hSw); go_simp; (try with_reducible rfl))); (try simp only [Act.put, List.getElem_toArray, List.getElem_cons_succ, List.getElem_cons_zero, List.setIfInBounds_toArray, List.set_cons_zero, List.set_cons_succ])
  (refine wpAnyH_take (i := 8) (v := ?_) rfl (by kernel_rfl) (by kernel_rfl) (by kernel_rfl) (fun _ _ _ h => h) (Or.inl ⟨by rfl, ?rt⟩) (by assumption) ?_; case rt => (intro w hSw; (try dsimp only at hSw); go_simp; (try with_reducible rfl))); (try simp only [Act.put, List.getElem_toArray, List.getElem_cons_succ, List.getElem_cons_zero, List.setIfInBounds_toArray, List.set_cons_zero, List.set_cons_succ])
  (refine wpAnyH_take (i := 9) (v := ?_) rfl (by kernel_rfl) (by kernel_rfl) (by kernel_rfl) (fun _ _ _ h => h) (Or.inl ⟨by rfl, ?rt⟩) (by assumption) ?_; case rt => (intro w hSw; (try dsimp only at hSw); go_simp; (try with_reducible rfl))); (try simp only [Act.put, List.getElem_toArray, List.getElem_cons_succ, List.getElem_cons_zero, List.setIfInBounds_toArray, List.set_cons_zero, List.set_cons_succ])
  (refine wpAnyH_take (i := 10) (v := ?_) rfl (by kernel_rfl) (by kernel_rfl) (by kernel_rfl) (fun _ _ _ h => h) (Or.inl ⟨by rfl, ?rt⟩) (by assumption) ?_; case rt => (intro w hSw; (try dsimp only at hSw); go_simp; (try with_reducible rfl))); (try simp only [Act.put, List.getElem_toArray, List.getElem_cons_succ, List.getElem_cons_zero, List.setIfInBounds_toArray, List.set_cons_zero, List.set_cons_succ])
  (refine wpAnyH_take (i := 13) (v := ?_) rfl (by kernel_rfl) (by kernel_rfl) (by kernel_rfl) (fun _ _ _ h => h) (Or.inl ⟨by rfl, ?rt⟩) (by assumption) ?_; case rt => (intro w hSw; (try dsimp only at hSw); go_simp; (try with_reducible rfl))); (try simp only [Act.put, List.getElem_toArray, List.getElem_cons_succ, List.getElem_cons_zero, List.setIfInBounds_toArray, List.set_cons_zero, List.set_cons_succ])
  generalize (if cw = 1 then some ⟨g, o, none⟩ else some ⟨g, o + 1, none⟩ : Option Addr) = pd at *
  (refine wpAnyH_ready (rs := [3]) (by kernel_rfl) (by simp) ?_; refine AllReadyH.cons rfl (fun K hK => ?_) AllReadyH.nil; go_simp)
  refine hK.out _ _ hHeld (fun hHeld => ?_)
  clear hK K
  (try simp only [Act.put, List.getElem_toArray, List.getElem_cons_succ, List.getElem_cons_zero, List.setIfInBounds_toArray, List.set_cons_zero, List.set_cons_succ])
  have hbd : RowKit.Below w.heap.size w W0.drew := Bd B0.out
  have QC := Lib.hid (nquarter_call (HH.out.below hbd) hi)
  obtain ⟨W1, hW1⟩ : ∃ W1, W1 = W0.drew := ⟨_, rfl⟩
  have hT1 : Tch (fun b => b = bs) W0 W1 := by rw [hW1]; exact (Tch.refl _ _).drew
  rw [← hW1] at QC hbd
  have HK1 : Hid (W1.heap[bs]? = some (.cells #[.slice p (R []).length cap, .pointer (aV q1), .pointer (aV q2), .pointer (aV q3_), .pointer (aV q4)] 83 (0, 0)) ∧ W1.heap[bs + 1]? = some (.cells #[.slice none 0 0, .pointer none, .pointer none, .pointer none, .pointer none] 83 (0, 0))) := by
    rw [hW1, HBS.out]
    exact HK0.out
  have hs1 : W1.heap.size = w.heap.size + 2 := by rw [hW1]; exact hs0
  clear hs0
  have BW1 := Lib.hid hbd
  clear hbd
  rw [← hW1] at hHeld ⊢
  clear hW1
  (refine wpAnyH_ready (rs := [7]) (by kernel_rfl) (by simp) ?_; refine AllReadyH.cons rfl (fun K hK => ?_) AllReadyH.nil; go_simp)
  refine QC.out.mono ?_
  rintro e w2 ⟨v2, rfl, hn2, hb2⟩
  refine hK.out _ _ ⟨hHeld.1.bel hb2, Bc hb2 (cell_lt hHeld.2) hHeld.2⟩ (fun hHeld => ?_)
  clear hK K
  (try simp only [Act.put, List.getElem_toArray, List.getElem_cons_succ, List.getElem_cons_zero, List.setIfInBounds_toArray, List.set_cons_zero, List.set_cons_succ])
  have hs2 := hb2.size
  have B2 := Lib.hid (Bt BW1.out hb2)
  have IH := Lib.hid (ih u w2 M (subR R i) v2 _ (fun b e => by have := hM b e; omega) (HB0.out.trans (B2.out.mono HB0.out.size)) hn2 (hDg.sub i) hu hlen HL.out (HFR.out.below B2.out))
  (refine wpAnyH_ready (rs := [11]) (by kernel_rfl) (by simp) ?_; refine AllReadyH.cons rfl (fun K hK => ?_) AllReadyH.nil; go_simp)
  refine IH.out.mono ?_
  rintro e w3 ⟨v3, rfl, ⟨rv3, q3, rfl, hn3⟩, hb3⟩
  refine hK.out _ _ ⟨hHeld.1.bel hb3, Bc hb3 (cell_lt hHeld.2) hHeld.2⟩ (fun hHeld => ?_)
  clear hK K
  (try simp only [Act.put, List.getElem_toArray, List.getElem_cons_succ, List.getElem_cons_zero, List.setIfInBounds_toArray, List.set_cons_zero, List.set_cons_succ])
  have hs3 := hb3.size
  have B3 := Lib.hid (Bt B2.out hb3)
  have KC := Lib.hid (kept_call ((hDg.sub i).set hu l') hn3)
  (refine wpAnyH_ready (rs := [12]) (by kernel_rfl) (by simp) ?_; refine AllReadyH.cons rfl (fun K hK => ?_) AllReadyH.nil; go_simp)
  refine KC.out.mono ?_
  rintro e w4 ⟨v4, rfl, ⟨p4, rfl, hp4⟩, hb4⟩
  refine hK.out _ _ ⟨hHeld.1.bel hb4, Bc hb4 (cell_lt hHeld.2) hHeld.2⟩ (fun hHeld => ?_)
  clear hK K
  (try simp only [Act.put, List.getElem_toArray, List.getElem_cons_succ, List.getElem_cons_zero, List.setIfInBounds_toArray, List.set_cons_zero, List.set_cons_succ])
  have hs4 := hb4.size
  have B4 := Lib.hid (Bt B3.out hb4)
  have hi4 : (i : Int) < 4 := by omega
  (refine wpAnyH_take (i := 14) (v := ?_) rfl (by kernel_rfl) (by kernel_rfl) (by kernel_rfl) (fun _ _ _ h => h) (Or.inl ⟨by rfl, ?rt⟩) (by assumption) ?_; case rt => (intro w hSw; (try dsimp only at hSw); go_simp; (try with_reducible rfl))); (try simp only [Act.put, List.getElem_toArray, List.getElem_cons_succ, List.getElem_cons_zero, List.setIfInBounds_toArray, List.set_cons_zero, List.set_cons_succ])
  have kk : w4.heap[bs]? = some (.cells (ndC (.slice p (R []).length cap) (q1, q2, q3_, q4)) 83 (0, 0)) := blk_below (blk_below (blk_below HK1.out.1 hb2) hb3) hb4
  have kl := blk_below (blk_below (blk_below HK1.out.2 hb2) hb3) hb4
  have hst : w4.cell? ⟨bs, 1 + i, none⟩ = some (.pointer (aV (Q4.at (q1, q2, q3_, q4) i))) := (blk_cell kk (1 + i)).trans (nd_at _ _ hi)
  have hfz := frz0 kk (1 + i)
  have hpt := hHeld.2
  have HT4 := Lib.hid hHeld.1
  clear hHeld
  (refine wpAnyH_ready (rs := [15]) (by kernel_rfl) (by simp) ?_; refine AllReadyH.cons rfl (fun K hK => ?_) AllReadyH.nil; go_simp)
  refine hK.out _ _ ⟨HT4.out.more (Tch.set (M := fun b => b = bs) _ (p := ⟨bs, 1 + i, none⟩) rfl _), by simp [World.cell?_setCell_other, hgb, hpt]⟩ (fun hHeld => ?_)
  clear hK K
  (try simp only [Act.put, List.getElem_toArray, List.getElem_cons_succ, List.getElem_cons_zero, List.setIfInBounds_toArray, List.set_cons_zero, List.set_cons_succ])
  have k5 : (w4.setCell ⟨bs, 1 + i, none⟩ (.pointer (aV p4))).heap[bs]? = some (.cells (ndC (.slice p (R []).length cap) (Q4.put (q1, q2, q3_, q4) i p4)) 83 (0, 0)) := by
    rw [← nd_put _ _ hi]
    exact heap_setCell_same w4 bs (1 + i) _ _ _ kk
  have T5 : Tch (fun b => b = bs) w4 (w4.setCell ⟨bs, 1 + i, none⟩ (.pointer (aV p4))) := Tch.set (M := fun b => b = bs) _ (p := ⟨bs, 1 + i, none⟩) rfl _
  have kl5 : (w4.setCell ⟨bs, 1 + i, none⟩ (.pointer (aV p4))).heap[bs + 1]? = _ := T5.blk kl (by omega)
  obtain ⟨M4, hM4⟩ : ∃ M4 : Nat → Prop, M4 = fun b => M b ∨ (w.heap.size + 2 ≤ b ∧ b < w4.heap.size) := ⟨_, rfl⟩
  have hD := NdV.there (M := M4) (l := l') (NdV.mono (fun b e => by rw [hM4]; exact Or.inl e) (HH.out.below B4.out)) hi (u := u) (p := p4) (PtrV.mono (fun b e => by
    rw [hM4]
    rcases e with (e | e) | e
    · exact .inl e
    · exact .inr ⟨by omega, by omega⟩
    · exact .inr ⟨by omega, e.2⟩) hp4)
  have hd4 : ∀ b, M4 b → b ≠ bs ∧ b ≠ bs + 1 := fun b e => by
    have := HBS.out
    rw [hM4] at e
    rcases e with e | e
    · have := hM b e
      omega
    · omega
  have HD := Lib.hid (hD.kept T5 (fun b e => (hd4 b e).1))
  have B5 := Lib.hid (B4.out.trans (Tch.below T5 (fun b e => by have := HBS.out; omega) B4.out.size))
  have HM4 := Lib.hid (fun b => show M4 b → M b ∨ (w.heap.size ≤ b ∧ b < w4.heap.size) from fun e => by rw [hM4] at e; rcases e with e | e; exact .inl e; exact .inr ⟨by omega, e.2⟩)
  have S5 := Lib.hid T5.size
  clear hD hM4 T5 kk hst hfz hpt HT4
  refine wpAnyH_done (by kernel_rfl) ?_ _
  generalize w4.setCell ⟨bs, 1 + i, none⟩ (.pointer (aV p4)) = w5 at *
  generalize hq5 : Q4.put (q1, q2, q3_, q4) i p4 = q5 at *
  obtain ⟨a1, a2, a3, a4⟩ := q5
  unfold ndC at k5
  obtain ⟨c1, c2, c3, c4, c5⟩ := cells5 k5
  obtain ⟨d1, d2, d3, d4, d5⟩ := cells5 kl5
  have g1 := frz0 kl5 0
  have g2 := frz0 kl5 1
  have g3 := frz0 kl5 2
  have g4 := frz0 kl5 3
  have g5 := frz0 kl5 4
  clear k5 kl5 kl
  go_wp2
  refine bodyPost_ret (v := .agg #[.slice p (R []).length cap, .pointer (aV a1), .pointer (aV a2), .pointer (aV a3), .pointer (aV a4)]) ?_ rfl ?_
  · simp [results, Tryz.results46, go_sem, *]
  · have T1 := tch5 (M := fun b => b = bs + 1) (p := bs + 1) (Tch.refl _ w5) rfl (.slice p (R []).length cap) (pV a1) (pV a2) (pV a3) (pV a4)
    have hb6 : RowKit.Below w.heap.size w _ := B5.out.trans (Tch.below T1 (fun b e => by have := HBS.out; omega) B5.out.size)
    refine ⟨_, rfl, ⟨_, (a1, a2, a3, a4), rfl, ?_⟩, hb6⟩
    refine NdV.mono (fun b e => ?_) (HD.out.kept T1 (fun b e => (hd4 b e).2))
    rcases HM4.out b e with c | c
    · exact .inl c
    · exact .inr ⟨c.1, Nat.lt_of_lt_of_le c.2 (Nat.le_trans S5.out T1.size)⟩
theorem changed_call (hdo : Does w0 fd cv l l') (hen : ∀ args w, (callFunc fd args).run Tryz.prog w = .ok (.enter fd args) w) : ∀ n, Chg w0 fd cv l l' n
  | n, [], w, M, R, v, wv, hM, hb0, ⟨rv, q, e, h⟩, hD, hu, hn, hl, hw => by
    subst e
    exact changed_nil hdo hen hb0 h hM hl wv hw
  | 0, i :: u, w, M, R, v, wv, hM, hb0, h, hD, hu, hn, hl, hw => by simp at hn
  | n + 1, i :: u, w, M, R, v, wv, hM, hb0, ⟨rv, q, e, h⟩, hD, hu, hn, hl, hw => by
    subst e
    exact changed_cons (changed_call hdo hen n) i u w M R rv q wv hM hb0 h hD (hu i List.mem_cons_self) (fun j hj => hu j (List.mem_cons_of_mem _ hj)) (by simpa using hn) hl hw
end
end Go.Proofs.YtahichjiphjapaaGreatDoor
