/-
  slices.IndexFunc and slices.DeleteFunc at handles, over the closure of order.Minus; order.Minus.
-/
import Derived.Test.YtdpcdfjgpechbaaFind
import Derived.Lib.SlKept
import Derived.Test.YtdpcdfjgpechbaaSort
namespace Go.Proofs.Ytdpcdfjgpechbaa
set_option linter.unusedSimpArgs false
set_option linter.unusedVariables false
open Go.RowKit Go.Sort Go.Lib Go.Shelf

/-- What the closure answers, wherever nothing below B0 has turned since w0. -/
def Pred (B0 : Nat) (w0 : World) (cv : Value) (p : Hd → Bool) : Prop := ∀ W, RowKit.Below B0 w0 W → ∀ x1 x2 : Int, Calls Try.prog 43 #[.agg #[.int .i64 x1, .int .i64 x2], cv] W fun e w' => e = .returned (.bool (p (x1, x2))) ∧ Gr W w'

set_option maxHeartbeats 2000000 in
set_option maxRecDepth 100000 in
theorem indexH_call (B0 : Nat) (w0 : World) (cv : Value) (p : Hd → Bool) (hp : Pred B0 w0 cv p) (blk cap : Nat) (d : Array Hd) (w : World) (hH : HoldsK encH 2 w blk 0 d) (hblk : blk < w.heap.size) (hs : B0 ≤ w.heap.size) (hb0 : RowKit.Below B0 w0 w) (hsz : d.size ≤ 1000000) :
    Calls Try.prog 58 #[.slice (some ⟨blk, 0, none⟩) d.size cap, .func (.func 43) #[] #[cv]] w fun e w' => (∃ r : Int, e = .returned (.int .i64 r) ∧ ((r = -1 ∧ ∀ j, j < d.size → p d[j]! = false) ∨ ∃ k0, k0 < d.size ∧ r = (k0 : Int) ∧ p d[k0]! = true ∧ ∀ j, j < k0 → p d[j]! = false)) ∧ Gr w w' := by
  have HP := Lib.hid hp
  have HH := Lib.hid hH
  have HB := Lib.hid hb0
  clear hp hH hb0
  go_enter Try.func58, Try.ntmps58
  go_wp2
  go_loopg [8] d.size (fun gk s8 wr => ∃ k : Nat, s8 = .int .i64 k ∧ k ≤ d.size ∧ d.size - k ≤ gk ∧ Gr w wr ∧ Hid (∀ j, j < k → p d[j]! = false))
  case atStart => exact ⟨0, rfl, Nat.zero_le _, by omega, Gr.refl _, fun j hj => absurd hj (Nat.not_lt_zero _)⟩
  case round =>
    obtain ⟨k, rfl, hk, hgk, hg, I⟩ := hrel
    by_cases hkn : k < d.size
    · have hHr := hkBelow HH.out hblk hg.below
      obtain ⟨⟨c1, c2⟩, _, _⟩ := at2 hHr hkn
      simp only [Nat.zero_add] at c1 c2
      have HPr := Lib.hid (fun a b => HP.out wr (HB.out.trans (hg.below.mono hs)) a b)
      have HG := Lib.hid hg
      generalize hx : d[k]! = x at c1 c2
      obtain ⟨x1, x2⟩ := x
      dsimp only at c1 c2
      have X := Lib.hid hx
      clear hHr hg hx
      cases hpx : p (x1, x2)
      · have HPX := Lib.hid hpx
        go_wp2_with (first | (go_at_call 43; refine (HPr.out _ _).mono ?_; rintro e w1 ⟨rfl, hg1⟩) | (go_at_fn 43; refine (HPr.out _ _).mono ?_; rintro e w1 ⟨rfl, hg1⟩))
        go_roundg (d.size - (k + 1))
        case measure => omega
        case rel =>
          refine ⟨k + 1, by go_num, by omega, Nat.le_refl _, HG.out.trans hg1, (show Hid _ from fun j hj => ?_)⟩
          by_cases e : j = k
          · subst e; rw [X.out]; exact HPX.out
          · exact I.out j (by omega)
      · have HPX := Lib.hid hpx
        go_wp2_with (first | (go_at_call 43; refine (HPr.out _ _).mono ?_; rintro e w1 ⟨rfl, hg1⟩) | (go_at_fn 43; refine (HPr.out _ _).mono ?_; rintro e w1 ⟨rfl, hg1⟩))
        go_ret
        exact ⟨⟨_, rfl, .inr ⟨k, hkn, rfl, by rw [X.out]; exact HPX.out, I.out⟩⟩, HG.out.trans hg1⟩
    · have HG := Lib.hid hg
      clear hg
      go_wp2
      go_ret
      exact ⟨⟨-1, rfl, .inl ⟨rfl, fun j hj => I.out j (by omega)⟩⟩, HG.out⟩

set_option maxHeartbeats 4000000 in
set_option maxRecDepth 100000 in
theorem deleteH_call (B0 : Nat) (w0 : World) (cv : Value) (p : Hd → Bool) (hp : Pred B0 w0 cv p) (blk cap : Nat) (d : Array Hd) (w : World) (hH : HoldsK encH 2 w blk 0 d) (hblk : blk < w.heap.size) (hBb : B0 ≤ blk) (hb0 : RowKit.Below B0 w0 w) (hsz : d.size ≤ 1000000) (hcap : d.size ≤ cap) (hcm : cap ≤ 9223372036854775807) :
    Calls Try.prog 41 #[.slice (some ⟨blk, 0, none⟩) d.size cap, .func (.func 43) #[] #[cv]] w fun e w' =>
      e = .returned (.slice (some ⟨blk, 0, none⟩) (d.toList.filter fun x => !p x).length cap) ∧ (∃ d' : Array Hd, d'.size = d.size ∧ (∀ j, j < (d.toList.filter fun x => !p x).length → (d.toList.filter fun x => !p x)[j]? = some d'[j]!) ∧ HoldsK encH 2 w' blk 0 d') ∧ w.heap.size ≤ w'.heap.size ∧ RowKit.Below B0 w0 w' := by
  have hI := indexH_call B0 w0 cv p hp blk cap d w hH hblk (by omega) hb0 hsz
  obtain ⟨kp, HK⟩ : ∃ kp : Nat → Bool, Hid (kp = fun j => !p d[j]!) := ⟨_, rfl⟩
  have hfil : (d.toList.filter fun x => !p x) = keptUpTo kp d d.size := by rw [HK.out]; exact (keptUpTo_filter (fun x => !p x) d).symm
  rw [hfil]
  have HP := Lib.hid hp
  have HH := Lib.hid hH
  have HB := Lib.hid hb0
  have HI := Lib.hid hI
  clear hp hH hb0 hI hfil
  go_enter Try.func41, Try.ntmps41
  go_wp2_with fail
  refine HI.out.mono ?_
  rintro e w1 ⟨⟨r, rfl, hr⟩, hg1⟩
  have HH1 := Lib.hid (hkBelow HH.out hblk hg1.below)
  have HB1 := Lib.hid (HB.out.trans (hg1.below.mono (by omega)))
  have hs1 := hg1.below.size
  clear hg1
  rcases hr with ⟨rfl, hall⟩ | ⟨k0, hk0, rfl, ht, hall⟩
  · have hkeep : ∀ j, j < d.size → kp j = true := fun j hj => by rw [HK.out]; show (!p d[j]!) = true; rw [hall j hj]; rfl
    have e3 := Lib.hid (show keptUpTo kp d d.size = d.toList by rw [keptUpTo_all kp d _ hkeep, range_map_get])
    clear hall hkeep
    go_wp2
    go_ret
    refine ⟨by rw [e3.out]; simp, ⟨d, rfl, fun j hj => ?_, HH1.out⟩, hs1, HB1.out⟩
    rw [e3.out] at hj ⊢
    have hj' : j < d.size := by simpa using hj
    rw [getElem!_pos d j hj']
    simp [hj']
  · have hkeep : ∀ j, j < k0 → kp j = true := fun j hj => by rw [HK.out]; show (!p d[j]!) = true; rw [hall j hj]; rfl
    have hdrop : kp k0 = false := by rw [HK.out]; show (!p d[k0]!) = false; rw [ht]; rfl
    have hne1 : ((k0 : Int) == -1) = false := beq_eq_false_iff_ne.2 (by omega)
    have HKE := Lib.hid hkeep
    have HDR := Lib.hid hdrop
    clear hkeep hdrop hall ht
    go_wp2_with fail
    go_loopg [5, 6] d.size (fun gg s5 s6 wr => ∃ (i j : Nat) (dk : Array Hd), s5 = .int .i64 i ∧ s6 = .int .i64 j ∧ j ≤ d.size ∧ d.size - j ≤ gg ∧ w.heap.size ≤ wr.heap.size ∧ RowKit.Below B0 w0 wr ∧ HoldsK encH 2 wr blk 0 dk ∧ Hid (KeptInv kp d j i dk))
    case atStart => exact ⟨k0, k0 + 1, d, rfl, by go_num, by omega, by omega, hs1, HB1.out, HH1.out, KeptInv.start HKE.out HDR.out⟩
    case round =>
      obtain ⟨i, j, dk, rfl, rfl, hjd, hgg, hsw, hb, hHk, I2⟩ := hrel
      have hij := I2.out.lt
      have hds := I2.out.size
      have HB2 := Lib.hid hb
      have hblw : blk < wr.heap.size := by omega
      by_cases hlt : j < d.size
      · obtain ⟨⟨c1, c2⟩, _, _⟩ := at2 hHk (show j < dk.size by omega)
        obtain ⟨⟨c5, c6⟩, f5, f6⟩ := at2 hHk (show i < dk.size by omega)
        rw [I2.out.high j (by omega)] at c1 c2
        simp only [Nat.zero_add] at c1 c2 c5 c6 f5 f6
        generalize hu : d[j]! = u at c1 c2
        obtain ⟨u1, u2⟩ := u
        dsimp only at c1 c2
        have U := Lib.hid hu
        have HKD := Lib.hid hds
        have A3 := Lib.hid ((HB2.out).alloc (show B0 ≤ wr.heap.size by omega) (.cells #[.int .i64 u1, .int .i64 u2] 28))
        have HK3 := Lib.hid (hkBelow hHk hblw (Ba (Below.refl _ wr) (.cells #[.int .i64 u1, .int .i64 u2] 28)))
        have HPr := Lib.hid (fun a b => HP.out _ A3.out a b)
        have hne : blk ≠ wr.heap.size := by omega
        clear hu hHk hb hds c5 c6 f5 f6
        cases hq : p (u1, u2)
        · have HQ := Lib.hid hq
          go_wp2_with (first | (go_at_call 43; refine (HPr.out _ _).mono ?_; rintro e w2 ⟨rfl, hg2⟩; have b2 := hg2.below; have HK4 := Lib.hid (hkBelow HK3.out (by simp; omega) b2); have k5 := at2 HK4.out (show i < dk.size by have := HKD.out; omega); simp only [Nat.zero_add] at k5; obtain ⟨⟨c5, c6⟩, f5, f6⟩ := k5; have d1 : w2.cell? ⟨wr.heap.size, 0, none⟩ = some (.int .i64 u1) := Bc b2 (by simp) (by simp); have d2 : w2.cell? ⟨wr.heap.size, 1, none⟩ = some (.int .i64 u2) := Bc b2 (by simp) (by simp); have hbl2 : blk < w2.heap.size := by have := b2.size; simp at this; omega) | (go_at_fn 43; refine (HPr.out _ _).mono ?_; rintro e w2 ⟨rfl, hg2⟩; have b2 := hg2.below; have HK4 := Lib.hid (hkBelow HK3.out (by simp; omega) b2); have k5 := at2 HK4.out (show i < dk.size by have := HKD.out; omega); simp only [Nat.zero_add] at k5; obtain ⟨⟨c5, c6⟩, f5, f6⟩ := k5; have d1 : w2.cell? ⟨wr.heap.size, 0, none⟩ = some (.int .i64 u1) := Bc b2 (by simp) (by simp); have d2 : w2.cell? ⟨wr.heap.size, 1, none⟩ = some (.int .i64 u2) := Bc b2 (by simp) (by simp); have hbl2 : blk < w2.heap.size := by have := b2.size; simp at this; omega))
          go_roundg (d.size - (j + 1))
          case measure => omega
          case rel =>
            have hb4 := A3.out.trans (b2.mono (show B0 ≤ (wr.alloc (.cells #[.int .i64 u1, .int .i64 u2] 28)).heap.size by simp; omega))
            refine ⟨i + 1, j + 1, dk.setIfInBounds i (u1, u2), by go_num, by go_num, by omega, Nat.le_refl _, ?_, (hb4.setCell (p := ⟨blk, i * 2, none⟩) hBb _).setCell (p := ⟨blk, i * 2 + 1, none⟩) hBb _, ?_, (show Hid _ from ?_)⟩
            · have := b2.size
              simp [World.setCell] at this ⊢
              omega
            · have := set2 HK4.out (show i < dk.size by have := HKD.out; omega) (u1, u2)
              simp only [Nat.zero_add] at this
              exact this
            · have := I2.out.keep hlt (by rw [HK.out]; show (!p d[j]!) = true; rw [U.out, HQ.out]; rfl)
              rwa [U.out] at this
        · have HQ := Lib.hid hq
          go_wp2_with (first | (go_at_call 43; refine (HPr.out _ _).mono ?_; rintro e w2 ⟨rfl, hg2⟩) | (go_at_fn 43; refine (HPr.out _ _).mono ?_; rintro e w2 ⟨rfl, hg2⟩))
          go_roundg (d.size - (j + 1))
          case measure => omega
          case rel =>
            have b2 := hg2.below
            refine ⟨i, j + 1, dk, rfl, by go_num, by omega, Nat.le_refl _, by have := b2.size; simp at this; omega, A3.out.trans (b2.mono (by simp; omega)), hkBelow HK3.out (by simp; omega) b2, (show Hid _ from I2.out.skip (by rw [HK.out]; show (!p d[j]!) = false; rw [U.out, HQ.out]; rfl))⟩
      · have hjd' : j = d.size := by omega
        have hi2 : i < dk.size := by omega
        have hcl : ∀ ty, (Builtin.clear_ #[22] ty #[.slice (some ⟨blk, i * 2, none⟩) (d.size - i) (cap - i)]).run Try.prog wr = .ok (.tuple #[]) (wr.setCells blk (i * 2) (flat encH (List.replicate (d.size - i) (0, 0)))) := fun ty => by
          have := clear_run lenH (by omega) oneH Try.prog (0, 0) Try.underlying22 Try.zeroValue28 rfl hHk i hi2 (cap - i) ty
          rwa [Nat.zero_add, hds] at this
        obtain ⟨d', hs', hlow, hH'⟩ := HoldsK.lay lenH hHk (0, 0) (d.size - i) i (by omega)
        rw [Nat.zero_add] at hH'
        have JD := Lib.hid hjd'
        have L := Lib.hid hlow
        have HH' := Lib.hid hH'
        have HKD := Lib.hid hds
        have HS' := Lib.hid hs'
        have hlt' : ¬ (j : Int) < (d.size : Int) := by omega
        clear hHk hb hjd' hlow hH' hds hs'
        go_wp2
        go_ret
        have hI2 := I2.out
        rw [JD.out] at hI2
        refine ⟨by rw [hI2.len]; rfl, ⟨d', by rw [HS'.out, HKD.out], fun t ht => ?_, HH'.out⟩, ?_, Below.setCells HB2.out hBb _ _⟩
        · rw [hI2.len] at ht
          rw [hI2.low t ht, L.out t ht]
        · exact Nat.le_trans hsw (Below.setCells (Below.refl 0 wr) (Nat.zero_le blk) _ _).size
end Go.Proofs.Ytdpcdfjgpechbaa
