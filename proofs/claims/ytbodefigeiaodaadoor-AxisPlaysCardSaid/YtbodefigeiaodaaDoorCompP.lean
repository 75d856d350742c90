/-
  slices.Compact at pairs (made by program out of the text at handles).
-/
import Derived.Test.YtbodefigeiaodaaDoorComp
namespace Go.Proofs.YtbodefigeiaodaaDoor
set_option linter.unusedSimpArgs false
set_option linter.unusedVariables false
open Go.RowKit Go.Sort Go.Lib Go.Shelf

theorem ne_and4 {a b c d p q r s : Int} (h : ¬ (((a, b), (c, d)) : Pr) = ((p, q), (r, s))) : ((decide (a = p) && decide (b = q)) && (decide (c = r) && decide (d = s))) = false := by
  rw [← Bool.decide_and, ← Bool.decide_and, ← Bool.decide_and]
  exact decide_eq_false fun e => h (by rw [e.1.1, e.1.2, e.2.1, e.2.2])
theorem set4 {w : World} {b off : Nat} {d : Array Pr} (h : HoldsK encP 4 w b off d) {i : Nat} (hi : i < d.size) (x : Pr) : HoldsK encP 4 ((((w.setCell ⟨b, off + i * 4, none⟩ (.int .i64 x.1.1)).setCell ⟨b, off + i * 4 + 1, none⟩ (.int .i64 x.1.2)).setCell ⟨b, off + i * 4 + 2, none⟩ (.int .i64 x.2.1)).setCell ⟨b, off + i * 4 + 3, none⟩ (.int .i64 x.2.2)) b off (d.setIfInBounds i x) :=
  hkSet h lenP hi x
theorem at4 {w : World} {b off : Nat} {d : Array Pr} (h : HoldsK encP 4 w b off d) {i : Nat} (hi : i < d.size) :
    (w.cell? ⟨b, off + i * 4, none⟩ = some (.int .i64 d[i]!.1.1) ∧ w.cell? ⟨b, off + i * 4 + 1, none⟩ = some (.int .i64 d[i]!.1.2) ∧ w.cell? ⟨b, off + i * 4 + 2, none⟩ = some (.int .i64 d[i]!.2.1) ∧ w.cell? ⟨b, off + i * 4 + 3, none⟩ = some (.int .i64 d[i]!.2.2)) ∧
      w.frozen? ⟨b, off + i * 4, none⟩ = false ∧ w.frozen? ⟨b, off + i * 4 + 1, none⟩ = false ∧ w.frozen? ⟨b, off + i * 4 + 2, none⟩ = false ∧ w.frozen? ⟨b, off + i * 4 + 3, none⟩ = false := by
  have c0 := Go.Sort.HoldsK.cell h hi (show 0 < 4 by omega)
  have c1 := Go.Sort.HoldsK.cell h hi (show 1 < 4 by omega)
  have c2 := Go.Sort.HoldsK.cell h hi (show 2 < 4 by omega)
  have c3 := Go.Sort.HoldsK.cell h hi (show 3 < 4 by omega)
  exact ⟨⟨c0.1, c1.1, c2.1, c3.1⟩, c0.2, c1.2, c2.2, c3.2⟩

set_option maxHeartbeats 4000000 in
set_option maxRecDepth 1000000 in
theorem compactP_call (B blk cap : Nat) (d : Array Pr) (w : World) (hH : HoldsK encP 4 w blk 0 d) (hB : B ≤ blk) (hsz : d.size ≤ 1000000) (hcap : d.size ≤ cap) (hcm : cap ≤ 9223372036854775807) :
    Calls Tryd.prog 74 #[.slice (some ⟨blk, 0, none⟩) d.size cap] w fun e w' => e = .returned (.slice (some ⟨blk, 0, none⟩) (compactUpTo d d.size).length cap) ∧
      (∃ d' : Array Pr, d'.size = d.size ∧ (∀ j, j < (compactUpTo d d.size).length → (compactUpTo d d.size)[j]? = some d'[j]!) ∧ HoldsK encP 4 w' blk 0 d') ∧ RowKit.Below B w w' := by
  have eq1 : ∀ a b c d p q r s w, Sem.run Tryd.prog (binOp .eql 68 (.agg #[.int .i64 a, .int .i64 b, .int .i64 c, .int .i64 d]) (.agg #[.int .i64 p, .int .i64 q, .int .i64 r, .int .i64 s])) w = .ok (.bool (decide (((a, b), (c, d)) = ((p, q), (r, s))))) w := fun a b c d p q r s w => eqP_run ((a, b), (c, d)) ((p, q), (r, s)) w
  have ne1 : ∀ a b c d p q r s w, Sem.run Tryd.prog (binOp .neq 68 (.agg #[.int .i64 a, .int .i64 b, .int .i64 c, .int .i64 d]) (.agg #[.int .i64 p, .int .i64 q, .int .i64 r, .int .i64 s])) w = .ok (.bool (!decide (((a, b), (c, d)) = ((p, q), (r, s))))) w := fun a b c d p q r s w => neP_run ((a, b), (c, d)) ((p, q), (r, s)) w
  have gd1 := gdP_run
  have same : ∀ w', HoldsK encP 4 w' blk 0 d → (∀ j, j < d.size → keeps d j = true) → (compactUpTo d d.size).length = d.size ∧ (∃ d' : Array Pr, d'.size = d.size ∧ (∀ j, j < (compactUpTo d d.size).length → (compactUpTo d d.size)[j]? = some d'[j]!) ∧ HoldsK encP 4 w' blk 0 d') := by
    intro w' hw hall
    have e : compactUpTo d d.size = d.toList := by rw [compactUpTo_all d _ hall, range_map_get]
    rw [e]
    refine ⟨by simp, d, rfl, fun j hj => ?_, hw⟩
    have hj' : j < d.size := by simpa using hj
    rw [getElem!_pos d j hj']
    simp [hj']
  have HS := Lib.hid same
  clear same
  by_cases h2 : d.size < 2
  · have HH := Lib.hid hH
    clear hH
    go_enter Tryd.func74, Tryd.ntmps74
    go_wp2
    go_ret
    obtain ⟨e1, e2⟩ := HS.out w HH.out (fun j hj => keeps_lt_one d j (by omega))
    exact ⟨by rw [e1]; rfl, e2, Below.refl _ _⟩
  · go_enter Tryd.func74, Tryd.ntmps74
    go_wp2
    go_loopg [3] d.size (fun g s3 wr => ∃ k : Nat, 1 ≤ k ∧ k ≤ d.size ∧ d.size - k ≤ g ∧ s3 = .int .i64 k ∧ RowKit.Below B w wr ∧ HoldsK encP 4 wr blk 0 d ∧ ∀ j, j < k → keeps d j = true)
    case atStart => exact ⟨1, Nat.le_refl _, by omega, by omega, rfl, Below.refl _ _, hH, keeps_lt_one d⟩
    case round =>
      obtain ⟨k, hk1, hk, hg, rfl, hb, hHw, hall⟩ := hrel
      by_cases hlt : k < d.size
      · obtain ⟨⟨c1, c2, c1c, c1d⟩, f1, f2, f1c, f1d⟩ := at4 hHw hlt
        obtain ⟨⟨c3, c4, c3c, c3d⟩, f3, f4, f3c, f3d⟩ := at4 hHw (show k - 1 < d.size by omega)
        simp only [Nat.zero_add] at c1 c2 c1c c1d c3 c4 c3c c3d f1 f2 f1c f1d f3 f4 f3c f3d
        have A := Lib.hid hall
        have HW := Lib.hid hHw
        have HB := Lib.hid hb
        clear hall hH hHw hb
        generalize hx : d[k]! = x at c1 c2 c1c c1d
        generalize hy : d[k - 1]! = y at c3 c4 c3c c3d
        obtain ⟨⟨x1, x2⟩, x3, x4⟩ := x
        obtain ⟨⟨y1, y2⟩, y3, y4⟩ := y
        dsimp only at c1 c2 c1c c1d c3 c4 c3c c3d
        have EX := Lib.hid hx
        have EY := Lib.hid hy
        clear hx hy
        by_cases hdup : (((x1, x2), (x3, x4)) : Pr) = ((y1, y2), (y3, y4))
        · obtain ⟨⟨rfl, rfl⟩, rfl, rfl⟩ : (x1 = y1 ∧ x2 = y2) ∧ x3 = y3 ∧ x4 = y4 := by simpa using hdup
          clear hdup
          go_wp2_with fail
          go_region
          go_wp2
          clear c1 c2 c1c c1d c3 c4 c3c c3d f1 f2 f1c f1d f3 f4 f3c f3d
          go_loopg [3, 5] d.size (fun g s3 s5 wr => ∃ (kk k2 : Nat) (dk : Array Pr), s3 = .int .i64 kk ∧ s5 = .int .i64 k2 ∧ 1 ≤ k2 ∧ k + k2 ≤ d.size ∧ d.size - (k + k2) ≤ g ∧ RowKit.Below B w wr ∧ HoldsK encP 4 wr blk 0 dk ∧ CompInv d (k + k2) kk dk)
          case atStart => exact ⟨k, 1, d, rfl, rfl, Nat.le_refl _, by omega, by omega, HB.out.drew, HW.out, CompInv.start A.out (keeps_neg (by omega) (by rw [EX.out, EY.out]))⟩
          case round =>
            obtain ⟨kk, k2, dk, rfl, rfl, h1, hle, hg2, hb, hHk, hI⟩ := hrel
            have hkk := hI.lt
            have hds := hI.size
            have HB := Lib.hid hb
            by_cases hlt2 : k + k2 < d.size
            · obtain ⟨⟨c1, c2, c1c, c1d⟩, _, _, _, _⟩ := at4 hHk (show k + k2 < dk.size by omega)
              obtain ⟨⟨c3, c4, c3c, c3d⟩, _, _, _, _⟩ := at4 hHk (show k + k2 - 1 < dk.size by omega)
              obtain ⟨⟨c5, c6, c5c, c5d⟩, f5, f6, f5c, f5d⟩ := at4 hHk (show kk < dk.size by omega)
              rw [hI.high (k + k2) (by omega)] at c1 c2 c1c c1d
              rw [hI.high (k + k2 - 1) (by omega)] at c3 c4 c3c c3d
              rw [show 0 + (k + k2) * 4 = k * 4 + k2 * 4 by omega] at c1 c2 c1c c1d
              rw [show 0 + (k + k2 - 1) * 4 = k * 4 + (k2 - 1) * 4 by omega] at c3 c4 c3c c3d
              simp only [Nat.zero_add] at c5 c6 c5c c5d f5 f6 f5c f5d
              have HK := Lib.hid hHk
              have HI := Lib.hid hI
              clear hHk hI hb
              generalize hu : d[k + k2]! = u at c1 c2 c1c c1d
              generalize hv : d[k + k2 - 1]! = v at c3 c4 c3c c3d
              generalize ho : dk[kk]! = old at c5 c6 c5c c5d
              obtain ⟨⟨u1, u2⟩, u3, u4⟩ := u
              obtain ⟨⟨v1, v2⟩, v3, v4⟩ := v
              obtain ⟨⟨o1, o2⟩, o3, o4⟩ := old
              dsimp only at c1 c2 c1c c1d c3 c4 c3c c3d c5 c6 c5c c5d
              have EU := Lib.hid hu
              have EV := Lib.hid hv
              clear hu hv ho
              by_cases huv : (((u1, u2), (u3, u4)) : Pr) = ((v1, v2), (v3, v4))
              · obtain ⟨⟨rfl, rfl⟩, rfl, rfl⟩ : (u1 = v1 ∧ u2 = v2) ∧ u3 = v3 ∧ u4 = v4 := by simpa using huv
                clear huv
                go_wp2_with fail
                go_region
                go_wp2
                go_roundg (d.size - (k + (k2 + 1)))
                case measure => omega
                case rel => exact ⟨kk, k2 + 1, dk, rfl, by go_num, by omega, by omega, Nat.le_refl _, HB.out.drew, hkDrew HK.out, HI.out.skip (keeps_neg (by omega) (by rw [EU.out, EV.out]))⟩
              · have e5 := ne_and4 huv
                have HN := Lib.hid huv
                clear huv
                go_wp2_with fail
                go_region
                go_wp2
                go_roundg (d.size - (k + (k2 + 1)))
                case measure => omega
                case rel =>
                  refine ⟨kk + 1, k2 + 1, dk.setIfInBounds kk ((u1, u2), (u3, u4)), by go_num, by go_num, by omega, by omega, Nat.le_refl _, ((((HB.out.drew).setCell (p := ⟨blk, kk * 4, none⟩) hB _).setCell (p := ⟨blk, kk * 4 + 1, none⟩) hB _).setCell (p := ⟨blk, kk * 4 + 2, none⟩) hB _).setCell (p := ⟨blk, kk * 4 + 3, none⟩) hB _, ?_, ?_⟩
                  · have := set4 (hkDrew HK.out) (show kk < dk.size by omega) ((u1, u2), (u3, u4))
                    simp only [Nat.zero_add] at this
                    exact this
                  · have := HI.out.keep hlt2 (keeps_pos (by rw [EU.out, EV.out]; exact HN.out))
                    rwa [EU.out] at this
            · have hend : k + k2 = d.size := by omega
              have hkk2 : kk < dk.size := by omega
              have hcl : ∀ ty, (Builtin.clear_ #[50] ty #[.slice (some ⟨blk, kk * 4, none⟩) (d.size - kk) (cap - kk)]).run Tryd.prog wr = .ok (.tuple #[]) (wr.setCells blk (kk * 4) (flat encP (List.replicate (d.size - kk) ((0, 0), (0, 0))))) := fun ty => by
                have := clear_run lenP (by omega) oneP Tryd.prog ((0, 0), (0, 0)) Tryd.underlying50 Tryd.zeroValue68 rfl hHk kk hkk2 (cap - kk) ty
                rwa [Nat.zero_add, hds] at this
              have hI2 := hI
              rw [hend] at hI2
              obtain ⟨d', hs', hlow, hH'⟩ := HoldsK.lay lenP hHk ((0, 0), (0, 0)) (d.size - kk) kk (by omega)
              rw [Nat.zero_add] at hH'
              have E := Lib.hid hI2
              have L := Lib.hid hlow
              have HH' := Lib.hid hH'
              clear hHk hI hI2 hlow hH' hb hend
              go_wp2
              go_ret
              refine ⟨by rw [E.out.len]; rfl, ⟨d', by rw [hs', hds], fun j hj => ?_, HH'.out⟩, Below.setCells HB.out hB _ _⟩
              rw [E.out.len] at hj
              rw [E.out.low j hj, L.out j hj]
        · have e5 := ne_and4 hdup
          have HN := Lib.hid hdup
          clear hdup
          go_wp2_with fail
          go_region
          go_wp2
          go_roundg (d.size - (k + 1))
          case measure => omega
          case rel =>
            refine ⟨k + 1, by omega, by omega, Nat.le_refl _, by go_num, HB.out.drew, hkDrew HW.out, fun j hj => ?_⟩
            by_cases e : j = k
            · subst e
              exact keeps_pos (by rw [EX.out, EY.out]; exact HN.out)
            · exact A.out j (by omega)
      · have hkd : k = d.size := by omega
        have HW := Lib.hid hHw
        have HB := Lib.hid hb
        obtain ⟨e1, e2⟩ := HS.out wr hHw (fun j hj => hall j (by omega))
        have E1 := Lib.hid e1
        have E2 := Lib.hid e2
        clear hH hHw hb hall e1 e2 hkd
        go_wp2
        go_ret
        exact ⟨by rw [E1.out]; rfl, E2.out, HB.out⟩
end Go.Proofs.YtbodefigeiaodaaDoor
