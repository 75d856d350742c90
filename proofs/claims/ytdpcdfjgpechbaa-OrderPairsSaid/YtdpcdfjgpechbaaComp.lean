/-
  slices.Compact at handles and at pairs: of runs of equal ones one each.
-/
import Derived.Test.YtdpcdfjgpechbaaFb
import Derived.Lib.SlicesCompact
import Derived.Lib.SliceRun
import Derived.Sort.WalkB12
import Derived.Shelf.RegionOpenPlain
namespace Go.Proofs.Ytdpcdfjgpechbaa
set_option linter.unusedSimpArgs false
set_option linter.unusedVariables false
open Go.RowKit Go.Sort Go.Lib Go.Shelf

theorem ne_and {a b c d : Int} (h : ¬ ((a, b) : Hd) = (c, d)) : (decide (a = c) && decide (b = d)) = false := by
  rw [← Bool.decide_and]
  exact decide_eq_false fun e => h (by rw [e.1, e.2])

/-- Two cells at a handle's place, stored: the row with it. -/
theorem set2 {w : World} {b off : Nat} {d : Array Hd} (h : HoldsK encH 2 w b off d) {i : Nat} (hi : i < d.size) (x : Hd) : HoldsK encH 2 ((w.setCell ⟨b, off + i * 2, none⟩ (.int .i64 x.1)).setCell ⟨b, off + i * 2 + 1, none⟩ (.int .i64 x.2)) b off (d.setIfInBounds i x) :=
  hkSet h lenH hi x
theorem at2 {w : World} {b off : Nat} {d : Array Hd} (h : HoldsK encH 2 w b off d) {i : Nat} (hi : i < d.size) :
    (w.cell? ⟨b, off + i * 2, none⟩ = some (.int .i64 d[i]!.1) ∧ w.cell? ⟨b, off + i * 2 + 1, none⟩ = some (.int .i64 d[i]!.2)) ∧ w.frozen? ⟨b, off + i * 2, none⟩ = false ∧ w.frozen? ⟨b, off + i * 2 + 1, none⟩ = false := by
  have c0 := Go.Sort.HoldsK.cell h hi (show 0 < 2 by omega)
  have c1 := Go.Sort.HoldsK.cell h hi (show 1 < 2 by omega)
  exact ⟨⟨c0.1, c1.1⟩, c0.2, c1.2⟩

/-- A run of stores of one element, over and over: zero values from place i on. -/
theorem HoldsK.lay {α : Type} [Inhabited α] {enc : α → List Value} {k : Nat} (hk : ∀ x, (enc x).length = k) {w : World} {b off : Nat} {d : Array α} (h : HoldsK enc k w b off d) (z : α) : ∀ (m i : Nat), i + m ≤ d.size → ∃ d' : Array α, d'.size = d.size ∧ (∀ j, j < i → d'[j]! = d[j]!) ∧ HoldsK enc k (w.setCells b (off + i * k) (flat enc (List.replicate m z))) b off d' := by
  intro m i hm
  induction m generalizing w d i with
  | zero => exact ⟨d, rfl, fun _ _ => rfl, h⟩
  | succ m ih =>
    have h1 := hkSet h hk (show i < d.size by omega) z
    obtain ⟨d', hs, hlow, hH⟩ := ih h1 (i + 1) (by simp; omega)
    refine ⟨d', by rw [hs]; simp, fun j hj => by rw [hlow j (by omega), getElem!_set_other d i j z (by omega)], ?_⟩
    have e : flat enc (List.replicate (m + 1) z) = enc z ++ flat enc (List.replicate m z) := by simp [flat, List.replicate_succ]
    rw [e]
    have app : ∀ (xs ys : List Value) (W : World) (o : Nat), W.setCells b o (xs ++ ys) = (W.setCells b o xs).setCells b (o + xs.length) ys := by
      intro xs
      induction xs with
      | nil => intro ys W o; rfl
      | cons x xs ihx =>
        intro ys W o
        simp only [List.cons_append, World.setCells, List.length_cons]
        rw [ihx]
        congr 1
        omega
    rw [app, hk, show off + i * k + k = off + (i + 1) * k by rw [Nat.add_mul]; omega]
    exact hH
theorem Below.setCells {B : Nat} {a w : World} (h : RowKit.Below B a w) {b : Nat} (hb : B ≤ b) : ∀ (vs : List Value) (o : Nat), RowKit.Below B a (w.setCells b o vs) := by
  intro vs
  induction vs generalizing w with
  | nil => intro o; exact h
  | cons v r ih => intro o; exact ih (h.setCell (p := ⟨b, o, none⟩) hb v) (o + 1)

theorem zero_flat {α : Type} [Inhabited α] {enc : α → List Value} {k : Nat} (hk : ∀ x, (enc x).length = k) (k0 : 0 < k) (z : α) (n : Nat) : (Builtin.zeroCells (enc z).toArray n).toList = flat enc (List.replicate n z) := by
  apply List.ext_getElem?
  intro j
  have hs : (enc z).toArray.size = k := by simp [hk]
  by_cases hj : j < n * k
  · have hq : j / k < n := Nat.div_lt_of_lt_mul (by rw [Nat.mul_comm]; exact hj)
    have hm : j % k < k := Nat.mod_lt _ k0
    have e : j / k * k + j % k = j := by rw [Nat.mul_comm]; exact Nat.div_add_mod j k
    have g := flat_get hk (List.replicate n z) (j / k) (j % k) (by simpa using hq) hm
    have gz : (List.replicate n z)[j / k]! = z := by rw [getElem!_pos _ _ (by simpa using hq)]; simp
    rw [e, gz] at g
    rw [g]
    simp only [Builtin.zeroCells, hs, Array.toList_map, Array.toList_range, List.getElem?_map]
    rw [List.getElem?_range hj]
    simp only [Option.map_some]
    have hm' : j % k < (enc z).toArray.size := by rw [hs]; exact hm
    rw [getElem!_pos (enc z).toArray (j % k) hm', List.getElem?_eq_getElem (l := enc z) (by rw [hk]; exact hm)]
    simp
  · rw [List.getElem?_eq_none (by simp [Builtin.zeroCells, hs]; omega), List.getElem?_eq_none (by rw [flat_len hk]; simp; omega)]

/-- 'clear(s[i:])' at elements of k cells. -/
theorem clear_run {α : Type} [Inhabited α] {enc : α → List Value} {k : Nat} (hk : ∀ x, (enc x).length = k) (k0 : 0 < k) (h1 : ∀ x, ∀ v ∈ enc x, v.oneCell' = true) (P : Program) {t e : TypeId} {zv : Value} (z : α) (ht : P.underlying t = some (.slice e)) (hv : ∀ w, (zeroValue e).run P w = .ok zv w) (hz : zv.cells = (enc z).toArray)
    {w : World} {b off : Nat} {d : Array α} (h : HoldsK enc k w b off d) (i : Nat) (hi : i < d.size) (c : Nat) (ty : TypeId) :
    (Builtin.clear_ #[t] ty #[.slice (some ⟨b, off + i * k, none⟩) (d.size - i) c]).run P w = .ok (.tuple #[]) (w.setCells b (off + i * k) (flat enc (List.replicate (d.size - i) z))) := by
  have hb : i * k + (d.size - i) * k = d.size * k := by rw [← Nat.add_mul]; congr 1; omega
  have hst := stores_of_holds (W := w) (blk := b) (off := off) (F := flatK enc k d) P h (i * k) (flat enc (List.replicate (d.size - i) z)) (by rw [flat_len hk, size_flatK]; simp; omega) (flat_one h1 _)
  obtain ⟨m, hm⟩ : ∃ m, d.size - i = m + 1 := ⟨d.size - i - 1, by omega⟩
  rw [hm] at hst ⊢
  simp only [Builtin.clear_]
  simp [run_underlying ht, hv, hz, zero_flat hk k0, hst]

set_option maxHeartbeats 4000000 in
set_option maxRecDepth 1000000 in
theorem compactH_call (B blk cap : Nat) (d : Array Hd) (w : World) (hH : HoldsK encH 2 w blk 0 d) (hB : B ≤ blk) (hsz : d.size ≤ 1000000) (hcap : d.size ≤ cap) (hcm : cap ≤ 9223372036854775807) :
    Calls Try.prog 52 #[.slice (some ⟨blk, 0, none⟩) d.size cap] w fun e w' => e = .returned (.slice (some ⟨blk, 0, none⟩) (compactUpTo d d.size).length cap) ∧
      (∃ d' : Array Hd, d'.size = d.size ∧ (∀ j, j < (compactUpTo d d.size).length → (compactUpTo d d.size)[j]? = some d'[j]!) ∧ HoldsK encH 2 w' blk 0 d') ∧ RowKit.Below B w w' := by
  have eq1 := eqH_run
  have ne1 := neH_run
  have gd1 := gdH_run
  have same : ∀ w', HoldsK encH 2 w' blk 0 d → (∀ j, j < d.size → keeps d j = true) → (compactUpTo d d.size).length = d.size ∧ (∃ d' : Array Hd, d'.size = d.size ∧ (∀ j, j < (compactUpTo d d.size).length → (compactUpTo d d.size)[j]? = some d'[j]!) ∧ HoldsK encH 2 w' blk 0 d') := by
    intro w' hw hall
    have e : compactUpTo d d.size = d.toList := by rw [compactUpTo_all d _ hall, range_map_get]
    rw [e]
    refine ⟨by simp, d, rfl, fun j hj => ?_, hw⟩
    have hj' : j < d.size := by simpa using hj
    rw [getElem!_pos d j hj']
    simp [hj']
  have HS := Lib.hid same
  clear same
  by_cases h2 : d.size < 2
  · have HH := Lib.hid hH
    clear hH
    go_enter Try.func52, Try.ntmps52
    go_wp2
    go_ret
    obtain ⟨e1, e2⟩ := HS.out w HH.out (fun j hj => keeps_lt_one d j (by omega))
    exact ⟨by rw [e1]; rfl, e2, Below.refl _ _⟩
  · go_enter Try.func52, Try.ntmps52
    go_wp2
    go_loopg [3] d.size (fun g s3 wr => ∃ k : Nat, 1 ≤ k ∧ k ≤ d.size ∧ d.size - k ≤ g ∧ s3 = .int .i64 k ∧ RowKit.Below B w wr ∧ HoldsK encH 2 wr blk 0 d ∧ ∀ j, j < k → keeps d j = true)
    case atStart => exact ⟨1, Nat.le_refl _, by omega, by omega, rfl, Below.refl _ _, hH, keeps_lt_one d⟩
    case round =>
      obtain ⟨k, hk1, hk, hg, rfl, hb, hHw, hall⟩ := hrel
      by_cases hlt : k < d.size
      · obtain ⟨⟨c1, c2⟩, f1, f2⟩ := at2 hHw hlt
        obtain ⟨⟨c3, c4⟩, f3, f4⟩ := at2 hHw (show k - 1 < d.size by omega)
        simp only [Nat.zero_add] at c1 c2 c3 c4 f1 f2 f3 f4
        have A := Lib.hid hall
        have HW := Lib.hid hHw
        have HB := Lib.hid hb
        clear hall hH hHw hb
        generalize hx : d[k]! = x at c1 c2
        generalize hy : d[k - 1]! = y at c3 c4
        obtain ⟨x1, x2⟩ := x
        obtain ⟨y1, y2⟩ := y
        dsimp only at c1 c2 c3 c4
        have EX := Lib.hid hx
        have EY := Lib.hid hy
        clear hx hy
        by_cases hdup : ((x1, x2) : Hd) = (y1, y2)
        · obtain ⟨rfl, rfl⟩ : x1 = y1 ∧ x2 = y2 := by simpa using hdup
          clear hdup
          go_wp2_with fail
          go_region
          go_wp2
          clear c1 c2 c3 c4 f1 f2 f3 f4
          go_loopg [3, 5] d.size (fun g s3 s5 wr => ∃ (kk k2 : Nat) (dk : Array Hd), s3 = .int .i64 kk ∧ s5 = .int .i64 k2 ∧ 1 ≤ k2 ∧ k + k2 ≤ d.size ∧ d.size - (k + k2) ≤ g ∧ RowKit.Below B w wr ∧ HoldsK encH 2 wr blk 0 dk ∧ CompInv d (k + k2) kk dk)
          case atStart => exact ⟨k, 1, d, rfl, rfl, Nat.le_refl _, by omega, by omega, HB.out.drew, HW.out, CompInv.start A.out (keeps_neg (by omega) (by rw [EX.out, EY.out]))⟩
          case round =>
            obtain ⟨kk, k2, dk, rfl, rfl, h1, hle, hg2, hb, hHk, hI⟩ := hrel
            have hkk := hI.lt
            have hds := hI.size
            have HB := Lib.hid hb
            by_cases hlt2 : k + k2 < d.size
            · obtain ⟨⟨c1, c2⟩, _, _⟩ := at2 hHk (show k + k2 < dk.size by omega)
              obtain ⟨⟨c3, c4⟩, _, _⟩ := at2 hHk (show k + k2 - 1 < dk.size by omega)
              obtain ⟨⟨c5, c6⟩, f5, f6⟩ := at2 hHk (show kk < dk.size by omega)
              rw [hI.high (k + k2) (by omega)] at c1 c2
              rw [hI.high (k + k2 - 1) (by omega)] at c3 c4
              rw [show 0 + (k + k2) * 2 = k * 2 + k2 * 2 by omega] at c1 c2
              rw [show 0 + (k + k2 - 1) * 2 = k * 2 + (k2 - 1) * 2 by omega] at c3 c4
              simp only [Nat.zero_add] at c5 c6 f5 f6
              have HK := Lib.hid hHk
              have HI := Lib.hid hI
              clear hHk hI hb
              generalize hu : d[k + k2]! = u at c1 c2
              generalize hv : d[k + k2 - 1]! = v at c3 c4
              generalize ho : dk[kk]! = old at c5 c6
              obtain ⟨u1, u2⟩ := u
              obtain ⟨v1, v2⟩ := v
              obtain ⟨o1, o2⟩ := old
              dsimp only at c1 c2 c3 c4 c5 c6
              have EU := Lib.hid hu
              have EV := Lib.hid hv
              clear hu hv ho
              by_cases huv : ((u1, u2) : Hd) = (v1, v2)
              · obtain ⟨rfl, rfl⟩ : u1 = v1 ∧ u2 = v2 := by simpa using huv
                clear huv
                go_wp2_with fail
                go_region
                go_wp2
                go_roundg (d.size - (k + (k2 + 1)))
                case measure => omega
                case rel => exact ⟨kk, k2 + 1, dk, rfl, by go_num, by omega, by omega, Nat.le_refl _, HB.out.drew, hkDrew HK.out, HI.out.skip (keeps_neg (by omega) (by rw [EU.out, EV.out]))⟩
              · have e5 := ne_and huv
                have HN := Lib.hid huv
                clear huv
                go_wp2_with fail
                go_region
                go_wp2
                go_roundg (d.size - (k + (k2 + 1)))
                case measure => omega
                case rel =>
                  refine ⟨kk + 1, k2 + 1, dk.setIfInBounds kk (u1, u2), by go_num, by go_num, by omega, by omega, Nat.le_refl _, ((HB.out.drew).setCell (p := ⟨blk, kk * 2, none⟩) hB _).setCell (p := ⟨blk, kk * 2 + 1, none⟩) hB _, ?_, ?_⟩
                  · have := set2 (hkDrew HK.out) (show kk < dk.size by omega) (u1, u2)
                    simp only [Nat.zero_add] at this
                    exact this
                  · have := HI.out.keep hlt2 (keeps_pos (by rw [EU.out, EV.out]; exact HN.out))
                    rwa [EU.out] at this
            · have hend : k + k2 = d.size := by omega
              have hkk2 : kk < dk.size := by omega
              have hcl : ∀ ty, (Builtin.clear_ #[22] ty #[.slice (some ⟨blk, kk * 2, none⟩) (d.size - kk) (cap - kk)]).run Try.prog wr = .ok (.tuple #[]) (wr.setCells blk (kk * 2) (flat encH (List.replicate (d.size - kk) (0, 0)))) := fun ty => by
                have := clear_run lenH (by omega) oneH Try.prog (0, 0) Try.underlying22 Try.zeroValue28 rfl hHk kk hkk2 (cap - kk) ty
                rwa [Nat.zero_add, hds] at this
              have hI2 := hI
              rw [hend] at hI2
              obtain ⟨d', hs', hlow, hH'⟩ := HoldsK.lay lenH hHk (0, 0) (d.size - kk) kk (by omega)
              rw [Nat.zero_add] at hH'
              have E := Lib.hid hI2
              have L := Lib.hid hlow
              have HH' := Lib.hid hH'
              clear hHk hI hI2 hlow hH' hb hend
              go_wp2
              go_ret
              refine ⟨by rw [E.out.len]; rfl, ⟨d', by rw [hs', hds], fun j hj => ?_, HH'.out⟩, Below.setCells HB.out hB _ _⟩
              rw [E.out.len] at hj
              rw [E.out.low j hj, L.out j hj]
        · have e5 := ne_and hdup
          have HN := Lib.hid hdup
          clear hdup
          go_wp2_with fail
          go_region
          go_wp2
          go_roundg (d.size - (k + 1))
          case measure => omega
          case rel =>
            refine ⟨k + 1, by omega, by omega, Nat.le_refl _, by go_num, HB.out.drew, hkDrew HW.out, fun j hj => ?_⟩
            by_cases e : j = k
            · subst e
              exact keeps_pos (by rw [EX.out, EY.out]; exact HN.out)
            · exact A.out j (by omega)
      · have hkd : k = d.size := by omega
        have HW := Lib.hid hHw
        have HB := Lib.hid hb
        obtain ⟨e1, e2⟩ := HS.out wr hHw (fun j hj => hall j (by omega))
        have E1 := Lib.hid e1
        have E2 := Lib.hid e2
        clear hH hHw hb hall e1 e2 hkd
        go_wp2
        go_ret
        exact ⟨by rw [E1.out]; rfl, E2.out, HB.out⟩
end Go.Proofs.Ytdpcdfjgpechbaa
