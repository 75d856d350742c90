import Derived.Test.YtahichjiphjapaaGreatDoorZ2
import Derived.Lib.SlicesCompact
import Derived.Lib.SliceRun
import Derived.Sort.WalkB12
import Derived.Shelf.RegionOpenPlain
import Derived.Test.YtahichjiphjapaaGreatDoorShelfL
import Derived.Shelf.SlSortCmp.NoneTotal
import Derived.Test.YtahichjiphjapaaGreatDoorZ0

/-
  slices.Compact at handles and at pairs: of runs of equal ones one each.
-/
namespace Go.Proofs.YtahichjiphjapaaGreatDoor
set_option linter.unusedSimpArgs false
set_option linter.unusedVariables false
open Go.RowKit Go.Sort Go.Lib Go.Shelf

theorem ne_and {a b c d : Int} (h : ¬ ((a, b) : Hd) = (c, d)) : (decide (a = c) && decide (b = d)) = false := by
  rw [← Bool.decide_and]
  exact decide_eq_false fun e => h (by rw [e.1, e.2])

/-- Two cells at a handle's place, stored: the row with it. -/
theorem set2 {w : World} {b off : Nat} {d : Array Hd} (h : HoldsK encH 2 w b off d) {i : Nat} (hi : i < d.size) (x : Hd) : HoldsK encH 2 ((w.setCell ⟨b, off + i * 2, none⟩ (.int .i64 x.1)).setCell ⟨b, off + i * 2 + 1, none⟩ (.int .i64 x.2)) b off (d.setIfInBounds i x) :=
  hkSet h lenH hi x
theorem at2 {w : World} {b off : Nat} {d : Array Hd} (h : HoldsK encH 2 w b off d) {i : Nat} (hi : i < d.size) :
    (w.cell? ⟨b, off + i * 2, none⟩ = some (.int .i64 d[i]!.1) ∧ w.cell? ⟨b, off + i * 2 + 1, none⟩ = some (.int .i64 d[i]!.2)) ∧ w.frozen? ⟨b, off + i * 2, none⟩ = false ∧ w.frozen? ⟨b, off + i * 2 + 1, none⟩ = false := by
  have c0 := Go.Sort.HoldsK.cell h hi (show 0 < 2 by omega)
  have c1 := Go.Sort.HoldsK.cell h hi (show 1 < 2 by omega)
  exact ⟨⟨c0.1, c1.1⟩, c0.2, c1.2⟩

/-- A run of stores of one element, over and over: zero values from place i on. -/
theorem HoldsK.lay {α : Type} [Inhabited α] {enc : α → List Value} {k : Nat} (hk : ∀ x, (enc x).length = k) {w : World} {b off : Nat} {d : Array α} (h : HoldsK enc k w b off d) (z : α) : ∀ (m i : Nat), i + m ≤ d.size → ∃ d' : Array α, d'.size = d.size ∧ (∀ j, j < i → d'[j]! = d[j]!) ∧ HoldsK enc k (w.setCells b (off + i * k) (flat enc (List.replicate m z))) b off d' := by
  intro m i hm
  induction m generalizing w d i with
  | zero => exact ⟨d, rfl, fun _ _ => rfl, h⟩
  | succ m ih =>
    have h1 := hkSet h hk (show i < d.size by omega) z
    obtain ⟨d', hs, hlow, hH⟩ := ih h1 (i + 1) (by simp; omega)
    refine ⟨d', by rw [hs]; simp, fun j hj => by rw [hlow j (by omega), getElem!_set_other d i j z (by omega)], ?_⟩
    have e : flat enc (List.replicate (m + 1) z) = enc z ++ flat enc (List.replicate m z) := by simp [flat, List.replicate_succ]
    rw [e]
    have app : ∀ (xs ys : List Value) (W : World) (o : Nat), W.setCells b o (xs ++ ys) = (W.setCells b o xs).setCells b (o + xs.length) ys := by
      intro xs
      induction xs with
      | nil => intro ys W o; rfl
      | cons x xs ihx =>
        intro ys W o
        simp only [List.cons_append, World.setCells, List.length_cons]
        rw [ihx]
        congr 1
        omega
    rw [app, hk, show off + i * k + k = off + (i + 1) * k by rw [Nat.add_mul]; omega]
    exact hH
theorem Below.setCells {B : Nat} {a w : World} (h : RowKit.Below B a w) {b : Nat} (hb : B ≤ b) : ∀ (vs : List Value) (o : Nat), RowKit.Below B a (w.setCells b o vs) := by
  intro vs
  induction vs generalizing w with
  | nil => intro o; exact h
  | cons v r ih => intro o; exact ih (h.setCell (p := ⟨b, o, none⟩) hb v) (o + 1)

theorem zero_flat {α : Type} [Inhabited α] {enc : α → List Value} {k : Nat} (hk : ∀ x, (enc x).length = k) (k0 : 0 < k) (z : α) (n : Nat) : (Builtin.zeroCells (enc z).toArray n).toList = flat enc (List.replicate n z) := by
  apply List.ext_getElem?
  intro j
  have hs : (enc z).toArray.size = k := by simp [hk]
  by_cases hj : j < n * k
  · have hq : j / k < n := Nat.div_lt_of_lt_mul (by rw [Nat.mul_comm]; exact hj)
    have hm : j % k < k := Nat.mod_lt _ k0
    have e : j / k * k + j % k = j := by rw [Nat.mul_comm]; exact Nat.div_add_mod j k
    have g := flat_get hk (List.replicate n z) (j / k) (j % k) (by simpa using hq) hm
    have gz : (List.replicate n z)[j / k]! = z := by rw [getElem!_pos _ _ (by simpa using hq)]; simp
    rw [e, gz] at g
    rw [g]
    simp only [Builtin.zeroCells, hs, Array.toList_map, Array.toList_range, List.getElem?_map]
    rw [List.getElem?_range hj]
    simp only [Option.map_some]
    have hm' : j % k < (enc z).toArray.size := by rw [hs]; exact hm
    rw [getElem!_pos (enc z).toArray (j % k) hm', List.getElem?_eq_getElem (l := enc z) (by rw [hk]; exact hm)]
    simp
  · rw [List.getElem?_eq_none (by simp [Builtin.zeroCells, hs]; omega), List.getElem?_eq_none (by rw [flat_len hk]; simp; omega)]

/-- 'clear(s[i:])' at elements of k cells. -/
theorem clear_run {α : Type} [Inhabited α] {enc : α → List Value} {k : Nat} (hk : ∀ x, (enc x).length = k) (k0 : 0 < k) (h1 : ∀ x, ∀ v ∈ enc x, v.oneCell' = true) (P : Program) {t e : TypeId} {zv : Value} (z : α) (ht : P.underlying t = some (.slice e)) (hv : ∀ w, (zeroValue e).run P w = .ok zv w) (hz : zv.cells = (enc z).toArray)
    {w : World} {b off : Nat} {d : Array α} (h : HoldsK enc k w b off d) (i : Nat) (hi : i < d.size) (c : Nat) (ty : TypeId) :
    (Builtin.clear_ #[t] ty #[.slice (some ⟨b, off + i * k, none⟩) (d.size - i) c]).run P w = .ok (.tuple #[]) (w.setCells b (off + i * k) (flat enc (List.replicate (d.size - i) z))) := by
  have hb : i * k + (d.size - i) * k = d.size * k := by rw [← Nat.add_mul]; congr 1; omega
  have hst := stores_of_holds (W := w) (blk := b) (off := off) (F := flatK enc k d) P h (i * k) (flat enc (List.replicate (d.size - i) z)) (by rw [flat_len hk, size_flatK]; simp; omega) (flat_one h1 _)
  obtain ⟨m, hm⟩ : ∃ m, d.size - i = m + 1 := ⟨d.size - i - 1, by omega⟩
  rw [hm] at hst ⊢
  simp only [Builtin.clear_]
  simp [run_underlying ht, hv, hz, zero_flat hk k0, hst]

set_option maxHeartbeats 4000000 in
set_option maxRecDepth 1000000 in
theorem compactH_call (B blk cap : Nat) (d : Array Hd) (w : World) (hH : HoldsK encH 2 w blk 0 d) (hB : B ≤ blk) (hsz : d.size ≤ 1000000) (hcap : d.size ≤ cap) (hcm : cap ≤ 9223372036854775807) :
    Calls Tryz.prog 91 #[.slice (some ⟨blk, 0, none⟩) d.size cap] w fun e w' => e = .returned (.slice (some ⟨blk, 0, none⟩) (compactUpTo d d.size).length cap) ∧
      (∃ d' : Array Hd, d'.size = d.size ∧ (∀ j, j < (compactUpTo d d.size).length → (compactUpTo d d.size)[j]? = some d'[j]!) ∧ HoldsK encH 2 w' blk 0 d') ∧ RowKit.Below B w w' := by
  have eq1 := eqH_run
  have ne1 := neH_run
  have gd1 := gdH_run
  have same : ∀ w', HoldsK encH 2 w' blk 0 d → (∀ j, j < d.size → keeps d j = true) → (compactUpTo d d.size).length = d.size ∧ (∃ d' : Array Hd, d'.size = d.size ∧ (∀ j, j < (compactUpTo d d.size).length → (compactUpTo d d.size)[j]? = some d'[j]!) ∧ HoldsK encH 2 w' blk 0 d') := by
    intro w' hw hall
    have e : compactUpTo d d.size = d.toList := by rw [compactUpTo_all d _ hall, range_map_get]
    rw [e]
    refine ⟨by simp, d, rfl, fun j hj => ?_, hw⟩
    have hj' : j < d.size := by simpa using hj
    rw [getElem!_pos d j hj']
    simp [hj']
  have HS := Lib.hid same
  clear same
  by_cases h2 : d.size < 2
  · have HH := Lib.hid hH
    clear hH
    go_enter Tryz.func91, Tryz.ntmps91
    go_wp2
    go_ret
    obtain ⟨e1, e2⟩ := HS.out w HH.out (fun j hj => keeps_lt_one d j (by omega))
    exact ⟨by rw [e1]; rfl, e2, Below.refl _ _⟩
  · go_enter Tryz.func91, Tryz.ntmps91
    go_wp2
    go_loopg [3] d.size (fun g s3 wr => ∃ k : Nat, 1 ≤ k ∧ k ≤ d.size ∧ d.size - k ≤ g ∧ s3 = .int .i64 k ∧ RowKit.Below B w wr ∧ HoldsK encH 2 wr blk 0 d ∧ ∀ j, j < k → keeps d j = true)
    case atStart => exact ⟨1, Nat.le_refl _, by omega, by omega, rfl, Below.refl _ _, hH, keeps_lt_one d⟩
    case round =>
      obtain ⟨k, hk1, hk, hg, rfl, hb, hHw, hall⟩ := hrel
      by_cases hlt : k < d.size
      · obtain ⟨⟨c1, c2⟩, f1, f2⟩ := at2 hHw hlt
        obtain ⟨⟨c3, c4⟩, f3, f4⟩ := at2 hHw (show k - 1 < d.size by omega)
        simp only [Nat.zero_add] at c1 c2 c3 c4 f1 f2 f3 f4
        have A := Lib.hid hall
        have HW := Lib.hid hHw
        have HB := Lib.hid hb
        clear hall hH hHw hb
        generalize hx : d[k]! = x at c1 c2
        generalize hy : d[k - 1]! = y at c3 c4
        obtain ⟨x1, x2⟩ := x
        obtain ⟨y1, y2⟩ := y
        dsimp only at c1 c2 c3 c4
        have EX := Lib.hid hx
        have EY := Lib.hid hy
        clear hx hy
        by_cases hdup : ((x1, x2) : Hd) = (y1, y2)
        · obtain ⟨rfl, rfl⟩ : x1 = y1 ∧ x2 = y2 := by simpa using hdup
          clear hdup
          go_wp2_with fail
          go_region
          go_wp2
          clear c1 c2 c3 c4 f1 f2 f3 f4
          go_loopg [3, 5] d.size (fun g s3 s5 wr => ∃ (kk k2 : Nat) (dk : Array Hd), s3 = .int .i64 kk ∧ s5 = .int .i64 k2 ∧ 1 ≤ k2 ∧ k + k2 ≤ d.size ∧ d.size - (k + k2) ≤ g ∧ RowKit.Below B w wr ∧ HoldsK encH 2 wr blk 0 dk ∧ CompInv d (k + k2) kk dk)
          case atStart => exact ⟨k, 1, d, rfl, rfl, Nat.le_refl _, by omega, by omega, HB.out.drew, HW.out, CompInv.start A.out (keeps_neg (by omega) (by rw [EX.out, EY.out]))⟩
          case round =>
            obtain ⟨kk, k2, dk, rfl, rfl, h1, hle, hg2, hb, hHk, hI⟩ := hrel
            have hkk := hI.lt
            have hds := hI.size
            have HB := Lib.hid hb
            by_cases hlt2 : k + k2 < d.size
            · obtain ⟨⟨c1, c2⟩, _, _⟩ := at2 hHk (show k + k2 < dk.size by omega)
              obtain ⟨⟨c3, c4⟩, _, _⟩ := at2 hHk (show k + k2 - 1 < dk.size by omega)
              obtain ⟨⟨c5, c6⟩, f5, f6⟩ := at2 hHk (show kk < dk.size by omega)
              rw [hI.high (k + k2) (by omega)] at c1 c2
              rw [hI.high (k + k2 - 1) (by omega)] at c3 c4
              rw [show 0 + (k + k2) * 2 = k * 2 + k2 * 2 by omega] at c1 c2
              rw [show 0 + (k + k2 - 1) * 2 = k * 2 + (k2 - 1) * 2 by omega] at c3 c4
              simp only [Nat.zero_add] at c5 c6 f5 f6
              have HK := Lib.hid hHk
              have HI := Lib.hid hI
              clear hHk hI hb
              generalize hu : d[k + k2]! = u at c1 c2
              generalize hv : d[k + k2 - 1]! = v at c3 c4
              generalize ho : dk[kk]! = old at c5 c6
              obtain ⟨u1, u2⟩ := u
              obtain ⟨v1, v2⟩ := v
              obtain ⟨o1, o2⟩ := old
              dsimp only at c1 c2 c3 c4 c5 c6
              have EU := Lib.hid hu
              have EV := Lib.hid hv
              clear hu hv ho
              by_cases huv : ((u1, u2) : Hd) = (v1, v2)
              · obtain ⟨rfl, rfl⟩ : u1 = v1 ∧ u2 = v2 := by simpa using huv
                clear huv
                go_wp2_with fail
                go_region
                go_wp2
                go_roundg (d.size - (k + (k2 + 1)))
                case measure => omega
                case rel => exact ⟨kk, k2 + 1, dk, rfl, by go_num, by omega, by omega, Nat.le_refl _, HB.out.drew, hkDrew HK.out, HI.out.skip (keeps_neg (by omega) (by rw [EU.out, EV.out]))⟩
              · have e5 := ne_and huv
                have HN := Lib.hid huv
                clear huv
                go_wp2_with fail
                go_region
                go_wp2
                go_roundg (d.size - (k + (k2 + 1)))
                case measure => omega
                case rel =>
                  refine ⟨kk + 1, k2 + 1, dk.setIfInBounds kk (u1, u2), by go_num, by go_num, by omega, by omega, Nat.le_refl _, ((HB.out.drew).setCell (p := ⟨blk, kk * 2, none⟩) hB _).setCell (p := ⟨blk, kk * 2 + 1, none⟩) hB _, ?_, ?_⟩
                  · have := set2 (hkDrew HK.out) (show kk < dk.size by omega) (u1, u2)
                    simp only [Nat.zero_add] at this
                    exact this
                  · have := HI.out.keep hlt2 (keeps_pos (by rw [EU.out, EV.out]; exact HN.out))
                    rwa [EU.out] at this
            · have hend : k + k2 = d.size := by omega
              have hkk2 : kk < dk.size := by omega
              have hcl : ∀ ty, (Builtin.clear_ #[30] ty #[.slice (some ⟨blk, kk * 2, none⟩) (d.size - kk) (cap - kk)]).run Tryz.prog wr = .ok (.tuple #[]) (wr.setCells blk (kk * 2) (flat encH (List.replicate (d.size - kk) (0, 0)))) := fun ty => by
                have := clear_run lenH (by omega) oneH Tryz.prog (0, 0) Tryz.underlying30 Tryz.zeroValue42 rfl hHk kk hkk2 (cap - kk) ty
                rwa [Nat.zero_add, hds] at this
              have hI2 := hI
              rw [hend] at hI2
              obtain ⟨d', hs', hlow, hH'⟩ := HoldsK.lay lenH hHk (0, 0) (d.size - kk) kk (by omega)
              rw [Nat.zero_add] at hH'
              have E := Lib.hid hI2
              have L := Lib.hid hlow
              have HH' := Lib.hid hH'
              clear hHk hI hI2 hlow hH' hb hend
              go_wp2
              go_ret
              refine ⟨by rw [E.out.len]; rfl, ⟨d', by rw [hs', hds], fun j hj => ?_, HH'.out⟩, Below.setCells HB.out hB _ _⟩
              rw [E.out.len] at hj
              rw [E.out.low j hj, L.out j hj]
        · have e5 := ne_and hdup
          have HN := Lib.hid hdup
          clear hdup
          go_wp2_with fail
          go_region
          go_wp2
          go_roundg (d.size - (k + 1))
          case measure => omega
          case rel =>
            refine ⟨k + 1, by omega, by omega, Nat.le_refl _, by go_num, HB.out.drew, hkDrew HW.out, fun j hj => ?_⟩
            by_cases e : j = k
            · subst e
              exact keeps_pos (by rw [EX.out, EY.out]; exact HN.out)
            · exact A.out j (by omega)
      · have hkd : k = d.size := by omega
        have HW := Lib.hid hHw
        have HB := Lib.hid hb
        obtain ⟨e1, e2⟩ := HS.out wr hHw (fun j hj => hall j (by omega))
        have E1 := Lib.hid e1
        have E2 := Lib.hid e2
        clear hH hHw hb hall e1 e2 hkd
        go_wp2
        go_ret
        exact ⟨by rw [E1.out]; rfl, E2.out, HB.out⟩
end Go.Proofs.YtahichjiphjapaaGreatDoor

/-
  slices.Compact at pairs (made by program out of the text at handles).
-/
namespace Go.Proofs.YtahichjiphjapaaGreatDoor
set_option linter.unusedSimpArgs false
set_option linter.unusedVariables false
open Go.RowKit Go.Sort Go.Lib Go.Shelf

theorem ne_and4 {a b c d p q r s : Int} (h : ¬ (((a, b), (c, d)) : Pr) = ((p, q), (r, s))) : ((decide (a = p) && decide (b = q)) && (decide (c = r) && decide (d = s))) = false := by
  rw [← Bool.decide_and, ← Bool.decide_and, ← Bool.decide_and]
  exact decide_eq_false fun e => h (by rw [e.1.1, e.1.2, e.2.1, e.2.2])
theorem set4 {w : World} {b off : Nat} {d : Array Pr} (h : HoldsK encP 4 w b off d) {i : Nat} (hi : i < d.size) (x : Pr) : HoldsK encP 4 ((((w.setCell ⟨b, off + i * 4, none⟩ (.int .i64 x.1.1)).setCell ⟨b, off + i * 4 + 1, none⟩ (.int .i64 x.1.2)).setCell ⟨b, off + i * 4 + 2, none⟩ (.int .i64 x.2.1)).setCell ⟨b, off + i * 4 + 3, none⟩ (.int .i64 x.2.2)) b off (d.setIfInBounds i x) :=
  hkSet h lenP hi x
theorem at4 {w : World} {b off : Nat} {d : Array Pr} (h : HoldsK encP 4 w b off d) {i : Nat} (hi : i < d.size) :
    (w.cell? ⟨b, off + i * 4, none⟩ = some (.int .i64 d[i]!.1.1) ∧ w.cell? ⟨b, off + i * 4 + 1, none⟩ = some (.int .i64 d[i]!.1.2) ∧ w.cell? ⟨b, off + i * 4 + 2, none⟩ = some (.int .i64 d[i]!.2.1) ∧ w.cell? ⟨b, off + i * 4 + 3, none⟩ = some (.int .i64 d[i]!.2.2)) ∧
      w.frozen? ⟨b, off + i * 4, none⟩ = false ∧ w.frozen? ⟨b, off + i * 4 + 1, none⟩ = false ∧ w.frozen? ⟨b, off + i * 4 + 2, none⟩ = false ∧ w.frozen? ⟨b, off + i * 4 + 3, none⟩ = false := by
  have c0 := Go.Sort.HoldsK.cell h hi (show 0 < 4 by omega)
  have c1 := Go.Sort.HoldsK.cell h hi (show 1 < 4 by omega)
  have c2 := Go.Sort.HoldsK.cell h hi (show 2 < 4 by omega)
  have c3 := Go.Sort.HoldsK.cell h hi (show 3 < 4 by omega)
  exact ⟨⟨c0.1, c1.1, c2.1, c3.1⟩, c0.2, c1.2, c2.2, c3.2⟩

end Go.Proofs.YtahichjiphjapaaGreatDoor

/-
  slices.Clone, slices.SortFunc and slices.Compact put together: order.rising at handles, pairs and numbers; order.Handles, order.Ints.
-/
namespace Go.Proofs.YtahichjiphjapaaGreatDoor
set_option linter.unusedSimpArgs false
set_option linter.unusedVariables false
open Go.RowKit Go.Sort Go.Lib Go.Shelf

theorem swo_of_sto {α : Type} {lt : α → α → Bool} (h : STO lt) : SWO lt where
  irrefl := h.irrefl
  trans := h.trans
  ntrans x y z h1 h2 := by
    cases e : lt x z with
    | false => rfl
    | true =>
      cases e2 : lt y x with
      | true => have := h.trans _ _ _ e2 e; rw [h2] at this; cases this
      | false => have := h.total _ _ h1 e2; subst this; rw [h2] at e; cases e

/-- A sorted permutation, of runs of equal ones one each: rising, each once. -/
theorem compact_srt {α : Type} [Inhabited α] [DecidableEq α] {lt : α → α → Bool} (h : STO lt) {l : List α} {d d' : Array α} (hd : d = l.toArray) (hp : PermIn 0 d.size d d') (hs : SortedIn lt 0 d.size d') : compactUpTo d' d'.size = srt lt l := by
  obtain ⟨hsz, _, hperm⟩ := hp
  have e1 : d'.extract 0 d.size = d' := by rw [← hsz]; exact Array.extract_size
  have e2 : d.extract 0 d.size = d := Array.extract_size
  rw [e1, e2, hd] at hperm
  have hmem : ∀ z, z ∈ l ↔ ∃ i, i < d'.size ∧ d'[i]! = z := fun z => by
    have := hperm.mem_iff (a := z)
    simp only [List.toList_toArray] at this
    rw [← this]
    constructor
    · intro hz
      obtain ⟨i, hi, e⟩ := List.getElem_of_mem hz
      have hi' : i < d'.size := by simpa using hi
      exact ⟨i, hi', by rw [getElem!_pos d' i hi']; simpa using e⟩
    · rintro ⟨i, hi, e⟩
      rw [getElem!_pos d' i hi] at e
      rw [← e]
      simp
  have key : ∀ m, m ≤ d'.size → Rise lt (compactUpTo d' m) ∧ ∀ z, z ∈ compactUpTo d' m ↔ ∃ i, i < m ∧ d'[i]! = z := by
    intro m
    induction m with
    | zero => intro _; exact ⟨by simp [compactUpTo, Rise], fun z => by simp [compactUpTo]⟩
    | succ m ih =>
      intro hm
      obtain ⟨ih1, ih2⟩ := ih (by omega)
      rw [compactUpTo_succ]
      cases hk : keeps d' m with
      | true =>
        simp only [if_true]
        refine ⟨List.pairwise_append.2 ⟨ih1, by simp, fun x hx y hy => ?_⟩, fun z => ?_⟩
        · simp only [List.mem_singleton] at hy
          subst hy
          obtain ⟨i, hi, rfl⟩ := (ih2 x).1 hx
          have hnl : lt d'[m]! d'[i]! = false := hs i m (Nat.zero_le _) hi (by omega)
          cases e : lt d'[i]! d'[m]! with
          | true => rfl
          | false =>
            have eq := h.total _ _ e hnl
            have hm0 : ¬ m = 0 := by omega
            have hkeep : d'[m]! ≠ d'[m - 1]! := by
              unfold keeps at hk
              simpa [hm0] using hk
            have hb : lt d'[m]! d'[m - 1]! = false := hs (m - 1) m (Nat.zero_le _) (by omega) (by omega)
            have ha : lt d'[m - 1]! d'[m]! = false := by
              rw [← eq]
              by_cases him : i = m - 1
              · rw [him]; exact h.irrefl _
              · exact hs i (m - 1) (Nat.zero_le _) (by omega) (by omega)
            exact absurd (h.total _ _ hb ha) hkeep
        · rw [List.mem_append, ih2 z]
          simp only [List.mem_singleton]
          constructor
          · rintro (⟨i, hi, e⟩ | e)
            · exact ⟨i, by omega, e⟩
            · exact ⟨m, by omega, e.symm⟩
          · rintro ⟨i, hi, e⟩
            by_cases him : i = m
            · subst him; exact .inr e.symm
            · exact .inl ⟨i, by omega, e⟩
      | false =>
        simp only [Bool.false_eq_true, if_false, List.append_nil]
        refine ⟨ih1, fun z => ?_⟩
        rw [ih2 z]
        have hm0 : m ≠ 0 ∧ d'[m]! = d'[m - 1]! := by
          unfold keeps at hk
          simpa using hk
        constructor
        · rintro ⟨i, hi, e⟩
          exact ⟨i, by omega, e⟩
        · rintro ⟨i, hi, e⟩
          by_cases him : i = m
          · subst him; exact ⟨i - 1, by omega, by rw [← hm0.2]; exact e⟩
          · exact ⟨i, by omega, e⟩
  obtain ⟨k1, k2⟩ := key d'.size (Nat.le_refl _)
  exact (srt_eq h k1 fun z => by rw [k2 z, hmem z]).symm

section
variable {α : Type} [Inhabited α] {enc : α → List Value} {k : Nat}
theorem holds_prefix (hk : ∀ x, (enc x).length = k) {w : World} {b o : Nat} {d : Array α} {L : List α} (h : HoldsK enc k w b o d) (hl : L.length ≤ d.size) (hg : ∀ j, j < L.length → L[j]? = some d[j]!) : HoldsK enc k w b o L.toArray := fun j hj => by
  have hj' : j < L.length * k := by simpa using hj
  have k0 : 0 < k := by
    rcases Nat.eq_zero_or_pos k with e | e
    · subst e; simp at hj'
    · exact e
  have hq : j / k < L.length := Nat.div_lt_of_lt_mul (by rw [Nat.mul_comm]; exact hj')
  have hjd : j < d.size * k := Nat.lt_of_lt_of_le hj' (Nat.mul_le_mul_right k hl)
  have := h j (by simpa using hjd)
  rw [get_flatK _ _ _ j hjd] at this
  rw [get_flatK _ _ _ j (by simpa using hj'), arr_get]
  have e : L[j / k]! = d[j / k]! := by
    have := hg (j / k) hq
    rw [List.getElem?_eq_getElem hq] at this
    rw [getElem!_pos L (j / k) hq]
    exact Option.some.inj this
  rw [e]
  exact this

theorem below_putRow {α : Type} [Inhabited α] {enc : α → Value} {B : Nat} {w : World} {b o : Nat} {d : Array α} (hB : B ≤ b) : RowKit.Below B w (putRow enc w b o d) := by
  refine ⟨rfl, rfl, rfl, ?_, fun j hj => ?_⟩
  · simp [putRow, mapBlock]
  · simp only [putRow, mapBlock, Array.getElem?_modify]
    rw [if_neg (by omega)]
theorem below_sortWorldK {B : Nat} {w : World} {b o n : Nat} {d : Array α} {os : Array Obj} (hB : B ≤ b) (hs : B ≤ w.heap.size) : RowKit.Below B w (sortWorldK enc k w b o n d os) := by
  unfold sortWorldK
  have h1 : RowKit.Below B w (putRowK enc k (Sort.ahead w n) b o d) := by
    have : RowKit.Below B (Sort.ahead w n) (putRowK enc k (Sort.ahead w n) b o d) := below_putRow hB
    exact ⟨this.os, this.tape, this.output, this.size, this.block⟩
  exact ⟨h1.os, h1.tape, h1.output, by rw [size_grow]; exact Nat.le_trans h1.size (Nat.le_add_right _ _), fun j hj => (heap_grow_old _ os (Nat.lt_of_lt_of_le (Nat.lt_of_lt_of_le hj hs) h1.size)).trans (h1.block j hj)⟩
theorem below_sortWorld {α : Type} [Inhabited α] {enc : α → Value} {B : Nat} {w : World} {b o n : Nat} {d : Array α} {os : Array Obj} (hB : B ≤ b) (hs : B ≤ w.heap.size) : RowKit.Below B w (sortWorld enc w b o n d os) := by
  unfold sortWorld
  have h1 : RowKit.Below B w (putRow enc (Sort.ahead w n) b o d) := by
    have : RowKit.Below B (Sort.ahead w n) (putRow enc (Sort.ahead w n) b o d) := below_putRow hB
    exact ⟨this.os, this.tape, this.output, this.size, this.block⟩
  exact ⟨h1.os, h1.tape, h1.output, by rw [size_grow]; exact Nat.le_trans h1.size (Nat.le_add_right _ _), fun j hj => (heap_grow_old _ os (Nat.lt_of_lt_of_le (Nat.lt_of_lt_of_le hj hs) h1.size)).trans (h1.block j hj)⟩
end

set_option maxHeartbeats 1000000 in
set_option maxRecDepth 100000 in
/-- slices.Clone. -/
theorem cloneH_call (l : List Hd) (v : Value) (w : World) (hl : Sl encH w v l) (hlen : l.length ≤ 100000) :
    Calls Tryz.prog 66 #[v] w fun e w' => ∃ v', e = .returned v' ∧ Own w.heap.size encH 2 w' v' l ∧ (w'.ownsRow w.heap.size 42 2 v' l.length (flat encH l)) ∧ RowKit.Below w.heap.size w w' := by
  obtain ⟨p, cap, rfl, h1, h2, h⟩ := hl
  cases p with
  | none =>
    have h0 : l.length = 0 := by
      rcases Nat.eq_zero_or_pos l.length with h0 | h0
      · exact h0
      · obtain ⟨g, o, e, _⟩ := h h0; cases e
    have hl0 : l = [] := List.length_eq_zero_iff.1 h0
    subst hl0
    have q22 : ∀ (w : World) (a : Option Addr) (n c n' c' : Nat), (binOp .eql 30 (.slice a n c) (.slice none n' c')).run Tryz.prog w = .ok (.bool a.isNone) w := fun w a n c n' c' => Lib.run_eql_slice_nil w _ _ a n c n' c' Tryz.underlying30
    go_enter Tryz.func66, Tryz.ntmps66
    go_wp2
    go_ret
    exact ⟨_, rfl, ⟨none, 0, rfl, Nat.le_refl _, Nat.zero_le _, fun h => absurd h (by simp)⟩, World.ownsRow_nil _ _ _ _, (by repeat (first | with_reducible exact Below.refl _ _ | with_reducible assumption | with_reducible apply Ba | with_reducible apply Bd | with_reducible apply Bn | with_reducible apply Bg | (with_reducible refine Bs ?_ (by first | (simp; done) | (simp; omega)) _) | (with_reducible refine Bt ?_ (by assumption)) | (with_reducible refine Bt ?_ (Gr.below (by assumption)))))⟩
  | some ad =>
    have HS := Lib.hid (show Sl encH w (.slice (some ad) l.length cap) l from ⟨_, cap, rfl, h1, h2, h⟩)
    have O1 := Lib.hid (show (w.alloc (.cells #[] 42)).ownsRow w.heap.size 42 2 (.slice (some ⟨w.heap.size, 0, none⟩) 0 0) 0 (flat encH []) from World.ownsRow_made _ #[] 0 (Nat.le_refl _) (Nat.zero_le _) (by simp))
    have A1 := Lib.hid (Ba (Below.refl _ w) (.cells #[] 42))
    have S1 := Lib.hid (HS.out.below A1.out)
    clear h
    have q22 : ∀ (w : World) (a : Option Addr) (n c n' c' : Nat), (binOp .eql 30 (.slice a n c) (.slice none n' c')).run Tryz.prog w = .ok (.bool a.isNone) w := fun w a n c n' c' => Lib.run_eql_slice_nil w _ _ a n c n' c' Tryz.underlying30
    go_enter Tryz.func66, Tryz.ntmps66
    go_wp2_with (at_builtin; refine wpl_app apH rfl _ _ rfl w.heap.size (by rfl) (by rfl) O1.out rfl S1.out (by simp; omega) A1.out.size ?_; intro v1 w1 hown1 hgrow1 hnil1)
    have b1 := grownB A1.out O1.out hgrow1
    go_ret
    have e : [] ++ l = l := List.nil_append l
    rw [e] at hown1
    simp only [List.length_nil, Nat.zero_add] at hown1
    exact ⟨v1, rfl, own_of_row lenH hown1 rfl, hown1, b1⟩

theorem swoH : SWO (ltOf cmpH) := by
  have e : ltOf cmpH = ltH := funext fun x => funext fun y => cmpH_lt x y
  rw [e]
  exact swo_of_sto sto_hd

set_option maxHeartbeats 1000000 in
set_option maxRecDepth 100000 in
/-- slices.SortFunc. -/
theorem sortH_call (base : Nat) (l : List Hd) (v : Value) (w : World) (hl : Own base encH 2 w v l) (hb : base ≤ w.heap.size) (hlen : l.length ≤ 100000) :
    Calls Tryz.prog 90 #[v, .func (.func 58) #[] #[]] w fun e w' => e = .returned (.tuple #[]) ∧ (∃ d' : Array Hd, PermIn 0 l.toArray.size l.toArray d' ∧ SortedIn ltH 0 l.toArray.size d' ∧ Own base encH 2 w' v d'.toList) ∧ RowKit.Below base w w' := by
  obtain ⟨p, cap, rfl, h1, h2, h⟩ := hl
  by_cases h0 : l.length = 0
  · have hl0 : l = [] := List.length_eq_zero_iff.1 h0
    subst hl0
    have hcon := AnyF.slices_SortFunc_none (P := Tryz.prog) (ρ := Tryz.sortH_ren) { Tryz.sortH with } p cap (.func (.func 58) #[] #[]) w
    refine hcon.mono ?_
    rintro e w' ⟨rfl, rfl⟩
    exact ⟨rfl, ⟨#[], ⟨rfl, fun i _ => rfl, by simp⟩, fun i j _ _ hj => absurd hj (by simp), ⟨p, cap, rfl, h1, h2, fun h => absurd h (by simp)⟩⟩, Below.refl _ _⟩
  · obtain ⟨g, rfl, hbg, hgl, hH⟩ := h (by omega)
    have eg : ∀ args w, (callFunc 58 args).run Tryz.prog w = .ok (.enter 58 args) w := enters_of Tryz.func58 (by kernel_rfl) rfl
    have hcon := AnyQ.slices_SortFunc Tryz.sortH 2 Tryz.isAgg42 Tryz.sizeOf42 encH lenH oneH cmpH swoH 58 #[] g 0 cap l.toArray w eg (fun m os dk _ x y => cmpH_any x y _) hH hgl (by simp; omega)
    have e2 : ltOf cmpH = ltH := funext fun x => funext fun y => cmpH_lt x y
    rw [e2] at hcon
    refine hcon.mono ?_
    rintro e w' ⟨rfl, d', n, os, hp, hs, rfl⟩
    have hds : d'.size = l.length := by rw [hp.1]; simp
    have hdl : d'.toList.length = l.length := by rw [Array.length_toList, hds]
    refine ⟨rfl, ⟨d', hp, hs, ⟨_, cap, by rw [hdl], by rw [hdl]; exact h1, h2, fun _ => ⟨g, rfl, hbg, ?_, ?_⟩⟩⟩, below_sortWorldK hbg hb⟩
    · exact Nat.lt_of_lt_of_le hgl (size_sortWorldK_c encH 2 w g 0 n d' os)
    · rw [Array.toArray_toList]
      exact holdsK_sortWorldK_c encH 2 w g 0 l.toArray d' n os hH hgl (by rw [hds]; simp)

set_option maxHeartbeats 1000000 in
set_option maxRecDepth 100000 in
/-- order.rising: rising, each once; a copy. -/
theorem risingH_call (l : List Hd) (v : Value) (w : World) (hl : Sl encH w v l) (hlen : l.length ≤ 100000) :
    Calls Tryz.prog 57 #[.func (.func 58) #[] #[], v] w fun e w' => ∃ v', e = .returned v' ∧ Own w.heap.size encH 2 w' v' (srt ltH l) ∧ RowKit.Below w.heap.size w w' := by
  go_enter Tryz.func57, Tryz.ntmps57
  go_wp2_with fail
  refine (cloneH_call l v w hl hlen).mono ?_
  rintro e w1 ⟨v1, rfl, ho1, _, hb1⟩
  have HO1 := Lib.hid ho1
  have HB1 := Lib.hid hb1
  clear ho1 hb1 hl
  go_wp2_with fail
  refine (sortH_call w.heap.size l v1 w1 HO1.out HB1.out.size hlen).mono ?_
  rintro e w2 ⟨rfl, ⟨d', hp, hs, ho2⟩, hb2⟩
  have hds : d'.size = l.length := by rw [hp.1]; simp
  have HSRT := Lib.hid (compact_srt sto_hd rfl hp hs)
  have HB2 := Lib.hid (HB1.out.trans hb2)
  obtain ⟨p, cap, hv1, h1, h2, h⟩ := ho2
  subst hv1
  have hcm : cap ≤ 9223372036854775807 := by unfold maxLen at h2; omega
  by_cases h0 : d'.size = 0
  · have hd0 : d' = #[] := Array.size_eq_zero_iff.1 h0
    subst hd0
    have HS0 := Lib.hid (show srt ltH l = [] by rw [← HSRT.out]; rfl)
    have H2 := Lib.hid h2
    clear hp hs h h1 hb2 h2
    go_wp2_with fail
    refine (show Calls Tryz.prog 91 #[.slice p 0 cap] w2 fun e w' => e = .returned (.slice p 0 cap) ∧ w' = w2 by
      go_enter Tryz.func91, Tryz.ntmps91
      go_wp2
      go_ret
      exact ⟨rfl, rfl⟩).mono ?_
    rintro e w3 ⟨rfl, rfl⟩
    go_wp2
    go_ret
    exact ⟨_, rfl, by rw [HS0.out]; exact ⟨p, cap, rfl, Nat.zero_le _, H2.out, fun h => absurd h (by simp)⟩, HB2.out⟩
  · obtain ⟨g, rfl, hbg, hgl, hH⟩ := h (by rw [Array.length_toList]; omega)
    rw [Array.toArray_toList] at hH
    rw [Array.length_toList] at h1 ⊢
    have hcon := compactH_call w.heap.size g cap d' w2 hH hbg (by omega) h1 hcm
    have HC := Lib.hid hcon
    have H2 := Lib.hid h2
    have HDS := Lib.hid hds
    clear hcon hp hs h hH hb2 h2 hds
    go_wp2_with fail
    refine HC.out.mono ?_
    rintro e w3 ⟨rfl, ⟨d2, hs2, hlow, hH2⟩, hb3⟩
    rw [HSRT.out] at hlow ⊢
    have hle : (srt ltH l).length ≤ d2.size := by have hds := HDS.out; have := srt_len ltH l; omega
    have HH := Lib.hid (holds_prefix lenH hH2 hle hlow)
    have HB3 := Lib.hid (HB2.out.trans hb3)
    have hgl3 : g < w3.heap.size := Nat.lt_of_lt_of_le hgl hb3.size
    clear hlow hH2 hb3
    go_wp2
    go_ret
    exact ⟨_, rfl, ⟨_, cap, rfl, by omega, H2.out, fun _ => ⟨g, rfl, hbg, hgl3, HH.out⟩⟩, HB3.out⟩

theorem swoP : SWO (ltOf cmpP) := by
  have e : ltOf cmpP = ltP := funext fun x => funext fun y => cmpP_lt x y
  rw [e]
  exact swo_of_sto sto_pr

set_option maxHeartbeats 400000 in
/-- order.Handles. -/
theorem handles_call (l : List Hd) (v : Value) (w : World) (hl : Sl encH w v l) (hlen : l.length ≤ 100000) :
    Calls Tryz.prog 29 #[v] w fun e w' => ∃ v', e = .returned v' ∧ Own w.heap.size encH 2 w' v' (srt ltH l) ∧ RowKit.Below w.heap.size w w' := by
  go_enter Tryz.func29, Tryz.ntmps29
  go_wp2_with fail
  refine (risingH_call l v w hl hlen).mono ?_
  rintro e w1 ⟨v1, rfl, ho1, hb1⟩
  have HO1 := Lib.hid ho1
  have HB1 := Lib.hid hb1
  clear ho1 hb1 hl
  go_wp2
  go_ret
  exact ⟨_, rfl, HO1.out, HB1.out⟩
end Go.Proofs.YtahichjiphjapaaGreatDoor
