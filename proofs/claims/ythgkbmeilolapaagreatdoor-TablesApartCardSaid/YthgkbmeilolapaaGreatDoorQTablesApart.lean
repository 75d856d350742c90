import Derived.Test.YthgkbmeilolapaaGreatDoorZ15
import Derived.Test.YthgkbmeilolapaaGreatDoorZ14
import Derived.Test.YthgkbmeilolapaaGreatDoorZ4
import Derived.Deep.CutBlock
import Derived.Test.YthgkbmeilolapaaGreatDoorZ13

/-
  The walk of TablesApart.
-/
namespace Go.Proofs.YthgkbmeilolapaaGreatDoor
set_option linter.unusedSimpArgs false
set_option linter.unusedVariables false
open Go.RowKit Go.Sort Go.Lib Go.Shelf

theorem Era.up {base base' : Nat} {w : World} {A : Nat → Addr} (h : Era base w A) (hb : base ≤ base') : Era base' w A := by
  obtain ⟨w0, h1, h2, h3, h4⟩ := h
  exact ⟨w0, h1, h2, h3, Nat.le_trans h4 hb⟩
section
variable {N : Nat → Prop} {base ps : Nat} {w w' : World} {L L' : List En} {A : Nat → Addr}
/-- A clone, in blocks of its own. -/
theorem cloneS (h : StoO N base w ps L) : Calls Tryz.prog 11 #[psP ps] w fun e w' => ∃ pn, e = .returned (psP pn) ∧ StoO NoN w.heap.size w' pn L ∧ RowKit.Below w.heap.size w w' :=
  h.read fun M bt bp tt pl MT hS => (sclone_call hS).mono fun e w' ⟨pn, h1, h2, h3⟩ => ⟨pn, h1, ⟨_, h2, fun b e => ⟨e.elim (fun e => e.elim) (fun e => e.1), fun e => e.elim⟩, fun b e => e.elim, h3.size⟩, h3⟩
end
/-- A call's block. -/
abbrev OpB8 (kd h1 h2 : Int) (rv : Value) (x1 x2 x3 : Int) : Obj := .cells #[.int .i64 kd, .int .i64 h1, .int .i64 h2, rv, .int .i64 x1, .int .i64 x2, .int .i64 x3] 36
theorem seven_cells {w : World} {b : Nat} {kd h1 h2 : Int} {rv : Value} {x1 x2 x3 : Int} (h : w.heap[b]? = some (OpB8 kd h1 h2 rv x1 x2 x3)) :
    w.cell? ⟨b, 0, none⟩ = some (.int .i64 kd) ∧ w.cell? ⟨b, 1, none⟩ = some (.int .i64 h1) ∧ w.cell? ⟨b, 2, none⟩ = some (.int .i64 h2) ∧ w.cell? ⟨b, 3, none⟩ = some rv ∧ w.cell? ⟨b, 4, none⟩ = some (.int .i64 x1) ∧ w.cell? ⟨b, 5, none⟩ = some (.int .i64 x2) ∧ w.cell? ⟨b, 6, none⟩ = some (.int .i64 x3) := by
  simp [World.cell?, h]
theorem atQ {w : World} {l : List Oq} {g o : Nat} (h : ∀ j u, (flat encQ l)[j]? = some u → w.cell? ⟨g, o + j, none⟩ = some u) {i : Nat} (hi : i < l.length) :
    w.cell? ⟨g, o + i * 7, none⟩ = some (.int .i64 l[i]!.1) ∧ w.cell? ⟨g, o + i * 7 + 1, none⟩ = some (.int .i64 l[i]!.2.1.1) ∧ w.cell? ⟨g, o + i * 7 + 2, none⟩ = some (.int .i64 l[i]!.2.1.2) ∧ w.cell? ⟨g, o + i * 7 + 3, none⟩ = some l[i]!.2.2.1.1 ∧
    w.cell? ⟨g, o + i * 7 + 4, none⟩ = some (.int .i64 l[i]!.2.2.2.1) ∧ w.cell? ⟨g, o + i * 7 + 5, none⟩ = some (.int .i64 l[i]!.2.2.2.2.1) ∧ w.cell? ⟨g, o + i * 7 + 6, none⟩ = some (.int .i64 l[i]!.2.2.2.2.2) :=
  ⟨sl_at lenQ h hi 0 _ rfl, sl_at lenQ h hi 1 _ rfl, sl_at lenQ h hi 2 _ rfl, sl_at lenQ h hi 3 _ rfl, sl_at lenQ h hi 4 _ rfl, sl_at lenQ h hi 5 _ rfl, sl_at lenQ h hi 6 _ rfl⟩

section
variable {A : Nat → Addr}
set_option maxHeartbeats 8000000 in
set_option maxRecDepth 100000 in
theorem tablesApart_walk (l : List Rr) (v : Value) (s : List Oq) (u : Value) (w : World) (hl : Sl encRr w v l) (hr : ∀ r ∈ l, Sl encV w r.1 r.2) (hs : Sl encQ w u s) (ho : ∀ x ∈ s, Sl encV w x.2.2.1.1 x.2.2.1.2 ∧ HdOk x.2.1 ∧ (Lit.int .i64 x.2.2.2.1).wf = true) (hE : Er8 w A) (hT : TabW w) :
    Calls Tryz.prog 7 #[v, u] w fun e w' => e = .returned (.bool true) ∧ RowKit.Below w.heap.size w w' := by
  have C0 := Lib.hid (alive8_any w hE hT)
  have HA := Lib.hid (Era.of hE hT (Nat.le_refl w.heap.size))
  have HR := Lib.hid hr
  have HO := Lib.hid ho
  have HV := Lib.hid hl.slN
  have HU := Lib.hid hs.slN
  obtain ⟨pv, cv, rfl, hcv, hcm, _⟩ := hl
  obtain ⟨pu, cu, rfl, hcu, hcn, _⟩ := hs
  have hcv2 : l.length ≤ 9223372036854775807 := by unfold maxLen at hcm; omega
  have hcu2 : s.length ≤ 9223372036854775807 := by unfold maxLen at hcn; omega
  clear hE hT hr ho
  by_cases h20 : l.length > 20
  · have h20' : (l.length : Int) > 20 := by omega
    go_enter Tryz.func7, Tryz.ntmps7
    go_wp2_with fail
    refine C0.out.mono ?_
    rintro e w1 ⟨rfl, hb1⟩
    go_wp2
    go_ret
    exact ⟨rfl, hb1⟩
  · have h20' : ¬ (l.length : Int) > 20 := by omega
    by_cases h40 : s.length > 40
    · have h40' : (s.length : Int) > 40 := by omega
      go_enter Tryz.func7, Tryz.ntmps7
      go_wp2_with fail
      refine C0.out.mono ?_
      rintro e w1 ⟨rfl, hb1⟩
      go_wp2
      go_ret
      exact ⟨rfl, hb1⟩
    · have h40' : ¬ (s.length : Int) > 40 := by omega
      go_enter Tryz.func7, Tryz.ntmps7
      go_wp2_with fail
      refine C0.out.mono ?_
      rintro e w2 ⟨rfl, hb2⟩
      have B2 := Lib.hid hb2
      clear hb2 C0
      have NW := Lib.hid (newS (N := NoN) B2.out.size (fun b e => e.elim))
      go_wp2_with fail
      refine NW.out.mono ?_
      rintro e w3 ⟨ps, rfl, hS3, hb3⟩
      have S3 := Lib.hid hS3
      have B3 := Lib.hid (Bt B2.out hb3)
      clear hS3 hb3 NW B2
      go_wp2
      go_loopw [28] (fun s28 wr => ∃ (k : Nat) (L : List En), s28 = .int .i64 k ∧ k ≤ l.length ∧ Hid (StoO NoN w.heap.size wr ps L) ∧ Hid (Upto l k L) ∧ Hid (RowKit.Below w.heap.size w wr)) (fun i _ => l.length - (intOf i).toNat)
      case atStart => exact ⟨0, [], rfl, Nat.zero_le _, S3, Lib.hid (upto_zero l), B3⟩
      case round =>
        obtain ⟨k, L, rfl, hk, HS, HP, HB⟩ := hrel
        by_cases hkn : k < l.length
        · have hkz : (k : Int) < (l.length : Int) := by omega
          have hmem : l[k]! ∈ l := by rw [getElem!_pos l k hkn]; exact List.getElem_mem _
          have hsl := HR.out _ hmem
          have UP := Lib.hid (fun h32 hr => upto_step HP.out (k := k) h32 hr)
          obtain ⟨p', c', e', _, _, hcell⟩ := HV.out
          simp only [Value.slice.injEq] at e'
          obtain ⟨rfl, _, rfl⟩ := e'
          obtain ⟨g, o, rfl, hg, _, hcells⟩ := hcell (by omega)
          have v0 := Bc HB.out hg (atRr hcells hkn)
          have hgr : g < wr.heap.size := Nat.lt_of_lt_of_le hg HB.out.size
          generalize l[k]! = y at *
          obtain ⟨yv, yr⟩ := y
          dsimp only at *
          have HY := Lib.hid hsl.slN
          obtain ⟨pk, ck, rfl, _, hck, _⟩ := hsl
          have hck2 : yr.length ≤ 9223372036854775807 := by unfold maxLen at hck; omega
          clear hcells hcell hmem
          by_cases hy : yr.length > 20
          · have hy' : (yr.length : Int) > 20 := by omega
            go_wp2
            go_ret
            exact ⟨rfl, HB.out⟩
          · have hy' : ¬ (yr.length : Int) > 20 := by omega
            have CR := Lib.hid (rright_call yr _ wr (HY.out.sl.below HB.out) (by omega))
            cases hrb : rightB yr with
            | false =>
              rw [hrb] at CR
              go_wp2_with fail
              refine CR.out.mono ?_
              rintro e w5 ⟨rfl, hb5⟩
              have B5 := Bt HB.out hb5
              go_wp2
              go_ret
              exact ⟨rfl, B5⟩
            | true =>
              rw [hrb] at CR
              obtain ⟨p1, U1⟩ := UP.out (by omega) ((rightB_iff _).1 hrb)
              have HU1 := Lib.hid U1
              go_wp2_with fail
              refine CR.out.mono ?_
              rintro e w5 ⟨rfl, hb5⟩
              have CP := Lib.hid (putS (HS.out.below hb5) (k : Int) 1 (hdOk_idx k (by omega)) yr _ (HY.out.below (Bt HB.out hb5)) (fun b e => .inl e) (by omega) (HA.out.below (Bt HB.out hb5)))
              rw [p1, errV_no] at CP
              have B5 := Lib.hid (Bt HB.out hb5)
              clear hb5 v0 hgr U1 UP p1 CR
              go_wp2_with fail
              refine CP.out.mono ?_
              rintro e w6 ⟨rfl, hS6, ht6⟩
              have S6 := Lib.hid hS6
              have B6 := Lib.hid (B5.out.trans (OffT.below ht6 B5.out.size))
              clear hS6 ht6 CP B5
              go_wp2
              go_roundw
              case measure => simp [intOf]; omega
              case rel => exact ⟨k + 1, _, by go_num, by omega, S6, HU1, B6⟩
        · have hkk : k = l.length := by omega
          subst hkk
          have CC := Lib.hid (cloneS HS.out)
          clear S3 B3
          go_wp2_with fail
          refine CC.out.mono ?_
          rintro e w4 ⟨pn, rfl, hS4, hb4⟩
          have S4 := Lib.hid hS4
          have B4 := Lib.hid hb4
          have HAc := Lib.hid (Era.up (HA.out.below HB.out) HB.out.size)
          clear hS4 hb4 CC
          generalize hwc : wr = wc at *
          clear hwc wr
          go_wp2
          go_loopw [54] (fun s54 wr => ∃ (k : Nat) (Lc : List En), s54 = .int .i64 k ∧ k ≤ s.length ∧ Hid (StoO NoN wc.heap.size wr pn Lc) ∧ Hid (RowKit.Below wc.heap.size wc wr)) (fun i _ => s.length - (intOf i).toNat)
          case atStart => exact ⟨0, L, rfl, Nat.zero_le _, S4, B4⟩
          case round =>
            obtain ⟨k, Lc, rfl, hk, HC, HZ⟩ := hrel
            have HBz := Lib.hid (Bt HB.out HZ.out)
            by_cases hkn : k < s.length
            · have hkz : (k : Int) < (s.length : Int) := by omega
              have hmem : s[k]! ∈ s := by rw [getElem!_pos s k hkn]; exact List.getElem_mem _
              have hop := HO.out _ hmem
              obtain ⟨p', c', e', _, _, hcell⟩ := HU.out
              simp only [Value.slice.injEq] at e'
              obtain ⟨rfl, _, rfl⟩ := e'
              obtain ⟨g, o, rfl, hg, _, hcells⟩ := hcell (by omega)
              obtain ⟨v0, v1, v2, v3, v4, v5, v6⟩ := atQ hcells hkn
              have hgr : g < wr.heap.size := Nat.lt_of_lt_of_le hg HBz.out.size
              generalize s[k]! = y at *
              obtain ⟨kd, ⟨x1, x2⟩, ⟨rv, rl⟩, y1, y2, y3⟩ := y
              dsimp only at *
              obtain ⟨hsl, hx, hyk⟩ := hop
              replace v0 := Bc HBz.out hg v0
              replace v1 := Bc HBz.out hg v1
              replace v2 := Bc HBz.out hg v2
              replace v3 := Bc HBz.out hg v3
              replace v4 := Bc HBz.out hg v4
              replace v5 := Bc HBz.out hg v5
              replace v6 := Bc HBz.out hg v6
              have HY := Lib.hid hsl.slN
              obtain ⟨pk, ck, rfl, _, hck, _⟩ := hsl
              have hck2 : rl.length ≤ 9223372036854775807 := by unfold maxLen at hck; omega
              have bA := Ba (Below.refl _ wr) (OpB8 kd x1 x2 (.slice pk rl.length ck) y1 y2 y3)
              obtain ⟨o0, o1, o2, o3, o4, o5, o6⟩ := seven_cells (heap_alloc_new wr (OpB8 kd x1 x2 (.slice pk rl.length ck) y1 y2 y3))
              have hol := cell_lt o0
              have SA := Lib.hid (HC.out.below bA)
              have BA := Lib.hid (Bt HZ.out bA)
              clear hcells hcell hmem
              by_cases hy : rl.length > 20
              · have hy' : (rl.length : Int) > 20 := by omega
                go_wp2
                go_ret
                exact ⟨rfl, Bt HB.out BA.out⟩
              · have hy' : ¬ (rl.length : Int) > 20 := by omega
                by_cases k1 : kd = 1
                · subst k1
                  have CP := Lib.hid (putS SA.out x1 x2 hx rl _ (HY.out.below (Bt HB.out BA.out)) (fun b e => .inl (Nat.lt_of_lt_of_le e HB.out.size)) (by omega) (HAc.out.below BA.out))
                  clear bA
                  go_wp2_with fail
                  refine CP.out.mono ?_
                  rintro e w6 ⟨rfl, hS6, ht6⟩
                  have S6 := Lib.hid hS6
                  have B6 := Lib.hid (BA.out.trans (OffT.below ht6 BA.out.size))
                  clear hS6 ht6 CP BA SA o0 o1 o2 o3 o4 o5 o6 hol
                  go_wp2
                  go_roundw
                  case measure => simp [intOf]; omega
                  case rel => exact ⟨k + 1, _, by go_num, by omega, S6, B6⟩
                · by_cases k2 : kd = 2
                  · subst k2
                    have CP := Lib.hid (takeS SA.out x1 x2 hx (HAc.out.below BA.out))
                    clear bA
                    go_wp2_with fail
                    refine CP.out.mono ?_
                    rintro e w6 ⟨⟨vv, rfl, _⟩, hS6, ht6⟩
                    have S6 := Lib.hid hS6
                    have B6 := Lib.hid (BA.out.trans (OffT.below ht6 BA.out.size))
                    clear hS6 ht6 CP BA SA o0 o1 o2 o3 o4 o5 o6 hol
                    go_wp2
                    go_roundw
                    case measure => simp [intOf]; omega
                    case rel => exact ⟨k + 1, _, by go_num, by omega, S6, B6⟩
                  · by_cases k3 : kd = 3
                    · subst k3
                      have CP := Lib.hid (addS SA.out x1 x2 hx y1 y2 y3 (HAc.out.below BA.out))
                      clear bA
                      go_wp2_with fail
                      refine CP.out.mono ?_
                      rintro e w6 ⟨rfl, hS6, ht6⟩
                      have S6 := Lib.hid hS6
                      have B6 := Lib.hid (BA.out.trans (OffT.below ht6 BA.out.size))
                      clear hS6 ht6 CP BA SA o0 o1 o2 o3 o4 o5 o6 hol
                      go_wp2
                      go_roundw
                      case measure => simp [intOf]; omega
                      case rel => exact ⟨k + 1, _, by go_num, by omega, S6, B6⟩
                    · by_cases k4 : kd = 4
                      · subst k4
                        have CP := Lib.hid (remS SA.out x1 x2 hx y1 (HAc.out.below BA.out))
                        clear bA
                        go_wp2_with fail
                        refine CP.out.mono ?_
                        rintro e w6 ⟨rfl, hS6, ht6⟩
                        have S6 := Lib.hid hS6
                        have B6 := Lib.hid (BA.out.trans (OffT.below ht6 BA.out.size))
                        clear hS6 ht6 CP BA SA o0 o1 o2 o3 o4 o5 o6 hol
                        go_wp2
                        go_roundw
                        case measure => simp [intOf]; omega
                        case rel => exact ⟨k + 1, _, by go_num, by omega, S6, B6⟩
                      · by_cases k5 : kd = 5
                        · subst k5
                          have CP := Lib.hid (setS SA.out x1 x2 hx y1 y2 y3 hyk (HAc.out.below BA.out))
                          clear bA
                          go_wp2_with fail
                          refine CP.out.mono ?_
                          rintro e w6 ⟨rfl, hS6, ht6⟩
                          have S6 := Lib.hid hS6
                          have B6 := Lib.hid (BA.out.trans (OffT.below ht6 BA.out.size))
                          clear hS6 ht6 CP BA SA o0 o1 o2 o3 o4 o5 o6 hol
                          go_wp2
                          go_roundw
                          case measure => simp [intOf]; omega
                          case rel => exact ⟨k + 1, _, by go_num, by omega, S6, B6⟩
                        · clear bA
                          go_wp2
                          go_roundw
                          case measure => simp [intOf]; omega
                          case rel => exact ⟨k + 1, _, by go_num, by omega, SA, BA⟩
            · have S7 := Lib.hid (HS.out.below HZ.out)
              generalize hw7 : wr = w7 at *
              clear hw7 wr S4 B4 HC
              go_wp2
              go_loopw [106] (fun s106 wr => ∃ (k : Nat), s106 = .int .i64 k ∧ k ≤ l.length ∧ Hid (RowKit.Below w7.heap.size w7 wr)) (fun i _ => l.length - (intOf i).toNat)
              case atStart => exact ⟨0, rfl, Nat.zero_le _, Lib.hid (Below.refl _ _)⟩
              case round =>
                obtain ⟨k, rfl, hk, HZ3⟩ := hrel
                have HB7 := Lib.hid (Bt HBz.out HZ3.out)
                by_cases hkn : k < l.length
                · have hkz : (k : Int) < (l.length : Int) := by omega
                  have hmem : l[k]! ∈ l := by rw [getElem!_pos l k hkn]; exact List.getElem_mem _
                  have hsl := HR.out _ hmem
                  have hent := upto_ent HP.out hkn
                  have CE := Lib.hid (entS (S7.out.below HZ3.out) k 1 (hdOk_idx k (by omega)) (HA.out.below HB7.out))
                  rw [hent.1, hent.2.1, errV_no] at CE
                  obtain ⟨p', c', e', _, _, hcell⟩ := HV.out
                  simp only [Value.slice.injEq] at e'
                  obtain ⟨rfl, _, rfl⟩ := e'
                  obtain ⟨g, o, rfl, hg, _, hcells⟩ := hcell (by omega)
                  have v0 := Bc HB7.out hg (atRr hcells hkn)
                  have hgr : g < wr.heap.size := Nat.lt_of_lt_of_le hg HB7.out.size
                  clear hent
                  generalize l[k]! = y at *
                  obtain ⟨yv, yr⟩ := y
                  dsimp only at *
                  have HY := Lib.hid (hsl.below HB7.out)
                  clear hcells hcell hmem hsl
                  go_wp2_with fail
                  refine CE.out.mono ?_
                  rintro e w8 ⟨v8, rfl, hs8, hb8⟩
                  obtain ⟨p8, c8, rfl, _, _, _⟩ := id hs8
                  have bE := Ba (Below.refl _ w8) (.cells #[.int .i64 (k : Int), .int .i64 1, .slice p8 yr.length c8] 38)
                  have B8 := Lib.hid (Bt hb8 bE)
                  have E8 := Lib.hid (heap_alloc_new w8 (.cells #[.int .i64 (k : Int), .int .i64 1, .slice p8 yr.length c8] 38))
                  have CS := Lib.hid (same_call yr yr _ _ _ (hs8.below bE) (HY.out.below B8.out))
                  have htt : decide (yr = yr) = true := decide_eq_true rfl
                  rw [htt] at CS
                  obtain ⟨⟨b0, b1, b2⟩, _, _, _⟩ := three_cells E8.out
                  have hbl := cell_lt b0
                  clear hs8 hb8 bE CE v0 hgr
                  go_wp2_with fail
                  refine CS.out.mono ?_
                  rintro e w9 ⟨rfl, hg9⟩
                  have B9 := Lib.hid (Bt HZ3.out (Bt B8.out hg9.below))
                  clear hg9 b0 b1 b2 hbl CS
                  go_wp2
                  go_roundw
                  case measure => simp [intOf]; omega
                  case rel => exact ⟨k + 1, by go_num, by omega, B9⟩
                · have CL := Lib.hid (lenS (S7.out.below HZ3.out))
                  rw [HP.out.len] at CL
                  go_wp2_with fail
                  refine CL.out.mono ?_
                  rintro e w9 ⟨rfl, rfl⟩
                  go_wp2
                  go_ret
                  exact ⟨rfl, HB7.out⟩
end
end Go.Proofs.YthgkbmeilolapaaGreatDoor

/-
  Whatever rows and script it is given, TablesApart answers true and leaves its arguments as they were. Conditions: the errors' variables that it names read as the program's text lays them (the card ties them to that text).
-/
namespace Go.Proofs.YthgkbmeilolapaaGreatDoor
set_option linter.unusedSimpArgs false
set_option linter.unusedVariables false
open Go.ChangeShapes Go.WideShapes Go.ChangeAt Go.RowKit Go.Joins

set_option maxRecDepth 100000 in
theorem tablesApart_lifted (os : Os) (started : os.Started) (H : Type) (enc : TypeId × Value → H) :
    ReturnsInHanded {} Tryz.checked os 7 .any (fun w args => (Rows.tablesApartSpec.pre enc Tryz.prog Tryz.f7 [] false w args ∧ laidMetH Tryz.prog Rows.tablesApartRow.laid w) ∧ sizedMet enc Tryz.prog Tryz.f7 (OpenSpec.ofChange Rows.tablesApartSpec) false w args)
      (Rows.tablesApartSpec.post enc Tryz.prog Tryz.f7 false true false false) := by
  refine returnsInHanded_of_change_and (C := Tryz.checked) (X := fun w _ => laidMetH Tryz.prog Rows.tablesApartRow.laid w) (fun _ _ _ hh h => h.of_heap hh) own started (by kernel_rfl) Tryz.func7
    (ChangeSpec.witness_shaped (enc := enc) (C := Tryz.checked) (os := os) (X := fun w _ => laidMetH Tryz.prog Rows.tablesApartRow.laid w) false (World.doorLaid Tryz.prog 220 os) #[.slice none 0 0, .slice none 0 0] 8 rfl (World.shaped_of_RefB (by kernel_rfl) (by kernel_rfl)) (by kernel_rfl) (by kernel_rfl) (by kernel_rfl) (laidMetH_of_parts3 (fuel := 8) (laidMet_of_run' 8 (by kernel_rfl) (by kernel_rfl)) (by kernel_rfl) (by kernel_rfl))) ?_
  intro W base args ds gs before hval0 hW _ _ hL _
  have hval : ∀ (j : Nat) t v, Tryz.f7.params[j]? = some t → args[j]? = some v → Value.okWide Tryz.prog W .any base t v := hval0
  have hW' := hW
  obtain ⟨p, q, hA0, hV, rfl, hfz, hnd⟩ := hW
  have hA : DataW.TrodAll enc Tryz.prog W 0 (fun _ => true) true Tryz.f7.params.toList args.toList ds p := hA0
  rw [Tryz.params7] at hA hval
  obtain ⟨v0, vs0, d0, ds0, p0, q0, hargs, rfl, rfl, h0, r0⟩ := trodAll_cons hA
  obtain ⟨v1, vs1, d1, ds1, p1, q1, rfl, rfl, rfl, h1, r1⟩ := trodAll_cons r0
  obtain ⟨rfl, rfl, rfl⟩ := trodAll_nil r1
  obtain rfl : args = #[v0, v1] := by cases args; simp_all
  obtain ⟨l0, hl0, hr0⟩ := open_rows (hval 0 60 v0 rfl rfl) h0
  obtain ⟨l1, hl1, ho1⟩ := open_ops8 (hval 1 22 v1 rfl rfl) h1
  clear hA0 hval0
  have hL' : laidMet Tryz.prog Rows.tablesApartRow.laid W := by
    have h := hL
    rw [MakeChecks.laidMetH_plain _ _ _ (by kernel_rfl)] at h
    exact h
  have hT := tab_of hL'
  obtain ⟨A, hE⟩ := er8_list hL' (.tail _ (.head _)) (.tail _ (.tail _ (.head _))) (.tail _ (.tail _ (.tail _ (.head _)))) (.tail _ (.tail _ (.tail _ (.tail _ (.head _))))) (.tail _ (.tail _ (.tail _ (.tail _ (.tail _ (.head _)))))) (.tail _ (.tail _ (.tail _ (.tail _ (.tail _ (.tail _ (.head _)))))))
  refine (tablesApart_walk l0 v0 l1 v1 W hl0 hr0 hl1 ho1 hE hT).mono fun e W' ⟨he, hb⟩ => ?_
  subst he
  exact ⟨_, rfl, law_post laidOut (by kernel_rfl) rfl (by kernel_rfl) Tryz.underlying4 (fun ds hd => by match ds, hd with | [_, _], _ => rfl) hW' hb⟩

theorem tablesApart_row : Rows.TablesApartSaid :=
  OpenClaim.holds_of_wide 7 Tryz.f7 rfl rfl rfl rfl rfl rfl rfl ⟨rfl, rfl, rfl, rfl, rfl⟩ rfl rfl rfl rfl rfl (by kernel_rfl) Tryz.func7 (by kernel_rfl)
    (of_decide_eq_true (by kernel_rfl)) (by unfold Func.isWrapper; first | (rw [if_pos (by decide +kernel)]; kernel_rfl) | (rw [if_neg (by decide +kernel)]; exact ⟨rfl, rfl⟩))
    (fun os started H enc _ => tablesApart_lifted os started H enc)

theorem tablesApart_holds : Rows.TablesApartCardSaid :=
  Claim7.holds_tied_plain_at .later [] Rows.tablesApartCard.laidKinds true Rows.tablesApartCard.stood.harness true
    tablesApart_row (fun _ h => by cases h) (by kernel_rfl) (fun _ h => by cases h) tablesApart_row_tie rfl ⟨rfl, rfl⟩ (by kernel_rfl) rfl
    (fun f fn hf hfn => by
      obtain rfl : f = 7 := Option.some.inj ((show Tryz.prog.funcNamed "paddock/paddocklaw08.TablesApart" = some 7 by kernel_rfl).symm.trans hf) |>.symm
      obtain rfl : fn = Tryz.f7 := (Option.some.inj (Tryz.func7.symm.trans hfn)).symm
      exact ⟨by kernel_rfl, fun j t ht => by
        rw [Tryz.params7] at ht
        have hm : t ∈ [60, 22] := by
          have := Array.mem_of_getElem? ht
          simp at this ⊢
          omega
        have hall : ([60, 22].all fun u => !Tryz.prog.wantsStandIn u) = true := by kernel_rfl
        exact (show Tryz.prog.wantsStandIn t = false by simpa using List.all_eq_true.1 hall t hm)⟩)
    (by kernel_rfl)
#print axioms tablesApart_holds
end Go.Proofs.YthgkbmeilolapaaGreatDoor
