/-
  The walk of AxisPlays.
-/
import Derived.Test.YtbodefigeiaodaaDoorRi11
import Derived.Test.YtbodefigeiaodaaDoorRh11
import Derived.Test.YtbodefigeiaodaaDoorErrK
import Derived.Test.YtbodefigeiaodaaDoorPs11
import Derived.Deep.CutBlock
import Derived.Deep.DeepCutAuto
namespace Go.Proofs.YtbodefigeiaodaaDoor
set_option linter.unusedSimpArgs false
set_option linter.unusedVariables false
open Go.RowKit Go.Sort Go.Lib Go.Shelf

/-- A handle has no span, or its span goes. -/
theorem without_cases {B : List Spn} (ho : Once B) (h : Hd) : (spF B h = none ∧ without B h = B) ∨ ∃ s : IV, (h, s) ∈ B ∧ (without B h).length + 1 = B.length := by
  cases hq : spF B h with
  | none => exact .inl ⟨rfl, without_none (spF_no hq)⟩
  | some s => exact .inr ⟨s, spF_some hq, without_one ho (s := (h, s)) (spF_some hq)⟩
theorem once_putS {B : List Spn} (ho : Once B) (h : Hd) (s : IV) : Once (without B h ++ [(h, s)]) := (ho.without h).snoc (fun b hb => (mem_without.1 hb).2)
theorem asks_dropA {base : Nat} {w : World} {pa : Nat} {L : List Spn} (x y s1 s2 : Int) (hx : HdOk (x, y)) (hs : ((x, y), (s1, s2)) ∈ L) (hl : L.length ≤ 200) :
    Asks base w (AxB pa L) (AxB pa (without L (x, y))) 15 #[.pointer (some ⟨pa, 0, none⟩), .agg #[.int .i64 x, .int .i64 y]] (fun e => e = .returned .nilIface) := fun M _ h => drop_some h x y s1 s2 hx hs hl
theorem own_rowatS {α : Type} {enc : α → List Value} {et k : Nat} {w : World} {base : Nat} {v : Value} {l : List α} {Z : Nat → Prop} (h : w.ownsRow base et k v l.length (flat enc l)) (hz : ∀ b, base ≤ b → b < w.heap.size → Z b) : RowAt enc et k w Z v l := ⟨row_mono h (Nat.zero_le _), fun g hg => hz g (row_base0 h hg) (row_lt h hg)⟩
theorem cells7' {w : World} {b : Nat} {t : TypeId} {a1 a2 a3 a4 a5 a6 a7 : Value} (h : w.heap[b]? = some (.cells #[a1, a2, a3, a4, a5, a6, a7] t (0, 0))) :
    w.cell? ⟨b, 0, none⟩ = some a1 ∧ w.cell? ⟨b, 1, none⟩ = some a2 ∧ w.cell? ⟨b, 2, none⟩ = some a3 := by
  refine ⟨?_, ?_, ?_⟩ <;> simp [World.cell?, h]
/-- The state behind a call: the axis, the reference's row. -/
def SpT (W : World) (pa : Nat) (n : Nat) (vm : Value) (wx : World) : Prop := ∃ (B : List Spn) (Z : Nat → Prop), B.length ≤ n ∧ Once B ∧ OO (AxB pa B) Z W.heap.size wx ∧ RowAt encSp 34 4 wx Z vm B ∧ RowKit.Below W.heap.size W wx
set_option maxHeartbeats 4000000 in
set_option maxRecDepth 100000 in
theorem axisPlays_walk (l : List Opw) (v : Value) (W : World) (hv : Sl encO W v l) (ho : ∀ x ∈ l, HdOk x.2.1) {A : Nat → Addr} (hE : Errs W A) :
    Calls Tryd.prog 3 #[v] W fun e w' => e = .returned (.bool true) ∧ RowKit.Below W.heap.size W w' := by
  obtain ⟨p0, c0, rfl, v1, v2, v3⟩ := hv
  unfold maxLen at v2
  have HV := Lib.hid v3
  have HOK := Lib.hid ho
  have HER := Lib.hid hE
  have hN : W.cell? ⟨2, 0, none⟩ = some (.iface 171 (.pointer (some (A 2)))) := hE.cell 2 (by omega)
  have hF : W.cell? ⟨0, 0, none⟩ = some (.iface 171 (.pointer (some (A 0)))) := hE.cell 0 (by omega)
  have HE := Lib.hid (And.intro hN hF)
  have hel := cell_lt hN
  have hfl := cell_lt hF
  have AL := Lib.hid (alive_any W _ _ hN)
  have NS := Lib.hid new_call
  unfold psP at NS
  clear v3 ho hE hN hF
  by_cases h1 : l.length ≤ 60
  case neg =>
    have hz : (l.length : Int) > 60 := by omega
    go_enter Tryd.func3, Tryd.ntmps3
    go_wp2_with fail
    refine AL.out.mono ?_
    rintro e w1 ⟨rfl, hb1⟩
    go_wp2
    go_ret
    exact ⟨rfl, hb1⟩
  have hz : ¬ (l.length : Int) > 60 := by omega
  go_enter Tryd.func3, Tryd.ntmps3
  go_wp2_with fail
  refine AL.out.mono ?_
  rintro e w1 ⟨rfl, hb1⟩
  have B1 := Lib.hid hb1
  clear hb1 AL
  go_wp2_with fail
  refine (NS.out _).mono ?_
  rintro e w2 ⟨ps, rfl, hp2, hb2⟩
  have O2 := Lib.hid (OO.new (P := AxB ps []) (Z := NoZ) (base := W.heap.size) hp2 B1.out.size hb2.size (fun b e => e.elim))
  have B2 := Lib.hid (Bt B1.out hb2)
  clear hp2 hb2
  go_wp2
  go_loopw [4, 22] (fun vm u wr => ∃ (i : Nat) (B : List Spn) (Z : Nat → Prop), u = .int .i64 i ∧ i ≤ l.length ∧ B.length ≤ i ∧ Once B ∧ OO (AxB ps B) Z W.heap.size wr ∧ RowAt encSp 34 4 wr Z vm B ∧ RowKit.Below W.heap.size W wr) (fun _ u _ => l.length - (intOf u).toNat)
  case atStart => exact ⟨0, [], fun b => b = w2.heap.size, rfl, Nat.zero_le _, Nat.le_refl _, List.nodup_nil, O2.out.turn (fr_ax ps []) (Tch.of (Ba (Below.refl _ w2) _)) (fun b e => ⟨.inr (.inr (Nat.le_of_eq e.symm)), by rw [e]; simp⟩), row_empty w2 34 4 _ rfl, Bt B2.out (Ba (Below.refl _ w2) _)⟩
  case round =>
    clear O2 B1 B2
    obtain ⟨i, B, Z, rfl, hi, hBl, hoB, hO, hm, hb⟩ := hrel
    have HO := Lib.hid hO
    have HB := Lib.hid hb
    have HC := Lib.hid hoB
    have HM := Lib.hid hm
    clear hO hb hoB hm
    by_cases hlt : i < l.length
    · obtain ⟨g, o, rfl, hg1, hcs⟩ := HV.out (by omega)
      obtain ⟨c1, c2, c3, c4, c5, c6, c7⟩ := atO hcs hlt
      replace c1 := Bc HB.out hg1 c1
      replace c2 := Bc HB.out hg1 c2
      replace c3 := Bc HB.out hg1 c3
      replace c4 := Bc HB.out hg1 c4
      replace c5 := Bc HB.out hg1 c5
      replace c6 := Bc HB.out hg1 c6
      replace c7 := Bc HB.out hg1 c7
      have hx : HdOk l[i]!.2.1 := HOK.out _ (by rw [getElem!_pos l i hlt]; exact List.getElem_mem hlt)
      generalize l[i]! = x at *
      obtain ⟨k, ⟨h1, h2⟩, x1, x2, x3, x4⟩ := x
      dsimp only at c1 c2 c3 c4 c5 c6 c7 hx
      clear hcs
      obtain ⟨wa, hwa⟩ : ∃ wa, wa = (wr.alloc (.cells #[.int .i64 k, .int .i64 h1, .int .i64 h2, .int .i64 x1, .int .i64 x2, .int .i64 x3, .int .i64 x4] 32)).alloc (.cells #[.int .i64 h1, .int .i64 h2, .int .i64 x1, .int .i64 x3] 34) := ⟨_, rfl⟩
      have bA : RowKit.Below wr.heap.size wr wa := by rw [hwa]; exact Ba (Ba (Below.refl _ wr) _) _
      have hsz : wa.heap.size = wr.heap.size + 2 := by rw [hwa]; simp
      have HO2 := Lib.hid (HO.out.turn (fr_ax ps B) (Tch.of bA) (Z' := fun b => Z b ∨ b = wr.heap.size ∨ b = wr.heap.size + 1) (fun b e => by
        rcases e with e | e | e
        · exact ⟨.inl e, Nat.lt_of_lt_of_le (HO.out.zlt b e) bA.size⟩
        · exact ⟨.inr (.inr (Nat.le_of_eq e.symm)), by omega⟩
        · exact ⟨.inr (.inr (by omega)), by omega⟩))
      have HM2 := Lib.hid ((HM.out.below bA).mono (M' := fun b => Z b ∨ b = wr.heap.size ∨ b = wr.heap.size + 1) (fun b e => .inl e))
      have HD1 := Lib.hid (show wa.cell? ⟨wr.heap.size, 1, none⟩ = some (.int .i64 h1) ∧ wa.cell? ⟨wr.heap.size, 2, none⟩ = some (.int .i64 h2) from by
        have h7 := cells7' (blk_below (heap_alloc_new wr (.cells #[.int .i64 k, .int .i64 h1, .int .i64 h2, .int .i64 x1, .int .i64 x2, .int .i64 x3, .int .i64 x4] 32)) (Ba (Below.refl _ _) (.cells #[.int .i64 h1, .int .i64 h2, .int .i64 x1, .int .i64 x3] 34)))
        rw [← hwa] at h7
        exact h7.2)
      have HD2 := Lib.hid (show wa.cell? ⟨wr.heap.size + 1, 0, none⟩ = some (.int .i64 h1) ∧ wa.cell? ⟨wr.heap.size + 1, 1, none⟩ = some (.int .i64 h2) ∧ wa.cell? ⟨wr.heap.size + 1, 2, none⟩ = some (.int .i64 x1) ∧ wa.cell? ⟨wr.heap.size + 1, 3, none⟩ = some (.int .i64 x3) from by
        have h7 := cells4 (heap_alloc_new (wr.alloc (.cells #[.int .i64 k, .int .i64 h1, .int .i64 h2, .int .i64 x1, .int .i64 x2, .int .i64 x3, .int .i64 x4] 32)) (.cells #[.int .i64 h1, .int .i64 h2, .int .i64 x1, .int .i64 x3] 34))
        rw [← hwa] at h7
        simpa using h7)
      have HB2 := Lib.hid (Bt HB.out bA)
      have HBs := Lib.hid HB.out.size
      clear bA
      have hxa : wr.heap.size < wa.heap.size := by omega
      have hxb : wr.heap.size + 1 < wa.heap.size := by omega
      have HWA := Lib.hid hwa
      clear hwa hsz
      go_upto_block 2 with fail
      rw [← HWA.out]
      clear HWA c1 c2 c3 c4 c5 c6 c7 HO HM HB
      have HXB := Lib.hid (show W.heap.size ≤ wr.heap.size from HBs.out)
      clear HBs
      generalize wr.heap.size = xb at *
      go_cut [4] (fun vm wx => Hid (SpT W ps (i + 1) vm wx))
      case first =>
        by_cases hk1 : k = 1
        · subst hk1
          have RR := Lib.hid (fun w => rightSp_any h1 h2 x1 x3 w)
          obtain ⟨z1, z2, z3, z4⟩ := HD2.out
          cases hbx : spanB x1 x3
          · rw [hbx] at RR
            have PN := Lib.hid (put_no (pa := ps) h1 h2 x1 x3 hbx 171 (.pointer (some (A 0))) (Bc HB2.out hfl HE.out.2))
            go_wp2_with fail
            refine (PN.out).mono ?_
            rintro e w5 ⟨rfl, hb5⟩
            replace z1 := Bc hb5 hxb z1
            replace z2 := Bc hb5 hxb z2
            replace z3 := Bc hb5 hxb z3
            replace z4 := Bc hb5 hxb z4
            have hx5 := cell_lt z1
            have B5 := Lib.hid hb5
            clear hb5 PN
            go_wp2_with fail
            refine (RR.out _).mono ?_
            rintro e w6 ⟨rfl, hb6⟩
            have B6 := Lib.hid (Bt B5.out hb6)
            have NF := Lib.hid (num_range (HER.out.below (Bt HB2.out B6.out)))
            clear hb6 B5
            go_wp2_with fail
            refine NF.out.mono ?_
            rintro e w7 ⟨rfl, hb7⟩
            have B7 := Lib.hid (Bt B6.out hb7)
            clear hb7 B6 NF RR
            have HT := Lib.hid (show SpT W ps (i + 1) u4 w7 from ⟨B, _, by omega, HC.out, HO2.out.below (fr_ax ps B) B7.out, HM2.out.below B7.out, Bt HB2.out B7.out⟩)
            clear z1 z2 z3 z4
            go_wp2
            go_meet
            exact HT
          · rw [hbx] at RR
            have AP := Lib.hid (HO2.out.ask (asks_put (base := W.heap.size) h1 h2 x1 x3 hx hbx (by omega) (Bc HB2.out hel HE.out.1)))
            go_wp2_with fail
            refine AP.out.mono ?_
            rintro e w5 ⟨rfl, hO5, ht5⟩
            have nX : ¬ OffZ (fun b => Z b ∨ b = xb ∨ b = xb + 1) W.heap.size (xb + 1) := fun e => e.2 (.inr (.inr rfl))
            replace z1 := ht5.cell hxb nX z1
            replace z2 := ht5.cell hxb nX z2
            replace z3 := ht5.cell hxb nX z3
            replace z4 := ht5.cell hxb nX z4
            have hx5 := cell_lt z1
            have HB5 := Lib.hid (HB2.out.trans (OO.tch ht5 HB2.out.size))
            have HM5 := Lib.hid (HM2.out.kept ht5 (fun b e f => f.2 e))
            have HO5 := Lib.hid hO5
            clear hO5 ht5 AP nX HM2 HO2
            go_wp2_with fail
            refine (RR.out _).mono ?_
            rintro e w6 ⟨rfl, hb6⟩
            replace z1 := Bc hb6 hx5 z1
            replace z2 := Bc hb6 hx5 z2
            replace z3 := Bc hb6 hx5 z3
            replace z4 := Bc hb6 hx5 z4
            have hx6 := cell_lt z1
            have B6 := Lib.hid hb6
            have PB := Lib.hid (putSp_call B u4 h1 h2 x1 x3 w6 ((RowAt.sl lenSp HM5.out).below hb6) (by omega))
            clear hb6 RR
            go_wp2_with fail
            refine PB.out.mono ?_
            rintro e w7 ⟨v7, rfl, ho7, hb7⟩
            have B7 := Lib.hid (Bt B6.out hb7)
            have hs6 := B6.out.size
            have HT := Lib.hid (show SpT W ps (i + 1) v7 w7 from by
              have hlp := without_len B (h1, h2)
              refine ⟨_, fun b => w5.heap.size ≤ b ∧ b < w7.heap.size, by rw [List.length_append]; simp only [List.length_cons, List.length_nil]; omega, once_putS HC.out (h1, h2) (x1, x3), HO5.out.turn (fr_ax ps _) (Tch.of B7.out) (fun b e => ⟨.inr (.inr e.1), e.2⟩), own_rowatS ho7 (fun b f g => ⟨by omega, g⟩), Bt HB5.out B7.out⟩)
            clear z1 z2 z3 z4 ho7 hb7 PB
            go_wp2
            go_meet
            exact HT
        · by_cases hk2 : k = 2
          · subst hk2
            have DC := Lib.hid (dropSp_call B u4 h1 h2 wa (RowAt.sl lenSp HM2.out) (by omega))
            have hw := without_cases HC.out (h1, h2)
            have hls := RowAt.sl lenSp HM2.out
            have q2 : ((2 : Int) == 1) = false := by decide
            obtain ⟨q4, r4, rfl, _, _, _⟩ := hls
            have z1 := HD1.out.1
            have z2 := HD1.out.2
            go_wp2_with fail
            refine DC.out.mono ?_
            rintro e w5 ⟨v5, rfl, ho5, hb5⟩
            obtain ⟨q5, r5, rfl, _, _, _⟩ := row_val ho5
            have HO5 : Hid (OO (AxB ps B) (fun b => b = xb ∨ (wa.heap.size ≤ b ∧ b < w5.heap.size)) W.heap.size w5) := Lib.hid (HO2.out.turn (fr_ax ps B) (Tch.of hb5) (fun b e => by
              rcases e with e | e
              · exact ⟨.inl (.inr (.inl e)), by rw [e]; exact Nat.lt_of_lt_of_le hxa hb5.size⟩
              · exact ⟨.inr (.inr e.1), e.2⟩))
            have HR5 := Lib.hid (own_rowatS (Z := fun b => b = xb ∨ (wa.heap.size ≤ b ∧ b < w5.heap.size)) ho5 (fun b f g => .inr ⟨f, g⟩))
            have HB5 := Lib.hid (Bt HB2.out hb5)
            replace z1 := Bc hb5 hxa z1
            replace z2 := Bc hb5 hxa z2
            have hx5 := cell_lt z1
            have HD5 := Lib.hid (And.intro z1 z2)
            have GN := Lib.hid (fun a b w => gone_call a b w)
            clear ho5 hb5 DC HM2 HO2
            generalize hZ5 : (fun b => b = xb ∨ (wa.heap.size ≤ b ∧ b < w5.heap.size)) = Z5 at *
            have hzx : Z5 xb := by rw [← hZ5]; exact .inl rfl
            clear hZ5
            rcases hw with ⟨hn, hwo⟩ | ⟨b, hmem, hlen⟩
            · have DN := Lib.hid (HO5.out.read (fun M h => drop_none h h1 h2 hx hn _ _ (Bc HB5.out hel HE.out.1)))
              rw [hwo] at HR5
              rw [hwo]
              go_wp2_with fail
              refine DN.out.mono ?_
              rintro e w6 ⟨rfl, hb6⟩
              have B6 := Lib.hid hb6
              have NU := Lib.hid (num_none (HER.out.below (Bt HB5.out hb6)))
              clear hb6 DN
              go_wp2_with fail
              refine NU.out.mono ?_
              rintro e w7 ⟨rfl, hb7⟩
              have B7 := Lib.hid (Bt B6.out hb7)
              clear hb7 B6 NU
              go_wp2_with fail
              refine (GN.out _ _ _).mono ?_
              rintro e w8 ⟨rfl, rfl⟩
              simp only [if_true]
              have HT := Lib.hid (show SpT W ps (i + 1) (.slice q5 B.length r5) w7 from ⟨B, _, by omega, HC.out, HO5.out.below (fr_ax ps B) B7.out, HR5.out.below B7.out, Bt HB5.out B7.out⟩)
              clear z1 z2
              go_wp2
              go_meet
              exact HT
            · obtain ⟨b1, b2⟩ := b
              have DY := Lib.hid (HO5.out.ask (asks_dropA h1 h2 b1 b2 hx hmem (by omega)))
              go_wp2_with fail
              refine DY.out.mono ?_
              rintro e w6 ⟨rfl, hO6, ht6⟩
              have HB6 := Lib.hid (HB5.out.trans (OO.tch ht6 HB5.out.size))
              have HM6 := Lib.hid (HR5.out.kept ht6 (fun b e f => f.2 e))
              have HO6 := Lib.hid hO6
              have NU := Lib.hid (num_nil w6)
              clear hO6 ht6 DY HO5 HR5 HB5
              go_wp2_with fail
              refine NU.out.mono ?_
              rintro e w7 ⟨rfl, hb7⟩
              have B7 := Lib.hid hb7
              clear hb7 NU
              go_wp2_with fail
              refine (GN.out _ _ _).mono ?_
              rintro e w8 ⟨rfl, rfl⟩
              have hne : ¬ B.length = (without B (h1, h2)).length := by omega
              simp only [if_neg hne]
              have HT := Lib.hid (show SpT W ps (i + 1) (.slice q5 (without B (h1, h2)).length r5) w7 from ⟨_, _, by omega, HC.out.without (h1, h2), HO6.out.below (fr_ax ps _) B7.out, HM6.out.below B7.out, Bt HB6.out B7.out⟩)
              clear z1 z2
              go_wp2
              go_meet
              exact HT
          · have q1 : (k == 1) = false := by simpa using hk1
            have q2 : (k == 2) = false := by simpa using hk2
            have HT := Lib.hid (show SpT W ps (i + 1) u4 wa from ⟨B, _, by omega, HC.out, HO2.out, HM2.out, HB2.out⟩)
            go_wp2
            go_meet
            exact HT
      case rest =>
        obtain ⟨B2, Z2, hB2l, hoB, hO, hm, hb⟩ := hcut.out
        have HO := Lib.hid hO
        have HB := Lib.hid hb
        have HC2 := Lib.hid hoB
        have HM := Lib.hid hm
        have hls := RowAt.sl lenSp hm
        obtain ⟨wd, rfl⟩ : ∃ wd : World, wd = wc := ⟨_, rfl⟩
        have EA := Lib.hid (HO.out.read (fun M h => ends_call h (by omega)))
        have EB := Lib.hid (fun (w' : World) (hb : RowKit.Below wd.heap.size wd w') => refEnds_call B2 _ w' (hls.below hb) (by omega) HC2.out)
        have QB := Lib.hid (fun (w' : World) (hb : RowKit.Below wd.heap.size wd w') => spPairs_call B2 _ w' (hls.below hb) (by omega))
        obtain ⟨q4, r4, rfl, ql1, ql2, ql3⟩ := hls
        have QA := Lib.hid (fun (w' : World) (hb : RowKit.Below wd.heap.size wd w') => (HO.out.below (fr_ax ps B2) hb).read (fun M h => pairs_call h (by omega)))
        have LN := Lib.hid (fun (w' : World) (hb : RowKit.Below wd.heap.size wd w') => (HO.out.below (fr_ax ps B2) hb).read (fun M h => len_call h))
        have hel2 : (endsL B2).length ≤ 200 := by
          have h1 := endsL_len B2
          omega
        clear hO hm hb hoB ql3 hcut
        go_wp2_with fail
        refine EA.out.mono ?_
        rintro e w5 ⟨v5, rfl, ho5, hb5⟩
        have S5 := Lib.hid (row_sl lenE ho5 rfl)
        obtain ⟨p5, c5, rfl, y1, y2, _⟩ := row_val ho5
        unfold maxLen at y2
        have B5 := Lib.hid hb5
        clear ho5 hb5 EA
        go_wp2_with fail
        refine (EB.out _ B5.out).mono ?_
        rintro e w6 ⟨v6, rfl, ho6, hb6⟩
        have S6 := Lib.hid (row_sl lenE ho6 rfl)
        obtain ⟨p6, c6, rfl, t1, t2, _⟩ := row_val ho6
        unfold maxLen at t2
        have B6 := Lib.hid (Bt B5.out hb6)
        have T5 := Lib.hid (S5.out.below hb6)
        clear ho6 hb6 EB B5 S5
        go_wp2_with fail
        refine (LN.out _ B6.out).mono ?_
        rintro e w7 ⟨rfl, rfl⟩
        go_wp2_with fail
        refine (QA.out _ B6.out).mono ?_
        rintro e w7 ⟨v7, rfl, hw7, hb7⟩
        have B7 := Lib.hid (Bt B6.out hb7)
        have S7 := Lib.hid hw7
        have T57 := Lib.hid (T5.out.below hb7)
        have T67 := Lib.hid (S6.out.below hb7)
        clear hw7 hb7 QA LN B6 S6 T5
        go_wp2_with fail
        refine (QB.out _ B7.out).mono ?_
        rintro e w8 ⟨v8, rfl, ho8, hb8⟩
        have SP := Lib.hid (samePairs_call _ _ _ _ w8 ((S7.out.sl lenP).below hb8) (row_sl lenP ho8 rfl))
        have B8 := Lib.hid (Bt B7.out hb8)
        have T58 := Lib.hid (T57.out.below hb8)
        have T68 := Lib.hid (T67.out.below hb8)
        clear ho8 hb8 QB B7 S7 T57 T67
        go_wp2_with fail
        refine SP.out.mono ?_
        rintro e w9 ⟨rfl, hg9⟩
        have B9 := Lib.hid (Bt B8.out hg9.below)
        have T59 := Lib.hid (T58.out.below hg9.below)
        have T69 := Lib.hid (T68.out.below hg9.below)
        clear hg9 SP B8 T58 T68
        simp only [decide_true]
        generalize endsL B2 = E at *
        obtain ⟨p5', c5', e5, _, _, s5⟩ := T59.out
        obtain ⟨rfl, rfl⟩ : p5 = p5' ∧ c5 = c5' := by simpa using e5
        obtain ⟨p6', c6', e6, _, _, s6⟩ := T69.out
        obtain ⟨rfl, rfl⟩ : p6 = p6' ∧ c6 = c6' := by simpa using e6
        have H5 := Lib.hid s5
        have H6 := Lib.hid s6
        clear s5 s6 T59 T69 e5 e6
        go_wp2
        go_loopw [102] (fun u wr => ∃ j : Nat, u = .int .i64 j ∧ j ≤ E.length ∧ RowKit.Below w9.heap.size w9 wr) (fun u _ => E.length - (intOf u).toNat)
        case atStart => exact ⟨0, rfl, Nat.zero_le _, Below.refl _ _⟩
        case round =>
          obtain ⟨j, rfl, hj, hb⟩ := hrel
          have HBj := Lib.hid hb
          clear hb
          by_cases hjl : j < E.length
          · obtain ⟨g5, o5, rfl, hg5, hc5⟩ := H5.out (by omega)
            obtain ⟨g6, o6, rfl, hg6, hc6⟩ := H6.out (by omega)
            obtain ⟨a1, a2, a3, a4⟩ := atE hc5 hjl
            obtain ⟨b1, b2, b3, b4⟩ := atE hc6 hjl
            replace a1 := Bc HBj.out hg5 a1
            replace a2 := Bc HBj.out hg5 a2
            replace a3 := Bc HBj.out hg5 a3
            replace a4 := Bc HBj.out hg5 a4
            replace b1 := Bc HBj.out hg6 b1
            replace b2 := Bc HBj.out hg6 b2
            replace b3 := Bc HBj.out hg6 b3
            replace b4 := Bc HBj.out hg6 b4
            have hg5r := cell_lt a1
            have hg6r := cell_lt b1
            have ne := fun W => neRE_run E[j]! W
            have gd := gdRE_run
            unfold aggE at ne
            generalize E[j]! = y at *
            obtain ⟨y1', y2', y3', y4'⟩ := y
            dsimp only at a1 a2 a3 a4 b1 b2 b3 b4 ne
            clear hc5 hc6
            go_wp2_with fail
            refine wp_region_held_drew (S := (fun w' => Below (wr).heap.size (wr) w' ∧ ∀ b_1 o, b_1 < (wr).heap.size → w'.cell? ⟨b_1, o, none⟩ = (wr).cell? ⟨b_1, o, none⟩)) (by kernel_rfl) (keep0 _) (fun hHeld => ?_)
            (refine wpAnyH_take (i := 0) (v := ?_) rfl (by kernel_rfl) (by kernel_rfl) (by kernel_rfl) (fun _ _ _ h => h) (Or.inl ⟨by rfl, ?rt⟩) (by assumption) ?_; case rt => (intro w hSw; (try dsimp only at hSw); go_simp; (try with_reducible rfl))); (try simp only [Act.put, List.getElem_toArray, List.getElem_cons_succ, List.getElem_cons_zero, List.setIfInBounds_toArray, List.set_cons_zero, List.set_cons_succ])
            (refine wpAnyH_take (i := 1) (v := ?_) rfl (by kernel_rfl) (by kernel_rfl) (by kernel_rfl) (fun _ _ _ h => h) (Or.inl ⟨by rfl, ?rt⟩) (by assumption) ?_; case rt => (intro w hSw; (try dsimp only at hSw); go_simp; (try with_reducible rfl))); (try simp only [Act.put, List.getElem_toArray, List.getElem_cons_succ, List.getElem_cons_zero, List.setIfInBounds_toArray, List.set_cons_zero, List.set_cons_succ])
            (refine wpAnyH_take (i := 2) (v := ?_) rfl (by kernel_rfl) (by kernel_rfl) (by kernel_rfl) (fun _ _ _ h => h) (Or.inl ⟨by rfl, ?rt⟩) (by assumption) ?_; case rt => (intro w hSw; (try dsimp only at hSw); go_simp; (try with_reducible rfl))); (try simp only [Act.put, List.getElem_toArray, List.getElem_cons_succ, List.getElem_cons_zero, List.setIfInBounds_toArray, List.set_cons_zero, List.set_cons_succ])
            (refine wpAnyH_take (i := 3) (v := ?_) rfl (by kernel_rfl) (by kernel_rfl) (by kernel_rfl) (fun _ _ _ h => h) (Or.inl ⟨by rfl, ?rt⟩) (by assumption) ?_; case rt => (intro w hSw; (try dsimp only at hSw); go_simp; (try with_reducible rfl))); (try simp only [Act.put, List.getElem_toArray, List.getElem_cons_succ, List.getElem_cons_zero, List.setIfInBounds_toArray, List.set_cons_zero, List.set_cons_succ])
            (refine wpAnyH_take (i := 4) (v := ?_) rfl (by kernel_rfl) (by kernel_rfl) (by kernel_rfl) (fun _ _ _ h => h) (Or.inl ⟨by rfl, ?rt⟩) (by assumption) ?_; case rt => (intro w hSw; (try dsimp only at hSw); go_simp; (try with_reducible rfl))); (try simp only [Act.put, List.getElem_toArray, List.getElem_cons_succ, List.getElem_cons_zero, List.setIfInBounds_toArray, List.set_cons_zero, List.set_cons_succ])
            (refine wpAnyH_take (i := 5) (v := ?_) rfl (by kernel_rfl) (by kernel_rfl) (by kernel_rfl) (fun _ _ _ h => h) (Or.inl ⟨by rfl, ?rt⟩) (by assumption) ?_; case rt => (intro w hSw; (try dsimp only at hSw); go_simp; (try with_reducible rfl))); (try simp only [Act.put, List.getElem_toArray, List.getElem_cons_succ, List.getElem_cons_zero, List.setIfInBounds_toArray, List.set_cons_zero, List.set_cons_succ])
            (refine wpAnyH_take (i := 6) (v := ?_) rfl (by kernel_rfl) (by kernel_rfl) (by kernel_rfl) (fun _ _ _ h => h) (Or.inl ⟨by rfl, ?rt⟩) (by assumption) ?_; case rt => (intro w hSw; (try dsimp only at hSw); go_simp; (try with_reducible rfl))); (try simp only [Act.put, List.getElem_toArray, List.getElem_cons_succ, List.getElem_cons_zero, List.setIfInBounds_toArray, List.set_cons_zero, List.set_cons_succ])
            (refine wpAnyH_take (i := 7) (v := ?_) rfl (by kernel_rfl) (by kernel_rfl) (by kernel_rfl) (fun _ _ _ h => h) (Or.inl ⟨by rfl, ?rt⟩) (by assumption) ?_; case rt => (intro w hSw; (try dsimp only at hSw); go_simp; (try with_reducible rfl))); (try simp only [Act.put, List.getElem_toArray, List.getElem_cons_succ, List.getElem_cons_zero, List.setIfInBounds_toArray, List.set_cons_zero, List.set_cons_succ])
            (refine wpAnyH_take (i := 8) (v := ?_) rfl (by kernel_rfl) (by kernel_rfl) (by kernel_rfl) (fun _ _ _ h => h) (Or.inl ⟨by rfl, ?rt⟩) (by assumption) ?_; case rt => (intro w hSw; (try dsimp only at hSw); go_simp; (try with_reducible rfl))); (try simp only [Act.put, List.getElem_toArray, List.getElem_cons_succ, List.getElem_cons_zero, List.setIfInBounds_toArray, List.set_cons_zero, List.set_cons_succ])
            refine wpAnyH_done (by kernel_rfl) ?_ _
            go_wp2
            go_roundw
            case measure => simp only [intOf]; omega
            case rel => exact ⟨j + 1, by go_num, by omega, Bt HBj.out hHeld.1⟩
          · have hjn : j = E.length := by omega
            subst hjn
            have bE := Bt B9.out HBj.out
            have HE1 := Lib.hid (HO.out.below (fr_ax ps B2) bE)
            have HE2 := Lib.hid (HM.out.below bE)
            have HE3 := Lib.hid (Bt HB.out bE)
            clear bE
            go_wp2
            go_roundw
            case measure => simp only [intOf]; omega
            case rel => exact ⟨i + 1, B2, Z2, by go_num, by omega, hB2l, HC2.out, HE1.out, HE2.out, HE3.out⟩
    · have hin : i = l.length := by omega
      subst hin
      clear hlt
      go_wp2
      go_ret
      exact ⟨rfl, HB.out⟩
end Go.Proofs.YtbodefigeiaodaaDoor
