import Derived.Test.YtahichjiphjapaaGreatDoorZ53

/-
  Package near: handles of what was found.
-/
namespace Go.Proofs.YtahichjiphjapaaGreatDoor
set_option linter.unusedSimpArgs false
set_option linter.unusedVariables false
open Go.RowKit Go.Sort Go.Lib Go.Shelf

def hdF (l : List Fa) (k : Nat) : List Hd := (l.take k).map (·.2)
theorem hdF_len (l : List Fa) {k : Nat} (h : k ≤ l.length) : (hdF l k).length = k := by
  unfold hdF
  rw [List.length_map, List.length_take]
  omega
theorem hdF_all (l : List Fa) : hdF l l.length = l.map (·.2) := by
  unfold hdF
  rw [List.take_length]
theorem hdF_succ (l : List Fa) {k : Nat} (h : k < l.length) : hdF l (k + 1) = hdF l k ++ [l[k]!.2] := by
  unfold hdF
  rw [List.take_succ_eq_append_getElem h, getElem!_pos l k h, List.map_append]
  rfl
set_option maxHeartbeats 2000000 in
set_option maxRecDepth 100000 in
theorem nhandles_call (l : List Fa) (v : Value) (w : World) (hv : Sl encF w v l) (hlen : l.length ≤ 1000) :
    Calls Tryz.prog 30 #[v] w fun e w' => ∃ v', e = .returned v' ∧ Sl encH w' v' (l.map (·.2)) ∧ RowKit.Below w.heap.size w w' := by
  obtain ⟨p0, c0, rfl, v1, v2, v3⟩ := hv
  unfold maxLen at v2
  have HV := Lib.hid v3
  clear v3
  go_enter Tryz.func30, Tryz.ntmps30
  go_wp2
  go_loopw [3, 8] (fun vl u wr => ∃ k : Nat, u = .int .i64 k ∧ k ≤ l.length ∧ RowKit.Below w.heap.size w wr ∧ wr.ownsRow w.heap.size 42 2 vl (hdF l k).length (flat encH (hdF l k))) (fun _ u _ => l.length - (intOf u).toNat)
  case atStart => exact ⟨0, rfl, Nat.zero_le _, Below.refl _ _, World.ownsRow_nil _ _ _ _⟩
  case round =>
    obtain ⟨k, rfl, hk, hb, ho⟩ := hrel
    have HO := Lib.hid ho
    have HB := Lib.hid hb
    clear ho hb
    by_cases hkn : k < l.length
    · obtain ⟨g0, o0, rfl, hg1, hg2⟩ := HV.out (by omega)
      obtain ⟨c1, c2, c3⟩ := atF hg2 hkn
      replace c1 := Bc HB.out hg1 c1
      replace c2 := Bc HB.out hg1 c2
      replace c3 := Bc HB.out hg1 c3
      have hgw := Bl HB.out hg1
      have HS := Lib.hid (hdF_succ l hkn)
      have hll : (hdF l k).length ≤ 1000 := by rw [hdF_len l hk]; omega
      generalize l[k]! = z at *
      obtain ⟨z1, z2, z3⟩ := z
      dsimp only at c1 c2 c3
      have bX := Ba (Ba (Below.refl _ wr) (.cells #[.int .i64 z2, .int .i64 z3, .int .i64 z1] 77)) (.cells #[.int .i64 z2, .int .i64 z3] 42)
      have O5 := Lib.hid (row_below HO.out bX)
      have B5 := Lib.hid (Bt HB.out bX)
      have L5 := Lib.hid (sl_lit (enc := encH) (w := wr.alloc (.cells #[.int .i64 z2, .int .i64 z3, .int .i64 z1] 77)) (cs := #[.int .i64 z2, .int .i64 z3]) (t := 42) (b := wr.heap.size + 1) [(z2, z3)] (by simp) rfl (by unfold maxLen; simp))
      clear bX hg2
      go_wp2_with (at_builtin; refine wpl_app2 apH rfl _ _ rfl w.heap.size (by rfl) (by rfl) O5.out rfl L5.out (by simp; omega) B5.out.size ?_; intro v7 w7 hown7 hgrow7 hat7 hnil7; have O7 := Lib.hid hown7; have B7 := Lib.hid (grownB B5.out O5.out hgrow7); clear hown7 hgrow7 hat7 hnil7)
      go_roundw
      case measure => simp only [intOf]; omega
      case rel => exact ⟨k + 1, by go_num, by omega, B7.out, by rw [HS.out]; exact O7.out⟩
    · have hin : k = l.length := by omega
      subst hin
      have HO2 := Lib.hid (row_sl lenH HO.out rfl)
      rw [hdF_all] at HO2
      clear HO
      go_wp2
      go_ret
      exact ⟨_, rfl, HO2.out, HB.out⟩
end Go.Proofs.YtahichjiphjapaaGreatDoor

/-
  Package near: first.
-/
namespace Go.Proofs.YtahichjiphjapaaGreatDoor
set_option linter.unusedSimpArgs false
set_option linter.unusedVariables false
open Go.RowKit Go.Sort Go.Lib Go.Shelf

/-- A slice's front. -/
theorem Sl.frontN {α : Type} [Inhabited α] {enc : α → List Value} {n : Nat} (hk : ∀ x, (enc x).length = n) {w : World} {p : Option Addr} {m c cap : Nat} {l : List α} (h : Sl enc w (.slice p c cap) l) (hm : m ≤ l.length) : Sl enc w (.slice p m cap) (l.take m) := by
  obtain ⟨q, cap', e, h1, h2, h3⟩ := h
  simp only [Value.slice.injEq] at e
  obtain ⟨rfl, _, rfl⟩ := e
  by_cases h0 : l.length = 0
  · have hl0 : l = [] := List.length_eq_zero_iff.1 h0
    subst hl0
    obtain rfl : m = 0 := by simpa using hm
    exact Sl.nil _ _ h2
  · obtain ⟨g, o, rfl, hg, hc⟩ := h3 (by omega)
    exact sl_take hk m hm h1 h2 hg hc
/-- The radii: 1, 2, 4 .. -/
def qI (j : Nat) : Int := ((2 ^ j : Nat) : Int)
theorem qI_succ (j : Nat) : qI (j + 1) = qI j * 2 := by unfold qI; rw [Nat.pow_succ]; omega
theorem qI_le {j : Nat} (h : j ≤ 23) : 1 ≤ qI j ∧ qI j ≤ 8388608 := by
  have h1 := Nat.pow_le_pow_right (show 0 < 2 by omega) h
  have h2 := Nat.pow_le_pow_right (show 0 < 2 by omega) (Nat.zero_le j)
  unfold qI
  omega
theorem qI_24 : qI 24 = 16777216 := rfl
/-- What has been found by the radius ahead of this one. -/
def FoundS (B : List Bxd) (p : Pt) (cnt : Hd → Bool) (j : Nat) (L : List Fa) : Prop :=
  L.Nodup ∧ L.length ≤ B.length ∧ ((j = 0 ∧ L = []) ∨ ∃ i, j = i + 1 ∧ srt ltF L = (farC B p cnt).filter fun z => decide (z.1 ≤ qI i * qI i))
theorem found_next {B l : List Bxd} {p : Pt} {cnt : Hd → Bool} {j : Nat} (ho : OnceB l) (hl : ∀ b, b ∈ l ↔ b ∈ B ∧ seenB (entN p (qI j)) b.2 = true) (hok : OkB B) : FoundS B p cnt (j + 1) (hitL p (qI j) cnt l) :=
  ⟨hitL_nodup ho p _ cnt, Nat.le_trans (hitL_len _ _ _ _) (nodup_sub_len ho.nodup fun z hz => ((hl z).1 hz).1), .inr ⟨j, rfl, hit_srt hl hok⟩⟩
theorem found_end {B : List Bxd} {p : Pt} {cnt : Hd → Bool} {j : Nat} {L : List Fa} {k : Nat} (h : FoundS B p cnt j L) (hok : OkB B) (hp : placeB p = true) (hk : k ≤ L.length ∨ j = 24) : (srt ltF L).take k = (farC B p cnt).take k := by
  obtain ⟨hn, _, ⟨rfl, rfl⟩ | ⟨i, rfl, e⟩⟩ := h
  · rcases hk with hk | hk
    · obtain rfl : k = 0 := by simpa using hk
      simp
    · omega
  · have hlen := srt_nodup sto_fa hn
    rw [e]
    refine hit_take ?_
    rcases hk with hk | hk
    · left
      rw [← e, hlen]
      exact hk
    · right
      obtain rfl : i = 23 := by omega
      exact far_all hok hp
section
variable {w : World} {M : Nat → Prop} {pt : Nat} {B : List Bxd} {x y : Int} {fc : FuncId} {vc : Array Value} {cnt : Hd → Bool}
theorem TrAt.okB (hp : TrAt w M pt B) : OkB B := by
  obtain ⟨mb, R, rv, q, h⟩ := hp
  exact h.ok
set_option maxHeartbeats 4000000 in
set_option maxRecDepth 100000 in
theorem nfirst_call (hp : TrAt w M pt B) (hl : B.length ≤ 200) (hc : CntF w fc vc cnt) (hP : placeB (x, y) = true) (k : Int) (hk0 : 0 ≤ k) :
    Calls Tryz.prog 35 #[.pointer (some ⟨pt, 0, none⟩), .agg #[.int .i64 x, .int .i64 y], .int .i64 k, .func (.func fc) #[] vc] w fun e w' => ∃ v', e = .returned v' ∧ Sl encF w' v' ((farC B (x, y) cnt).take k.toNat) ∧ RowKit.Below w.heap.size w w' := by
  have WC := Lib.hid (fun (r : Int) (W : World) (hW : RowKit.Below w.heap.size w W) (h0 : 0 ≤ r) (h1 : r ≤ 8388608) => within_call ((fr_tr pt B).below hp hW) hl (hc.below hW) (place_reach hP) h0 h1)
  have FE := Lib.hid (fun (j : Nat) (L : List Fa) (h : FoundS B (x, y) cnt j L) (hk : k.toNat ≤ L.length ∨ j = 24) => found_end h hp.okB hP hk)
  have FN := Lib.hid (fun (j : Nat) (l : List Bxd) (h1 : OnceB l) (h2 : ∀ b, b ∈ l ↔ b ∈ B ∧ seenB (entN (x, y) (qI j)) b.2 = true) => found_next (cnt := cnt) h1 h2 hp.okB)
  obtain ⟨T, hT⟩ : ∃ T, T = (farC B (x, y) cnt).take k.toNat := ⟨_, rfl⟩
  have F0 := Lib.hid (show FoundS B (x, y) cnt 0 [] from ⟨List.nodup_nil, Nat.zero_le _, .inl ⟨rfl, rfl⟩⟩)
  rw [← hT]
  rw [← hT] at FE
  have hx0 := heap_alloc_new w (.cells #[.int .i64 x, .int .i64 y] 24)
  have HX0 := Lib.hid hx0
  have B0 := Lib.hid (Ba (Below.refl _ w) (.cells #[.int .i64 x, .int .i64 y] 24))
  have HLB := Lib.hid hl
  have HKZ := Lib.hid hk0
  clear hp hc hP hT hl hk0 hx0
  go_enter Tryz.func35, Tryz.ntmps35
  go_wp2
  go_loopw [9, 10] (fun vl u wr => ∃ (j : Nat) (L : List Fa), u = .int .i64 (qI j) ∧ j ≤ 24 ∧ Hid (FoundS B (x, y) cnt j L) ∧ RowKit.Below (w.alloc (.cells #[.int .i64 x, .int .i64 y] 24)).heap.size (w.alloc (.cells #[.int .i64 x, .int .i64 y] 24)) wr ∧ wr.ownsRow w.heap.size 77 3 vl L.length (flat encF L)) (fun _ u _ => (20000000 - intOf u).toNat)
  case atStart => exact ⟨0, [], rfl, Nat.zero_le _, F0, Below.refl _ _, World.ownsRow_nil _ _ _ _⟩
  case round =>
    clear F0
    obtain ⟨j, L, rfl, hj, HF, hb, ho⟩ := hrel
    have HO := Lib.hid ho
    have HB := Lib.hid hb
    have HB2 := Lib.hid (Bt B0.out hb)
    obtain ⟨p1, cap1, rfl, hc1, hc2, _⟩ := row_val ho
    have k1 := blk_below HX0.out hb
    obtain ⟨x1, x2, _, _⟩ := two_cells k1
    have hxl := cell_lt x1
    have hL200 : L.length ≤ 200 := by have := HF.out.2.1; have := HLB.out; omega
    clear ho hb k1
    by_cases hgo : j ≤ 23 ∧ (L.length : Int) < k
    · obtain ⟨hj23, hlk⟩ := hgo
      obtain ⟨q1, q2⟩ := qI_le hj23
      have W1 := Lib.hid (WC.out (qI j) wr HB2.out (by omega) q2)
      have FN1 := Lib.hid (FN.out j)
      have HQ := Lib.hid (qI_succ j)
      generalize qI j = q at *
      clear hj
      go_wp2_with fail
      refine W1.out.mono ?_
      rintro e w3 ⟨v3, l3, rfl, h3, h4, h5, h6⟩
      have F3 := Lib.hid (FN1.out l3 h3 h4)
      have R3 := Lib.hid (row_mono h5 HB2.out.size)
      have B3 := Lib.hid (Bt HB.out h6)
      clear h3 h4 h5 h6
      go_wp2
      go_roundw
      case measure => simp only [intOf]; omega
      case rel => exact ⟨j + 1, _, by rw [HQ.out], by omega, F3, B3.out, R3.out⟩
    · have hend : k.toNat ≤ L.length ∨ j = 24 := by
        by_cases hj23 : j ≤ 23
        · exact .inl (by have := HKZ.out; have := fun h => hgo ⟨hj23, h⟩; omega)
        · exact .inr (by omega)
      have HE := Lib.hid (FE.out j L HF.out hend)
      have HN := Lib.hid HF.out.1
      have SF := Lib.hid (sortF_call w.heap.size L _ wr (own_of_row lenF HO.out rfl) HB2.out.size (by omega) HN.out)
      have hsl := srt_nodup sto_fa HN.out
      have HSL := Lib.hid hsl
      obtain ⟨m, hm1, hm2⟩ : ∃ m : Nat, min k (L.length : Int) = (m : Int) ∧ m = min k.toNat L.length := ⟨min k.toNat L.length, by have := HKZ.out; omega, rfl⟩
      have HM := Lib.hid hm2
      have hmc : m ≤ cap1 := by omega
      have hcm : cap1 ≤ 9223372036854775807 := by unfold maxLen at hc2; omega
      clear hm2 hsl
      by_cases hj23 : j ≤ 23
      case' pos =>
        obtain ⟨q1, q2⟩ := qI_le hj23
        have hlk : ¬ (L.length : Int) < k := fun h => hgo ⟨hj23, h⟩
        generalize qI j = q at *
        clear hgo hend hj23 hj
        go_wp2_with fail
      case' neg =>
        obtain rfl : j = 24 := by omega
        rw [qI_24]
        clear hgo hend hj23 hj
        go_wp2_with fail
      all_goals
        refine SF.out.mono ?_
        rintro e w3 ⟨rfl, ho3, hb3⟩
        have S3 := Lib.hid (Sl.frontN (m := m) lenF (ho3.sl lenF) (by rw [HSL.out, HM.out]; omega))
        have E3 := Lib.hid (show (srt ltF L).take m = T by
          rw [← HE.out, HM.out]
          by_cases h : k.toNat ≤ L.length
          · rw [Nat.min_eq_left h]
          · rw [Nat.min_eq_right (by omega), List.take_of_length_le (by rw [HSL.out]; omega), List.take_of_length_le (by rw [HSL.out]; omega)])
        have B3 := Lib.hid (HB2.out.trans hb3)
        rw [E3.out] at S3
        clear ho3 hb3 SF
        go_wp2
        go_ret
        exact ⟨_, rfl, S3.out, B3.out⟩
end
end Go.Proofs.YtahichjiphjapaaGreatDoor
