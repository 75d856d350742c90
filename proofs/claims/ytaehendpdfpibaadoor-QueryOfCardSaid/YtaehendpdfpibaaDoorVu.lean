/-
  Mask of the program and of the reference.
-/
import Derived.Test.YtaehendpdfpibaaDoorVf
namespace Go.Proofs.YtaehendpdfpibaaDoor
set_option linter.unusedSimpArgs false
set_option linter.unusedVariables false
open Go.RowKit Go.Sort Go.Lib Go.Shelf

def kindsV (l : List Vl) : List Int := l.map fun x => x.1
theorem kindsV_step {l : List Vl} {i : Nat} (h : i < l.length) : kindsV (l.take (i + 1)) = kindsV (l.take i) ++ [l[i]!.1] := by
  rw [take_snoc l h]
  simp [kindsV]
theorem kindsV_all {l : List Vl} (hr : ∀ x ∈ l, chk x = 0) : (kindsV l).all kindB = true := by
  rw [List.all_eq_true]
  intro k hk
  obtain ⟨x, hx, rfl⟩ := List.mem_map.1 hk
  exact chk_kind (hr x hx)

set_option maxHeartbeats 2000000 in
set_option maxRecDepth 100000 in
theorem mask_call (l : List Vl) (v : Value) (a : Addr) (w : World) (hl : Sl encV w v l) (hr : ∀ x ∈ l, chk x = 0) (hE : ErrK w a) (hlen : l.length ≤ 100000) :
    Calls Tryd.prog 21 #[v] w fun e w' => e = .returned (.int .u64 (maskV l : Nat)) ∧ RowKit.Below w.heap.size w w' := by
  obtain ⟨p, cap, rfl, hl1, hl2, hl3⟩ := hl
  have HL := Lib.hid hl3
  have HE := Lib.hid hE
  have hbig : l.length ≤ 9223372036854775807 := by omega
  have HK := Lib.hid (kindsV_all hr)
  obtain ⟨m, hm⟩ : ∃ m, m = maskV l := ⟨_, rfl⟩
  rw [← hm]
  have HM := Lib.hid (show m = foldN true 0 (kindsV l) from hm)
  clear hl3 hl2 hr hE hm
  go_enter Tryd.func21, Tryd.ntmps21
  go_wp2
  go_loopg [3, 10] l.length (fun gk s3 s10 wr => ∃ (i : Nat) (K : List Int), s10 = .int .i64 i ∧ i ≤ l.length ∧ l.length - i ≤ gk ∧ RowKit.Below w.heap.size w wr ∧ wr.ownsRow w.heap.size 3 1 s3 K.length (flat encI K) ∧ K.length ≤ i ∧ Hid (K = kindsV (l.take i)))
  case atStart => exact ⟨0, [], rfl, Nat.zero_le _, by omega, Below.refl _ _, World.ownsRow_nil _ _ _ _, Nat.le_refl _, rfl⟩
  case round =>
    obtain ⟨i, K, rfl, hi, hgk, hb, hown, hKl, I⟩ := hrel
    have HB := Lib.hid hb
    have HO := Lib.hid hown
    obtain ⟨pr, cr, rfl, _, _, _⟩ := row_val hown
    by_cases hin : i < l.length
    · obtain ⟨g, o, rfl, hg1, hg2⟩ := HL.out (by omega)
      obtain ⟨c1, c2, c3⟩ := atV hg2 hin
      have d1 : wr.cell? ⟨g, o + i * 3, none⟩ = _ := Bc HB.out hg1 c1
      have d2 : wr.cell? ⟨g, o + i * 3 + 1, none⟩ = _ := Bc HB.out hg1 c2
      have d3 : wr.cell? ⟨g, o + i * 3 + 2, none⟩ = _ := Bc HB.out hg1 c3
      have hgw : g < wr.heap.size := Bl HB.out hg1
      have ST := Lib.hid (kindsV_step hin)
      generalize hx : l[i]! = x at *
      obtain ⟨x1, x2, x3⟩ := x
      dsimp only at d1 d2 d3
      clear hg2 c1 c2 c3 hx hb hown
      have BA := Lib.hid (Ba (Ba (Below.refl _ wr) (.cells #[.int .i64 x1, .int .i64 x2, .int .i64 x3] 42)) (.cells #[.int .i64 x1] 3))
      have O2 := Lib.hid (row_keep HO.out (fun g hg => BA.out.block g (row_lt HO.out hg)))
      have S2 := Lib.hid (sl_lit (enc := encI) (w := wr.alloc (.cells #[.int .i64 x1, .int .i64 x2, .int .i64 x3] 42)) (cs := #[.int .i64 x1]) (t := 3) (b := wr.heap.size + 1) [x1] (by simp) rfl (by unfold maxLen; simp))
      have LE := Lib.hid (show w.heap.size ≤ ((wr.alloc (.cells #[.int .i64 x1, .int .i64 x2, .int .i64 x3] 42)).alloc (.cells #[.int .i64 x1] 3)).heap.size from by have := HB.out.size; simp; omega)
      go_wp2_with (at_builtin; refine wpl_app apI rfl _ _ rfl w.heap.size (by rfl) (by rfl) O2.out rfl S2.out (by simp; omega) LE.out ?_; intro v1 w1 hown1 hgrow1 hnil1)
      have hb1 := grownB (Bt HB.out BA.out) O2.out hgrow1
      have eL : K.length + [x1].length = (K ++ [x1]).length := by simp
      rw [eL] at hown1
      clear hgrow1 hnil1 eL
      go_roundg (l.length - (i + 1))
      case measure => omega
      case rel => exact ⟨i + 1, K ++ [x1], by go_num, by omega, Nat.le_refl _, hb1, hown1, by simp; omega, (show Hid _ from by show _ = _; rw [ST.out, ← I.out])⟩
    · have hii : i = l.length := by omega
      have hK : K = kindsV l := by have := I.out; rwa [hii, List.take_length] at this
      have C := Lib.hid (of_call K _ a wr (row_sl lenI HO.out rfl) (HE.out.below HB.out))
      have em : foldN true 0 K = m := by rw [hK, ← HM.out]
      rw [resK_yes (by rw [hK]; exact HK.out), em] at C
      clear em
      clear hK hb hown
      go_wp2_with fail
      refine C.out.mono ?_
      rintro e w1 ⟨rfl, hg1⟩
      go_wp2
      go_ret
      exact ⟨rfl, Bt HB.out hg1.below⟩

set_option maxHeartbeats 2000000 in
set_option maxRecDepth 100000 in
theorem rmask_call (l : List Vl) (v : Value) (w : World) (hl : Sl encV w v l) (hr : ∀ x ∈ l, chk x = 0) (hlen : l.length ≤ 100000) :
    Calls Tryd.prog 23 #[v] w fun e w' => e = .returned (.int .u64 (maskV l : Nat)) ∧ RowKit.Below w.heap.size w w' := by
  obtain ⟨p, cap, rfl, hl1, hl2, hl3⟩ := hl
  have HL := Lib.hid hl3
  have hbig : l.length ≤ 9223372036854775807 := by omega
  have HR := Lib.hid hr
  obtain ⟨m, hm⟩ : ∃ m, m = maskV l := ⟨_, rfl⟩
  rw [← hm]
  have HM := Lib.hid (show m = foldN true 0 (kindsV l) from hm)
  clear hl3 hl2 hr hm
  go_enter Tryd.func23, Tryd.ntmps23
  go_wp2
  go_loopg [3, 8] l.length (fun gk s3 s8 wr => ∃ (i n : Nat), s8 = .int .i64 i ∧ s3 = .int .u64 n ∧ i ≤ l.length ∧ l.length - i ≤ gk ∧ Gr w wr ∧ Hid (n = foldN true 0 (kindsV (l.take i))))
  case atStart => exact ⟨0, 0, rfl, rfl, Nat.zero_le _, by omega, Gr.refl _, rfl⟩
  case round =>
    obtain ⟨i, n, rfl, rfl, hi, hgk, hg, I⟩ := hrel
    have HG := Lib.hid hg
    by_cases hin : i < l.length
    · obtain ⟨g, o, rfl, hg1, hg2⟩ := HL.out (by omega)
      obtain ⟨c1, c2, c3⟩ := atV hg2 hin
      have d1 : wr.cell? ⟨g, o + i * 3, none⟩ = some (.int .i64 l[i]!.1) := Bc HG.out.below hg1 c1
      have d2 : wr.cell? ⟨g, o + i * 3 + 1, none⟩ = some (.int .i64 l[i]!.2.1) := Bc HG.out.below hg1 c2
      have d3 : wr.cell? ⟨g, o + i * 3 + 2, none⟩ = some (.int .i64 l[i]!.2.2) := Bc HG.out.below hg1 c3
      have hgw : g < wr.heap.size := Bl HG.out.below hg1
      have ST := Lib.hid (kindsV_step hin)
      have hkx : kindB l[i]!.1 = true := chk_kind (HR.out _ (by rw [getElem!_pos l i hin]; exact List.getElem_mem hin))
      have hlt : n < 18446744073709551616 := by
        rw [I.out]
        refine foldN_lt true 0 _ (by decide) fun k hk => ?_
        obtain ⟨y, hy, rfl⟩ := List.mem_map.1 hk
        exact chk_kind (HR.out y (List.mem_of_mem_take hy))
      generalize hx : l[i]! = x at *
      obtain ⟨x1, x2, x3⟩ := x
      dsimp only at d1 d2 d3 hkx ST
      have hb := (kindB_iff x1).1 hkx
      obtain ⟨k, rfl⟩ : ∃ k : Nat, x1 = k := ⟨x1.toNat, by omega⟩
      have hk : k < 64 := by omega
      have hw : IntKind.u64.wrap (2 ^ k) = ((2 ^ k : Nat) : Int) := by
        have h := pow64 hk
        have e : ((2 ^ k : Nat) : Int) = (2 : Int) ^ k := by rw [Int.natCast_pow]; rfl
        rw [IntKind.wrap_u64, ← e]
        generalize 2 ^ k = q at *
        omega
      have hor := u64_or_nat n (2 ^ k) hlt (pow64 hk)
      have hor2 : bits .or .u64 (n : Int) ((2 : Int) ^ k) = ((n ||| 2 ^ k : Nat) : Int) := by rw [← hor, Int.natCast_pow]; rfl
      have HOR := Lib.hid hor2
      have HOP := Lib.hid (show n ||| 2 ^ k = opN true n k from rfl)
      clear hg2 c1 c2 c3 hx hg hkx hb hlt
      go_wp2
      go_roundg (l.length - (i + 1))
      case measure => omega
      case rel => exact ⟨i + 1, n ||| 2 ^ k, by go_num, by first | rfl | rw [HOR.out], by omega, Nat.le_refl _, HG.out.alloc _, (show Hid _ from by show _ = _; rw [ST.out, foldN_snoc, ← I.out]; rfl)⟩
    · have hii : i = l.length := by omega
      have hK : n = m := by have := I.out; rw [hii, List.take_length] at this; rw [this, HM.out]
      clear hg
      subst hK
      go_wp2
      go_ret
      exact ⟨rfl, HG.out.below⟩
end Go.Proofs.YtaehendpdfpibaaDoor
