/-
  MasksOrder: it doesn't matter in which order kinds are put, nor how often.
-/
import Derived.Test.YtcmfkjjagffjnaaDoorAl3
namespace Go.Proofs.YtcmfkjjagffjnaaDoor
set_option linter.unusedSimpArgs false
set_option linter.unusedVariables false
open Go.RowKit Go.Sort Go.Lib Go.Shelf

theorem foldF_or : ∀ (l : List Int) (f : Nat → Bool), (∀ k ∈ l, kindB k = true) → ∀ i, foldF true f l i = (f i || decide ((i : Int) ∈ l))
  | [], f, _, i => by simp [foldF]
  | k :: r, f, hk, i => by
    have h0 := (kindB_iff k).1 (hk k (by simp))
    have ih := foldF_or r (putF true f k.toNat) (fun x hx => hk x (by simp [hx])) i
    show foldF true (putF true f k.toNat) r i = _
    rw [ih]
    unfold putF
    by_cases h : i = k.toNat
    · rw [if_pos h]
      have : (i : Int) = k := by omega
      simp [this]
    · rw [if_neg h]
      have : ¬ (i : Int) = k := by omega
      simp [this]
theorem order_bits {m : Nat} {l : List Int} (hm : m < 18446744073709551616) (hk : ∀ k ∈ l, kindB k = true) (i : Nat) : (foldN true m l).testBit i = (m.testBit i || decide ((i : Int) ∈ l)) := by
  rw [(fold_both true l m (fun i => m.testBit i) hm (fun _ => rfl) hk).2 i, foldF_or l _ hk i]
theorem opN_twice {q k : Nat} (hq : q < 18446744073709551616) (hk : k < 64) : opN true (opN true q k) k = opN true q k := by
  refine tb_ext (opN_lt true (opN_lt true hq hk) hk) (opN_lt true hq hk) fun i _ => ?_
  rw [opN_bit true (opN_lt true hq hk) hk, opN_bit true hq hk]
  split <;> rfl

set_option maxHeartbeats 4000000 in
set_option maxRecDepth 100000 in
theorem masksOrder_walk (m : Nat) (l : List Int) (v : Value) (hm : m < 18446744073709551616) (w : World) (hl : Sl encI w v l) (A : Addr) (hE : ErrK w A) :
    Calls Tryd.prog 7 #[.int .u64 m, v] w fun e w' => e = .returned (.bool true) ∧ RowKit.Below w.heap.size w w' := by
  obtain ⟨p, cap, rfl, hl1, hl2, hl3⟩ := hl
  have HL := Lib.hid (show Sl encI w (.slice p l.length cap) l from ⟨p, cap, rfl, hl1, hl2, hl3⟩)
  have HE := Lib.hid hE
  have HL3 := Lib.hid hl3
  clear hl3 hE hl2
  by_cases hbig : l.length > 50
  · have hz : (l.length : Int) > 50 := by omega
    go_enter Tryd.func7, Tryd.ntmps7
    go_wp2_with (go_at_call 9; refine (alive_any _ A HE.out).mono ?_; rintro e w1 ⟨rfl, hg1⟩)
    go_ret
    exact ⟨rfl, hg1.below⟩
  · have hz : ¬ (l.length : Int) > 50 := by omega
    have hlen : l.length ≤ 50 := by omega
    clear hbig
    go_enter Tryd.func7, Tryd.ntmps7
    go_wp2_with fail
    refine (alive_any _ A HE.out).mono ?_
    rintro e w1 ⟨rfl, hg1⟩
    have G1 := Lib.hid hg1
    clear hg1
    have c := with_call m l _ A w1 (HL.out.below G1.out.below) hm (HE.out.below G1.out.below)
    cases hk : l.all kindB
    · rw [resK_no hk] at c
      have C := Lib.hid c
      clear c hk
      go_wp2_with (go_at_call 12; refine C.out.mono ?_; rintro e w2 ⟨rfl, hg2⟩)
      go_ret
      exact ⟨rfl, (G1.out.trans hg2).below⟩
    · rw [resK_yes hk] at c
      have hall : ∀ k ∈ l, kindB k = true := fun k h => List.all_eq_true.1 hk k h
      have ob := fun i => order_bits hm hall i
      have hX := foldN_lt true m l hm hall
      obtain ⟨X, hXe⟩ : ∃ X, X = foldN true m l := ⟨_, rfl⟩
      rw [← hXe] at c hX
      simp only [← hXe] at ob
      have C := Lib.hid c
      have OB := Lib.hid ob
      have HA := Lib.hid hall
      have HX := Lib.hid hX
      clear c hk hall ob hX hXe
      go_wp2_with fail
      refine C.out.mono ?_
      rintro e w2 ⟨rfl, hg2⟩
      have G2 := Lib.hid (G1.out.trans hg2)
      clear hg2 G1 C
      go_wp2_with fail
      go_loopw [7, 8] (fun s7 s8 wr => ∃ (z : Int) (u q : Nat), u ≤ l.length ∧ s8 = .int .i64 z ∧ Hid (z = (u : Int) - 1) ∧ s7 = .int .u64 q ∧ q < 18446744073709551616 ∧ Hid (∀ i, q.testBit i = (m.testBit i || decide ((i : Int) ∈ l.drop u))) ∧ Gr w wr) (fun _ i _ => ((intOf i) + 1).toNat)
      case atStart => exact ⟨(l.length : Int) - 1, l.length, m, Nat.le_refl _, by go_num, Lib.hid rfl, rfl, hm, Lib.hid (fun i => by simp), G2.out⟩
      case round =>
        obtain ⟨z, u, q, hu, rfl, HZ, rfl, hq, HQ, hg⟩ := hrel
        obtain ⟨M, hM⟩ : ∃ M, M = wr := ⟨_, rfl⟩
        rw [← hM] at hg ⊢
        clear hM
        have GM := Lib.hid hg
        clear hg
        by_cases hz0 : 0 ≤ z
        · obtain ⟨k, rfl⟩ : ∃ k : Nat, z = k := ⟨z.toNat, by omega⟩
          have hzo := HZ.out
          have huk : u = k + 1 := by omega
          have hkl : k < l.length := by omega
          have hxe : l[k]! = l[k] := getElem!_pos l k hkl
          have hxm : l[k]! ∈ l := by rw [hxe]; exact List.getElem_mem hkl
          have hdr : l.drop k = l[k]! :: l.drop (k + 1) := by rw [hxe]; exact List.drop_eq_getElem_cons hkl
          obtain ⟨g, o, rfl, hg1, hg2⟩ := HL3.out (by omega)
          have c1 := atI hg2 hkl
          generalize hx : l[k]! = x at *
          have hkx := HA.out x hxm
          have hb := (kindB_iff x).1 hkx
          obtain ⟨n, rfl⟩ : ∃ n : Nat, x = n := ⟨x.toNat, by omega⟩
          have hn : n < 64 := by omega
          have HKX := Lib.hid hkx
          have HC := Lib.hid c1
          have HD := Lib.hid hdr
          have HO1 := Lib.hid (opN_twice hq hn)
          have HO2 := Lib.hid (opN_lt true hq hn)
          have HO3 := Lib.hid (fun i => opN_bit true hq hn i)
          have HQL := Lib.hid hq
          have HQ2 : Hid (∀ i, q.testBit i = (m.testBit i || decide ((i : Int) ∈ l.drop (k + 1)))) := by rw [← huk]; exact HQ
          clear c1 hdr hg2 hb hkx hxm hxe hx hzo huk hu HQ HZ hq
          go_wp2_with fail
          go_loopw [7, 32] (fun s7 s32 wr => ∃ j q' : Nat, j ≤ 2 ∧ s32 = .int .i64 j ∧ s7 = .int .u64 q' ∧ Hid (q' = if j = 0 then q else opN true q n) ∧ Gr w wr) (fun _ i _ => 2 - (intOf i).toNat)
          case atStart => exact ⟨0, q, by omega, rfl, rfl, Lib.hid rfl, GM.out⟩
          case round =>
            obtain ⟨j, q', hj, rfl, rfl, HQ', hgr⟩ := hrel
            have GR := Lib.hid hgr
            clear hgr
            by_cases hj2 : j < 2
            · have hjz : (j : Int) < 2 := by omega
              have c1 := Bc GR.out.below hg1 HC.out
              have hq' : q' < 18446744073709551616 := by rw [HQ'.out]; split; exact HQL.out; exact HO2.out
              have S3 := sl_lit (enc := encI) (w := wr) (cs := #[.int .i64 (n : Int)]) (t := 3) (b := wr.heap.size) [(n : Int)] rfl rfl (by unfold maxLen; simp)
              have c := with_call q' [(n : Int)] _ A _ S3 hq' (HE.out.below (Ba GR.out.below _))
              rw [resK_yes (by simp [HKX.out])] at c
              have C := Lib.hid c
              have G3 := Lib.hid (GR.out.alloc (.cells #[.int .i64 (n : Int)] 3))
              have HN := Lib.hid (show foldN true q' [(n : Int)] = opN true q n by
                show opN true q' n = _
                rw [HQ'.out]
                split
                · rfl
                · exact HO1.out)
              clear c S3 hq'
              go_wp2_with (go_at_call 12; refine C.out.mono ?_; rintro e w3 ⟨rfl, hg3⟩)
              have G4 := G3.out.trans hg3
              go_roundw
              case measure => simp [intOf]; omega
              case rel => exact ⟨j + 1, foldN true q' [(n : Int)], by omega, by go_num, rfl, Lib.hid (by rw [HN.out, if_neg (by omega)]), G4⟩
            · have hjz : ¬ (j : Int) < 2 := by omega
              have HF := Lib.hid (show q' = opN true q n by rw [HQ'.out, if_neg (by omega)])
              clear HQ'
              go_wp2
              go_roundw
              case measure => simp [intOf]
              case rel =>
                refine ⟨(k : Int) - 1, k, q', by omega, by go_num, Lib.hid rfl, rfl, by rw [HF.out]; exact HO2.out, Lib.hid (fun i => ?_), GR.out⟩
                rw [HF.out, HO3.out i, HD.out, HQ2.out i]
                by_cases h : i = n
                · subst h; simp
                · have : ¬ (i : Int) = n := by omega
                  rw [if_neg h]
                  simp [this]
        · have hzo := HZ.out
          have hu0 : u = 0 := by omega
          rw [hu0, List.drop_zero] at HQ
          have HXQ := Lib.hid (show q = X from tb_ext hq HX.out fun i _ => by rw [HQ.out i, OB.out i])
          have HXM := Lib.hid (show X &&& m = m from by
            rw [and_eq_iff]
            intro i hi
            rw [OB.out i, hi]
            rfl)
          have hqx := HXQ.out
          subst hqx
          have ch := holds_any q m hq hm
          rw [HXM.out] at ch
          have CH := Lib.hid ch
          clear hzo hu0 HQ HZ ch hu
          by_cases hl0 : l.length = 0
          · have hlz : ((l.length : Int) == 0) = true := by rw [hl0]; rfl
            go_wp2_with (go_at_call 29; refine (CH.out _).mono ?_; rintro e w3 ⟨rfl, rfl⟩)
            go_ret
            exact ⟨ret_bool (by simp), GM.out.below⟩
          · have hlz : ((l.length : Int) == 0) = false := by rw [beq_eq_false_iff_ne]; omega
            have hlp : (0 : Nat) < l.length := by omega
            obtain ⟨g, o, rfl, hg1, hg2⟩ := HL3.out hlp
            have c1 := atI hg2 hlp
            have hxm : l[0]! ∈ l := by rw [getElem!_pos l 0 hlp]; exact List.getElem_mem hlp
            generalize hx : l[0]! = x at *
            replace c1 := Bc GM.out.below hg1 c1
            simp only [Nat.add_zero] at c1
            have hkx := HA.out x hxm
            have hb := (kindB_iff x).1 hkx
            have cm := mhas_any q hq x
            rw [hkx, OB.out x.toNat, show ((x.toNat : Nat) : Int) = x by omega, decide_eq_true hxm, Bool.or_true, Bool.and_true] at cm
            have CM := Lib.hid cm
            clear hg2 hx hkx hb cm hxm hl0
            go_wp2_with (first | (go_at_call 29; refine (CH.out _).mono ?_; rintro e w3 ⟨rfl, rfl⟩) | (go_at_call 24; refine (CM.out _).mono ?_; rintro e w3 ⟨rfl, rfl⟩))
            go_ret
            exact ⟨ret_bool (by simp), GM.out.below⟩
end Go.Proofs.YtcmfkjjagffjnaaDoor
