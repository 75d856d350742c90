/-
  The reference of region: Ask.
-/
import Derived.Test.YtklpemcchfmdjaaDoorRa15
namespace Go.Proofs.YtklpemcchfmdjaaDoor
set_option linter.unusedSimpArgs false
set_option linter.unusedVariables false
open Go.RowKit Go.Sort Go.Lib Go.Shelf

theorem outT_any (n : Nat) (l : List Int) : outT n l = l.any (fun t => decide (t < 0) || decide ((n : Int) ≤ t)) := rfl
set_option maxHeartbeats 4000000 in
set_option maxRecDepth 100000 in
theorem rask_call (b : List Bool) (l : List Int) (now : Bool) (wrong : Int) (vb v : Value) (w : World) (hb : Sl encB w vb b) (hs : Sl encI w v l) (hn : l.length ≤ 1000) (hbn : b.length ≤ 100000) : Calls Tryd.prog 13 #[vb, v, .bool now, .int .i64 wrong] w fun e w' => e = .returned (.int .i64 (askT b l now wrong)) ∧ w = w' := by
  obtain ⟨q, cap, rfl, l1, l2, l3⟩ := hs
  obtain ⟨qb, capb, rfl, b1, b2, b3⟩ := hb
  unfold maxLen at l2 b2
  have HL := Lib.hid l3
  have HBB := Lib.hid b3
  have HO1 : Hid (∀ k, k < l.length → (l[k]! < 0 ∨ (b.length : Int) ≤ l[k]!) → askT b l now wrong = 1) := Lib.hid (fun k hk e => by
    unfold askT
    rw [if_pos]
    unfold outT
    rw [List.any_eq_true]
    exact ⟨l[k]!, by rw [getElem!_pos l k hk]; exact List.getElem_mem hk, by rw [Bool.or_eq_true, decide_eq_true_eq, decide_eq_true_eq]; exact e⟩)
  have HO2 : Hid (outT b.length l = false → ∀ k, k < l.length → 0 ≤ l[k]! ∧ l[k]! < (b.length : Int)) := Lib.hid (fun h k hk => by
    unfold outT at h
    rw [List.any_eq_false] at h
    have := h l[k]! (by rw [getElem!_pos l k hk]; exact List.getElem_mem hk)
    rw [Bool.or_eq_true, decide_eq_true_eq, decide_eq_true_eq] at this
    omega)
  have HTk : Hid (∀ k, k < l.length → (l.take (k + 1)).any (fun t => decide (t < 0) || decide ((b.length : Int) ≤ t)) = ((l.take k).any (fun t => decide (t < 0) || decide ((b.length : Int) ≤ t)) || (decide (l[k]! < 0) || decide ((b.length : Int) ≤ l[k]!)))) := Lib.hid (fun k hk => by
    rw [List.take_succ_eq_append_getElem hk, List.any_append, getElem!_pos l k hk]
    simp)
  have HA0 : Hid (outT b.length l = false → twiceT b now l l.length = false → askT b l now wrong = 0) := Lib.hid (fun h1 h2 => by unfold askT; rw [h1, h2]; rfl)
  have HA1 : Hid (outT b.length l = false → ∀ k, k < l.length → badT b now l k = true → askT b l now wrong = wrong) := Lib.hid (fun h1 k hk h2 => by unfold askT; rw [h1, twiceT_hit hk h2]; rfl)
  have HTS := Lib.hid (fun k => twiceT_succ b now l k)
  have HT0 : Hid (twiceT b now l 0 = false) := Lib.hid rfl
  have HBD : Hid (∀ k, badT b now l k = ((b[(l[k]!).toNat]! != now) || decide (l[k]! ∈ l.take k))) := Lib.hid (fun k => rfl)
  have HOL : Hid (outT b.length l = l.any (fun t => decide (t < 0) || decide ((b.length : Int) ≤ t))) := Lib.hid rfl
  generalize askT b l now wrong = r at *
  generalize outT b.length l = ot at *
  generalize twiceT b now l = tw at *
  generalize badT b now l = bd at *
  clear l3 b3
  go_enter Tryd.func13, Tryd.ntmps13
  go_wp2
  go_loopw [15] (fun i wr => ∃ k : Nat, k ≤ l.length ∧ i = .int .i64 k ∧ wr = w ∧ Hid ((l.take k).any (fun t => decide (t < 0) || decide ((b.length : Int) ≤ t)) = false)) (fun i _ => l.length - (intOf i).toNat)
  case atStart => exact ⟨0, Nat.zero_le _, rfl, rfl, Lib.hid (by simp)⟩
  case round =>
    obtain ⟨k, hk, rfl, rfl, hu⟩ := hrel
    by_cases hkn : k < l.length
    · obtain ⟨gb, o, rfl, hg1, hg2⟩ := HL.out (by omega)
      have c1 := sl_cell1 encI1' hg2 hkn
      have h1 := HO1.out k hkn
      have h2 := HTk.out k hkn
      generalize l[k]! = y at *
      have hkz : (k : Int) < (l.length : Int) := by omega
      clear hg2
      by_cases he : y < 0
      · have H1 := Lib.hid (h1 (.inl he))
        have e1 : decide (y < 0) = true := decide_eq_true he
        clear h1 h2
        go_wp2
        go_ret
        exact ⟨ret_int H1.out.symm, rfl⟩
      · by_cases he2 : (b.length : Int) ≤ y
        · have H1 := Lib.hid (h1 (.inr he2))
          clear h1 h2
          go_wp2
          go_ret
          exact ⟨ret_int H1.out.symm, rfl⟩
        · rw [hu.out, decide_eq_false he, decide_eq_false he2] at h2
          have H2 := Lib.hid h2
          clear h1 h2
          go_wp2
          go_roundw
          case measure => simp only [intOf]; omega
          case rel => exact ⟨k + 1, by omega, by go_num, by trivial, Lib.hid H2.out⟩
    · obtain rfl : k = l.length := by omega
      rw [List.take_length] at hu
      have hot : ot = false := by rw [HOL.out, hu.out]
      have HR := Lib.hid (HO2.out hot)
      have HA0' := Lib.hid (HA0.out hot)
      have HA1' := Lib.hid (HA1.out hot)
      have hkz : ¬ (l.length : Int) < (l.length : Int) := by omega
      clear HO1 HO2 HTk HA0 HA1 hot HOL
      go_wp2_with fail
      go_loopw [30] (fun i wx => ∃ k : Nat, k ≤ l.length ∧ i = .int .i64 k ∧ wx = wr ∧ Hid (tw k = false)) (fun i _ => l.length - (intOf i).toNat)
      case atStart => exact ⟨0, Nat.zero_le _, rfl, rfl, HT0⟩
      case round =>
        obtain ⟨k, hk, rfl, rfl, hu2⟩ := hrel
        by_cases hkn : k < l.length
        · obtain ⟨gb, o, rfl, hg1, hg2⟩ := HL.out (by omega)
          have c1 := sl_cell1 encI1' hg2 hkn
          obtain ⟨r0, r1⟩ := HR.out k hkn
          have hbd := HBD.out k
          have h1 := HA1'.out k hkn
          have h2 := HTS.out k
          have SLT := Lib.hid (sl_take lenI (w := wr) (g := gb) (o := o) (cap := cap) (l := l) k (by omega) l1 (show cap ≤ maxLen by unfold maxLen; exact l2) hg1 hg2)
          have hlt : (l.take k).length ≤ 100000 := by rw [List.length_take]; omega
          have IC := Lib.hid (in_call (l.take k) _ l[k]! wr SLT.out hlt)
          generalize decide (l[k]! ∈ l.take k) = dm at *
          generalize l[k]! = y at *
          obtain ⟨t, rfl⟩ : ∃ t : Nat, y = t := ⟨y.toNat, by omega⟩
          rw [Int.toNat_natCast] at hbd
          have htb : t < b.length := by omega
          obtain ⟨gc, oc, rfl, hc1, hc2⟩ := HBB.out (by omega)
          have d1 := atB hc2 htb
          generalize b[t]! = x at *
          have hkz2 : (k : Int) < (l.length : Int) := by omega
          have hkc : k ≤ cap := by omega
          have hkl : k ≤ l.length := hk
          generalize bd k = bk at *
          clear hg2 hc2
          cases hx : (x != now)
          · rw [hx, Bool.false_or] at hbd
            have hxn : x = now := by simpa using hx
            subst hxn
            cases dm
            · subst hbd
              rw [hu2.out] at h2
              have H2 := Lib.hid h2
              clear h1 h2 hx
              cases x
              all_goals
                go_wp2_with fail
                refine IC.out.mono ?_
                rintro e w2 ⟨rfl, rfl⟩
                go_wp2
                go_roundw
                case measure => simp only [intOf]; omega
                case rel => exact ⟨k + 1, by omega, by go_num, by trivial, Lib.hid (by rw [H2.out]; rfl)⟩
            · subst hbd
              have H1 := Lib.hid (h1 rfl)
              clear h1 h2 hx
              cases x
              all_goals
                go_wp2_with fail
                refine IC.out.mono ?_
                rintro e w2 ⟨rfl, rfl⟩
                go_wp2
                go_ret
                exact ⟨ret_int H1.out.symm, rfl⟩
          · rw [hx, Bool.true_or] at hbd
            subst hbd
            have H1 := Lib.hid (h1 rfl)
            clear h1 h2
            cases x <;> cases now <;> (try (exact absurd hx (by decide)))
            all_goals
              clear hx
              go_wp2
              go_ret
              exact ⟨ret_int H1.out.symm, rfl⟩
        · obtain rfl : k = l.length := by omega
          have H0 := Lib.hid (HA0'.out hu2.out)
          have hkz2 : ¬ (l.length : Int) < (l.length : Int) := by omega
          go_wp2
          go_ret
          exact ⟨ret_int H0.out.symm, rfl⟩
end Go.Proofs.YtklpemcchfmdjaaDoor
