/-
  masks.With, Without and Of: which kinds have a mask, and which.
-/
import Derived.Test.YtaehendpdfpibaaDoorMk6
namespace Go.Proofs.YtaehendpdfpibaaDoor
set_option linter.unusedSimpArgs false
set_option linter.unusedVariables false
open Go.RowKit Go.Sort Go.Lib Go.Shelf

/-- What With, Without and Of answer. -/
def resK (on : Bool) (m : Nat) (l : List Int) (a : Addr) : Value := if l.all kindB then .tuple #[.int .u64 (foldN on m l : Nat), .nilIface] else .tuple #[.int .u64 0, .iface 81 (.pointer (some a))]
theorem resK_no {on : Bool} {m : Nat} {l : List Int} {a : Addr} (h : l.all kindB = false) : resK on m l a = .tuple #[.int .u64 0, .iface 81 (.pointer (some a))] := by unfold resK; rw [h]; rfl
theorem resK_yes {on : Bool} {m : Nat} {l : List Int} {a : Addr} (h : l.all kindB = true) : resK on m l a = .tuple #[.int .u64 (foldN on m l : Nat), .nilIface] := by unfold resK; rw [h]; rfl

set_option maxHeartbeats 1000000 in
theorem changed_T (m : Nat) (l : List Int) (v : Value) (a : Addr) (w : World) (hl : Sl encI w v l) (hm : m < 18446744073709551616) (hE : ErrK w a) :
    Calls Tryd.prog 31 #[.int .u64 m, v, .func (.func 32) #[] #[]] w fun e w' => e = .returned (resK true m l a) ∧ Gr w w' := by
  obtain ⟨p, cap, rfl, hl1, hl2, hl3⟩ := hl
  have HL := Lib.hid hl3
  have HE := Lib.hid hE
  have hbig : l.length ≤ 9223372036854775807 := by unfold maxLen at hl2; omega
  clear hl3 hl2 hE
  go_enter Tryd.func31, Tryd.ntmps31
  go_wp2
  go_loopw [0, 12] (fun s0 i wr => ∃ j : Nat, j ≤ l.length ∧ i = .int .i64 j ∧ wr = w ∧ s0 = .int .u64 (foldN true m (l.take j) : Nat) ∧ (l.take j).all kindB = true) (fun _ i _ => l.length - (intOf i).toNat)
  case atStart => exact ⟨0, Nat.zero_le _, rfl, rfl, by simp [foldN], by simp⟩
  case round =>
    obtain ⟨j, hj, rfl, rfl, rfl, hall⟩ := hrel
    by_cases hjn : j < l.length
    · obtain ⟨g, o, rfl, hg1, hg2⟩ := HL.out (by omega)
      have c1 := atI hg2 hjn
      have et : l.take (j + 1) = l.take j ++ [l[j]!] := by rw [getElem!_pos l j hjn]; exact List.take_succ_eq_append_getElem hjn
      have hmem : l[j]! ∈ l := by rw [getElem!_pos l j hjn]; exact List.getElem_mem hjn
      generalize hx : l[j]! = x at *
      have ET := Lib.hid et
      have HA := Lib.hid hall
      have HM := Lib.hid hmem
      have HF := Lib.hid (foldN_lt true m (l.take j) hm (fun k hk => List.all_eq_true.1 hall k hk))
      clear hg2 et hall hmem hx hm
      cases hk : kindB x
      · have hno : l.all kindB = false := by
          rw [Bool.eq_false_iff]
          intro h
          rw [List.all_eq_true.1 h x HM.out] at hk
          cases hk
        have hE : _ = _ := HE.out
        have HN := Lib.hid hno
        clear hno
        go_wp2_with (go_at_call 36; refine (isKind_any _ _).mono ?_; rintro e w1 ⟨rfl, rfl⟩)
        go_region
        go_wp2
        go_ret2
        exact ⟨by rw [resK_no HN.out]; rfl, (by repeat (first | with_reducible exact Gr.refl _ | with_reducible assumption | with_reducible apply Gr.alloc | with_reducible apply Gr.drewN | with_reducible apply Gr.drew | with_reducible apply Gr.grow | (with_reducible refine Gr.trans ?_ (by assumption))))⟩
      · have hb := (kindB_iff x).1 hk
        obtain ⟨n, rfl⟩ : ∃ n : Nat, x = n := ⟨x.toNat, by omega⟩
        have hn : n < 64 := by omega
        have HK := Lib.hid hk
        clear hb
        go_wp2_with (first | (go_at_call 36; refine (isKind_any _ _).mono ?_; rintro e w1 ⟨rfl, rfl⟩) | (go_at_call 37; refine (bit_any n hn _).mono ?_; rintro e w1 ⟨rfl, rfl⟩) | (go_at_call 32; refine (op_anyT (foldN true m (l.take j)) n HF.out hn _).mono ?_; rintro e w1 ⟨rfl, rfl⟩))
        go_roundw
        case measure => simp [intOf]; omega
        case rel => exact ⟨j + 1, by omega, by go_num, trivial, by rw [ET.out, foldN_snoc]; rfl, by rw [ET.out, List.all_append, HA.out]; simp [HK.out]⟩
    · have hjn' : j = l.length := by omega
      subst hjn'
      rw [List.take_length] at hall
      rw [List.take_length]
      have HY := Lib.hid hall
      clear hall
      go_wp2
      go_ret2
      exact ⟨by rw [resK_yes HY.out]; rfl, (by repeat (first | with_reducible exact Gr.refl _ | with_reducible assumption | with_reducible apply Gr.alloc | with_reducible apply Gr.drewN | with_reducible apply Gr.drew | with_reducible apply Gr.grow | (with_reducible refine Gr.trans ?_ (by assumption))))⟩

theorem with_call (m : Nat) (l : List Int) (v : Value) (a : Addr) (w : World) (hl : Sl encI w v l) (hm : m < 18446744073709551616) (hE : ErrK w a) :
    Calls Tryd.prog 25 #[.int .u64 m, v] w fun e w' => e = .returned (resK true m l a) ∧ Gr w w' := by
  have c := changed_T m l v a w hl hm hE
  cases hk : l.all kindB
  · rw [resK_no hk] at c ⊢
    go_enter Tryd.func25, Tryd.ntmps25
    go_wp2_with (go_at_call 31; refine c.mono ?_; rintro e w1 ⟨rfl, hg1⟩)
    go_ret2
    exact ⟨rfl, (by repeat (first | with_reducible exact Gr.refl _ | with_reducible assumption | with_reducible apply Gr.alloc | with_reducible apply Gr.drewN | with_reducible apply Gr.drew | with_reducible apply Gr.grow | (with_reducible refine Gr.trans ?_ (by assumption))))⟩
  · rw [resK_yes hk] at c ⊢
    go_enter Tryd.func25, Tryd.ntmps25
    go_wp2_with (go_at_call 31; refine c.mono ?_; rintro e w1 ⟨rfl, hg1⟩)
    go_ret2
    exact ⟨rfl, (by repeat (first | with_reducible exact Gr.refl _ | with_reducible assumption | with_reducible apply Gr.alloc | with_reducible apply Gr.drewN | with_reducible apply Gr.drew | with_reducible apply Gr.grow | (with_reducible refine Gr.trans ?_ (by assumption))))⟩
theorem of_call (l : List Int) (v : Value) (a : Addr) (w : World) (hl : Sl encI w v l) (hE : ErrK w a) :
    Calls Tryd.prog 13 #[v] w fun e w' => e = .returned (resK true 0 l a) ∧ Gr w w' := by
  have c := with_call 0 l v a w hl (by decide) hE
  cases hk : l.all kindB
  · rw [resK_no hk] at c ⊢
    go_enter Tryd.func13, Tryd.ntmps13
    go_wp2_with (go_at_call 25; refine c.mono ?_; rintro e w1 ⟨rfl, hg1⟩)
    go_ret2
    exact ⟨rfl, (by repeat (first | with_reducible exact Gr.refl _ | with_reducible assumption | with_reducible apply Gr.alloc | with_reducible apply Gr.drewN | with_reducible apply Gr.drew | with_reducible apply Gr.grow | (with_reducible refine Gr.trans ?_ (by assumption))))⟩
  · rw [resK_yes hk] at c ⊢
    go_enter Tryd.func13, Tryd.ntmps13
    go_wp2_with (go_at_call 25; refine c.mono ?_; rintro e w1 ⟨rfl, hg1⟩)
    go_ret2
    exact ⟨rfl, (by repeat (first | with_reducible exact Gr.refl _ | with_reducible assumption | with_reducible apply Gr.alloc | with_reducible apply Gr.drewN | with_reducible apply Gr.drew | with_reducible apply Gr.grow | (with_reducible refine Gr.trans ?_ (by assumption))))⟩
end Go.Proofs.YtaehendpdfpibaaDoor
