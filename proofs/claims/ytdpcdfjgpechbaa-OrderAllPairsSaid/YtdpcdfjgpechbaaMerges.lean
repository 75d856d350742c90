/-
  OrderMerges: what stands in either of two rising lists, and in the first one alone.
-/
import Derived.Test.YtdpcdfjgpechbaaConcat
namespace Go.Proofs.Ytdpcdfjgpechbaa
set_option linter.unusedSimpArgs false
set_option linter.unusedVariables false
open Go.RowKit Go.Sort Go.Lib Go.Shelf

section
variable {α : Type} {enc : α → List Value} {st et k : Nat} {z : Value} {bytes : Nat}
theorem app_run_at (A : Ap enc st et k z bytes) (ty base : Nat) {w : World} {v vx : Value} {n : Nat} {la lb : List α} (hown : w.ownsRow base et k v n (flat enc la)) (hn : n = la.length) (hX : Sl enc w vx lb) (hlen : la.length + lb.length ≤ 1000000) (hbase : base ≤ w.heap.size) (hl : lb ≠ []) :
    ∃ v' w', (Builtin.append_ #[st, st] ty #[v, vx]).run Try.prog w = .ok v' w' ∧ w'.ownsRow base et k v' (la.length + lb.length) (flat enc (la ++ lb)) ∧ w.grownBy w' v.ownBlock ∧ v' ≠ .slice none 0 0 ∧ (v'.ownBlock = v.ownBlock ∨ v'.ownBlock = some w.heap.size) := by
  subst hn
  obtain ⟨i, hi, hz, hs, hb⟩ := A.hi
  obtain ⟨p, c, rfl, h1, h2, hX⟩ := hX
  have hpos : 0 < lb.length := List.length_pos_iff.2 hl
  obtain ⟨g, o, rfl, hg, hcells⟩ := hX hpos
  have hbytes : (la.length + lb.length) * bytes ≤ 140737488355328 := Nat.le_trans (Nat.mul_le_mul hlen A.by32) (by decide)
  obtain ⟨v', w', hr, ho, hgr, hnil, hat⟩ := run_append_own_at (P := Try.prog) w base st ty et i z k bytes A.ht hi hz hs hb A.zs A.k0 v la.length (flat enc la) hown ⟨g, o, none⟩ lb.length c (flat enc lb) (flat_len A.hk lb)
    (fun j u hu => by rw [Addr.add_lit]; exact hcells j u hu) (flat_one A.h1 lb) (by unfold maxLen; omega) hbytes hbase
  exact ⟨v', w', hr, by rw [flat_append]; exact ho, hgr, fun e => by have := (hnil.1 e).2; omega, hat⟩
theorem wpl_app_at (A : Ap enc st et k z bytes) {w : World} {ops : Array Oper} {rest : List Oper} {o : Oper} {a : Act} {Q : Exit → Act → World → Prop} (hgd : o.guard = none) (s x : Operand) (ho : o.op = .call { callee := .builtin .append, args := #[s, x], argTypes := #[st, st] }) (base : Nat)
    {v vx : Value} {n : Nat} {la lb : List α} (hs : a.eval s = v) (hx : a.eval x = vx) (hown : w.ownsRow base et k v n (flat enc la)) (hn : n = la.length) (hX : Sl enc w vx lb) (hlen : la.length + lb.length ≤ 1000000) (hbase : base ≤ w.heap.size) (hl : lb ≠ [])
    (h : ∀ v' w', w'.ownsRow base et k v' (la.length + lb.length) (flat enc (la ++ lb)) → w.grownBy w' v.ownBlock → v' ≠ .slice none 0 0 → (v'.ownBlock = v.ownBlock ∨ v'.ownBlock = some w.heap.size) → wpList Try.prog ops Q rest (a.put o.dst v') w') : wpList Try.prog ops Q (o :: rest) a w := by
  refine wpList_plain hgd fun _ hK => ?_
  obtain ⟨v', w', hr, h2, h3, h4, h5⟩ := app_run_at A o.type base hown hn hX hlen hbase hl
  unfold Oper.wp execOp
  simp only [ho, resolve, invoke, builtin, Sem.run_bind, Sem.run_pure, Result.andThen_ok, List.map_toArray, List.map_cons, List.map_nil, hs, hx, hr]
  exact hK _ _ (h v' w' h2 h3 h4 h5)
end

theorem filter_take (m n : List Hd) (k : Nat) (hk : k < m.length) : ((m.take (k + 1)).filter fun x => !decide (x ∈ n)) = ((m.take k).filter fun x => !decide (x ∈ n)) ++ (if m[k]! ∈ n then [] else [m[k]!]) := by
  have e : m.take (k + 1) = m.take k ++ [m[k]] := List.take_succ_eq_append_getElem hk
  rw [e, List.filter_append, getElem!_pos m k hk]
  congr 1
  by_cases h : m[k] ∈ n <;> simp [h]
theorem take_one (m : List Hd) (k : Nat) (hk : k < m.length) : m.take (k + 1) = m.take k ++ [m[k]!] := by
  rw [getElem!_pos m k hk]
  exact List.take_succ_eq_append_getElem hk

set_option maxHeartbeats 4000000 in
set_option maxRecDepth 100000 in
theorem orderMerges_walk (la lb : List Hd) (va vb : Value) (w : World) (ha : Sl encH w va la) (hb : Sl encH w vb lb) : Calls Try.prog 7 #[va, vb] w fun e w' => e = .returned (.bool true) ∧ RowKit.Below w.heap.size w w' := by
  obtain ⟨pa, ca, rfl, ha1, ha2, ha3⟩ := ha
  obtain ⟨pb, cb, rfl, hb1, hb2, hb3⟩ := hb
  have HA := Lib.hid (show Sl encH w (.slice pa la.length ca) la from ⟨pa, ca, rfl, ha1, ha2, ha3⟩)
  have HB := Lib.hid (show Sl encH w (.slice pb lb.length cb) lb from ⟨pb, cb, rfl, hb1, hb2, hb3⟩)
  clear ha3 hb3
  by_cases hba : la.length > 100
  · have hz : (la.length : Int) > 100 := by omega
    go_enter Try.func7, Try.ntmps7
    go_wp2_with (go_at_call 12; refine (alive_any _).mono ?_; rintro e w1 ⟨rfl, hb1⟩)
    go_ret
    exact ⟨rfl, hb1⟩
  · have hz : ¬ (la.length : Int) > 100 := by omega
    by_cases hbb : lb.length > 100
    · have hz2 : (lb.length : Int) > 100 := by omega
      go_enter Try.func7, Try.ntmps7
      go_wp2_with (go_at_call 12; refine (alive_any _).mono ?_; rintro e w1 ⟨rfl, hb1⟩)
      go_ret
      exact ⟨rfl, hb1⟩
    · have hz2 : ¬ (lb.length : Int) > 100 := by omega
      have hlen : la.length ≤ 100 := by omega
      have hlen2 : lb.length ≤ 100 := by omega
      clear hba hbb
      go_enter Try.func7, Try.ntmps7
      go_wp2_with fail
      refine (alive_any _).mono ?_
      rintro e w1 ⟨rfl, hb1⟩
      have B1 := Lib.hid hb1
      have L1 := Lib.hid (HA.out.below hb1)
      clear hb1
      go_wp2_with fail
      refine (rhandles_call la _ w1 L1.out (by omega)).mono ?_
      rintro e w2 ⟨vx, rfl, ho2, hnx, hb2⟩
      have B2 := Lib.hid (Bt B1.out hb2)
      have SX2 := Lib.hid (row_sl lenH ho2 rfl)
      have L2 := Lib.hid (HB.out.below B2.out)
      clear ho2 hb2 B1 L1 hnx
      go_wp2_with fail
      refine (rhandles_call lb _ w2 L2.out (by omega)).mono ?_
      rintro e w3 ⟨vy, rfl, ho3, hny, hb3⟩
      have B3 := Lib.hid (Bt B2.out hb3)
      have SY3 := Lib.hid (row_sl lenH ho3 rfl)
      have SX3 := Lib.hid (SX2.out.below hb3)
      have RX := Lib.hid (rise_srt sto_hd la)
      have RY := Lib.hid (rise_srt sto_hd lb)
      have MX := Lib.hid (show (srt ltH la).length ≤ 100 from Nat.le_trans (srt_len ltH la) hlen)
      have MY := Lib.hid (show (srt ltH lb).length ≤ 100 from Nat.le_trans (srt_len ltH lb) hlen2)
      have EX := Lib.hid (rfl : srt ltH la = srt ltH la)
      have EY := Lib.hid (rfl : srt ltH lb = srt ltH lb)
      generalize hX : srt ltH la = X at SX3 RX MX EX
      generalize hY : srt ltH lb = Y at SY3 RY MY EY
      have HX := Lib.hid hX
      have HY := Lib.hid hY
      clear ho3 hb3 hny SX2 L2 B2 EX EY hX hY
      obtain ⟨px, cx, rfl, hx1, hx2, hx3⟩ := SX3.out
      have HMX := Lib.hid hx3
      have hxl : X.length ≤ 100 := MX.out
      have hyl : Y.length ≤ 100 := MY.out
      have A1 := Lib.hid (Ba (Below.refl _ w3) (.cells #[] 28))
      have A2 := Lib.hid (Ba A1.out (.cells #[] 28))
      have O1 := Lib.hid (show ((w3.alloc (.cells #[] 28)).alloc (.cells #[] 28)).ownsRow w3.heap.size 28 2 (.slice (some ⟨w3.heap.size, 0, none⟩) 0 0) 0 (flat encH []) from (World.ownsRow_made w3 #[] 0 (Nat.le_refl _) (Nat.zero_le _) (by simp)).alloc _)
      have O2 := Lib.hid (show ((w3.alloc (.cells #[] 28)).alloc (.cells #[] 28)).ownsRow w3.heap.size 28 2 (.slice (some ⟨w3.heap.size + 1, 0, none⟩) 0 0) 0 (flat encH []) from by
        have := World.ownsRow_made (e := 28) (size := 2) (base := w3.heap.size) (w3.alloc (.cells #[] 28)) #[] 0 (by simp) (Nat.zero_le _) (by simp)
        rw [show (w3.alloc (.cells #[] 28)).heap.size = w3.heap.size + 1 by simp] at this
        exact this)
      clear hx3 hx2
      have BW := Lib.hid (Bt B3.out A2.out)
      obtain ⟨W, hW⟩ : ∃ W, W = (w3.alloc (.cells #[] 28)).alloc (.cells #[] 28) := ⟨_, rfl⟩
      have hWs : W.heap.size = w3.heap.size + 2 := by rw [hW]; simp
      have HW := Lib.hid hW
      rw [← hW] at A2 O1 O2 BW
      clear hW A1
      go_wp2_with fail
      rw [← HW.out]
      clear HW
      go_loopw [7, 8, 31] (fun v7 v8 i wr => ∃ k : Nat, k ≤ X.length ∧ i = .int .i64 k ∧ RowKit.Below w3.heap.size w3 wr ∧ ∃ g7 g8 : Nat, v7.ownBlock = some g7 ∧ v8.ownBlock = some g8 ∧ g7 ≠ g8 ∧ v7 ≠ .slice none 0 0 ∧ v8 ≠ .slice none 0 0 ∧
        wr.ownsRow w3.heap.size 28 2 v7 (X.take k).length (flat encH (X.take k)) ∧ wr.ownsRow w3.heap.size 28 2 v8 ((X.take k).filter fun x => !decide (x ∈ Y)).length (flat encH ((X.take k).filter fun x => !decide (x ∈ Y)))) (fun _ _ i _ => X.length - (intOf i).toNat)
      case atStart => exact ⟨0, Nat.zero_le _, rfl, A2.out, w3.heap.size, w3.heap.size + 1, rfl, rfl, by omega, by simp, by simp, O1.out, O2.out⟩
      case round =>
        obtain ⟨k, hk, rfl, hb, g7, g8, hg7, hg8, hne, hv7, hv8, ho7, ho8⟩ := hrel
        by_cases hkn : k < X.length
        · obtain ⟨g, o, rfl, hg1, hg2⟩ := HMX.out (by omega)
          obtain ⟨c1, c2⟩ := atH hg2 hkn
          replace c1 := Bc hb hg1 c1
          replace c2 := Bc hb hg1 c2
          have hft := filter_take X Y k hkn
          have htk := take_one X k hkn
          have hl7 := ho7.lt _ hg7
          have hl8 := ho8.lt _ hg8
          generalize hx : X[k]! = x at *
          obtain ⟨x1, x2⟩ := x
          dsimp only at c1 c2
          have A3 := Lib.hid (Ba (Ba hb (.cells #[.int .i64 x1, .int .i64 x2] 28)) (.cells #[.int .i64 x1, .int .i64 x2] 28))
          have O7 := Lib.hid ((ho7.alloc (.cells #[.int .i64 x1, .int .i64 x2] 28)).alloc (.cells #[.int .i64 x1, .int .i64 x2] 28))
          have O8 := Lib.hid ((ho8.alloc (.cells #[.int .i64 x1, .int .i64 x2] 28)).alloc (.cells #[.int .i64 x1, .int .i64 x2] 28))
          have S7 := Lib.hid (sl_lit (enc := encH) (w := wr.alloc (.cells #[.int .i64 x1, .int .i64 x2] 28)) (cs := #[.int .i64 x1, .int .i64 x2]) (t := 28) (b := wr.heap.size + 1) [(x1, x2)] (by simp) rfl (by unfold maxLen; simp))
          have HFT := Lib.hid hft
          have HTK := Lib.hid htk
          have D := Lib.hid (show ((wr.alloc (.cells #[.int .i64 x1, .int .i64 x2] 28)).alloc (.cells #[.int .i64 x1, .int .i64 x2] 28)).cell? ⟨wr.heap.size, 0, none⟩ = some (.int .i64 x1) ∧ ((wr.alloc (.cells #[.int .i64 x1, .int .i64 x2] 28)).alloc (.cells #[.int .i64 x1, .int .i64 x2] 28)).cell? ⟨wr.heap.size, 1, none⟩ = some (.int .i64 x2) from ⟨by go_simp, by go_simp⟩)
          have G7 := Lib.hid hg7
          have G8 := Lib.hid hg8
          have V8 := Lib.hid hv8
          have WS := Lib.hid (show ((wr.alloc (.cells #[.int .i64 x1, .int .i64 x2] 28)).alloc (.cells #[.int .i64 x1, .int .i64 x2] 28)).heap.size = wr.heap.size + 2 by simp)
          clear hg2 hb ho7 ho8 hft htk hx hg7 hg8 hv7 hv8
          go_wp2_with (at_builtin; refine wpl_app_at apH rfl _ _ rfl w3.heap.size (by rfl) (by rfl) O7.out rfl S7.out (by first | (simp; done) | (simp; omega)) A3.out.size (by simp) ?_; intro v1 w4 hown1 hgrow1 hnil1 hat1; have b4 := grownB A3.out O7.out hgrow1; have o8 := O8.out.kept hgrow1 (.inr (by rw [G7.out, G8.out]; simp; omega)); have d1 : w4.cell? ⟨wr.heap.size, 0, none⟩ = some (.int .i64 x1) := hgrow1.cell D.out.1 (by rw [G7.out]; simp; omega); have d2 : w4.cell? ⟨wr.heap.size, 1, none⟩ = some (.int .i64 x2) := hgrow1.cell D.out.2 (by rw [G7.out]; simp; omega); have hs4 := hgrow1.size; clear S7)
          have SY4 := Lib.hid (SY3.out.below b4)
          have B4 := Lib.hid b4
          have O74 := Lib.hid hown1
          have O84 := Lib.hid o8
          have V1 := Lib.hid hnil1
          have hg7' : ∃ g7', v1.ownBlock = some g7' ∧ g7' ≠ g8 ∧ g7' < w4.heap.size := by
            rcases hat1 with e | e
            · exact ⟨g7, by rw [e, G7.out], hne, by have := WS.out; omega⟩
            · exact ⟨_, e, by simp; omega, hown1.lt _ e |>.2⟩
          obtain ⟨g7', hg7', hne', hlt7'⟩ := hg7'
          have G7' := Lib.hid hg7'
          clear hown1 hgrow1 hnil1 hat1 b4 o8 hg7' hs4
          go_wp2_with fail
          refine (has_call Y _ x1 x2 w4 SY4.out).mono ?_
          rintro e w5 ⟨rfl, hg5⟩
          have hb5 := hg5.below
          have B5 := Lib.hid (Bt B4.out hb5)
          have O75 := Lib.hid (row_below O74.out hb5)
          have O85 := Lib.hid (row_below O84.out hb5)
          have hw5 : wr.heap.size < w5.heap.size := Nat.lt_of_lt_of_le (cell_lt d1) hb5.size
          replace d1 := Bc hb5 (cell_lt d1) d1
          replace d2 := Bc hb5 (cell_lt d2) d2
          have hs45 := hb5.size
          clear hg5 hb5 SY4 B4 O74 O84
          by_cases hm : ((x1, x2) : Hd) ∈ Y
          · have hd : decide (((x1, x2) : Hd) ∈ Y) = true := decide_eq_true hm
            have F := Lib.hid (show ((X.take (k + 1)).filter fun x => !decide (x ∈ Y)) = (X.take k).filter fun x => !decide (x ∈ Y) by rw [HFT.out, if_pos hm, List.append_nil])
            clear hm
            go_wp2
            go_roundw
            case measure => simp [intOf]; omega
            case rel => exact ⟨k + 1, by omega, by go_num, B5.out, g7', g8, G7'.out, G8.out, hne', V1.out, V8.out, by rw [HTK.out, List.length_append]; exact O75.out, by rw [F.out]; exact O85.out⟩
          · have hd : decide (((x1, x2) : Hd) ∈ Y) = false := decide_eq_false hm
            have F := Lib.hid (show ((X.take (k + 1)).filter fun x => !decide (x ∈ Y)) = ((X.take k).filter fun x => !decide (x ∈ Y)) ++ [(x1, x2)] by rw [HFT.out, if_neg hm])
            have hfl : ((X.take k).filter fun x => !decide (x ∈ Y)).length ≤ 100 := by
              have h1 : ((X.take k).filter fun x => !decide (x ∈ Y)).length ≤ (X.take k).length := List.length_filter_le _ _
              simp at h1
              omega
            have HFL := Lib.hid hfl
            have A6 := Lib.hid (Ba B5.out (.cells #[.int .i64 x1, .int .i64 x2] 28))
            have O76 := Lib.hid (O75.out.alloc (.cells #[.int .i64 x1, .int .i64 x2] 28))
            have O86 := Lib.hid (O85.out.alloc (.cells #[.int .i64 x1, .int .i64 x2] 28))
            have S8 := Lib.hid (sl_lit (enc := encH) (w := w5) (cs := #[.int .i64 x1, .int .i64 x2]) (t := 28) (b := w5.heap.size) [(x1, x2)] rfl rfl (by unfold maxLen; simp))
            clear hm hfl
            go_wp2_with (at_builtin; refine wpl_app_at apH rfl _ _ rfl w3.heap.size (by rfl) (by rfl) O86.out rfl S8.out (by have := HFL.out; simp; omega) A6.out.size (by simp) ?_; intro v2 w6 hown2 hgrow2 hnil2 hat2)
            have b6 := grownB A6.out O86.out hgrow2
            have o7 := O76.out.kept hgrow2 (.inr (by rw [G7'.out, G8.out]; simp; omega))
            have hg8' : ∃ g8', v2.ownBlock = some g8' ∧ g7' ≠ g8' := by
              rcases hat2 with e | e
              · exact ⟨g8, by rw [e, G8.out], hne'⟩
              · exact ⟨_, e, by simp; omega⟩
            obtain ⟨g8', hg8', hne8⟩ := hg8'
            go_roundw
            case measure => simp [intOf]; omega
            case rel => exact ⟨k + 1, by omega, by go_num, b6, g7', g8', G7'.out, hg8', hne8, V1.out, hnil2, by rw [HTK.out, List.length_append]; exact o7, by rw [F.out, List.length_append]; exact hown2⟩
        · have hkn' : k = X.length := by omega
          rw [hkn', List.take_length] at ho7 ho8
          have O7 := Lib.hid ho7
          have O8 := Lib.hid ho8
          have B5 := Lib.hid hb
          have SYr := Lib.hid (SY3.out.below hb)
          have G7 := Lib.hid hg7
          have G8 := Lib.hid hg8
          clear ho7 ho8 hb hg7 hg8 hkn'
          go_wp2_with (at_builtin; refine wpl_app apH rfl _ _ rfl w3.heap.size (by rfl) (by rfl) O7.out rfl SYr.out (by omega) B5.out.size ?_; intro v1 w4 hown1 hgrow1 hnil1)
          have b4 := grownB B5.out O7.out hgrow1
          have o8 := O8.out.kept hgrow1 (.inr (by rw [G7.out, G8.out]; simp; omega))
          have B6 := Lib.hid (Bt B3.out b4)
          have S7 := Lib.hid (row_sl lenH hown1 (by simp))
          have S8 := Lib.hid (row_sl lenH o8 rfl)
          have SX6 := Lib.hid (SX3.out.below b4)
          have SY6 := Lib.hid (SY3.out.below b4)
          have LA6 := Lib.hid (HA.out.below B6.out)
          have LB6 := Lib.hid (HB.out.below B6.out)
          clear hown1 hgrow1 hnil1 b4 o8 O7 O8 B5 SYr SX3 SY3 B3 HMX G7 G8 A2 O1 O2 BW hv7 hv8
          go_wp2_with fail
          refine (merge_call X Y _ _ w4 SX6.out SY6.out (by omega) (by omega)).mono ?_
          rintro e w7 ⟨vm, rfl, hom, hbm⟩
          have SM := Lib.hid (hom.sl lenH)
          have B7 := Lib.hid hbm
          have SX7 := Lib.hid (SX6.out.below hbm)
          have SY7 := Lib.hid (SY6.out.below hbm)
          clear hom hbm
          go_wp2_with fail
          refine (minus_call X Y _ _ w7 SX7.out SY7.out RY.out (by omega) (by omega)).mono ?_
          rintro e w8 ⟨vd, rfl, hod, hbd⟩
          have SD := Lib.hid (hod.sl lenH)
          have B8 := Lib.hid (Bt B7.out hbd)
          have SM8 := Lib.hid (SM.out.below hbd)
          clear hod hbd SX7 SY7 SM B7
          go_wp2_with fail
          refine (rhandles_call (X ++ Y) _ w8 (S7.out.below B8.out) (by simp; omega)).mono ?_
          rintro e w9 ⟨v9, rfl, ho9, _, hb9⟩
          have S9 := Lib.hid (row_sl lenH ho9 rfl)
          have B9 := Lib.hid (Bt B8.out hb9)
          have SM9 := Lib.hid (SM8.out.below hb9)
          have SD9 := Lib.hid (SD.out.below hb9)
          clear ho9 hb9 SM8 SD B8
          go_wp2_with fail
          refine (same_call _ _ _ _ w9 SM9.out S9.out).mono ?_
          rintro e w10 ⟨rfl, hg10⟩
          have hq1 : decide (srt ltH (X ++ Y) = srt ltH (X ++ Y)) = true := decide_eq_true rfl
          have B10 := Lib.hid (Bt B9.out hg10.below)
          have SD10 := Lib.hid (SD9.out.below hg10.below)
          clear hg10 SM9 S9 SD9 B9
          go_wp2_with fail
          refine (same_call _ _ _ _ w10 SD10.out (S8.out.below B10.out)).mono ?_
          rintro e w11 ⟨rfl, hg11⟩
          have hq2 : decide ((X.filter fun x => !decide (x ∈ Y)) = (X.filter fun x => !decide (x ∈ Y))) = true := decide_eq_true rfl
          have B11 := Lib.hid (Bt B10.out hg11.below)
          clear hg11 SD10 B10
          go_wp2_with fail
          refine (rhandles_call la _ w11 (LA6.out.below B11.out) (by omega)).mono ?_
          rintro e w12 ⟨v12, rfl, ho12, _, hb12⟩
          have S12 := Lib.hid (row_sl lenH ho12 rfl)
          have B12 := Lib.hid (Bt B11.out hb12)
          clear ho12 hb12 B11
          go_wp2_with fail
          refine (same_call _ _ _ _ w12 (SX6.out.below B12.out) S12.out).mono ?_
          rintro e w13 ⟨rfl, hg13⟩
          have hq3 : decide (X = srt ltH la) = true := decide_eq_true HX.out.symm
          have B13 := Lib.hid (Bt B12.out hg13.below)
          clear hg13 S12 B12
          go_wp2_with fail
          refine (rhandles_call lb _ w13 (LB6.out.below B13.out) (by omega)).mono ?_
          rintro e w14 ⟨v14, rfl, ho14, _, hb14⟩
          have S14 := Lib.hid (row_sl lenH ho14 rfl)
          have B14 := Lib.hid (Bt B13.out hb14)
          clear ho14 hb14 B13
          go_wp2_with fail
          refine (same_call _ _ _ _ w14 (SY6.out.below B14.out) S14.out).mono ?_
          rintro e w15 ⟨rfl, hg15⟩
          have hq4 : decide (Y = srt ltH lb) = true := decide_eq_true HY.out.symm
          have B15 := Lib.hid (Bt (Bt B6.out B14.out) hg15.below)
          clear hg15
          go_wp2
          go_ret
          exact ⟨by simp [hq4], B15.out⟩
end Go.Proofs.Ytdpcdfjgpechbaa
