/-
  The walk of SchemaRows.
-/
import Derived.Test.YtbmclbajhgabgaaDoorLa
import Derived.Test.YtbmclbajhgabgaaDoorVt
namespace Go.Proofs.YtbmclbajhgabgaaDoor
set_option linter.unusedSimpArgs false
set_option linter.unusedVariables false
open Go.RowKit Go.Sort Go.Lib Go.Shelf

theorem same_is {l : List Vl} {va vb : Value} {w : World} (ha : Sl encV w va l) (hb : Sl encV w vb l) : Calls Tryd.prog 16 #[va, vb] w fun e w' => e = .returned (.bool true) ∧ Gr w w' := by
  have := same_call l l va vb w ha hb
  rwa [decide_eq_true rfl] at this

set_option maxHeartbeats 4000000 in
set_option maxRecDepth 100000 in
theorem rows_walk (l : List Vl) (v : Value) (w : World) (hl : Sl encV w v l) (A : Nat → Addr) (hE : Errs w A) :
    Calls Tryd.prog 4 #[v] w fun e w' => e = .returned (.bool true) ∧ RowKit.Below w.heap.size w w' := by
  have HE := Lib.hid hE
  have HS := Lib.hid hl
  obtain ⟨p, cap, rfl, hl1, hl2, _⟩ := hl
  have hbig : l.length ≤ 9223372036854775807 := by unfold maxLen at hl2; omega
  clear hE hl2
  obtain ⟨n, hn⟩ : ∃ n, n = rowN l := ⟨_, rfl⟩
  obtain ⟨ev, hev⟩ : ∃ ev, ev = errV A n := ⟨_, rfl⟩
  obtain ⟨q, hq⟩ : ∃ q, q = rightB l := ⟨_, rfl⟩
  have H3 : Hid (∀ W, Errs W A → Calls Tryd.prog 11 #[ev] W fun e w' => e = .returned (.int .i64 n) ∧ RowKit.Below W.heap.size W w') := fun W h => by rw [hev]; exact num_errV h n (by have := rowN_is l; omega)
  have HN := Lib.hid hn
  have HV := Lib.hid hev
  have HQ := Lib.hid hq
  clear hn hev hq
  obtain ⟨vl, hvl⟩ : ∃ vl, vl = Value.slice p l.length cap := ⟨_, rfl⟩
  have HVL := Lib.hid hvl
  go_enter Tryd.func4, Tryd.ntmps4
  go_wp2_with fail
  refine (alive_any A w HE.out.er).mono ?_
  rintro e w1 ⟨rfl, hb1⟩
  have B1 := Lib.hid hb1
  clear hb1
  by_cases hlen : l.length ≤ 100
  · have hlt : ¬ (100 : Int) < (l.length : Int) := by omega
    have O1 := Lib.hid (show (w1.alloc (.cells #[] 23)).ownsRow w1.heap.size 23 3 (.slice (some ⟨w1.heap.size, 0, none⟩) 0 0) 0 (flat encV []) from World.ownsRow_made _ #[] 0 (Nat.le_refl _) (Nat.zero_le _) (by simp))
    have A1 := Lib.hid (Ba (Below.refl _ w1) (.cells #[] 23))
    have S1 := Lib.hid ((HS.out.below B1.out).below A1.out)
    go_wp2_with (at_builtin; refine wpl_app apV rfl _ _ rfl w1.heap.size (by rfl) (by rfl) O1.out rfl S1.out (by simp; omega) A1.out.size ?_; intro v3 w3 hown3 hgrow3 hnil3)
    have B3 := Lib.hid (Bt B1.out (grownB A1.out O1.out hgrow3))
    have S3 : Sl encV w3 v3 l := by
      have e : [] ++ l = l := List.nil_append l
      rw [e] at hown3
      exact row_sl lenV hown3 (by simp)
    have HS3 := Lib.hid S3
    clear hown3 hgrow3 hnil3 O1 A1 S1 S3
    refine (row_call l v3 A w3 HS3.out (HE.out.er.below B3.out) (by omega)).mono ?_
    rw [← HN.out, ← HV.out]
    rintro e w4 ⟨⟨v4, rfl, hs4⟩, hb4⟩
    have B4 := Lib.hid (Bt B3.out hb4)
    have HS4 := Lib.hid hs4
    have HS3' := Lib.hid (HS3.out.below hb4)
    clear hb4 hs4
    go_wp2_with fail
    refine (rrow_call l _ w4 (HS.out.below B4.out) (by omega)).mono ?_
    rw [← HN.out]
    rintro e w5 ⟨⟨v5, rfl, hs5⟩, hb5⟩
    have B5 := Lib.hid (Bt B4.out hb5)
    have HS5 := Lib.hid hs5
    have HS4' := Lib.hid (HS4.out.below hb5)
    have HS3a := Lib.hid (HS3'.out.below hb5)
    clear hb5 hs5
    go_wp2_with fail
    refine (same_is HS4'.out HS5.out).mono ?_
    rintro e w6 ⟨rfl, hg6⟩
    have B6 := Lib.hid (Bt B5.out hg6.below)
    have HS3b := Lib.hid (HS3a.out.below hg6.below)
    clear hg6
    go_wp2_with fail
    refine (H3.out w6 (HE.out.below B6.out)).mono ?_
    rintro e w7 ⟨rfl, hb7⟩
    have B7 := Lib.hid (Bt B6.out hb7)
    have HS3c := Lib.hid (HS3b.out.below hb7)
    clear hb7
    go_wp2_with fail
    refine (same_is HS3c.out (HS.out.below B7.out)).mono ?_
    rintro e w8 ⟨rfl, hg8⟩
    have B8 := Lib.hid (Bt B7.out hg8.below)
    clear hg8
    go_wp2_with fail
    refine (right_call l _ A w8 (HS.out.below B8.out) (HE.out.er.below B8.out)).mono ?_
    rw [← HQ.out]
    rintro e w9 ⟨rfl, hg9⟩
    have B9 := Lib.hid (Bt B8.out hg9.below)
    clear hg9
    go_wp2_with fail
    refine (rright_call l _ w9 (HS.out.below B9.out) (by omega)).mono ?_
    rw [← HQ.out]
    rintro e w10 ⟨rfl, hb10⟩
    have B10 := Lib.hid (Bt B9.out hb10)
    clear hb10
    go_wp2
    go_ret
    exact ⟨by simp, B10.out⟩
  · have hlt : (100 : Int) < (l.length : Int) := by omega
    go_wp2
    go_ret
    exact ⟨rfl, B1.out⟩
end Go.Proofs.YtbmclbajhgabgaaDoor
