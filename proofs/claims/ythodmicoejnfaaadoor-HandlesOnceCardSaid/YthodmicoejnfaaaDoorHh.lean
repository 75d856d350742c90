/-
  List, Count, Slots, Clone, New, at a pool in memory.
-/
import Derived.Test.YthodmicoejnfaaaDoorHg
namespace Go.Proofs.YthodmicoejnfaaaDoor
set_option linter.unusedSimpArgs false
set_option linter.unusedVariables false
open Go.RowKit Go.Sort Go.Lib Go.Shelf

section
variable {T pa : Nat} {S : List Slt} {Fr : List Int} {M : Nat → Prop} {w : World}

set_option maxHeartbeats 2000000 in
set_option maxRecDepth 100000 in
theorem list_call (hp : PoolAt 67 w M pa S Fr) (hlen : S.length ≤ 1000) :
    Calls Tryd.prog 24 #[.pointer (some ⟨pa, 0, none⟩)] w fun e w' => ∃ v, e = .returned v ∧ w'.ownsRow w.heap.size 40 2 v (listP S).length (flat encH (listP S)) ∧ RowKit.Below w.heap.size w w' := by
  obtain ⟨ps, cs, pf, cf, c0, c1, f0, f1, hl, a1, a2, b1, b2, hS, _, _, _⟩ := pool_open hp
  clear hp
  go_enter Tryd.func24, Tryd.ntmps24
  go_wp2
  go_loopw [3, 11] (fun v i wr => ∃ k : Nat, k ≤ S.length ∧ i = .int .i64 k ∧ RowKit.Below w.heap.size w wr ∧ wr.ownsRow w.heap.size 40 2 v (listN S k).length (flat encH (listN S k))) (fun _ i _ => S.length - (intOf i).toNat)
  case atStart => exact ⟨0, Nat.zero_le _, rfl, Below.refl _ _, by rw [listN_zero]; exact World.ownsRow_nil _ _ _ _⟩
  case round =>
    obtain ⟨k, hk, rfl, hb, hown⟩ := hrel
    have HB := Lib.hid hb
    have HO := Lib.hid hown
    by_cases hkn : k < S.length
    · obtain ⟨gs, rfl, hgs, cS⟩ := hS.out (by omega)
      obtain ⟨d1, d2⟩ := cS k hkn
      replace d1 := Bc hb hgs d1
      replace d2 := Bc hb hgs d2
      clear hb hown cS
      have hll := listN_len S k
      cases hv : S[k]!.2 with
      | true =>
        rw [hv] at d2
        have HL := Lib.hid (listN_yes S k hv)
        generalize S[k]!.1 = gen at d1 HL
        clear hv
        have B2 := Lib.hid (Ba (Ba (Below.refl _ wr) (.cells #[.int .i64 gen, .bool true] 63)) (.cells #[.int .i64 k, .int .i64 gen] 40))
        have O2 := Lib.hid (row_below HO.out B2.out)
        have S2 := Lib.hid (sl_lit (enc := encH) (w := wr.alloc (.cells #[.int .i64 gen, .bool true] 63)) (cs := #[.int .i64 k, .int .i64 gen]) (t := 40) (b := wr.heap.size + 1) [((k : Int), gen)] (by simp) rfl (by unfold maxLen; simp))
        have Z2 := Lib.hid (show w.heap.size ≤ ((wr.alloc (.cells #[.int .i64 gen, .bool true] 63)).alloc (.cells #[.int .i64 k, .int .i64 gen] 40)).heap.size from Nat.le_trans HB.out.size B2.out.size)
        have HBB := Lib.hid (Bt HB.out B2.out)
        go_wp2_with (at_builtin; refine wpl_app2 apH rfl _ _ rfl w.heap.size (by rfl) (by rfl) O2.out rfl S2.out (by simp; omega) Z2.out ?_; intro v4 w4 hown4 hgrow4 hat4 _; have B4 := Lib.hid (grownB HBB.out O2.out hgrow4); have O4 := Lib.hid hown4; clear hown4 hgrow4 hat4)
        go_roundw
        case measure => simp [intOf]; omega
        case rel => exact ⟨k + 1, by omega, by go_num, B4.out, by rw [HL.out]; exact O4.out⟩
      | false =>
        rw [hv] at d2
        have HL := Lib.hid (listN_no S k hv)
        generalize S[k]!.1 = gen at d1
        clear hv
        have HBB := Lib.hid (Ba HB.out (.cells #[.int .i64 gen, .bool false] 63))
        have O2 := Lib.hid (row_below HO.out (Ba (Below.refl _ wr) (.cells #[.int .i64 gen, .bool false] 63)))
        go_wp2
        go_roundw
        case measure => simp [intOf]; omega
        case rel => exact ⟨k + 1, by omega, by go_num, HBB.out, by rw [HL.out]; exact O2.out⟩
    · have hkn' : k = S.length := by omega
      clear hb hown
      go_wp2
      go_ret
      exact ⟨_, rfl, by rw [listP, ← hkn']; exact HO.out, HB.out⟩
theorem count_call (hp : PoolAt 67 w M pa S Fr) (hlen : S.length ≤ 1000) :
    Calls Tryd.prog 22 #[.pointer (some ⟨pa, 0, none⟩)] w fun e w' => e = .returned (.int .i64 (listP S).length) ∧ RowKit.Below w.heap.size w w' := by
  have hL := Lib.hid (list_call hp hlen)
  clear hp
  go_enter Tryd.func22, Tryd.ntmps22
  go_wp2_with (go_at_call 24; refine hL.out.mono ?_; rintro e w1 ⟨v, rfl, ho, hb⟩; obtain ⟨p, c, rfl, _, _, _⟩ := row_val ho)
  go_ret
  exact ⟨rfl, hb⟩

/-- The blocks that are new. -/
abbrev Fresh (w w' : World) : Nat → Prop := New (fun _ => False) w w'
theorem row_fresh {α : Type} {enc : α → List Value} {et k : Nat} {w1 : World} {v : Value} {l : List α} (h : w1.ownsRow w.heap.size et k v l.length (flat enc l)) : RowAt enc et k w1 (Fresh w w1) v l :=
  ⟨row_mono h (Nat.zero_le _), fun g hg => .inr ⟨(h.lt g hg).1, (h.lt g hg).2⟩⟩

set_option maxHeartbeats 2000000 in
set_option maxRecDepth 100000 in
theorem slots_call (hp : PoolAt 67 w M pa S Fr) (h1 : S.length ≤ 1000) (h2 : Fr.length ≤ 1000) :
    Calls Tryd.prog 21 #[.pointer (some ⟨pa, 0, none⟩)] w fun e w' => ∃ v1 v2, e = .returned (.tuple #[v1, v2]) ∧ w'.ownsRow w.heap.size 63 2 v1 S.length (flat encS S) ∧ w'.ownsRow w.heap.size 3 1 v2 Fr.length (flat encI Fr) ∧ RowKit.Below w.heap.size w w' := by
  obtain ⟨ps, cs, pf, cf, c0, c1, f0, f1, hl, a1, a2, b1, b2, _, _, s1, s2⟩ := pool_open hp
  have S1 := Lib.hid (fun W (h : RowKit.Below w.heap.size w W) => (cloneS_call S _ W (s1.below h) (by omega)).mono (fun e w' (q : ∃ v', e = .returned v' ∧ _ ∧ RowKit.Below W.heap.size W w') => (show ∃ v', e = .returned v' ∧ w'.ownsRow w.heap.size 63 2 v' S.length (flat encS S) ∧ RowKit.Below W.heap.size W w' from q.imp fun v' ⟨he, ho, hb⟩ => ⟨he, row_mono ho h.size, hb⟩)))
  have S2 := Lib.hid (fun W (h : RowKit.Below w.heap.size w W) => (cloneI_call Fr _ W (s2.below h) (by omega)).mono (fun e w' (q : ∃ v', e = .returned v' ∧ _ ∧ RowKit.Below W.heap.size W w') => (show ∃ v', e = .returned v' ∧ w'.ownsRow w.heap.size 3 1 v' Fr.length (flat encI Fr) ∧ RowKit.Below W.heap.size W w' from q.imp fun v' ⟨he, ho, hb⟩ => ⟨he, row_mono ho h.size, hb⟩)))
  clear hp s1 s2
  go_enter Tryd.func21, Tryd.ntmps21
  go_wp2_with fail
  go_region_held3 (fun w' => Below (w).heap.size (w) w' ∧ ∀ b_1 o, b_1 < (w).heap.size → w'.cell? ⟨b_1, o, none⟩ = (w).cell? ⟨b_1, o, none⟩) (first | exact keep0 _ | exact keepB (by assumption) hb1 | assumption) ((first | (go_at_call 31; refine (S1.out _ (by first | exact Bd (Below.refl _ _) | assumption | exact And.left (by assumption))).mono ?_; rintro e w1 ⟨v1, rfl, ho1, hb1⟩; have X1 := Lib.hid (fun W (h : RowKit.Below w1.heap.size w1 W) => row_below ho1 h); clear ho1) | (go_at_call 32; refine (S2.out _ (by first | exact Bd (Below.refl _ _) | assumption | exact And.left (by assumption))).mono ?_; rintro e w1 ⟨v2, rfl, ho1, hb1⟩; have X2 := Lib.hid (fun W (h : RowKit.Below w1.heap.size w1 W) => row_below ho1 h); clear ho1)))
  all_goals
    go_wp2
    go_ret2
    exact ⟨_, _, rfl, X1.out _ (by first | assumption | exact Below.refl _ _), X2.out _ (by first | assumption | exact Below.refl _ _), And.left (by assumption)⟩

/-- A pool that the call has made. -/
theorem pool_made {vs vf : Value} {w1 : World} (hb : RowKit.Below w.heap.size w w1) (h1 : w1.ownsRow w.heap.size 63 2 vs S.length (flat encS S)) (h2 : w1.ownsRow w.heap.size 3 1 vf Fr.length (flat encI Fr)) (T : Nat) :
    PoolIs T (w1.alloc (.cells #[vs, vf] T)) (Fresh w (w1.alloc (.cells #[vs, vf] T))) w1.heap.size vs vf S Fr := by
  have r1 := row_fresh (row_below h1 (Ba (Below.refl _ w1) (.cells #[vs, vf] T)))
  have r2 := row_fresh (row_below h2 (Ba (Below.refl _ w1) (.cells #[vs, vf] T)))
  exact ⟨heap_alloc_new w1 _, .inr ⟨hb.size, by simp⟩, r1, r2⟩

/-- A pool is answered: in new blocks. -/
def PoolNew (T : Nat) (w : World) (S : List Slt) (Fr : List Int) (e : Ending) (w' : World) : Prop :=
  ∃ pb, e = .returned (.pointer (some ⟨pb, 0, none⟩)) ∧ PoolAt T w' (Fresh w w') pb S Fr ∧ RowKit.Below w.heap.size w w'

theorem clone_call (hp : PoolAt 67 w M pa S Fr) (h1 : S.length ≤ 1000) (h2 : Fr.length ≤ 1000) :
    Calls Tryd.prog 15 #[.pointer (some ⟨pa, 0, none⟩)] w (PoolNew 67 w S Fr) := by
  have hL := Lib.hid (slots_call hp h1 h2)
  clear hp
  go_enter Tryd.func15, Tryd.ntmps15
  go_wp2_with (go_at_call 21; refine hL.out.mono ?_; rintro e w1 ⟨v1, v2, rfl, ho1, ho2, hb⟩; obtain ⟨p1, c1, rfl, _, _, _⟩ := row_val ho1; obtain ⟨p2, c2, rfl, _, _, _⟩ := row_val ho2; have X := Lib.hid (pool_made hb ho1 ho2 67); clear ho1 ho2)
  go_ret
  exact ⟨_, rfl, X.out.at, Ba hb _⟩
theorem new_call (w : World) : Calls Tryd.prog 26 #[] w (PoolNew 67 w [] []) := by
  have X := Lib.hid (pool_made (w := w) (S := []) (Fr := []) (vs := .slice none 0 0) (vf := .slice none 0 0) (Below.refl _ w) (World.ownsRow_nil _ _ _ _) (World.ownsRow_nil _ _ _ _) 67)
  go_enter Tryd.func26, Tryd.ntmps26
  go_wp2
  go_ret
  exact ⟨_, rfl, X.out.at, (by repeat (first | with_reducible exact Below.refl _ _ | with_reducible assumption | with_reducible apply Ba | with_reducible apply Bd | with_reducible apply Bn | with_reducible apply Bg | (with_reducible refine Bs ?_ (by first | (simp; done) | (simp; omega)) _) | (with_reducible refine Bt ?_ (by assumption)) | (with_reducible refine Bt ?_ (Gr.below (by assumption)))))⟩
end
end Go.Proofs.YthodmicoejnfaaaDoor
