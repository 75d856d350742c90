/-
  masks.Kinds: all bits that are set, rising; the reference's Kinds is typed elsewhere.
-/
import Derived.Test.YtcmfkjjagffjnaaDoorMc
namespace Go.Proofs.YtcmfkjjagffjnaaDoor
set_option linter.unusedSimpArgs false
set_option linter.unusedVariables false
open Go.RowKit Go.Sort Go.Lib Go.Shelf

theorem kinds_len (f : Nat → Bool) : (kindsOf f).length ≤ 64 := by
  unfold kindsOf bitsOf
  rw [List.length_map]
  exact Nat.le_trans (List.length_filter_le _ _) (by simp)
theorem kindsOf_step {x : Nat} (h0 : x ≠ 0) (h : x < 18446744073709551616) : kindsOf (fun i => x.testBit i) = ((Lib.ctz 64 x : Nat) : Int) :: kindsOf (fun i => (x &&& (x - 1)).testBit i) := by
  unfold kindsOf
  rw [bits_step h0 h]
  rfl
theorem kindsOf_zero : kindsOf (fun i => (0 : Nat).testBit i) = [] := by
  unfold kindsOf
  rw [bitsOf_none (fun i _ => Nat.zero_testBit i)]
  rfl

set_option maxHeartbeats 2000000 in
set_option maxRecDepth 100000 in
theorem mkinds_call (m : Nat) (hm : m < 18446744073709551616) (w : World) (hT : TabW w) :
    Calls Tryd.prog 19 #[.int .u64 m] w fun e w' => ∃ v', e = .returned v' ∧ w'.ownsRow w.heap.size 3 1 v' (kindsOf fun i => m.testBit i).length (flat encI (kindsOf fun i => m.testBit i)) ∧ RowKit.Below w.heap.size w w' := by
  have HT := Lib.hid hT
  have HM := Lib.hid hm
  obtain ⟨K, hK⟩ : ∃ K, K = kindsOf fun i => m.testBit i := ⟨_, rfl⟩
  have KL := Lib.hid (show K.length ≤ 64 by rw [hK]; exact kinds_len _)
  have HK := Lib.hid hK
  rw [← hK]
  clear hT hm hK
  go_enter Tryd.func19, Tryd.ntmps19
  go_wp2
  go_loopw [3, 4] (fun v i wr => ∃ x : Nat, x < 18446744073709551616 ∧ i = .int .u64 x ∧ RowKit.Below w.heap.size w wr ∧ ∃ L, L ++ kindsOf (fun i => x.testBit i) = K ∧ wr.ownsRow w.heap.size 3 1 v L.length (flat encI L)) (fun _ i _ => (kindsOf fun j => (intOf i).toNat.testBit j).length)
  case atStart => exact ⟨m, HM.out, rfl, (by repeat (first | with_reducible exact Below.refl _ _ | with_reducible assumption | with_reducible apply Ba | with_reducible apply Bd | with_reducible apply Bn | with_reducible apply Bg | (with_reducible refine Bs ?_ (by first | (simp; done) | (simp; omega)) _) | (with_reducible refine Bt ?_ (by assumption)) | (with_reducible refine Bt ?_ (Gr.below (by assumption))))), [], by rw [HK.out]; rfl, World.ownsRow_nil _ _ _ _⟩
  case round =>
    obtain ⟨x, hx, rfl, hb, L, hL, ho⟩ := hrel
    by_cases h0 : x = 0
    · subst h0
      rw [kindsOf_zero, List.append_nil] at hL
      subst hL
      have HO := Lib.hid ho
      have HB := Lib.hid hb
      clear ho hb
      go_wp2
      go_ret
      exact ⟨_, rfl, HO.out, HB.out⟩
    · have hz : ((x : Int) != 0) = true := by simp; omega
      have n1 : IntKind.u64.wrap ((x : Int) - 1) = ((x - 1 : Nat) : Int) := by rw [IntKind.wrap_u64]; omega
      have n2 := andN x (x - 1) (x : Int) ((x - 1 : Nat) : Int) rfl rfl hx (by omega)
      have hst := kindsOf_step h0 hx
      have hyl : x &&& (x - 1) < 18446744073709551616 := Nat.lt_of_le_of_lt Nat.and_le_left hx
      obtain ⟨y, hy⟩ : ∃ y, y = x &&& (x - 1) := ⟨_, rfl⟩
      obtain ⟨z, hz1⟩ : ∃ z, z = x - 1 := ⟨_, rfl⟩
      obtain ⟨k, hk⟩ : ∃ k, k = Lib.ctz 64 x := ⟨_, rfl⟩
      rw [← hy] at n2 hst hyl
      rw [← hz1] at n1 n2
      have tz : Hid (∀ W, TabW W → Calls Tryd.prog 36 #[.int .u64 x] W fun e w' => e = .returned (.int .i64 (k : Nat)) ∧ W = w') := fun W hW => by rw [hk]; exact tz_any x h0 hx W hW
      rw [← hk] at hst
      have HS := Lib.hid hst
      have HL := Lib.hid hL
      have HB := Lib.hid (Ba hb (.cells #[.int .i64 (k : Int)] 3))
      have HTW := Lib.hid (HT.out.below hb)
      have HO := Lib.hid (ho.alloc (.cells #[.int .i64 (k : Int)] 3))
      have S3 := Lib.hid (sl_lit (enc := encI) (w := wr) (cs := #[.int .i64 (k : Int)]) (t := 3) (b := wr.heap.size) [(k : Int)] rfl rfl (by unfold maxLen; simp))
      have HLL := Lib.hid (show L.length ≤ 64 by have := congrArg List.length hL; have := KL.out; simp at *; omega)
      have HY := Lib.hid hyl
      clear hy hz1 hk hst hL hb ho hyl h0
      go_wp2_with (first | (go_at_call 36; refine (tz.out _ HTW.out).mono ?_; rintro e w1 ⟨rfl, rfl⟩) | (at_builtin; refine wpl_app apI rfl _ _ rfl w.heap.size (by rfl) (by rfl) HO.out rfl S3.out (by have := HLL.out; simp; omega) HB.out.size ?_; intro v7 w7 hown1 hgrow1 hnil1))
      have b4 := grownB HB.out HO.out hgrow1
      go_roundw
      case measure => simp [intOf]; rw [HS.out]; simp
      case rel => exact ⟨y, HY.out, rfl, b4, L ++ [(k : Int)], by rw [← HL.out, HS.out]; simp, by rw [List.length_append]; exact hown1⟩
end Go.Proofs.YtcmfkjjagffjnaaDoor
