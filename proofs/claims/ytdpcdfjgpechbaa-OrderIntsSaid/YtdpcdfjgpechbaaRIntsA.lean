/-
  Numbers: the reference's Ints; paddocknum's Ints and KeptInts; order.Drop.
-/
import Derived.Test.YtdpcdfjgpechbaaPutI
import Derived.Test.YtdpcdfjgpechbaaPut
import Derived.Deep.RegionLaw
namespace Go.Proofs.Ytdpcdfjgpechbaa
set_option linter.unusedSimpArgs false
set_option linter.unusedVariables false
open Go.RowKit Go.Sort Go.Lib Go.Shelf

theorem frontI {w : World} {base et g n cap : Nat} {l : List Int} (h : w.ownsRow base et 1 (.slice (some ⟨g, 0, none⟩) n cap) n (flat encI l)) (hn : n = l.length) (j : Nat) (hj : j ≤ n) :
    w.ownsRow base et 1 (.slice (some ⟨g, 0, none⟩) j cap) j (flat encI (l.take j)) := by
  rcases h.2 with ⟨h', _⟩ | ⟨g', cap', cur, e, hb, hh, hc, hm, hs, ht⟩
  · simp at h'
  · simp only [Value.slice.injEq, Option.some.injEq, Addr.mk.injEq, and_true, true_and] at e
    obtain ⟨rfl, rfl⟩ := e
    refine ⟨by rw [flat_len lenI, List.length_take]; congr 1; omega, .inr ⟨g, cap, cur, rfl, hb, hh, by omega, hm, hs, ?_⟩⟩
    rw [← flat_take lenI, ← ht, List.take_take, Nat.min_eq_left (Nat.mul_le_mul_right 1 hj)]
theorem cellsI {w : World} {base et k g n cap : Nat} {xs : List Value} (h : w.ownsRow base et k (.slice (some ⟨g, 0, none⟩) n cap) n xs) : ∀ j u, xs[j]? = some u → w.cell? ⟨g, 0 + j, none⟩ = some u := fun j u hu => by
  have h1 := (List.getElem?_eq_some_iff.1 hu).1
  rw [Nat.zero_add, h.cellAt j (by rw [← h.1]; exact h1)]
  exact hu

set_option maxHeartbeats 4000000 in
set_option maxRecDepth 100000 in
/-- The reference's Ints: rising, each once. -/
theorem rints_call (l : List Int) (v : Value) (w : World) (hl : Sl encI w v l) (hlen : l.length ≤ 10000) :
    Calls Try.prog 28 #[v] w fun e w' => ∃ v', e = .returned v' ∧ w'.ownsRow w.heap.size 3 1 v' (srt ltI l).length (flat encI (srt ltI l)) ∧ RowKit.Below w.heap.size w w' := by
  obtain ⟨p, cap, rfl, h1, h2, h⟩ := hl
  have HLC := Lib.hid h
  have hz : (l.length : Int) ≤ 10000 := by omega
  clear h
  go_enter Try.func28, Try.ntmps28
  go_wp2
  go_loopw [3, 10] (fun v i wr => ∃ k : Nat, k ≤ l.length ∧ i = .int .i64 k ∧ RowKit.Below w.heap.size w wr ∧ v ≠ .slice none 0 0 ∧ wr.ownsRow w.heap.size 3 1 v (srt ltI (l.take k)).length (flat encI (srt ltI (l.take k)))) (fun _ i _ => l.length - (intOf i).toNat)
  case atStart => exact ⟨0, Nat.zero_le _, rfl, (by repeat (first | with_reducible exact Below.refl _ _ | with_reducible assumption | with_reducible apply Ba | with_reducible apply Bd | with_reducible apply Bn | with_reducible apply Bg | (with_reducible refine Bs ?_ (by first | (simp; done) | (simp; omega)) _) | (with_reducible refine Bt ?_ (by assumption)) | (with_reducible refine Bt ?_ (Gr.below (by assumption))))), by simp, World.ownsRow_made w #[] 0 (Nat.le_refl _) (Nat.zero_le _) (by simp)⟩
  case round =>
    obtain ⟨k, hk, rfl, hb, hv, ho⟩ := hrel
    by_cases hkn : k < l.length
    · obtain ⟨g0, o0, rfl, hg1, hg2⟩ := HLC.out (by omega)
      have c1 := atI hg2 hkn
      replace c1 := Bc hb hg1 c1
      have et := srt_take (lt := ltI) l k hkn
      rw [← getElem!_pos l k hkn] at et
      have hL2 : (srt ltI (l.take k)).length ≤ 10000 := by have := srt_len ltI (l.take k); simp at this; omega
      generalize hx : l[k]! = x at *
      have ET := Lib.hid et
      have BM := Lib.hid hb
      clear hg2 hx hb et
      obtain ⟨M, hM⟩ : ∃ M, M = wr := ⟨_, rfl⟩
      rw [← hM] at BM ho c1 ⊢
      clear hM
      have OM := Lib.hid ho
      clear ho
      generalize srt ltI (l.take k) = L at *
      obtain ⟨g, cap2, rfl, hbg, hgl, hlc, hcm⟩ := row_form OM.out hv
      have hpe : put ltI x L = if L[headLess ltI x L]? = some x then L else L.take (headLess ltI x L) ++ x :: L.drop (headLess ltI x L) := put_eq _ _
      have hml : cap2 ≤ 9223372036854775807 := by unfold maxLen at hcm; omega
      obtain ⟨H, hH⟩ : ∃ H, H = headLess ltI x L := ⟨_, rfl⟩
      rw [← hH] at hpe
      have hHl : H ≤ L.length := by rw [hH]; exact headLess_le _ _
      have PE := Lib.hid hpe
      have HC := Lib.hid (cellsI OM.out)
      have EH := Lib.hid hH
      have HCM := Lib.hid hcm
      clear hpe hH hcm hv
      go_wp2_with fail
      go_loopw [6] (fun i wr => ∃ j : Nat, j ≤ H ∧ i = .int .i64 j ∧ wr = M) (fun i _ => H - (intOf i).toNat)
      case atStart => exact ⟨0, Nat.zero_le _, rfl, rfl⟩
      case round =>
        obtain ⟨j, hj, rfl, rfl⟩ := hrel
        by_cases hjn : j < L.length
        · have c3 := atI HC.out hjn
          simp only [Nat.zero_add] at c3
          have hstep := Lib.hid (headLess_step (by rw [← EH.out]; exact hj : j ≤ headLess ltI x L) hjn)
          generalize hy : L[j]! = y at c3
          have HY := Lib.hid hy
          clear hy
          have hjz : (j : Int) < (L.length : Int) := by omega
          cases hb : ltI y x
          · have KH := Lib.hid (show j = H by rw [EH.out]; exact hstep.out.2 (by rw [HY.out]; exact hb))
            have hge : ¬ y < x := by simpa [ltI] using hb
            clear hb
            by_cases hxy : y = x
            · subst hxy
              go_wp2
              go_roundw
              case measure => simp [intOf]; omega
              case rel =>
                have hk2 : L[j]? = some y := by rw [List.getElem?_eq_getElem hjn, ← HY.out, getElem!_pos L j hjn]
                have hp : put ltI y L = L := by rw [PE.out, ← KH.out, if_pos hk2]
                exact ⟨k + 1, by omega, by go_num, BM.out, by simp, by rw [ET.out, hp]; exact OM.out⟩
            · have hk2 : ¬ L[j]? = some x := by rw [List.getElem?_eq_getElem hjn]; intro h; apply hxy; rw [← HY.out, getElem!_pos L j hjn]; exact Option.some.inj h
              have HP := Lib.hid (show put ltI x L = L.take j ++ x :: L.drop j by rw [PE.out, ← KH.out, if_neg hk2])
              have hxy2 : (y == x) = false := by simpa using hxy
              clear hk2
              go_wp2_with fail
              have SLD := Lib.hid (fun W (hb : RowKit.Below wr.heap.size wr W) => (show Sl encI W (.slice (if cap2 = j then some ⟨g, 0, none⟩ else some ⟨g, j, none⟩) (L.length - j) (cap2 - j)) (L.drop j) by rw [if_neg (by omega)]; have := sl_drop lenI (w := W) j (by omega : j ≤ L.length) hlc HCM.out (Bl hb hgl) (fun j' u hu => Bc hb hgl (HC.out j' u hu)); rwa [Nat.zero_add, Nat.mul_one] at this))
              have A3 := Lib.hid (Ba (Bd (Below.refl _ wr)) (.cells #[.int .i64 x] 3))
              have O3 := Lib.hid (show (wr.drew.alloc (.cells #[.int .i64 x] 3)).ownsRow wr.heap.size 3 1 (.slice (some ⟨wr.heap.size, 0, none⟩) 1 1) 1 (flat encI [x]) from World.ownsRow_lit wr.drew #[.int .i64 x] 1 (Nat.le_refl _) (by unfold maxLen; omega) rfl)
              have hsz2 := BM.out.size
              have hjc : j ≤ cap2 := by omega
              have hjl : j ≤ L.length := by omega
              go_region_law (first
                | (refine step_app apI rfl (.tmp 44) (.tmp 47) rfl wr.heap.size (by rfl) (by rfl) O3.out rfl (SLD.out _ A3.out) (by simp; omega) A3.out.size ?_; intro v1 w3 hown1 hgrow1 hnil1; have b3 := grownB A3.out O3.out hgrow1; have B3 := Lib.hid (Bt BM.out b3); have S3 := Lib.hid (row_sl lenI hown1 (by first | (simp; done) | (simp; omega))); have O5 := Lib.hid (frontI (row_below OM.out b3) rfl j (by omega)); clear hown1 hgrow1 hnil1 b3)
                | (refine step_app apI rfl (.tmp 42) (.tmp 48) rfl w.heap.size (by rfl) (by rfl) O5.out (by simp; omega) S3.out (by simp; omega) B3.out.size ?_; intro v2 w4 hown2 hgrow2 hnil2))
              have b4 := grownB B3.out O5.out hgrow2
              have hrow : w4.ownsRow w.heap.size 3 1 v2 (srt ltI (l.take (k + 1))).length (flat encI (srt ltI (l.take (k + 1)))) := by
                have e1 : L.take j ++ ([x] ++ L.drop j) = put ltI x L := by rw [HP.out]; simp
                rw [e1, ← List.length_append, e1, ← ET.out] at hown2
                exact hown2
              have hv2 : v2 ≠ .slice none 0 0 := fun h => by have := (hnil2.1 h).1; simp at this
              clear hown2 hgrow2 hnil2
              go_wp2
              go_roundw
              case measure => simp [intOf]; omega
              case rel => exact ⟨k + 1, by omega, by go_num, b4, hv2, hrow⟩
          · have hjH : j + 1 ≤ H := by rw [EH.out]; exact hstep.out.1 (by rw [HY.out]; exact hb)
            have hlt : y < x := by simpa [ltI] using hb
            clear hb
            go_wp2
            go_roundw
            case measure => simp [intOf]; omega
            case rel => exact ⟨j + 1, hjH, by go_num, trivial⟩
        · have KL := Lib.hid (show j = L.length by omega)
          have hjz : ¬ (j : Int) < (L.length : Int) := by omega
          have hk2 : ¬ L[H]? = some x := by rw [List.getElem?_eq_none (by omega)]; simp
          have hHj : H = j := by omega
          have HP := Lib.hid (show put ltI x L = L.take j ++ x :: L.drop j by rw [PE.out, if_neg hk2, hHj])
          clear hk2 hHj
          go_wp2_with fail
          have SLD := Lib.hid (fun W (hb : RowKit.Below wr.heap.size wr W) => (show Sl encI W (.slice (if cap2 = j then some ⟨g, 0, none⟩ else some ⟨g, j, none⟩) (L.length - j) (cap2 - j)) (L.drop j) from ⟨_, cap2 - j, by rw [List.length_drop], by rw [List.length_drop]; omega, by have := HCM.out; omega, fun h => absurd h (by rw [List.length_drop]; have := KL.out; omega)⟩))
          have A3 := Lib.hid (Ba (Bd (Below.refl _ wr)) (.cells #[.int .i64 x] 3))
          have O3 := Lib.hid (show (wr.drew.alloc (.cells #[.int .i64 x] 3)).ownsRow wr.heap.size 3 1 (.slice (some ⟨wr.heap.size, 0, none⟩) 1 1) 1 (flat encI [x]) from World.ownsRow_lit wr.drew #[.int .i64 x] 1 (Nat.le_refl _) (by unfold maxLen; omega) rfl)
          have hsz2 := BM.out.size
          have hjc : j ≤ cap2 := by omega
          have hjl : j ≤ L.length := by omega
          go_region_law (first
            | (refine step_app apI rfl (.tmp 44) (.tmp 47) rfl wr.heap.size (by rfl) (by rfl) O3.out rfl (SLD.out _ A3.out) (by simp; omega) A3.out.size ?_; intro v1 w3 hown1 hgrow1 hnil1; have b3 := grownB A3.out O3.out hgrow1; have B3 := Lib.hid (Bt BM.out b3); have S3 := Lib.hid (row_sl lenI hown1 (by first | (simp; done) | (simp; omega))); have O5 := Lib.hid (frontI (row_below OM.out b3) rfl j (by omega)); clear hown1 hgrow1 hnil1 b3)
            | (refine step_app apI rfl (.tmp 42) (.tmp 48) rfl w.heap.size (by rfl) (by rfl) O5.out (by simp; omega) S3.out (by simp; omega) B3.out.size ?_; intro v2 w4 hown2 hgrow2 hnil2))
          have b4 := grownB B3.out O5.out hgrow2
          have hrow : w4.ownsRow w.heap.size 3 1 v2 (srt ltI (l.take (k + 1))).length (flat encI (srt ltI (l.take (k + 1)))) := by
            have e1 : L.take j ++ ([x] ++ L.drop j) = put ltI x L := by rw [HP.out]; simp
            rw [e1, ← List.length_append, e1, ← ET.out] at hown2
            exact hown2
          have hv2 : v2 ≠ .slice none 0 0 := fun h => by have := (hnil2.1 h).1; simp at this
          clear hown2 hgrow2 hnil2
          go_wp2
          go_roundw
          case measure => simp [intOf]; omega
          case rel => exact ⟨k + 1, by omega, by go_num, b4, hv2, hrow⟩
    · have hkn' : k = l.length := by omega
      rw [hkn', List.take_length] at ho
      have HO := Lib.hid ho
      clear ho hkn'
      go_wp2
      go_ret
      exact ⟨_, rfl, HO.out, hb⟩
end Go.Proofs.Ytdpcdfjgpechbaa
