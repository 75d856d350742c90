/-
  Row and Right of the program.
-/
import Derived.Test.YtbmclbajhgabgaaDoorVj
namespace Go.Proofs.YtbmclbajhgabgaaDoor
set_option linter.unusedSimpArgs false
set_option linter.unusedVariables false
open Go.RowKit Go.Sort Go.Lib Go.Shelf

theorem rightB_parts (l : List Vl) : rightB l = (decide (RiseK l) && !l.any wrongB) := by
  unfold rightB wrongB
  congr 1
  rw [List.not_any_eq_all_not]
  congr 1
  funext x
  simp
set_option maxHeartbeats 1000000 in
theorem right_call (l : List Vl) (v : Value) (A : Nat → Addr) (w : World) (hl : Sl encV w v l) (hE : Er w A) : Calls Tryd.prog 17 #[v] w fun e w' => e = .returned (.bool (rightB l)) ∧ Gr w w' := by
  rw [rightB_parts]
  have HL := Lib.hid hl
  have FR := Lib.hid (rising_call l v w hl)
  have FC : Hid (∀ W, RowKit.Below w.heap.size w W → Calls Tryd.prog 45 #[v, .func (.func 46) #[] #[]] W fun e w' => e = .returned (.bool (l.any wrongB)) ∧ Gr W w') := fun W h => containsV_call wrongB l v W (fun W2 h2 a b c => wrong_any (a, b, c) A W2 ((hE.below h).below h2)) (hl.below h)
  generalize decide (RiseK l) = p at *
  generalize l.any wrongB = q at *
  clear hl hE
  cases p
  · go_enter Tryd.func17, Tryd.ntmps17
    go_wp2_with fail
    refine FR.out.mono ?_
    rintro e w1 ⟨rfl, hg1⟩
    go_wp2
    go_ret
    exact ⟨rfl, (by repeat (first | with_reducible exact Gr.refl _ | with_reducible assumption | with_reducible apply Gr.alloc | with_reducible apply Gr.drewN | with_reducible apply Gr.drew | with_reducible apply Gr.grow | (with_reducible refine Gr.trans ?_ (by assumption))))⟩
  · cases q
    all_goals
      go_enter Tryd.func17, Tryd.ntmps17
      go_wp2_with fail
      refine FR.out.mono ?_
      rintro e w1 ⟨rfl, hg1⟩
      go_wp2_with fail
      refine (FC.out w1 hg1.below).mono ?_
      rintro e w2 ⟨rfl, hg2⟩
      go_wp2
      go_ret
      exact ⟨rfl, (by repeat (first | with_reducible exact Gr.refl _ | with_reducible assumption | with_reducible apply Gr.alloc | with_reducible apply Gr.drewN | with_reducible apply Gr.drew | with_reducible apply Gr.grow | (with_reducible refine Gr.trans ?_ (by assumption))))⟩

theorem perm_sorted {l : List Vl} {d' : Array Vl} (hp : PermIn 0 l.toArray.size l.toArray d') (hs : SortedIn ltK 0 l.toArray.size d') : d'.toList.Perm l ∧ d'.toList.Pairwise (fun x y => x.1 ≤ y.1) := by
  obtain ⟨hsz, _, hperm⟩ := hp
  have e1 : d'.extract 0 l.toArray.size = d' := by rw [← hsz]; exact Array.extract_size
  have e2 : l.toArray.extract 0 l.toArray.size = l.toArray := Array.extract_size
  rw [e1, e2] at hperm
  refine ⟨by simpa using hperm, List.pairwise_iff_getElem.2 fun i j hi hj hij => ?_⟩
  have hi' : i < d'.size := by simpa using hi
  have hj' : j < d'.size := by simpa using hj
  have := hs i j (Nat.zero_le _) hij (by omega)
  rw [getElem!_pos d' i hi', getElem!_pos d' j hj'] at this
  simp only [ltK, decide_eq_false_iff_not] at this
  simp only [Array.getElem_toList]
  omega

set_option maxHeartbeats 2000000 in
set_option maxRecDepth 100000 in
theorem row_call (l : List Vl) (v : Value) (A : Nat → Addr) (w : World) (hl : Sl encV w v l) (hE : Er w A) (hlen : l.length ≤ 100000) :
    Calls Tryd.prog 14 #[v] w fun e w' => (∃ v', e = .returned (.tuple #[v', errV A (rowN l)]) ∧ Sl encV w' v' (rowL l)) ∧ RowKit.Below w.heap.size w w' := by
  have HS := Lib.hid hl
  have HE := Lib.hid hE
  obtain ⟨p, cap, rfl, hl1, hl2, hl3⟩ := hl
  have HL := Lib.hid hl3
  have hbig : l.length ≤ 9223372036854775807 := by omega
  clear hl3 hl2 hE
  go_enter Tryd.func14, Tryd.ntmps14
  go_wp2
  go_loopg [10] l.length (fun gk s10 wr => ∃ i : Nat, s10 = .int .i64 i ∧ i ≤ l.length ∧ l.length - i ≤ gk ∧ Gr w wr ∧ Hid (∀ j, j < i → chk l[j]! = 0))
  case atStart => exact ⟨0, rfl, Nat.zero_le _, by omega, Gr.refl _, fun j hj => absurd hj (Nat.not_lt_zero _)⟩
  case round =>
    obtain ⟨i, rfl, hi, hgk, hg, I⟩ := hrel
    have HG := Lib.hid hg
    by_cases hin : i < l.length
    · obtain ⟨g, o, rfl, hg1, hg2⟩ := HL.out (by omega)
      obtain ⟨c1, c2, c3⟩ := atV hg2 hin
      have d1 : wr.cell? ⟨g, o + i * 3, none⟩ = some (.int .i64 l[i]!.1) := Bc HG.out.below hg1 c1
      have d2 : wr.cell? ⟨g, o + i * 3 + 1, none⟩ = some (.int .i64 l[i]!.2.1) := Bc HG.out.below hg1 c2
      have d3 : wr.cell? ⟨g, o + i * 3 + 2, none⟩ = some (.int .i64 l[i]!.2.2) := Bc HG.out.below hg1 c3
      have hgw : g < wr.heap.size := Bl HG.out.below hg1
      have HF := Lib.hid (fun (h : chk l[i]! ≠ 0) => show firstE l = chk l[i]! from firstE_at (i := i) (by rw [getElem!_pos l i hin, List.getElem?_eq_getElem hin]) h (fun y hy => by
        obtain ⟨j, hj, rfl⟩ := List.getElem_of_mem hy
        have hj' : j < i := by rw [List.length_take] at hj; omega
        have := I.out j hj'
        rw [getElem!_pos l j (by omega)] at this
        rwa [List.getElem_take]))
      generalize hx : l[i]! = x at *
      have X := Lib.hid hx
      obtain ⟨x1, x2, x3⟩ := x
      dsimp only at d1 d2 d3
      have FC : Hid (∀ W, Er W A → Calls Tryd.prog 12 #[.agg #[.int .i64 x1, .int .i64 x2, .int .i64 x3]] W fun e w' => e = .returned (errV A (chk (x1, x2, x3))) ∧ Gr W w') := fun W h => check_any (x1, x2, x3) A W h
      clear hg2 c1 c2 c3 hx hg
      by_cases hk : chk (x1, x2, x3) = 0
      · rw [hk, errV_no] at FC
        have HK := Lib.hid hk
        clear hk HF
        go_wp2_with (go_at_call 12; refine (FC.out _ ((HE.out.below HG.out.below).below (by repeat (first | with_reducible exact Below.refl _ _ | with_reducible assumption | with_reducible apply Ba | with_reducible apply Bd | with_reducible apply Bn | with_reducible apply Bg | (with_reducible refine Bs ?_ (by first | (simp; done) | (simp; omega)) _) | (with_reducible refine Bt ?_ (by assumption)) | (with_reducible refine Bt ?_ (Gr.below (by assumption))))))).mono ?_; rintro e w1 ⟨rfl, hg1⟩)
        go_roundg (l.length - (i + 1))
        case measure => omega
        case rel =>
          refine ⟨i + 1, by go_num, by omega, Nat.le_refl _, HG.out.trans ((Gr.alloc (Gr.refl wr) _).trans hg1), (show Hid _ from fun j hj => ?_)⟩
          by_cases e : j = i
          · subst e; rw [X.out]; exact HK.out
          · exact I.out j (by omega)
      · have hf := HF.out hk
        have hrn : rowN l = chk (x1, x2, x3) := by unfold rowN; rw [hf, if_pos hk]
        have E := Lib.hid (show errV A (rowN l) = .iface 130 (.pointer (some (A (chk (x1, x2, x3) - 1)))) ∧ rowL l = [] by
          rw [hrn, errV_at A _ hk]
          exact ⟨rfl, by unfold rowL; rw [hrn, if_neg hk]⟩)
        rw [errV_at A _ hk] at FC
        generalize A (chk (x1, x2, x3) - 1) = ep at *
        clear hf hrn hk HF
        go_wp2_with (go_at_call 12; refine (FC.out _ ((HE.out.below HG.out.below).below (by repeat (first | with_reducible exact Below.refl _ _ | with_reducible assumption | with_reducible apply Ba | with_reducible apply Bd | with_reducible apply Bn | with_reducible apply Bg | (with_reducible refine Bs ?_ (by first | (simp; done) | (simp; omega)) _) | (with_reducible refine Bt ?_ (by assumption)) | (with_reducible refine Bt ?_ (Gr.below (by assumption))))))).mono ?_; rintro e w1 ⟨rfl, hg1⟩)
        go_ret2
        refine ⟨⟨.slice none 0 0, by rw [E.out.1]; rfl, by rw [E.out.2]; exact Sl.nil _ _ (Nat.zero_le _)⟩, ?_⟩
        exact (HG.out.trans ((Gr.alloc (Gr.refl wr) _).trans hg1)).below
    · have hf : firstE l = 0 := (firstE_zero l).2 fun x hx => by
        obtain ⟨j, hj, rfl⟩ := List.getElem_of_mem hx
        have := I.out j (by omega)
        rwa [getElem!_pos l j hj] at this
      have HF := Lib.hid hf
      clear hf hg
      go_wp2_with fail
      refine (cloneV_call l _ wr (HS.out.below HG.out.below) hlen).mono ?_
      rintro e w1 ⟨v1, rfl, ho1, _, hb1⟩
      have HO1 := Lib.hid ho1
      have HB1 := Lib.hid (Bt HG.out.below hb1)
      have hs1 := hb1.size
      have hs0 := HG.out.below.size
      clear ho1 hb1
      go_wp2_with fail
      refine (sortV_call wr.heap.size l v1 w1 HO1.out hs1 hlen).mono ?_
      rintro e w2 ⟨rfl, ⟨d', hp, hs, ho2⟩, hb2⟩
      obtain ⟨hp', hs'⟩ := perm_sorted hp hs
      have HR := Lib.hid (sorted_row hp' hs' HF.out)
      have HB2 := Lib.hid (HB1.out.trans (hb2.mono (show w.heap.size ≤ wr.heap.size from hs0)))
      have HS2 := Lib.hid (ho2.sl lenV)
      clear hp hs ho2 hb2 hp' hs'
      go_wp2_with fail
      refine (rising_call _ v1 w2 HS2.out).mono ?_
      rintro e w3 ⟨rfl, hg3⟩
      have HB3 := Lib.hid (Bt HB2.out hg3.below)
      have HS3 := Lib.hid (HS2.out.below hg3.below)
      have r3 := (HE.out.below HB3.out).ex
      clear hg3
      cases hd : dupB l
      · obtain ⟨h1, h2⟩ := HR.out.2 hd
        have hn : rowN l = 0 := by unfold rowN; rw [HF.out, hd]; rfl
        have E := Lib.hid (show errV A (rowN l) = .nilIface ∧ rowL l = d'.toList by
          rw [hn, errV_no]
          exact ⟨rfl, by unfold rowL; rw [if_pos hn]; exact h2.symm⟩)
        have hq : decide (RiseK d'.toList) = true := decide_eq_true h1
        rw [hq]
        clear h1 h2 hn hd hq HR
        go_wp2
        go_ret2
        exact ⟨⟨v1, by rw [E.out.1]; rfl, by rw [E.out.2]; exact HS3.out⟩, HB3.out⟩
      · have h1 := HR.out.1 hd
        have hn : rowN l = 4 := by unfold rowN; rw [HF.out, hd]; rfl
        have E := Lib.hid (show errV A (rowN l) = .iface 130 (.pointer (some (A 3))) ∧ rowL l = [] by
          rw [hn, errV_at A 4 (by decide)]
          exact ⟨rfl, by unfold rowL; rw [hn]; rfl⟩)
        have hq : decide (RiseK d'.toList) = false := decide_eq_false h1
        rw [hq]
        clear h1 hn hd hq HR
        go_wp2_with fail
        go_region
        go_wp2
        go_ret2
        exact ⟨⟨.slice none 0 0, by rw [E.out.1]; rfl, by rw [E.out.2]; exact Sl.nil _ _ (Nat.zero_le _)⟩, HB3.out.drew⟩
end Go.Proofs.YtbmclbajhgabgaaDoor
