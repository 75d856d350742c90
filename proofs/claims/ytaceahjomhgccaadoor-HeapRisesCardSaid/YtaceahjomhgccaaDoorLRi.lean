/-
  The walk of HeapRises.
-/
import Derived.Test.YtaceahjomhgccaaDoorLMx
import Derived.Test.YtaceahjomhgccaaDoorMg10
namespace Go.Proofs.YtaceahjomhgccaaDoor
set_option linter.unusedSimpArgs false
set_option linter.unusedVariables false
open Go.RowKit Go.Sort Go.Lib Go.Shelf Go.ChangeShapes Go.WideShapes Go.ChangeMaps

/-- How often each entry is in A, less how often in B. -/
def fC (A B : List Hd) : Hd → Option Int := fun z => if z ∈ A then some ((A.count z : Int) - (B.count z : Int)) else none
theorem fC_nil : ∀ z, fC [] [] z = none := fun z => by simp [fC]
theorem fC_val (A : List Hd) (x : Hd) : (fC A [] x).getD 0 = (A.count x : Int) := by
  unfold fC
  split
  · simp
  · rename_i h
    simp [List.count_eq_zero.2 h]
theorem fC_more (A : List Hd) (x z : Hd) : (if z = x then some ((A.count x : Int) + 1) else fC A [] z) = fC (A ++ [x]) [] z := by
  unfold fC
  by_cases h : z = x
  · subst h
    simp
  · rw [if_neg h]
    have h2 : ¬ x = z := fun e => h e.symm
    by_cases hz : z ∈ A
    · rw [if_pos hz, if_pos (by simp [hz])]
      simp [List.count_append, List.count_cons, h2]
    · rw [if_neg hz, if_neg (by simp [hz, h])]
theorem fC_at {A B : List Hd} {x : Hd} (hx : x ∈ A) : fC A B x = some ((A.count x : Int) - (B.count x : Int)) := by simp [fC, hx]
theorem fC_less {A B : List Hd} {x : Hd} (hx : x ∈ A) (z : Hd) : (if z = x then some ((A.count x : Int) - (B.count x : Int) - 1) else fC A B z) = fC A (B ++ [x]) z := by
  unfold fC
  by_cases h : z = x
  · subst h
    simp [hx]
    omega
  · rw [if_neg h]
    have h2 : ¬ x = z := fun e => h e.symm
    by_cases hz : z ∈ A
    · rw [if_pos hz, if_pos hz]
      simp [List.count_append, List.count_cons, h2]
    · rw [if_neg hz, if_neg hz]
theorem fC_end {A B : List Hd} (p : B.Perm A) {z : Hd} {y : Int} (h : fC A B z = some y) : y = 0 := by
  unfold fC at h
  split at h
  · simp only [Option.some.injEq] at h
    rw [p.count_eq] at h
    omega
  · cases h
theorem count_bound (A : List Hd) (x : Hd) : A.count x ≤ A.length := List.count_le_length

set_option maxHeartbeats 4000000 in
set_option maxRecDepth 100000 in
theorem heapRises_walk (l : List Hd) (v : Value) (W : World) (hv : Sl encH W v l) (hok : ∀ x ∈ l, HdOk x) (t : TypeId) (u : Value) (hE : W.cell? ⟨2, 0, none⟩ = some (.iface t u)) :
    Calls Tryd.prog 5 #[v] W fun e w' => e = .returned (.bool true) ∧ RowKit.Below W.heap.size W w' := by
  have HSL := Lib.hid hv.slN
  obtain ⟨p0, c0, rfl, v1, v2, v3⟩ := hv
  unfold maxLen at v2
  have HV := Lib.hid v3
  have HE := Lib.hid hE
  have hel := cell_lt hE
  have HOK := Lib.hid hok
  have AL := Lib.hid (alive_any W)
  clear v3 hE hok
  by_cases h1 : l.length ≤ 300
  case neg =>
    have hz : (l.length : Int) > 300 := by omega
    go_enter Tryd.func5, Tryd.ntmps5
    go_wp2_with fail
    refine AL.out.mono ?_
    rintro e w1 ⟨rfl, hb1⟩
    go_wp2
    go_ret
    exact ⟨rfl, hb1⟩
  have hz : ¬ (l.length : Int) > 300 := by omega
  have hmm := @run_makeMap Tryd.prog
  go_enter Tryd.func5, Tryd.ntmps5
  go_wp2_with fail
  refine AL.out.mono ?_
  rintro e w1 ⟨rfl, hb1⟩
  have C0 := Lib.hid (newO (Z := NoZ) (base := W.heap.size) (w := w1) hb1.size (fun b e => e.elim))
  have B1 := Lib.hid hb1
  clear hb1 AL
  go_wp2_with fail
  refine C0.out.mono ?_
  rintro e w2 ⟨pa, rfl, hp2, hb2⟩
  have B2 := Lib.hid (Bt B1.out hb2)
  have C2 := Lib.hid (pushO hp2 l _ (HSL.out.below B2.out) (fun b e => .inr e) (by simp) (by simp; omega))
  unfold psP at *
  clear hp2 hb2 C0 B1
  go_wp2_with fail
  refine C2.out.mono ?_
  rintro e w3 ⟨rfl, hp3, ht3⟩
  have B3 := Lib.hid (Bt (B2.out.trans (OffZ.below ht3 B2.out.size)) (Ba (Below.refl _ w3) (.map #[] 0)))
  have P3 := Lib.hid (hp3.turn (w' := w3.alloc (.map #[] 0)) (Z' := fun b => b = w3.heap.size) (Tch.of (Ba (Below.refl _ w3) _)) (fun b hb => ⟨.inr (.inr (by omega)), by simp; omega⟩))
  have M3 := Lib.hid ((MapG.made (k := 35) (lit := kE) (ok := HdOk) (dt := nD) (zr := (0 : Int)) (R := nElem) w3).congr (g := fC (l.take 0) []) (fun z => by rw [List.take_zero]; exact (fC_nil z).symm))
  have hmb := (B2.out.trans (OffZ.below ht3 B2.out.size)).size
  clear hp3 ht3 C2 B2
  go_wp2_with fail
  clear hmm
  generalize hw3 : w3.heap.size = mb at *
  generalize w3.alloc (.map #[] 0) = w4 at *
  clear hw3
  go_loopw [28] (fun i wr => ∃ (k c : Nat), i = .int .i64 k ∧ k ≤ l.length ∧ c ≤ k ∧ Hid (HpO (fun b => b = mb) W.heap.size wr pa (pushesL ltH [] l)) ∧ Hid (MapE wr mb c (fC (l.take k) [])) ∧ Hid (RowKit.Below W.heap.size W wr)) (fun i _ => l.length - (intOf i).toNat)
  case atStart => exact ⟨0, 0, rfl, Nat.zero_le _, Nat.le_refl _, P3, M3, B3⟩
  case round =>
    clear P3 M3 B3
    obtain ⟨k, c, rfl, hk, hc, HP, HM, HB⟩ := hrel
    by_cases hkn : k < l.length
    · have hkz : (k : Int) < l.length := by omega
      obtain ⟨g0, o0, rfl, hg0, hc0⟩ := HV.out (by omega)
      obtain ⟨d1, d2⟩ := atH (fun j u hu => Bc HB.out hg0 (hc0 j u hu)) hkn
      have hg0w := Bl HB.out hg0
      have TK := Lib.hid (show l.take (k + 1) = l.take k ++ [l[k]!] by rw [List.take_succ_eq_append_getElem hkn, getElem!_pos l k hkn])
      have hxo := HOK.out l[k]! (by rw [getElem!_pos l k hkn]; exact List.getElem_mem _)
      generalize l[k]! = x at *
      obtain ⟨x1, x2⟩ := x
      dsimp only at d1 d2
      have X1 := Lib.hid (heap_alloc_new wr (.cells #[.int .i64 x1, .int .i64 x2] 35))
      have A1 := Lib.hid (Bd (Ba (Below.refl _ wr) (.cells #[.int .i64 x1, .int .i64 x2] 35)))
      have M1 := Lib.hid (HM.out.below A1.out)
      have P1 := Lib.hid (HP.out.below A1.out)
      have B1 := Lib.hid (Bt HB.out A1.out)
      have hcb := count_bound (l.take k) (x1, x2)
      rw [List.length_take] at hcb
      obtain ⟨n, hn⟩ : ∃ n, n = (l.take k).count ((x1, x2) : Hd) := ⟨_, rfl⟩
      rw [← hn] at hcb
      have hlook := M1.out.look mptE (x1, x2) hxo
      obtain ⟨st, es1, c1, hent, hmid, hst⟩ := MapE.entry M1.out (by omega) (x1, x2) hxo
      rw [fC_val, ← hn] at hlook hent hmid
      have FM := Lib.hid (fun z => fC_more (l.take k) (x1, x2) z)
      rw [← hn] at FM
      clear hc0 hn
      go_wp2_with fail
      generalize wr.alloc (.cells #[.int .i64 x1, .int .i64 x2] 35) = W1 at *
      obtain ⟨x0, x1', _, _⟩ := two_cells X1.out
      have hxw := cell_lt x0
      generalize wr.heap.size = xb at *
      have hmbl := M1.out.lt
      obtain ⟨W2, hW2⟩ : ∃ W2, W2 = setBlock W1.drew mb (.map es1 c1) := ⟨_, rfl⟩
      rw [← hW2] at hent
      have hb2 : W2.heap[mb]? = some (.map es1 c1) := by rw [hW2]; exact setBlock_at hmbl _
      have T2 := Lib.hid (show Tch (fun b => b = mb) W1.drew W2 by rw [hW2]; exact tch_setBlock (M := fun b => b = mb) _ rfl _)
      have M2 := Lib.hid (hmid W2 hb2)
      have hlook2 := M2.out.look mptE (x1, x2) hxo
      simp only [if_true, Option.getD_some] at hlook2
      obtain ⟨es', c', hsto, hfin⟩ := hst W2 ((n : Int) + 1) hb2
      have hml2 : mb < W2.heap.size := M2.out.lt
      obtain ⟨W3, hW3⟩ : ∃ W3, W3 = setBlock W2 mb (.map es' c') := ⟨_, rfl⟩
      rw [← hW3] at hsto
      have M3 := Lib.hid (hfin W3 (by rw [hW3]; exact setBlock_at hml2 _))
      have T3 := Lib.hid (T2.out.more (show Tch (fun b => b = mb) W2 W3 by rw [hW3]; exact tch_setBlock (M := fun b => b = mb) _ rfl _))
      have P3 := Lib.hid (P1.out.turn (Z' := fun b => b = mb) T3.out (fun b hb => ⟨.inl hb, by rw [hb]; exact M3.out.lt⟩))
      have B3 := Lib.hid (B1.out.trans (T3.out.below (B := W.heap.size) (fun b e => by rw [e]; exact hmb) B1.out.size))
      have MF := Lib.hid (M3.out.congr (g := fC (l.take (k + 1)) []) (fun z => by rw [TK.out]; exact FM.out z))
      have hcc : (if (fC (l.take k) [] (x1, x2)).isSome = true then c else c + 1) ≤ k + 1 := by split <;> omega
      generalize (if (fC (l.take k) [] (x1, x2)).isSome = true then c else c + 1) = cc at *
      unfold mE nV goInt at *
      dsimp only at hlook hlook2 hent hsto
      have hwn : IntKind.i64.wrap ((n : Int) + 1) = (n : Int) + 1 := IntWalk.i64_in _ (by omega)
      clear hW2 hW3 hst hfin hmid M1 M2 M3 T2 T3 P1 B1
      go_region
      all_goals
        go_wp2
        go_roundw
        case rel => exact ⟨k + 1, cc, by go_num, by omega, hcc, P3, MF, B3⟩
        case measure => simp [intOf]; omega
    · have hkz : ¬ (k : Int) < l.length := by omega
      obtain rfl : k = l.length := by omega
      have M5 := Lib.hid ((show MapE wr mb c (fC l []) by have := HM.out; rwa [List.take_length] at this).below (Ba (Below.refl _ wr) (.cells #[.int .i64 0, .int .i64 0] 35)))
      have X5 := Lib.hid (heap_alloc_new wr (.cells #[.int .i64 0, .int .i64 0] 35))
      have hml := HM.out.lt
      have P5 := Lib.hid (HP.out.turn (w' := wr.alloc (.cells #[.int .i64 0, .int .i64 0] 35)) (Z' := fun b => b = mb ∨ b = wr.heap.size) (Tch.of (Ba (Below.refl _ wr) _)) (fun b hb => by
        rcases hb with hb | hb
        · exact ⟨.inl hb, by simp; omega⟩
        · exact ⟨.inr (.inr (by omega)), by simp; omega⟩))
      have B5 := Lib.hid (Bt HB.out (Ba (Below.refl _ wr) (.cells #[.int .i64 0, .int .i64 0] 35)))
      have hlb : W.heap.size ≤ wr.heap.size := HB.out.size
      clear HM HP HB
      go_wp2_with fail
      generalize wr.heap.size = lb at *
      generalize wr.alloc (.cells #[.int .i64 0, .int .i64 0] 35) = w5 at *
      have HPL := Lib.hid (pushesL_perm (lt := ltH) ([] : List Hd) l)
      have HHP := Lib.hid (pushesL_heap sto_hd ([] : List Hd) l (fun j _ jn => absurd jn (by simp)))
      go_loopw [42] (fun i wr => ∃ (k c : Nat) (L B : List Hd) (y : Hd), i = .int .i64 k ∧ k ≤ l.length ∧ c ≤ l.length + k ∧ Hid (B.length = k) ∧ Hid (HpO (fun b => b = mb ∨ b = lb) W.heap.size wr pa L) ∧ Hid (HeapL ltH L) ∧ Hid ((B ++ L).Perm l) ∧ Hid (wr.heap[lb]? = some (.cells #[.int .i64 y.1, .int .i64 y.2] 35 (0, 0))) ∧ Hid (MapE wr mb c (fC l B)) ∧ Hid (0 < k → ∀ z ∈ L, ltH z y = false) ∧ Hid (RowKit.Below W.heap.size W wr)) (fun i _ => l.length - (intOf i).toNat)
      case atStart => exact ⟨0, c, _, [], (0, 0), rfl, Nat.zero_le _, by omega, Lib.hid rfl, P5, HHP, Lib.hid (by simpa using HPL.out), X5, M5, Lib.hid (fun h => absurd h (by omega)), B5⟩
      case round =>
        clear P5 HHP HPL X5 M5 B5 hc hk
        obtain ⟨k, c, L, B, y, rfl, hk, hc, HBl, HP, HH, HPm, HX, HM, HY, HB⟩ := hrel
        have HLn := Lib.hid (show L.length = l.length - k by have := HPm.out.length_eq; rw [List.length_append, HBl.out] at this; omega)
        by_cases hkn : k < l.length
        · have hkz2 : (k : Int) < l.length := by omega
          have hL0 : 0 < L.length := by rw [HLn.out]; omega
          have C2 := Lib.hid (popO HP.out hL0 (by rw [HLn.out]; omega))
          obtain ⟨x, hx⟩ : ∃ x, L[0]! = x := ⟨_, rfl⟩
          have hxL : x ∈ L := by rw [← hx, getElem!_pos L 0 hL0]; exact List.getElem_mem _
          have HXL := Lib.hid hxL
          have hxl : x ∈ l := HPm.out.mem_iff.1 (List.mem_append_right _ hxL)
          have HXl := Lib.hid hxl
          have hxo := HOK.out x hxl
          have HPP := Lib.hid (popL_perm sto_hd L hL0)
          have HHN := Lib.hid (popL_heap sto_hd HH.out)
          have HLS := Lib.hid (fun z (hz : z ∈ popL ltH L) => (by rw [← hx]; exact heap_least_mem sto_hd HH.out ((popL_perm sto_hd L hL0).mem_iff.2 (List.mem_cons_of_mem _ hz)) : ltH z x = false))
          have HYX := Lib.hid (fun h => HY.out h x hxL)
          rw [hx] at C2 HPP
          clear hx hxL hxl hL0 HY HP
          obtain ⟨x1, x2⟩ := x
          obtain ⟨y1, y2⟩ := y
          unfold psP aggH at C2
          dsimp only at C2
          go_wp2_with fail
          refine C2.out.mono ?_
          rintro e w6 ⟨rfl, hp6, ht6⟩
          have X7 := Lib.hid (heap_alloc_new w6 (.cells #[.int .i64 x1, .int .i64 x2] 35))
          have A7 := Lib.hid (Ba (Below.refl _ w6) (.cells #[.int .i64 x1, .int .i64 x2] 35))
          have P7 := Lib.hid (hp6.below A7.out)
          have M7 := Lib.hid ((HM.out.kept ht6 (fun e => e.2 (.inl rfl))).below A7.out)
          have Y7 := Lib.hid (blk_below (ht6.blk HX.out (fun e => e.2 (.inr rfl))) A7.out)
          have B7 := Lib.hid (Bt (HB.out.trans (OffZ.below ht6 HB.out.size)) A7.out)
          have hlx : lb < w6.heap.size := (Array.getElem?_eq_some_iff.1 (ht6.blk HX.out (fun e => e.2 (.inr rfl)))).1
          clear hp6 ht6 C2 HM HX HB A7
          obtain ⟨s0, s1, _, _⟩ := two_cells X7.out
          obtain ⟨t0, t1, _, _⟩ := two_cells Y7.out
          rcases Nat.eq_zero_or_pos k with hk0 | hk0
          case' inl =>
            have hkz0 : ¬ (k : Int) > 0 := by omega
            have hkz1 : ¬ 0 < k := by omega
            go_wp2_with fail
            clear hkz0 hkz1
          case' inr =>
            have hkz0 : (k : Int) > 0 := by omega
            have hyx := HYX.out hk0
            rw [ltH_eq] at hyx
            simp only [Bool.or_eq_false_iff, Bool.and_eq_false_iff, decide_eq_false_iff_not] at hyx
            obtain ⟨n1, n2⟩ := hyx
            rcases Decidable.em (x1 = y1) with he | he
            case' inl =>
              have n3 : ¬ x2 < y2 := n2.resolve_left (fun c => c he)
              subst he
              clear n2
              go_wp2_with fail
            case' inr =>
              clear n2
              go_wp2_with fail
          all_goals
            obtain ⟨n, hn⟩ : ∃ n : Int, n = (l.count ((x1, x2) : Hd) : Int) - (B.count ((x1, x2) : Hd) : Int) := ⟨_, rfl⟩
            have hnb : -1000 ≤ n ∧ n ≤ 1000 := by
              have := count_bound l (x1, x2)
              have := count_bound B (x1, x2)
              have := HBl.out
              omega
            have hfx : fC l B (x1, x2) = some n := by rw [fC_at HXl.out, hn]
            have FM := Lib.hid (fun z => fC_less (B := B) HXl.out z)
            rw [← hn] at FM
            generalize hw7 : w6.alloc (.cells #[.int .i64 x1, .int .i64 x2] 35) = W1 at *
            have hxb := cell_lt s0
            generalize w6.heap.size = xb at *
            have M1 := Lib.hid (M7.out.below (Bd (Below.refl _ W1)))
            have P1 := Lib.hid (P7.out.below (Bd (Below.refl _ W1)))
            have B1 := Lib.hid (Bt B7.out (Bd (Below.refl _ W1)))
            have hlook := M1.out.look mptE (x1, x2) hxo
            obtain ⟨st, es1, c1, hent, hmid, hst⟩ := MapE.entry M1.out (by omega) (x1, x2) hxo
            rw [hfx] at hlook hent hmid hst
            simp only [Option.getD_some, Option.isSome_some, if_true] at hlook hent hmid hst
            have hmbl := M1.out.lt
            obtain ⟨W2, hW2⟩ : ∃ W2, W2 = setBlock W1.drew mb (.map es1 c1) := ⟨_, rfl⟩
            rw [← hW2] at hent
            have hb2 : W2.heap[mb]? = some (.map es1 c1) := by rw [hW2]; exact setBlock_at hmbl _
            have T2 := Lib.hid (show Tch (fun b => b = mb) W1.drew W2 by rw [hW2]; exact tch_setBlock (M := fun b => b = mb) _ rfl _)
            have M2 := Lib.hid (hmid W2 hb2)
            have hlook2 := M2.out.look mptE (x1, x2) hxo
            simp only [if_true, Option.getD_some] at hlook2
            obtain ⟨es', c', hsto, hfin⟩ := hst W2 (n - 1) hb2
            have hml2 : mb < W2.heap.size := M2.out.lt
            obtain ⟨W3, hW3⟩ : ∃ W3, W3 = setBlock W2 mb (.map es' c') := ⟨_, rfl⟩
            rw [← hW3] at hsto
            have M3 := Lib.hid (hfin W3 (by rw [hW3]; exact setBlock_at hml2 _))
            have T3 := Lib.hid (T2.out.more (show Tch (fun b => b = mb) W2 W3 by rw [hW3]; exact tch_setBlock (M := fun b => b = mb) _ rfl _))
            have MF := Lib.hid (M3.out.congr (g := fC l (B ++ [(x1, x2)])) (fun z => FM.out z))
            have nX : ¬ xb = mb := fun e => by
              obtain ⟨es, cc, hm⟩ := M7.out.is
              have := X7.out
              rw [e, hm] at this
              cases this
            have nL : ¬ lb = mb := fun e => by
              obtain ⟨es, cc, hm⟩ := M7.out.is
              have := Y7.out
              rw [e, hm] at this
              cases this
            have X3 := Lib.hid (T3.out.blk (show W1.drew.heap[xb]? = some (.cells #[.int .i64 x1, .int .i64 x2] 35 (0, 0)) from X7.out) nX)
            have Y3 := Lib.hid (T3.out.blk (show W1.drew.heap[lb]? = _ from Y7.out) nL)
            obtain ⟨r0, r1, _, _⟩ := two_cells X3.out
            obtain ⟨q0, q1, q2, q3⟩ := two_cells Y3.out
            have hx3 := cell_lt r0
            have hl3 := cell_lt q0
            have T4 := Lib.hid (show Tch (fun b => b = mb ∨ b = lb) W1.drew ((W3.setCell ⟨lb, 0, none⟩ (.int .i64 x1)).setCell ⟨lb, 1, none⟩ (.int .i64 x2)) from (T3.out.mono (fun b e => .inl e)).more ((Tch.set (M := fun b => b = mb ∨ b = lb) (p := ⟨lb, 0, none⟩) W3 (.inr rfl) _).more (Tch.set (M := fun b => b = mb ∨ b = lb) (p := ⟨lb, 1, none⟩) _ (.inr rfl) _)))
            have P4 := Lib.hid (P1.out.turn (Z' := fun b => b = mb ∨ b = lb) T4.out (fun b hb => ⟨.inl hb, by
              have e : ((W3.setCell ⟨lb, 0, none⟩ (.int .i64 x1)).setCell ⟨lb, 1, none⟩ (.int .i64 x2)).heap.size = W3.heap.size := by simp
              rw [e]
              rcases hb with hb | hb
              · rw [hb]; exact M3.out.lt
              · rw [hb]; exact hl3⟩))
            have B4 := Lib.hid (B1.out.trans (T4.out.below (B := W.heap.size) (fun b e => by rcases e with e | e <;> rw [e]; exact hmb; exact hlb) B1.out.size))
            have M4 := Lib.hid (MF.out.kept (w' := (W3.setCell ⟨lb, 0, none⟩ (.int .i64 x1)).setCell ⟨lb, 1, none⟩ (.int .i64 x2)) (M := fun b => b = lb) ((Tch.set (M := fun b => b = lb) (p := ⟨lb, 0, none⟩) W3 rfl _).more (Tch.set (M := fun b => b = lb) (p := ⟨lb, 1, none⟩) _ rfl _)) (fun e => nL e.symm))
            have L4 := Lib.hid (show ((W3.setCell ⟨lb, 0, none⟩ (.int .i64 x1)).setCell ⟨lb, 1, none⟩ (.int .i64 x2)).heap[lb]? = some (.cells #[.int .i64 x1, .int .i64 x2] 35 (0, 0)) from by
              have e1 := heap_setCell_same W3 lb 0 _ _ (.int .i64 x1) Y3.out
              have e2 := heap_setCell_same _ lb 1 _ _ (.int .i64 x2) e1
              simpa using e2)
            have HB2 := Lib.hid (show (B ++ [((x1, x2) : Hd)]).length = k + 1 by have := HBl.out; simp; omega)
            have HP2 := Lib.hid (show ((B ++ [((x1, x2) : Hd)]) ++ popL ltH L).Perm l from by
              refine List.Perm.trans ?_ HPm.out
              rw [List.append_assoc]
              exact List.Perm.append_left B (by simpa using HPP.out.symm))
            unfold mE nV goInt at *
            dsimp only at hlook hlook2 hent hsto
            have hwn : IntKind.i64.wrap (n - 1) = n - 1 := IntWalk.i64_in _ (by omega)
            clear hW2 hW3 hst hfin hmid M1 M2 M3 T2 T3 P1 B1 hn hfx MF T4
            go_region
            all_goals
              go_wp2
              go_roundw
              case rel => exact ⟨k + 1, c, popL ltH L, B ++ [(x1, x2)], (x1, x2), by go_num, by omega, by omega, HB2, P4, HHN, HP2, L4, M4, Lib.hid (fun _ z hz => HLS.out z hz), B4⟩
              case measure => simp [intOf]; omega
        · have hkz2 : ¬ (k : Int) < l.length := by omega
          obtain rfl : L = [] := List.length_eq_zero_iff.1 (by rw [HLn.out]; omega)
          have HBP := Lib.hid (show B.Perm l by have := HPm.out; rwa [List.append_nil] at this)
          clear HLn HPm HX HY HH hkn
          go_wp2_with (at_range; refine wpl_rangeG mptE rfl _ rfl (by rfl) HM.out ?_; intro w6 cnt6 hrg6 hg6 hsz6 hcn6)
          have hb6 : RowKit.Below wr.heap.size wr w6 := ⟨hg6.os, hg6.tape, hg6.output, hg6.size, fun j hj => hg6.block j hj (by simp)⟩
          have B6 := Lib.hid (Bt HB.out hb6)
          have R6 := Lib.hid hrg6
          have P6 := Lib.hid (HP.out.turn (w' := w6) (Z' := fun b => b = wr.heap.size) (Tch.of hb6) (fun b hb => ⟨.inr (.inr (by omega)), by omega⟩))
          have hrW : W.heap.size ≤ wr.heap.size := HB.out.size
          clear HM HP HB hrg6 hg6 hsz6 hcn6 hb6
          generalize wr.heap.size = r at *
          go_loopw [12] (fun _ wr => ∃ (left : Hd → Bool) (cnt : Nat), Hid (RngG 35 kE HdOk nD (0 : Int) nElem wr mb r c (fC l B) left cnt) ∧ Hid (HpO (fun b => b = r) W.heap.size wr pa []) ∧ Hid (RowKit.Below W.heap.size W wr)) (fun _ wr => wr.rangeLeft mb r)
          case atStart => exact ⟨_, _, R6, P6, B6⟩
          case round =>
            clear R6 P6 B6
            obtain ⟨left, cnt, RG, HP, HB⟩ := hrel
            have hrw := RG.out.lt
            go_wp2_with (at_next; refine wpl_nextG mptE rfl _ rfl (by rfl) RG.out ?_ ?_)
            · intro hl0
              have C9 := Lib.hid (popO_none HP.out t u (Bc HB.out hel HE.out))
              unfold psP at C9
              clear hl0
              go_wp2_with fail
              refine C9.out.mono ?_
              rintro e w9 ⟨rfl, hb9⟩
              have LN := Lib.hid (lenO (HP.out.below (Bt hb9 (Ba (Below.refl _ w9) (.cells #[.int .i64 0, .int .i64 0] 35)))))
              have B9 := Lib.hid (Bt HB.out (Bt hb9 (Ba (Below.refl _ w9) (.cells #[.int .i64 0, .int .i64 0] 35))))
              rw [List.length_nil] at LN
              unfold psP at LN
              clear hb9 C9
              go_wp2_with fail
              refine LN.out.mono ?_
              rintro e w10 ⟨rfl, rfl⟩
              go_wp2
              go_ret
              exact ⟨rfl, B9.out⟩
            · intro z1 z2 y w8 cnt8 hxok hlf hfx hrg8 hlt8 hg8 hsz8 hen8
              obtain rfl := fC_end HBP.out hfx
              have R8 := Lib.hid hrg8
              have T8 : Tch (fun b => b = r) wr w8 := ⟨hg8.os, hg8.tape, hg8.output, hg8.size, fun j hj hn => hg8.block j hj (fun e => hn (Option.some.inj e))⟩
              have P8 := Lib.hid (HP.out.turn (Z' := fun b => b = r) T8 (fun b hb => ⟨.inl hb, by rw [hb]; exact hrg8.lt⟩))
              have B8 := Lib.hid (HB.out.trans (T8.below (B := W.heap.size) (fun b e => by omega) HB.out.size))
              have HL8 := Lib.hid (show w8.rangeLeft mb r < wr.rangeLeft mb r by rw [hrg8.left_eq, RG.out.left_eq]; exact hlt8)
              unfold mE nV at hen8
              clear hfx hrg8 hg8 T8 HP HB RG hxok hlf
              go_wp2
              go_roundw
              case rel => exact ⟨_, _, R8, P8, B8⟩
              case measure => exact HL8.out
end Go.Proofs.YtaceahjomhgccaaDoor
