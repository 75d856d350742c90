/-
  The reference's masks, on: Set, Number, Kinds, Fits; paddocknum's In.
-/
import Derived.Test.YtaehendpdfpibaaDoorBs9
import Derived.Laws.ResultCell
namespace Go.Proofs.YtaehendpdfpibaaDoor
set_option linter.unusedSimpArgs false
set_option linter.unusedVariables false
open Go.RowKit Go.Sort Go.Lib Go.Shelf
/-- What Set answers. -/
def setK (on : Bool) (f : Nat → Bool) (l : List Int) : Value := if l.all kindB then .tuple #[.agg (bv (foldF on f l)), .bool true] else .tuple #[.agg (bv fun _ => false), .bool false]
theorem setK_no {on : Bool} {f : Nat → Bool} {l : List Int} (h : l.all kindB = false) : setK on f l = .tuple #[.agg (bv fun _ => false), .bool false] := by unfold setK; rw [h]; rfl
theorem setK_yes {on : Bool} {f : Nat → Bool} {l : List Int} (h : l.all kindB = true) : setK on f l = .tuple #[.agg (bv (foldF on f l)), .bool true] := by unfold setK; rw [h]; rfl
theorem res_bits {fn : Func} {p u : Tmp} (h : fn.results = #[.cell p 46, .tmp u]) (tmps : Array Value) (W : World) (g : Nat) (f : Nat → Bool) (b : Bool) (t : TypeId) (hp : tmps.getD p undef = .pointer (some ⟨g, 0, none⟩)) (hu : tmps.getD u undef = .bool b)
    (hg : W.heap[g]? = some (.cells (bv f) t (0, 0))) : (results fn tmps).run Tryd.prog W = .ok (.tuple #[.agg (bv f), .bool b]) W := by
  rw [results_cell_tmp h, hp, hu]
  simp [asAddr, Result.andThen, run_loadVar_row (P := Tryd.prog) W g t 46 (bv f) (0, 0) _ hg Tryd.underlying46 rfl (by rw [bv_size]; kernel_rfl)]

set_option maxHeartbeats 2000000 in
set_option maxRecDepth 100000 in
theorem set_call (on : Bool) (f : Nat → Bool) (l : List Int) (v : Value) (w : World) (hl : Sl encI w v l) :
    Calls Tryd.prog 14 #[.agg (bv f), v, .bool on] w fun e w' => e = .returned (setK on f l) ∧ Gr w w' := by
  obtain ⟨p, cap, rfl, hl1, hl2, hl3⟩ := hl
  have HL := Lib.hid hl3
  have hbig : l.length ≤ 9223372036854775807 := by unfold maxLen at hl2; omega
  clear hl3 hl2
  have hz := bv_zero.symm
  have hs := bv_size
  have hst := fun (o : Obj) f g t => st_new (w.alloc o) (w.heap.size + 1) (by simp) f g t
  have hset := bv_set
  go_enter Tryd.func14, Tryd.ntmps14
  go_wp2
  go_loopw [12] (fun i wr => ∃ j : Nat, j ≤ l.length ∧ i = .int .i64 j ∧ (l.take j).all kindB = true ∧ ∃ g, wr = (w.alloc (.cells (bv g) 46)).alloc (.cells (bv fun _ => false) 46) ∧ Hid (g = foldF on f (l.take j))) (fun i _ => l.length - (intOf i).toNat)
  case atStart => exact ⟨0, Nat.zero_le _, rfl, by simp, f, rfl, Lib.hid (by simp [foldF])⟩
  case round =>
    obtain ⟨j, hj, rfl, hall, g, rfl, HG⟩ := hrel
    by_cases hjn : j < l.length
    · obtain ⟨b, o, rfl, hg1, hg2⟩ := HL.out (by omega)
      have c1 := atI hg2 hjn
      have et : l.take (j + 1) = l.take j ++ [l[j]!] := by rw [getElem!_pos l j hjn]; exact List.take_succ_eq_append_getElem hjn
      have hmem : l[j]! ∈ l := by rw [getElem!_pos l j hjn]; exact List.getElem_mem hjn
      generalize hx : l[j]! = x at *
      have c2 : ((w.alloc (.cells (bv g) 46)).alloc (.cells (bv fun _ => false) 46)).cell? ⟨b, o + j, none⟩ = some (.int .i64 x) := Bc (Ba (Ba (Below.refl _ w) _) _) hg1 c1
      have ET := Lib.hid et
      have HA := Lib.hid hall
      have HM := Lib.hid hmem
      clear hg2 et hall hmem hx c1 hg1
      cases hk : kindB x
      · have hno : l.all kindB = false := by
          rw [Bool.eq_false_iff]
          intro h
          rw [List.all_eq_true.1 h x HM.out] at hk
          cases hk
        have HN := Lib.hid hno
        clear hno
        go_wp2_with (go_at_call 26; refine (rkind_any _ _).mono ?_; rintro e w1 ⟨rfl, rfl⟩)
        exact bodyPost_ret (v := .tuple #[.agg (bv fun _ => false), .bool false]) (res_bits rfl _ _ (w.heap.size + 1) _ _ 46 (by rfl) (by rfl) (heap_new _ _ (by simp) _)) rfl ⟨by rw [setK_no HN.out], (by repeat (first | with_reducible exact Gr.refl _ | with_reducible assumption | with_reducible apply Gr.alloc | with_reducible apply Gr.drewN | with_reducible apply Gr.drew | with_reducible apply Gr.grow | (with_reducible refine Gr.trans ?_ (by assumption))))⟩
      · have hb := (kindB_iff x).1 hk
        obtain ⟨n, rfl⟩ : ∃ n : Nat, x = n := ⟨x.toNat, by omega⟩
        have hn : n < 10 := by omega
        have hget := bv_get g n (by omega)
        have HK := Lib.hid hk
        clear hb
        go_wp2_with (go_at_call 26; refine (rkind_any _ _).mono ?_; rintro e w1 ⟨rfl, rfl⟩)
        go_roundw
        case measure => simp [intOf]; omega
        case rel => exact ⟨j + 1, by omega, by go_num, by rw [ET.out, List.all_append, HA.out]; simp [HK.out], _, rfl, Lib.hid (by rw [ET.out, foldF_snoc, HG.out]; rfl)⟩
    · have hjn' : j = l.length := by omega
      subst hjn'
      rw [List.take_length] at hall HG
      have HY := Lib.hid hall
      have HH := Lib.hid (heap_past w w.heap.size rfl (.cells (bv g) 46) (.cells (bv fun _ => false) 46))
      clear hall
      go_wp2_with (refine wpl_ld rfl _ rfl w.heap.size (by rfl) g 46 HH.out ?_)
      exact bodyPost_ret (v := .tuple #[.agg (bv g), .bool true]) (res_bits rfl _ _ (w.heap.size + 1) _ _ 46 (by rfl) (by rfl) (heap_new _ _ (by simp) _)) rfl ⟨by rw [setK_yes HY.out, HG.out], (by repeat (first | with_reducible exact Gr.refl _ | with_reducible assumption | with_reducible apply Gr.alloc | with_reducible apply Gr.drewN | with_reducible apply Gr.drew | with_reducible apply Gr.grow | (with_reducible refine Gr.trans ?_ (by assumption))))⟩

set_option maxHeartbeats 2000000 in
set_option maxRecDepth 100000 in
theorem number_call (f : Nat → Bool) (w : World) :
    Calls Tryd.prog 15 #[.agg (bv f)] w fun e w' => e = .returned (.int .u64 (valN f 64 : Nat)) ∧ Gr w w' := by
  have hs := bv_size
  go_enter Tryd.func15, Tryd.ntmps15
  go_wp2
  go_loopw [3, 4] (fun s3 i wr => ∃ (z : Int) (u q : Nat), u ≤ 64 ∧ i = .int .i64 z ∧ Hid (z = (u : Int) - 1) ∧ s3 = .int .u64 q ∧ Hid (q = valN f (64 - u)) ∧ wr = w.alloc (.cells (bv f) 46)) (fun _ i _ => ((intOf i) + 1).toNat)
  case atStart => exact ⟨63, 64, 0, by omega, rfl, Lib.hid (by omega), rfl, Lib.hid rfl, rfl⟩
  case round =>
    obtain ⟨z, u, q, hu, rfl, HZ, rfl, HQ, rfl⟩ := hrel
    by_cases hz : 0 ≤ z
    · obtain ⟨k, rfl⟩ : ∃ k : Nat, z = k := ⟨z.toNat, by omega⟩
      have hzo := HZ.out
      have huk : u = k + 1 := by omega
      have hk : k < 64 := by omega
      have hget := bv_get f k hk
      have hql : q < 2 ^ (64 - u) := by rw [HQ.out]; exact valN_lt f _
      have hq2 : 2 * q + 1 < 18446744073709551616 := by
        have : 2 ^ (64 - u) ≤ 2 ^ 63 := Nat.pow_le_pow_right (by decide) (by omega)
        omega
      have hstep : valN f (64 - k) = 2 * q + (f k).toNat := by
        rw [show 64 - k = (64 - u) + 1 by omega, valN_succ, HQ.out, show 63 - (64 - u) = k by omega]
      have HST := Lib.hid hstep
      have n1 : IntKind.u64.wrap ((q : Int) * 2) = ((2 * q : Nat) : Int) := by rw [IntKind.wrap_u64]; omega
      obtain ⟨r, hr⟩ : ∃ r, r = 2 * q := ⟨_, rfl⟩
      have n2 : IntKind.u64.wrap ((r : Int) + 1) = ((2 * q + 1 : Nat) : Int) := by rw [IntKind.wrap_u64]; omega
      obtain ⟨t, ht⟩ : ∃ t, t = 2 * q + 1 := ⟨_, rfl⟩
      rw [← hr] at n1
      rw [← ht] at n2
      have HR := Lib.hid hr
      have HTT := Lib.hid ht
      clear hzo huk hql hq2 hstep hr ht HQ hu
      cases hf : f k
      · rw [hf] at hget
        have hget2 : ∀ h : k < (bv f).size, (bv f)[k]'h = .bool false := fun h => by rw [Array.getElem?_eq_getElem h] at hget; exact Option.some.inj hget
        have HF := Lib.hid hf
        clear hf
        go_wp2
        go_roundw
        case measure => simp [intOf]
        case rel => exact ⟨(k : Int) - 1, k, r, by omega, rfl, Lib.hid rfl, rfl, Lib.hid (by rw [HST.out, HF.out, HR.out]; rfl), trivial⟩
      · rw [hf] at hget
        have hget2 : ∀ h : k < (bv f).size, (bv f)[k]'h = .bool true := fun h => by rw [Array.getElem?_eq_getElem h] at hget; exact Option.some.inj hget
        have HF := Lib.hid hf
        clear hf
        go_wp2
        go_roundw
        case measure => simp [intOf]
        case rel => exact ⟨(k : Int) - 1, k, t, by omega, rfl, Lib.hid rfl, rfl, Lib.hid (by rw [HST.out, HF.out, HTT.out]; rfl), trivial⟩
    · have hzo := HZ.out
      have hu0 : u = 0 := by omega
      have HQ' := Lib.hid (show q = valN f 64 by rw [HQ.out, hu0])
      clear hzo hu0 HQ
      go_wp2
      go_ret
      exact ⟨by rw [HQ'.out]; rfl, (by repeat (first | with_reducible exact Gr.refl _ | with_reducible assumption | with_reducible apply Gr.alloc | with_reducible apply Gr.drewN | with_reducible apply Gr.drew | with_reducible apply Gr.grow | (with_reducible refine Gr.trans ?_ (by assumption))))⟩

end Go.Proofs.YtaehendpdfpibaaDoor
