/-
  The reference's masks, on: Set, Number, Kinds, Fits; paddocknum's In.
-/
import Derived.Test.YtcmfkjjagffjnaaDoorBt
import Derived.Laws.ResultCell
namespace Go.Proofs.YtcmfkjjagffjnaaDoor
set_option linter.unusedSimpArgs false
set_option linter.unusedVariables false
open Go.RowKit Go.Sort Go.Lib Go.Shelf

/-- What Set answers. -/
def setK (on : Bool) (f : Nat → Bool) (l : List Int) : Value := if l.all kindB then .tuple #[.agg (bv (foldF on f l)), .bool true] else .tuple #[.agg (bv fun _ => false), .bool false]
theorem setK_no {on : Bool} {f : Nat → Bool} {l : List Int} (h : l.all kindB = false) : setK on f l = .tuple #[.agg (bv fun _ => false), .bool false] := by unfold setK; rw [h]; rfl
theorem setK_yes {on : Bool} {f : Nat → Bool} {l : List Int} (h : l.all kindB = true) : setK on f l = .tuple #[.agg (bv (foldF on f l)), .bool true] := by unfold setK; rw [h]; rfl
theorem res_bits {fn : Func} {p u : Tmp} (h : fn.results = #[.cell p 32, .tmp u]) (tmps : Array Value) (W : World) (g : Nat) (f : Nat → Bool) (b : Bool) (t : TypeId) (hp : tmps.getD p undef = .pointer (some ⟨g, 0, none⟩)) (hu : tmps.getD u undef = .bool b)
    (hg : W.heap[g]? = some (.cells (bv f) t (0, 0))) : (results fn tmps).run Tryd.prog W = .ok (.tuple #[.agg (bv f), .bool b]) W := by
  rw [results_cell_tmp h, hp, hu]
  simp [asAddr, Result.andThen, run_loadVar_row (P := Tryd.prog) W g t 32 (bv f) (0, 0) _ hg Tryd.underlying32 rfl (by rw [bv_size]; kernel_rfl)]

set_option maxHeartbeats 2000000 in
set_option maxRecDepth 100000 in
theorem set_call (on : Bool) (f : Nat → Bool) (l : List Int) (v : Value) (w : World) (hl : Sl encI w v l) :
    Calls Tryd.prog 14 #[.agg (bv f), v, .bool on] w fun e w' => e = .returned (setK on f l) ∧ Gr w w' := by
  obtain ⟨p, cap, rfl, hl1, hl2, hl3⟩ := hl
  have HL := Lib.hid hl3
  have hbig : l.length ≤ 9223372036854775807 := by unfold maxLen at hl2; omega
  clear hl3 hl2
  have hz := bv_zero.symm
  have hs := bv_size
  have hst := fun (o : Obj) f g t => st_new (w.alloc o) (w.heap.size + 1) (by simp) f g t
  have hset := bv_set
  go_enter Tryd.func14, Tryd.ntmps14
  go_wp2
  go_loopw [12] (fun i wr => ∃ j : Nat, j ≤ l.length ∧ i = .int .i64 j ∧ (l.take j).all kindB = true ∧ ∃ g, wr = (w.alloc (.cells (bv g) 32)).alloc (.cells (bv fun _ => false) 32) ∧ Hid (g = foldF on f (l.take j))) (fun i _ => l.length - (intOf i).toNat)
  case atStart => exact ⟨0, Nat.zero_le _, rfl, by simp, f, rfl, Lib.hid (by simp [foldF])⟩
  case round =>
    obtain ⟨j, hj, rfl, hall, g, rfl, HG⟩ := hrel
    by_cases hjn : j < l.length
    · obtain ⟨b, o, rfl, hg1, hg2⟩ := HL.out (by omega)
      have c1 := atI hg2 hjn
      have et : l.take (j + 1) = l.take j ++ [l[j]!] := by rw [getElem!_pos l j hjn]; exact List.take_succ_eq_append_getElem hjn
      have hmem : l[j]! ∈ l := by rw [getElem!_pos l j hjn]; exact List.getElem_mem hjn
      generalize hx : l[j]! = x at *
      have c2 : ((w.alloc (.cells (bv g) 32)).alloc (.cells (bv fun _ => false) 32)).cell? ⟨b, o + j, none⟩ = some (.int .i64 x) := Bc (Ba (Ba (Below.refl _ w) _) _) hg1 c1
      have ET := Lib.hid et
      have HA := Lib.hid hall
      have HM := Lib.hid hmem
      clear hg2 et hall hmem hx c1 hg1
      cases hk : kindB x
      · have hno : l.all kindB = false := by
          rw [Bool.eq_false_iff]
          intro h
          rw [List.all_eq_true.1 h x HM.out] at hk
          cases hk
        have HN := Lib.hid hno
        clear hno
        go_wp2_with (go_at_call 25; refine (rkind_any _ _).mono ?_; rintro e w1 ⟨rfl, rfl⟩)
        exact bodyPost_ret (v := .tuple #[.agg (bv fun _ => false), .bool false]) (res_bits rfl _ _ (w.heap.size + 1) _ _ 32 (by rfl) (by rfl) (heap_new _ _ (by simp) _)) rfl ⟨by rw [setK_no HN.out], (by repeat (first | with_reducible exact Gr.refl _ | with_reducible assumption | with_reducible apply Gr.alloc | with_reducible apply Gr.drewN | with_reducible apply Gr.drew | with_reducible apply Gr.grow | (with_reducible refine Gr.trans ?_ (by assumption))))⟩
      · have hb := (kindB_iff x).1 hk
        obtain ⟨n, rfl⟩ : ∃ n : Nat, x = n := ⟨x.toNat, by omega⟩
        have hn : n < 10 := by omega
        have hget := bv_get g n (by omega)
        have HK := Lib.hid hk
        clear hb
        go_wp2_with (go_at_call 25; refine (rkind_any _ _).mono ?_; rintro e w1 ⟨rfl, rfl⟩)
        go_roundw
        case measure => simp [intOf]; omega
        case rel => exact ⟨j + 1, by omega, by go_num, by rw [ET.out, List.all_append, HA.out]; simp [HK.out], _, rfl, Lib.hid (by rw [ET.out, foldF_snoc, HG.out]; rfl)⟩
    · have hjn' : j = l.length := by omega
      subst hjn'
      rw [List.take_length] at hall HG
      have HY := Lib.hid hall
      have HH := Lib.hid (heap_past w w.heap.size rfl (.cells (bv g) 32) (.cells (bv fun _ => false) 32))
      clear hall
      go_wp2_with (refine wpl_ld rfl _ rfl w.heap.size (by rfl) g 32 HH.out ?_)
      exact bodyPost_ret (v := .tuple #[.agg (bv g), .bool true]) (res_bits rfl _ _ (w.heap.size + 1) _ _ 32 (by rfl) (by rfl) (heap_new _ _ (by simp) _)) rfl ⟨by rw [setK_yes HY.out, HG.out], (by repeat (first | with_reducible exact Gr.refl _ | with_reducible assumption | with_reducible apply Gr.alloc | with_reducible apply Gr.drewN | with_reducible apply Gr.drew | with_reducible apply Gr.grow | (with_reducible refine Gr.trans ?_ (by assumption))))⟩

set_option maxHeartbeats 2000000 in
set_option maxRecDepth 100000 in
theorem number_call (f : Nat → Bool) (w : World) :
    Calls Tryd.prog 18 #[.agg (bv f)] w fun e w' => e = .returned (.int .u64 (valN f 64 : Nat)) ∧ Gr w w' := by
  have hs := bv_size
  go_enter Tryd.func18, Tryd.ntmps18
  go_wp2
  go_loopw [3, 4] (fun s3 i wr => ∃ (z : Int) (u q : Nat), u ≤ 64 ∧ i = .int .i64 z ∧ Hid (z = (u : Int) - 1) ∧ s3 = .int .u64 q ∧ Hid (q = valN f (64 - u)) ∧ wr = w.alloc (.cells (bv f) 32)) (fun _ i _ => ((intOf i) + 1).toNat)
  case atStart => exact ⟨63, 64, 0, by omega, rfl, Lib.hid (by omega), rfl, Lib.hid rfl, rfl⟩
  case round =>
    obtain ⟨z, u, q, hu, rfl, HZ, rfl, HQ, rfl⟩ := hrel
    by_cases hz : 0 ≤ z
    · obtain ⟨k, rfl⟩ : ∃ k : Nat, z = k := ⟨z.toNat, by omega⟩
      have hzo := HZ.out
      have huk : u = k + 1 := by omega
      have hk : k < 64 := by omega
      have hget := bv_get f k hk
      have hql : q < 2 ^ (64 - u) := by rw [HQ.out]; exact valN_lt f _
      have hq2 : 2 * q + 1 < 18446744073709551616 := by
        have : 2 ^ (64 - u) ≤ 2 ^ 63 := Nat.pow_le_pow_right (by decide) (by omega)
        omega
      have hstep : valN f (64 - k) = 2 * q + (f k).toNat := by
        rw [show 64 - k = (64 - u) + 1 by omega, valN_succ, HQ.out, show 63 - (64 - u) = k by omega]
      have HST := Lib.hid hstep
      have n1 : IntKind.u64.wrap ((q : Int) * 2) = ((2 * q : Nat) : Int) := by rw [IntKind.wrap_u64]; omega
      obtain ⟨r, hr⟩ : ∃ r, r = 2 * q := ⟨_, rfl⟩
      have n2 : IntKind.u64.wrap ((r : Int) + 1) = ((2 * q + 1 : Nat) : Int) := by rw [IntKind.wrap_u64]; omega
      obtain ⟨t, ht⟩ : ∃ t, t = 2 * q + 1 := ⟨_, rfl⟩
      rw [← hr] at n1
      rw [← ht] at n2
      have HR := Lib.hid hr
      have HTT := Lib.hid ht
      clear hzo huk hql hq2 hstep hr ht HQ hu
      cases hf : f k
      · rw [hf] at hget
        have hget2 : ∀ h : k < (bv f).size, (bv f)[k]'h = .bool false := fun h => by rw [Array.getElem?_eq_getElem h] at hget; exact Option.some.inj hget
        have HF := Lib.hid hf
        clear hf
        go_wp2
        go_roundw
        case measure => simp [intOf]
        case rel => exact ⟨(k : Int) - 1, k, r, by omega, rfl, Lib.hid rfl, rfl, Lib.hid (by rw [HST.out, HF.out, HR.out]; rfl), trivial⟩
      · rw [hf] at hget
        have hget2 : ∀ h : k < (bv f).size, (bv f)[k]'h = .bool true := fun h => by rw [Array.getElem?_eq_getElem h] at hget; exact Option.some.inj hget
        have HF := Lib.hid hf
        clear hf
        go_wp2
        go_roundw
        case measure => simp [intOf]
        case rel => exact ⟨(k : Int) - 1, k, t, by omega, rfl, Lib.hid rfl, rfl, Lib.hid (by rw [HST.out, HF.out, HTT.out]; rfl), trivial⟩
    · have hzo := HZ.out
      have hu0 : u = 0 := by omega
      have HQ' := Lib.hid (show q = valN f 64 by rw [HQ.out, hu0])
      clear hzo hu0 HQ
      go_wp2
      go_ret
      exact ⟨by rw [HQ'.out]; rfl, (by repeat (first | with_reducible exact Gr.refl _ | with_reducible assumption | with_reducible apply Gr.alloc | with_reducible apply Gr.drewN | with_reducible apply Gr.drew | with_reducible apply Gr.grow | (with_reducible refine Gr.trans ?_ (by assumption))))⟩

set_option maxHeartbeats 2000000 in
set_option maxRecDepth 100000 in
theorem rkinds_call (f : Nat → Bool) (w : World) :
    Calls Tryd.prog 20 #[.agg (bv f)] w fun e w' => ∃ v', e = .returned v' ∧ w'.ownsRow w.heap.size 3 1 v' (kindsOf f).length (flat encI (kindsOf f)) ∧ RowKit.Below w.heap.size w w' := by
  have hs := bv_size
  have hlen : ∀ k, (((List.range k).filter f).map Int.ofNat).length ≤ k := fun k => by
    rw [List.length_map]
    exact Nat.le_trans (List.length_filter_le _ _) (by simp)
  have HLN := Lib.hid hlen
  clear hlen
  go_enter Tryd.func20, Tryd.ntmps20
  go_wp2
  obtain ⟨W1, hW1⟩ : ∃ W1, W1 = w.alloc (.cells (bv f) 32) := ⟨_, rfl⟩
  rw [← hW1]
  have hsz : w.heap.size + 1 = W1.heap.size := by rw [hW1]; simp
  have hcell : ∀ k, k < 64 → W1.cell? ⟨w.heap.size, k, none⟩ = some (.bool (f k)) := fun k hk => by rw [hW1, World.cell?_alloc_at (w := w) _ _ w.heap.size _ rfl, bv_get f k hk]
  have HC := Lib.hid hcell
  have B1 := Lib.hid (show RowKit.Below w.heap.size w W1 by rw [hW1]; exact Ba (Below.refl _ w) _)
  have hwl : w.heap.size < W1.heap.size := by omega
  clear hcell hW1
  rw [hsz]
  go_loopw [3, 4] (fun v i wr => ∃ k : Nat, k ≤ 64 ∧ i = .int .i64 k ∧ RowKit.Below W1.heap.size W1 wr ∧ wr.ownsRow W1.heap.size 3 1 v (((List.range k).filter f).map Int.ofNat).length (flat encI (((List.range k).filter f).map Int.ofNat))) (fun _ i _ => 64 - (intOf i).toNat)
  case atStart => exact ⟨0, Nat.zero_le _, rfl, (by repeat (first | with_reducible exact Below.refl _ _ | with_reducible assumption | with_reducible apply Ba | with_reducible apply Bd | with_reducible apply Bn | with_reducible apply Bg | (with_reducible refine Bs ?_ (by first | (simp; done) | (simp; omega)) _) | (with_reducible refine Bt ?_ (by assumption)) | (with_reducible refine Bt ?_ (Gr.below (by assumption))))), World.ownsRow_made W1 #[] 0 (Nat.le_refl _) (Nat.zero_le _) (by simp)⟩
  case round =>
    obtain ⟨k, hk, rfl, hb, ho⟩ := hrel
    by_cases hk6 : k < 64
    · have hkz : (k : Int) < 64 := by omega
      have c1 := Bc hb hwl (HC.out k hk6)
      have et : ((List.range (k + 1)).filter f).map Int.ofNat = ((List.range k).filter f).map Int.ofNat ++ (if f k then [(k : Int)] else []) := by
        rw [List.range_succ, List.filter_append, List.map_append]
        cases h : f k <;> simp [h]
      have L2 := Lib.hid (HLN.out k)
      cases hf : f k
      · rw [hf] at c1 et
        rw [if_neg (by simp), List.append_nil] at et
        have ET := Lib.hid et
        have HB := Lib.hid hb
        have HO := Lib.hid ho
        clear et hf hb ho
        go_wp2
        go_roundw
        case measure => simp [intOf]; omega
        case rel => exact ⟨k + 1, by omega, by go_num, HB.out, by rw [ET.out]; exact HO.out⟩
      · rw [hf] at c1 et
        rw [if_pos rfl] at et
        have ET := Lib.hid et
        have HB := Lib.hid hb
        have A3 := Lib.hid (Ba hb (.cells #[.int .i64 (k : Int)] 3))
        have O3 := Lib.hid (ho.alloc (.cells #[.int .i64 (k : Int)] 3))
        have S3 := Lib.hid (sl_lit (enc := encI) (w := wr) (cs := #[.int .i64 (k : Int)]) (t := 3) (b := wr.heap.size) [(k : Int)] rfl rfl (by unfold maxLen; simp))
        clear et hf hb ho
        go_wp2_with (at_builtin; refine wpl_app apI rfl _ _ rfl W1.heap.size (by rfl) (by rfl) O3.out rfl S3.out (by have := L2.out; simp at *; omega) A3.out.size ?_; intro v7 w7 hown1 hgrow1 hnil1)
        have b4 := grownB A3.out O3.out hgrow1
        go_roundw
        case measure => simp [intOf]; omega
        case rel => exact ⟨k + 1, by omega, by go_num, b4, by rw [ET.out, List.length_append]; exact hown1⟩
    · have hk64 : k = 64 := by omega
      subst hk64
      have HO := Lib.hid (show wr.ownsRow w.heap.size 3 1 _ (kindsOf f).length (flat encI (kindsOf f)) from row_mono ho (by omega))
      have HB := Lib.hid (Bt B1.out hb)
      clear ho hb
      go_wp2
      go_ret
      exact ⟨_, rfl, HO.out, HB.out⟩

def fitsB (f g h : Nat → Bool) (n : Nat) : Bool := (List.range n).all fun i => !(g i && !f i || h i && f i)
theorem fitsB_succ (f g h : Nat → Bool) (n : Nat) : fitsB f g h (n + 1) = (fitsB f g h n && !(g n && !f n || h n && f n)) := by
  unfold fitsB
  rw [List.range_succ, List.all_append]
  simp
theorem fitsB_no {f g h : Nat → Bool} {k : Nat} (hk : k < 64) (e : (!(g k && !f k || h k && f k)) = false) : fitsB f g h 64 = false := by
  unfold fitsB
  rw [Bool.eq_false_iff]
  intro hall
  have := List.all_eq_true.1 hall k (by simp; exact hk)
  rw [e] at this
  cases this

set_option maxHeartbeats 4000000 in
set_option maxRecDepth 100000 in
theorem rfits_call (f g h : Nat → Bool) (w : World) :
    Calls Tryd.prog 28 #[.agg (bv f), .agg (bv g), .agg (bv h)] w fun e w' => e = .returned (.bool (fitsB f g h 64)) ∧ Gr w w' := by
  have hs := bv_size
  go_enter Tryd.func28, Tryd.ntmps28
  go_wp2
  go_loopw [7] (fun i wr => ∃ k : Nat, k ≤ 64 ∧ i = .int .i64 k ∧ wr = ((w.alloc (.cells (bv f) 32)).alloc (.cells (bv g) 32)).alloc (.cells (bv h) 32) ∧ fitsB f g h k = true) (fun i _ => 64 - (intOf i).toNat)
  case atStart => exact ⟨0, Nat.zero_le _, rfl, rfl, rfl⟩
  case round =>
    obtain ⟨k, hk, rfl, rfl, hfit⟩ := hrel
    by_cases hk6 : k < 64
    · have hkz : (k : Int) < 64 := by omega
      have e1 : ∀ h' : k < (bv f).size, (bv f)[k]'h' = .bool (f k) := fun h' => by have := bv_get f k hk6; rw [Array.getElem?_eq_getElem h'] at this; exact Option.some.inj this
      have e2 : ∀ h' : k < (bv g).size, (bv g)[k]'h' = .bool (g k) := fun h' => by have := bv_get g k hk6; rw [Array.getElem?_eq_getElem h'] at this; exact Option.some.inj this
      have e3 : ∀ h' : k < (bv h).size, (bv h)[k]'h' = .bool (h k) := fun h' => by have := bv_get h k hk6; rw [Array.getElem?_eq_getElem h'] at this; exact Option.some.inj this
      have g1 := bv_get f k hk6
      have g2 := bv_get g k hk6
      have g3 := bv_get h k hk6
      have HN := Lib.hid (fun e => fitsB_no (f := f) (g := g) (h := h) (k := k) hk6 e)
      have HS := Lib.hid (fitsB_succ f g h k)
      have HF := Lib.hid hfit
      clear hfit
      cases hf : f k <;> cases hg : g k <;> cases hh : h k <;> rw [hf] at e1 g1 HN HS <;> rw [hg] at e2 g2 HN HS <;> rw [hh] at e3 g3 HN HS <;> clear hf hg hh
      all_goals first
        | (go_wp2
           go_roundw
           case measure => simp [intOf]; omega
           case rel => exact ⟨k + 1, by omega, by go_num, trivial, by rw [HS.out, HF.out]; rfl⟩)
        | (go_wp2
           go_ret
           exact ⟨by rw [HN.out rfl]; rfl, (by repeat (first | with_reducible exact Gr.refl _ | with_reducible assumption | with_reducible apply Gr.alloc | with_reducible apply Gr.drewN | with_reducible apply Gr.drew | with_reducible apply Gr.grow | (with_reducible refine Gr.trans ?_ (by assumption))))⟩)
    · have hk64 : k = 64 := by omega
      subst hk64
      have HF := Lib.hid hfit
      clear hfit
      go_wp2
      go_ret
      exact ⟨by rw [HF.out]; rfl, (by repeat (first | with_reducible exact Gr.refl _ | with_reducible assumption | with_reducible apply Gr.alloc | with_reducible apply Gr.drewN | with_reducible apply Gr.drew | with_reducible apply Gr.grow | (with_reducible refine Gr.trans ?_ (by assumption))))⟩

set_option maxHeartbeats 1000000 in
theorem in_call (l : List Int) (v : Value) (x : Int) (w : World) (hl : Sl encI w v l) : Calls Tryd.prog 26 #[v, .int .i64 x] w fun e w' => e = .returned (.bool (decide (x ∈ l))) ∧ Gr w w' := by
  obtain ⟨p, cap, rfl, h1, h2, h⟩ := hl
  have hbig : l.length ≤ 9223372036854775807 := by unfold maxLen at h2; omega
  have HL := Lib.hid h
  clear h h2
  go_enter Tryd.func26, Tryd.ntmps26
  go_wp2
  go_loopw [9] (fun i wr => ∃ k : Nat, k ≤ l.length ∧ i = .int .i64 k ∧ wr = w ∧ ¬ x ∈ l.take k) (fun i _ => l.length - (intOf i).toNat)
  case atStart => exact ⟨0, Nat.zero_le _, rfl, rfl, by simp⟩
  case round =>
    obtain ⟨k, hk, rfl, rfl, ht⟩ := hrel
    by_cases hkn : k < l.length
    · obtain ⟨g, o, rfl, hg1, hg2⟩ := HL.out (by omega)
      have c1 := atI hg2 hkn
      have et : l.take (k + 1) = l.take k ++ [l[k]!] := by rw [getElem!_pos l k hkn]; exact List.take_succ_eq_append_getElem hkn
      generalize hy : l[k]! = y at *
      have HT := Lib.hid ht
      have ET := Lib.hid et
      clear ht hg2 hy et
      by_cases hxy : y = x
      · subst hxy
        have HM := Lib.hid (show decide (y ∈ l) = true from decide_eq_true (List.mem_of_mem_take (by rw [ET.out]; simp : y ∈ l.take (k + 1))))
        go_wp2
        go_ret
        exact ⟨by rw [HM.out]; rfl, (by repeat (first | with_reducible exact Gr.refl _ | with_reducible assumption | with_reducible apply Gr.alloc | with_reducible apply Gr.drewN | with_reducible apply Gr.drew | with_reducible apply Gr.grow | (with_reducible refine Gr.trans ?_ (by assumption))))⟩
      · have hne : (y == x) = false := by simpa using hxy
        have HM := Lib.hid (show ¬ x ∈ l.take (k + 1) by
          rw [ET.out]
          simp only [List.mem_append, List.mem_singleton, not_or]
          exact ⟨HT.out, fun e => hxy e.symm⟩)
        clear hxy
        go_wp2
        go_roundw
        case measure => simp [intOf]; omega
        case rel => exact ⟨k + 1, by omega, by go_num, trivial, HM.out⟩
    · have hkn' : k = l.length := by omega
      have HM := Lib.hid (show decide (x ∈ l) = false from decide_eq_false (by rwa [hkn', List.take_length] at ht))
      clear ht
      go_wp2
      go_ret
      exact ⟨by rw [HM.out]; rfl, (by repeat (first | with_reducible exact Gr.refl _ | with_reducible assumption | with_reducible apply Gr.alloc | with_reducible apply Gr.drewN | with_reducible apply Gr.drew | with_reducible apply Gr.grow | (with_reducible refine Gr.trans ?_ (by assumption))))⟩
end Go.Proofs.YtcmfkjjagffjnaaDoor
