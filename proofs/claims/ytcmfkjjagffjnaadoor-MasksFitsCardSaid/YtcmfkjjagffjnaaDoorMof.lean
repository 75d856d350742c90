/-
  MasksOf: which kinds have a mask, and which; and a mask with and without them.
-/
import Derived.Test.YtcmfkjjagffjnaaDoorMki
import Derived.Test.YtcmfkjjagffjnaaDoorErrK
namespace Go.Proofs.YtcmfkjjagffjnaaDoor
set_option linter.unusedSimpArgs false
set_option linter.unusedVariables false
open Go.RowKit Go.Sort Go.Lib Go.Shelf

theorem wpl_ldg {ops : Array Oper} {rest : List Oper} {o : Oper} {a : Act} {w : World} {Q : Exit → Act → World → Prop} (hw : Region.wanted o (yielded ops a.tmps) = true) (x : Operand) (ho : o.op = .load 32 x)
    (g : Nat) (hx : a.eval x = .pointer (some ⟨g, 0, none⟩)) (f : Nat → Bool) (t : TypeId) (hg : w.heap[g]? = some (.cells (bv f) t (0, 0)))
    (h : wpList Tryd.prog ops Q rest (a.put o.dst (.agg (bv f))) w) : wpList Tryd.prog ops Q (o :: rest) a w := by
  unfold wpList
  rw [if_pos hw]
  exact .inl (wp_load_row 32 x ho g hx t (bv f) (0, 0) _ hg Tryd.underlying32 rfl (by rw [bv_size]; kernel_rfl) h)
theorem heap_on {W W' : World} {g : Nat} {o : Obj} (h : W.heap[g]? = some o ∧ g < W.heap.size) (hb : RowKit.Below W.heap.size W W') : W'.heap[g]? = some o ∧ g < W'.heap.size :=
  ⟨(hb.block g h.2).trans h.1, Nat.lt_of_lt_of_le h.2 hb.size⟩
theorem errK {A : Nat → Addr} {w : World} (h : Errs w A) : ErrK w (A 4) := h.cell 4 (by omega)

set_option maxHeartbeats 4000000 in
set_option maxRecDepth 100000 in
theorem masksOf_walk (m : Nat) (l : List Int) (v : Value) (hm : m < 18446744073709551616) (w : World) (hl : Sl encI w v l) (A : Nat → Addr) (hE : Errs w A) :
    Calls Tryd.prog 3 #[.int .u64 m, v] w fun e w' => e = .returned (.bool true) ∧ RowKit.Below w.heap.size w w' := by
  obtain ⟨p, cap, rfl, hl1, hl2, hl3⟩ := hl
  have HL := Lib.hid (show Sl encI w (.slice p l.length cap) l from ⟨p, cap, rfl, hl1, hl2, hl3⟩)
  have HE := Lib.hid hE
  clear hl3 hE hl2
  by_cases hbig : l.length > 200
  · have hz : (l.length : Int) > 200 := by omega
    go_enter Tryd.func3, Tryd.ntmps3
    go_wp2_with (go_at_call 9; refine (alive_any _ (A 4) (errK HE.out)).mono ?_; rintro e w1 ⟨rfl, hg1⟩)
    go_ret
    exact ⟨rfl, hg1.below⟩
  · have hz : ¬ (l.length : Int) > 200 := by omega
    have hlen : l.length ≤ 200 := by omega
    clear hbig
    obtain ⟨r1, hr1⟩ : ∃ r, r = resK true 0 l (A 4) := ⟨_, rfl⟩
    have D1 : Hid (∀ v W, Sl encI W v l → Errs W A → Calls Tryd.prog 11 #[v] W fun e w' => e = .returned (resK true 0 l (A 4)) ∧ Gr W w') := fun v W hs he => of_call l v (A 4) W hs (errK he)
    have D2 : Hid (∀ v W, Sl encI W v l → Errs W A → Calls Tryd.prog 12 #[.int .u64 m, v] W fun e w' => e = .returned (resK true m l (A 4)) ∧ Gr W w') := fun v W hs he => with_call m l v (A 4) W hs hm (errK he)
    have D3 : Hid (∀ v W, Sl encI W v l → Errs W A → Calls Tryd.prog 13 #[.int .u64 m, v] W fun e w' => e = .returned (resK false m l (A 4)) ∧ Gr W w') := fun v W hs he => without_call m l v (A 4) W hs hm (errK he)
    obtain ⟨f, hf⟩ : ∃ f : Nat → Bool, f = fun i => m.testBit i := ⟨_, rfl⟩
    obtain ⟨z, hzz⟩ : ∃ z : Nat → Bool, z = fun _ => false := ⟨_, rfl⟩
    have DF : Hid (∀ W, Calls Tryd.prog 15 #[.int .u64 m] W fun e w' => e = .returned (.agg (bv f)) ∧ Gr W w') := fun W => by rw [hf]; exact from_call m hm W
    have D4 : Hid (∀ v W, Sl encI W v l → Calls Tryd.prog 14 #[.agg (bv z), v, .bool true] W fun e w' => e = .returned (setK true z l) ∧ Gr W w') := fun v W hs => set_call true z l v W hs
    have D5 : Hid (∀ v W, Sl encI W v l → Calls Tryd.prog 14 #[.agg (bv f), v, .bool true] W fun e w' => e = .returned (setK true f l) ∧ Gr W w') := fun v W hs => set_call true f l v W hs
    have D6 : Hid (∀ v W, Sl encI W v l → Calls Tryd.prog 14 #[.agg (bv f), v, .bool false] W fun e w' => e = .returned (setK false f l) ∧ Gr W w') := fun v W hs => set_call false f l v W hs
    have hz0 : #[.bool false, .bool false, .bool false, .bool false, .bool false, .bool false, .bool false, .bool false, .bool false, .bool false, .bool false, .bool false, .bool false, .bool false, .bool false, .bool false, .bool false, .bool false, .bool false, .bool false, .bool false, .bool false, .bool false, .bool false, .bool false, .bool false, .bool false, .bool false, .bool false, .bool false, .bool false, .bool false, .bool false, .bool false, .bool false, .bool false, .bool false, .bool false, .bool false, .bool false, .bool false, .bool false, .bool false, .bool false, .bool false, .bool false, .bool false, .bool false, .bool false, .bool false, .bool false, .bool false, .bool false, .bool false, .bool false, .bool false, .bool false, .bool false, .bool false, .bool false, .bool false, .bool false, .bool false, .bool false] = bv z := by rw [hzz]; exact bv_zero.symm
    have hs := bv_size
    cases hk : l.all kindB
    · rw [resK_no hk] at D1 D2 D3
      rw [setK_no hk, ← hzz] at D4 D5 D6
      clear hk hr1 hf hzz
      go_enter Tryd.func3, Tryd.ntmps3
      go_wp2_with fail
      refine (alive_any _ (A 4) (errK HE.out)).mono ?_
      rintro e w1 ⟨rfl, hg1⟩
      have B1 := Lib.hid hg1.below
      clear hg1
      go_wp2_with fail
      refine (numInts_call l _ w1 (HL.out.below B1.out) (by omega)).mono ?_
      rintro e w2 ⟨g1, cap1, rfl, ho2, hb2⟩
      have B2 := Lib.hid (Bt B1.out hb2)
      have F2 : Hid (Sl encI w2 (.slice (some ⟨g1, 0, none⟩) l.length cap1) l) := by
        have := row_sl lenI (frontI ho2 (by simp [marks]) l.length (by omega)) (by simp)
        rwa [List.take_left] at this
      have O2 := Lib.hid ho2
      clear ho2 hb2 B1
      go_wp2_with fail
      refine (D1.out _ w2 F2.out (HE.out.below B2.out)).mono ?_
      rintro e w3 ⟨rfl, hg3⟩
      have B3 := Lib.hid (Bt B2.out hg3.below)
      have F3 := Lib.hid (F2.out.below hg3.below)
      have O3 := Lib.hid (row_below O2.out hg3.below)
      clear hg3 B2 F2 O2
      go_wp2_with fail
      refine (D2.out _ w3 F3.out (HE.out.below B3.out)).mono ?_
      rintro e w4 ⟨rfl, hg4⟩
      have B4 := Lib.hid (Bt B3.out hg4.below)
      have F4 := Lib.hid (F3.out.below hg4.below)
      have O4 := Lib.hid (row_below O3.out hg4.below)
      clear hg4 B3 F3 O3
      go_wp2_with fail
      refine (D3.out _ w4 F4.out (HE.out.below B4.out)).mono ?_
      rintro e w5 ⟨rfl, hg5⟩
      have B5 := Lib.hid (Bt B4.out hg5.below)
      have O5 := Lib.hid (row_below O4.out hg5.below)
      clear hg5 B4 F4 O4
      go_wp2_with fail
      refine (D4.out _ w5 (HL.out.below B5.out)).mono ?_
      rintro e w6 ⟨rfl, hg6⟩
      have B6 := Lib.hid (Ba (Bt B5.out hg6.below) (.cells (bv z) 32))
      have O6 := Lib.hid ((row_below O5.out hg6.below).alloc (.cells (bv z) 32))
      have hst6 := fun f g t => st_new w6 w6.heap.size rfl f g t
      clear hg6 B5 O5
      go_wp2_with fail
      refine (DF.out _).mono ?_
      rintro e w7 ⟨rfl, hg7⟩
      have B7 := Lib.hid (Bt B6.out hg7.below)
      have O7 := Lib.hid (row_below O6.out hg7.below)
      clear hg7 B6 O6 hst6
      go_wp2_with fail
      refine (D5.out _ w7 (HL.out.below B7.out)).mono ?_
      rintro e w8 ⟨rfl, hg8⟩
      have B8 := Lib.hid (Ba (Bt B7.out hg8.below) (.cells (bv z) 32))
      have O8 := Lib.hid ((row_below O7.out hg8.below).alloc (.cells (bv z) 32))
      have hst8 := fun f g t => st_new w8 w8.heap.size rfl f g t
      clear hg8 B7 O7
      go_wp2_with fail
      refine (DF.out _).mono ?_
      rintro e w9 ⟨rfl, hg9⟩
      have B9 := Lib.hid (Bt B8.out hg9.below)
      have O9 := Lib.hid (row_below O8.out hg9.below)
      clear hg9 B8 O8 hst8
      go_wp2_with fail
      refine (D6.out _ w9 (HL.out.below B9.out)).mono ?_
      rintro e w10 ⟨rfl, hg10⟩
      have B10 := Lib.hid (Ba (Bt B9.out hg10.below) (.cells (bv z) 32))
      have O10 := Lib.hid ((row_below O9.out hg10.below).alloc (.cells (bv z) 32))
      have hst10 := fun f g t => st_new w10 w10.heap.size rfl f g t
      clear hg10 B9 O9
      go_wp2_with fail
      refine (keptInts_call l _ g1 cap1 _ _ O10.out (HL.out.below B10.out) (by omega)).mono ?_
      rintro e w11 ⟨rfl, hg11⟩
      have B11 := Lib.hid (Bt B10.out hg11.below)
      clear hg11 B10 O10 hst10
      have E11 := Lib.hid (HE.out.below B11.out)
      go_wp2_with fail
      refine (num_kind E11.out).mono ?_
      rintro e w12 ⟨rfl, hb12⟩
      have B12 := Lib.hid (Bt B11.out hb12)
      have E12 := Lib.hid (E11.out.below hb12)
      clear hb12 B11 E11
      go_wp2_with fail
      refine (num_kind E12.out).mono ?_
      rintro e w13 ⟨rfl, hb13⟩
      have B13 := Lib.hid (Bt B12.out hb13)
      have E13 := Lib.hid (E12.out.below hb13)
      clear hb13 B12 E12
      go_wp2_with fail
      refine (num_kind E13.out).mono ?_
      rintro e w14 ⟨rfl, hb14⟩
      have B14 := Lib.hid (Bt B13.out hb14)
      clear hb14 B13 E13
      go_wp2
      go_ret
      exact ⟨ret_bool (by simp), B14.out⟩
    · rw [resK_yes hk] at D1 D2 D3
      rw [setK_yes hk] at D4 D5 D6
      have hall : ∀ k ∈ l, kindB k = true := fun k h => List.all_eq_true.1 hk k h
      have n1 : valN (foldF true z l) 64 = foldN true 0 l := valN_of (foldN_lt true 0 l (by decide) hall) fun i _ => (fold_both true l 0 z (by decide) (fun i => by rw [hzz]; exact Nat.zero_testBit i) hall).2 i
      have n2 : valN (foldF true f l) 64 = foldN true m l := valN_of (foldN_lt true m l hm hall) fun i _ => (fold_both true l m f hm (fun i => by rw [hf]) hall).2 i
      have n3 : valN (foldF false f l) 64 = foldN false m l := valN_of (foldN_lt false m l hm hall) fun i _ => (fold_both false l m f hm (fun i => by rw [hf]) hall).2 i
      obtain ⟨X, hX⟩ : ∃ X, X = foldF true z l := ⟨_, rfl⟩
      obtain ⟨Y, hY⟩ : ∃ Y, Y = foldF true f l := ⟨_, rfl⟩
      obtain ⟨Z, hZ⟩ : ∃ Z, Z = foldF false f l := ⟨_, rfl⟩
      obtain ⟨a, ha⟩ : ∃ a, a = foldN true 0 l := ⟨_, rfl⟩
      obtain ⟨b, hb⟩ : ∃ b, b = foldN true m l := ⟨_, rfl⟩
      obtain ⟨c, hc⟩ : ∃ c, c = foldN false m l := ⟨_, rfl⟩
      rw [← hX] at D4 n1
      rw [← hY] at D5 n2
      rw [← hZ] at D6 n3
      rw [← ha] at D1 n1
      rw [← hb] at D2 n2
      rw [← hc] at D3 n3
      have N1 : Hid (∀ W, Calls Tryd.prog 18 #[.agg (bv X)] W fun e w' => e = .returned (.int .u64 a) ∧ Gr W w') := fun W => by rw [← n1]; exact number_call X W
      have N2 : Hid (∀ W, Calls Tryd.prog 18 #[.agg (bv Y)] W fun e w' => e = .returned (.int .u64 b) ∧ Gr W w') := fun W => by rw [← n2]; exact number_call Y W
      have N3 : Hid (∀ W, Calls Tryd.prog 18 #[.agg (bv Z)] W fun e w' => e = .returned (.int .u64 c) ∧ Gr W w') := fun W => by rw [← n3]; exact number_call Z W
      clear hk hr1 hf hzz hX hY hZ ha hb hc n1 n2 n3 hall
      go_enter Tryd.func3, Tryd.ntmps3
      go_wp2_with fail
      refine (alive_any _ (A 4) (errK HE.out)).mono ?_
      rintro e w1 ⟨rfl, hg1⟩
      have B1 := Lib.hid hg1.below
      clear hg1
      go_wp2_with fail
      refine (numInts_call l _ w1 (HL.out.below B1.out) (by omega)).mono ?_
      rintro e w2 ⟨g1, cap1, rfl, ho2, hb2⟩
      have B2 := Lib.hid (Bt B1.out hb2)
      have F2 : Hid (Sl encI w2 (.slice (some ⟨g1, 0, none⟩) l.length cap1) l) := by
        have := row_sl lenI (frontI ho2 (by simp [marks]) l.length (by omega)) (by simp)
        rwa [List.take_left] at this
      have O2 := Lib.hid ho2
      clear ho2 hb2 B1
      go_wp2_with fail
      refine (D1.out _ w2 F2.out (HE.out.below B2.out)).mono ?_
      rintro e w3 ⟨rfl, hg3⟩
      have B3 := Lib.hid (Bt B2.out hg3.below)
      have F3 := Lib.hid (F2.out.below hg3.below)
      have O3 := Lib.hid (row_below O2.out hg3.below)
      clear hg3 B2 F2 O2
      go_wp2_with fail
      refine (D2.out _ w3 F3.out (HE.out.below B3.out)).mono ?_
      rintro e w4 ⟨rfl, hg4⟩
      have B4 := Lib.hid (Bt B3.out hg4.below)
      have F4 := Lib.hid (F3.out.below hg4.below)
      have O4 := Lib.hid (row_below O3.out hg4.below)
      clear hg4 B3 F3 O3
      go_wp2_with fail
      refine (D3.out _ w4 F4.out (HE.out.below B4.out)).mono ?_
      rintro e w5 ⟨rfl, hg5⟩
      have B5 := Lib.hid (Bt B4.out hg5.below)
      have O5 := Lib.hid (row_below O4.out hg5.below)
      clear hg5 B4 F4 O4
      go_wp2_with fail
      refine (D4.out _ w5 (HL.out.below B5.out)).mono ?_
      rintro e w6 ⟨rfl, hg6⟩
      have B6 := Lib.hid (Ba (Bt B5.out hg6.below) (.cells (bv X) 32))
      have O6 := Lib.hid ((row_below O5.out hg6.below).alloc (.cells (bv X) 32))
      have hst6 := fun f g t => st_new w6 w6.heap.size rfl f g t
      have X6 : Hid ((w6.alloc (.cells (bv X) 32)).heap[w6.heap.size]? = some (.cells (bv X) 32 (0, 0)) ∧ w6.heap.size < (w6.alloc (.cells (bv X) 32)).heap.size) := ⟨heap_new w6 _ rfl _, by simp⟩
      clear hg6 B5 O5
      go_wp2_with fail
      refine (DF.out _).mono ?_
      rintro e w7 ⟨rfl, hg7⟩
      have B7 := Lib.hid (Bt B6.out hg7.below)
      have O7 := Lib.hid (row_below O6.out hg7.below)
      have X7 : Hid ((w7).heap[w6.heap.size]? = some (.cells (bv X) 32 (0, 0)) ∧ w6.heap.size < (w7).heap.size) := heap_on X6.out hg7.below
      clear hg7 B6 O6 hst6
      go_wp2_with fail
      refine (D5.out _ w7 (HL.out.below B7.out)).mono ?_
      rintro e w8 ⟨rfl, hg8⟩
      have B8 := Lib.hid (Ba (Bt B7.out hg8.below) (.cells (bv Y) 32))
      have O8 := Lib.hid ((row_below O7.out hg8.below).alloc (.cells (bv Y) 32))
      have hst8 := fun f g t => st_new w8 w8.heap.size rfl f g t
      have X8 : Hid ((w8.alloc (.cells (bv Y) 32)).heap[w6.heap.size]? = some (.cells (bv X) 32 (0, 0)) ∧ w6.heap.size < (w8.alloc (.cells (bv Y) 32)).heap.size) := heap_on X7.out (Ba hg8.below _)
      have Y8 : Hid ((w8.alloc (.cells (bv Y) 32)).heap[w8.heap.size]? = some (.cells (bv Y) 32 (0, 0)) ∧ w8.heap.size < (w8.alloc (.cells (bv Y) 32)).heap.size) := ⟨heap_new w8 _ rfl _, by simp⟩
      clear hg8 B7 O7
      go_wp2_with fail
      refine (DF.out _).mono ?_
      rintro e w9 ⟨rfl, hg9⟩
      have B9 := Lib.hid (Bt B8.out hg9.below)
      have O9 := Lib.hid (row_below O8.out hg9.below)
      have X9 : Hid ((w9).heap[w6.heap.size]? = some (.cells (bv X) 32 (0, 0)) ∧ w6.heap.size < (w9).heap.size) := heap_on X8.out hg9.below
      have Y9 : Hid ((w9).heap[w8.heap.size]? = some (.cells (bv Y) 32 (0, 0)) ∧ w8.heap.size < (w9).heap.size) := heap_on Y8.out hg9.below
      clear hg9 B8 O8 hst8
      go_wp2_with fail
      refine (D6.out _ w9 (HL.out.below B9.out)).mono ?_
      rintro e w10 ⟨rfl, hg10⟩
      have B10 := Lib.hid (Ba (Bt B9.out hg10.below) (.cells (bv Z) 32))
      have O10 := Lib.hid ((row_below O9.out hg10.below).alloc (.cells (bv Z) 32))
      have hst10 := fun f g t => st_new w10 w10.heap.size rfl f g t
      have X10 : Hid ((w10.alloc (.cells (bv Z) 32)).heap[w6.heap.size]? = some (.cells (bv X) 32 (0, 0)) ∧ w6.heap.size < (w10.alloc (.cells (bv Z) 32)).heap.size) := heap_on X9.out (Ba hg10.below _)
      have Y10 : Hid ((w10.alloc (.cells (bv Z) 32)).heap[w8.heap.size]? = some (.cells (bv Y) 32 (0, 0)) ∧ w8.heap.size < (w10.alloc (.cells (bv Z) 32)).heap.size) := heap_on Y9.out (Ba hg10.below _)
      have Z10 : Hid ((w10.alloc (.cells (bv Z) 32)).heap[w10.heap.size]? = some (.cells (bv Z) 32 (0, 0)) ∧ w10.heap.size < (w10.alloc (.cells (bv Z) 32)).heap.size) := ⟨heap_new w10 _ rfl _, by simp⟩
      clear hg10 B9 O9
      go_wp2_with fail
      refine (keptInts_call l _ g1 cap1 _ _ O10.out (HL.out.below B10.out) (by omega)).mono ?_
      rintro e w11 ⟨rfl, hg11⟩
      have B11 := Lib.hid (Bt B10.out hg11.below)
      have X11 : Hid ((w11).heap[w6.heap.size]? = some (.cells (bv X) 32 (0, 0)) ∧ w6.heap.size < (w11).heap.size) := heap_on X10.out hg11.below
      have Y11 : Hid ((w11).heap[w8.heap.size]? = some (.cells (bv Y) 32 (0, 0)) ∧ w8.heap.size < (w11).heap.size) := heap_on Y10.out hg11.below
      have Z11 : Hid ((w11).heap[w10.heap.size]? = some (.cells (bv Z) 32 (0, 0)) ∧ w10.heap.size < (w11).heap.size) := heap_on Z10.out hg11.below
      clear hg11 B10 O10 hst10
      have q1 : ((a : Int) == (a : Int)) = true := by simp
      have q2 : ((b : Int) == (b : Int)) = true := by simp
      have q3 : ((c : Int) == (c : Int)) = true := by simp
      clear hz0 hs
      go_wp2_with (first
        | (refine wpl_ldg (by rfl) _ rfl w6.heap.size (by rfl) X 32 X11.out.1 ?_)
        | (go_at_call_of 18 (Value.agg (bv X)); refine (N1.out _).mono ?_; rintro e w12 ⟨rfl, hg12⟩; have Y12 := Lib.hid (heap_on Y11.out hg12.below); have Z12 := Lib.hid (heap_on Z11.out hg12.below); have B12 := Lib.hid (Bt B11.out hg12.below); clear hg12)
        | (refine wpl_ldg (by rfl) _ rfl w8.heap.size (by rfl) Y 32 Y12.out.1 ?_)
        | (go_at_call_of 18 (Value.agg (bv Y)); refine (N2.out _).mono ?_; rintro e w13 ⟨rfl, hg13⟩; have Z13 := Lib.hid (heap_on Z12.out hg13.below); have B13 := Lib.hid (Bt B12.out hg13.below); clear hg13)
        | (refine wpl_ldg (by rfl) _ rfl w10.heap.size (by rfl) Z 32 Z13.out.1 ?_)
        | (go_at_call_of 18 (Value.agg (bv Z)); refine (N3.out _).mono ?_; rintro e w14 ⟨rfl, hg14⟩; have B14 := Lib.hid (Bt B13.out hg14.below); clear hg14))
      go_ret
      exact ⟨ret_bool (by simp), B14.out⟩
end Go.Proofs.YtcmfkjjagffjnaaDoor
