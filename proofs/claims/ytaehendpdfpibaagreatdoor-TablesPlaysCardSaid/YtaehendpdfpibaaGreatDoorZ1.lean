import Derived.Test.YtaehendpdfpibaaGreatDoorZ0

/-
  masks.With, Without and Of: which kinds have a mask, and which.
-/
namespace Go.Proofs.YtaehendpdfpibaaGreatDoor
set_option linter.unusedSimpArgs false
set_option linter.unusedVariables false
open Go.RowKit Go.Sort Go.Lib Go.Shelf

/-- What With, Without and Of answer. -/
def resK (on : Bool) (m : Nat) (l : List Int) (a : Addr) : Value := if l.all kindB then .tuple #[.int .u64 (foldN on m l : Nat), .nilIface] else .tuple #[.int .u64 0, .iface 258 (.pointer (some a))]
theorem resK_no {on : Bool} {m : Nat} {l : List Int} {a : Addr} (h : l.all kindB = false) : resK on m l a = .tuple #[.int .u64 0, .iface 258 (.pointer (some a))] := by unfold resK; rw [h]; rfl
theorem resK_yes {on : Bool} {m : Nat} {l : List Int} {a : Addr} (h : l.all kindB = true) : resK on m l a = .tuple #[.int .u64 (foldN on m l : Nat), .nilIface] := by unfold resK; rw [h]; rfl

set_option maxHeartbeats 1000000 in
theorem changed_T (m : Nat) (l : List Int) (v : Value) (a : Addr) (w : World) (hl : Sl encI w v l) (hm : m < 18446744073709551616) (hE : ErrK w a) :
    Calls Tryz.prog 69 #[.int .u64 m, v, .func (.func 70) #[] #[]] w fun e w' => e = .returned (resK true m l a) ∧ Gr w w' := by
  obtain ⟨p, cap, rfl, hl1, hl2, hl3⟩ := hl
  have HL := Lib.hid hl3
  have HE := Lib.hid hE
  have hbig : l.length ≤ 9223372036854775807 := by unfold maxLen at hl2; omega
  clear hl3 hl2 hE
  go_enter Tryz.func69, Tryz.ntmps69
  go_wp2
  go_loopw [0, 12] (fun s0 i wr => ∃ j : Nat, j ≤ l.length ∧ i = .int .i64 j ∧ wr = w ∧ s0 = .int .u64 (foldN true m (l.take j) : Nat) ∧ (l.take j).all kindB = true) (fun _ i _ => l.length - (intOf i).toNat)
  case atStart => exact ⟨0, Nat.zero_le _, rfl, rfl, by simp [foldN], by simp⟩
  case round =>
    obtain ⟨j, hj, rfl, rfl, rfl, hall⟩ := hrel
    by_cases hjn : j < l.length
    · obtain ⟨g, o, rfl, hg1, hg2⟩ := HL.out (by omega)
      have c1 := atI hg2 hjn
      have et : l.take (j + 1) = l.take j ++ [l[j]!] := by rw [getElem!_pos l j hjn]; exact List.take_succ_eq_append_getElem hjn
      have hmem : l[j]! ∈ l := by rw [getElem!_pos l j hjn]; exact List.getElem_mem hjn
      generalize hx : l[j]! = x at *
      have ET := Lib.hid et
      have HA := Lib.hid hall
      have HM := Lib.hid hmem
      have HF := Lib.hid (foldN_lt true m (l.take j) hm (fun k hk => List.all_eq_true.1 hall k hk))
      clear hg2 et hall hmem hx hm
      cases hk : kindB x
      · have hno : l.all kindB = false := by
          rw [Bool.eq_false_iff]
          intro h
          rw [List.all_eq_true.1 h x HM.out] at hk
          cases hk
        have hE : _ = _ := HE.out
        have HN := Lib.hid hno
        clear hno
        go_wp2_with (go_at_call 112; refine (isKind_any _ _).mono ?_; rintro e w1 ⟨rfl, rfl⟩)
        go_region
        go_wp2
        go_ret2
        exact ⟨by rw [resK_no HN.out]; rfl, (by repeat (first | with_reducible exact Gr.refl _ | with_reducible assumption | with_reducible apply Gr.alloc | with_reducible apply Gr.drewN | with_reducible apply Gr.drew | with_reducible apply Gr.grow | (with_reducible refine Gr.trans ?_ (by assumption))))⟩
      · have hb := (kindB_iff x).1 hk
        obtain ⟨n, rfl⟩ : ∃ n : Nat, x = n := ⟨x.toNat, by omega⟩
        have hn : n < 64 := by omega
        have HK := Lib.hid hk
        clear hb
        go_wp2_with (first | (go_at_call 112; refine (isKind_any _ _).mono ?_; rintro e w1 ⟨rfl, rfl⟩) | (go_at_call 113; refine (bit_any n hn _).mono ?_; rintro e w1 ⟨rfl, rfl⟩) | (go_at_call 70; refine (op_anyT (foldN true m (l.take j)) n HF.out hn _).mono ?_; rintro e w1 ⟨rfl, rfl⟩))
        go_roundw
        case measure => simp [intOf]; omega
        case rel => exact ⟨j + 1, by omega, by go_num, trivial, by rw [ET.out, foldN_snoc]; rfl, by rw [ET.out, List.all_append, HA.out]; simp [HK.out]⟩
    · have hjn' : j = l.length := by omega
      subst hjn'
      rw [List.take_length] at hall
      rw [List.take_length]
      have HY := Lib.hid hall
      clear hall
      go_wp2
      go_ret2
      exact ⟨by rw [resK_yes HY.out]; rfl, (by repeat (first | with_reducible exact Gr.refl _ | with_reducible assumption | with_reducible apply Gr.alloc | with_reducible apply Gr.drewN | with_reducible apply Gr.drew | with_reducible apply Gr.grow | (with_reducible refine Gr.trans ?_ (by assumption))))⟩

set_option maxHeartbeats 1000000 in
theorem changed_F (m : Nat) (l : List Int) (v : Value) (a : Addr) (w : World) (hl : Sl encI w v l) (hm : m < 18446744073709551616) (hE : ErrK w a) :
    Calls Tryz.prog 69 #[.int .u64 m, v, .func (.func 136) #[] #[]] w fun e w' => e = .returned (resK false m l a) ∧ Gr w w' := by
  obtain ⟨p, cap, rfl, hl1, hl2, hl3⟩ := hl
  have HL := Lib.hid hl3
  have HE := Lib.hid hE
  have hbig : l.length ≤ 9223372036854775807 := by unfold maxLen at hl2; omega
  clear hl3 hl2 hE
  go_enter Tryz.func69, Tryz.ntmps69
  go_wp2
  go_loopw [0, 12] (fun s0 i wr => ∃ j : Nat, j ≤ l.length ∧ i = .int .i64 j ∧ wr = w ∧ s0 = .int .u64 (foldN false m (l.take j) : Nat) ∧ (l.take j).all kindB = true) (fun _ i _ => l.length - (intOf i).toNat)
  case atStart => exact ⟨0, Nat.zero_le _, rfl, rfl, by simp [foldN], by simp⟩
  case round =>
    obtain ⟨j, hj, rfl, rfl, rfl, hall⟩ := hrel
    by_cases hjn : j < l.length
    · obtain ⟨g, o, rfl, hg1, hg2⟩ := HL.out (by omega)
      have c1 := atI hg2 hjn
      have et : l.take (j + 1) = l.take j ++ [l[j]!] := by rw [getElem!_pos l j hjn]; exact List.take_succ_eq_append_getElem hjn
      have hmem : l[j]! ∈ l := by rw [getElem!_pos l j hjn]; exact List.getElem_mem hjn
      generalize hx : l[j]! = x at *
      have ET := Lib.hid et
      have HA := Lib.hid hall
      have HM := Lib.hid hmem
      have HF := Lib.hid (foldN_lt false m (l.take j) hm (fun k hk => List.all_eq_true.1 hall k hk))
      clear hg2 et hall hmem hx hm
      cases hk : kindB x
      · have hno : l.all kindB = false := by
          rw [Bool.eq_false_iff]
          intro h
          rw [List.all_eq_true.1 h x HM.out] at hk
          cases hk
        have hE : _ = _ := HE.out
        have HN := Lib.hid hno
        clear hno
        go_wp2_with (go_at_call 112; refine (isKind_any _ _).mono ?_; rintro e w1 ⟨rfl, rfl⟩)
        go_region
        go_wp2
        go_ret2
        exact ⟨by rw [resK_no HN.out]; rfl, (by repeat (first | with_reducible exact Gr.refl _ | with_reducible assumption | with_reducible apply Gr.alloc | with_reducible apply Gr.drewN | with_reducible apply Gr.drew | with_reducible apply Gr.grow | (with_reducible refine Gr.trans ?_ (by assumption))))⟩
      · have hb := (kindB_iff x).1 hk
        obtain ⟨n, rfl⟩ : ∃ n : Nat, x = n := ⟨x.toNat, by omega⟩
        have hn : n < 64 := by omega
        have HK := Lib.hid hk
        clear hb
        go_wp2_with (first | (go_at_call 112; refine (isKind_any _ _).mono ?_; rintro e w1 ⟨rfl, rfl⟩) | (go_at_call 113; refine (bit_any n hn _).mono ?_; rintro e w1 ⟨rfl, rfl⟩) | (go_at_call 136; refine (op_any false _ rfl (foldN false m (l.take j)) n HF.out hn _).mono ?_; rintro e w1 ⟨rfl, rfl⟩))
        go_roundw
        case measure => simp [intOf]; omega
        case rel => exact ⟨j + 1, by omega, by go_num, trivial, by rw [ET.out, foldN_snoc]; rfl, by rw [ET.out, List.all_append, HA.out]; simp [HK.out]⟩
    · have hjn' : j = l.length := by omega
      subst hjn'
      rw [List.take_length] at hall
      rw [List.take_length]
      have HY := Lib.hid hall
      clear hall
      go_wp2
      go_ret2
      exact ⟨by rw [resK_yes HY.out]; rfl, (by repeat (first | with_reducible exact Gr.refl _ | with_reducible assumption | with_reducible apply Gr.alloc | with_reducible apply Gr.drewN | with_reducible apply Gr.drew | with_reducible apply Gr.grow | (with_reducible refine Gr.trans ?_ (by assumption))))⟩

theorem with_call (m : Nat) (l : List Int) (v : Value) (a : Addr) (w : World) (hl : Sl encI w v l) (hm : m < 18446744073709551616) (hE : ErrK w a) :
    Calls Tryz.prog 35 #[.int .u64 m, v] w fun e w' => e = .returned (resK true m l a) ∧ Gr w w' := by
  have c := changed_T m l v a w hl hm hE
  cases hk : l.all kindB
  · rw [resK_no hk] at c ⊢
    go_enter Tryz.func35, Tryz.ntmps35
    go_wp2_with (go_at_call 69; refine c.mono ?_; rintro e w1 ⟨rfl, hg1⟩)
    go_ret2
    exact ⟨rfl, (by repeat (first | with_reducible exact Gr.refl _ | with_reducible assumption | with_reducible apply Gr.alloc | with_reducible apply Gr.drewN | with_reducible apply Gr.drew | with_reducible apply Gr.grow | (with_reducible refine Gr.trans ?_ (by assumption))))⟩
  · rw [resK_yes hk] at c ⊢
    go_enter Tryz.func35, Tryz.ntmps35
    go_wp2_with (go_at_call 69; refine c.mono ?_; rintro e w1 ⟨rfl, hg1⟩)
    go_ret2
    exact ⟨rfl, (by repeat (first | with_reducible exact Gr.refl _ | with_reducible assumption | with_reducible apply Gr.alloc | with_reducible apply Gr.drewN | with_reducible apply Gr.drew | with_reducible apply Gr.grow | (with_reducible refine Gr.trans ?_ (by assumption))))⟩
theorem without_call (m : Nat) (l : List Int) (v : Value) (a : Addr) (w : World) (hl : Sl encI w v l) (hm : m < 18446744073709551616) (hE : ErrK w a) :
    Calls Tryz.prog 91 #[.int .u64 m, v] w fun e w' => e = .returned (resK false m l a) ∧ Gr w w' := by
  have c := changed_F m l v a w hl hm hE
  cases hk : l.all kindB
  · rw [resK_no hk] at c ⊢
    go_enter Tryz.func91, Tryz.ntmps91
    go_wp2_with (go_at_call 69; refine c.mono ?_; rintro e w1 ⟨rfl, hg1⟩)
    go_ret2
    exact ⟨rfl, (by repeat (first | with_reducible exact Gr.refl _ | with_reducible assumption | with_reducible apply Gr.alloc | with_reducible apply Gr.drewN | with_reducible apply Gr.drew | with_reducible apply Gr.grow | (with_reducible refine Gr.trans ?_ (by assumption))))⟩
  · rw [resK_yes hk] at c ⊢
    go_enter Tryz.func91, Tryz.ntmps91
    go_wp2_with (go_at_call 69; refine c.mono ?_; rintro e w1 ⟨rfl, hg1⟩)
    go_ret2
    exact ⟨rfl, (by repeat (first | with_reducible exact Gr.refl _ | with_reducible assumption | with_reducible apply Gr.alloc | with_reducible apply Gr.drewN | with_reducible apply Gr.drew | with_reducible apply Gr.grow | (with_reducible refine Gr.trans ?_ (by assumption))))⟩
theorem of_call (l : List Int) (v : Value) (a : Addr) (w : World) (hl : Sl encI w v l) (hE : ErrK w a) :
    Calls Tryz.prog 67 #[v] w fun e w' => e = .returned (resK true 0 l a) ∧ Gr w w' := by
  have c := with_call 0 l v a w hl (by decide) hE
  cases hk : l.all kindB
  · rw [resK_no hk] at c ⊢
    go_enter Tryz.func67, Tryz.ntmps67
    go_wp2_with (go_at_call 35; refine c.mono ?_; rintro e w1 ⟨rfl, hg1⟩)
    go_ret2
    exact ⟨rfl, (by repeat (first | with_reducible exact Gr.refl _ | with_reducible assumption | with_reducible apply Gr.alloc | with_reducible apply Gr.drewN | with_reducible apply Gr.drew | with_reducible apply Gr.grow | (with_reducible refine Gr.trans ?_ (by assumption))))⟩
  · rw [resK_yes hk] at c ⊢
    go_enter Tryz.func67, Tryz.ntmps67
    go_wp2_with (go_at_call 35; refine c.mono ?_; rintro e w1 ⟨rfl, hg1⟩)
    go_ret2
    exact ⟨rfl, (by repeat (first | with_reducible exact Gr.refl _ | with_reducible assumption | with_reducible apply Gr.alloc | with_reducible apply Gr.drewN | with_reducible apply Gr.drew | with_reducible apply Gr.grow | (with_reducible refine Gr.trans ?_ (by assumption))))⟩
end Go.Proofs.YtaehendpdfpibaaGreatDoor

/-
  A column in memory: its row, its room; what a call on it leaves alone; two things of the call's own side by side.
-/
namespace Go.Proofs.YtaehendpdfpibaaGreatDoor
set_option linter.unusedSimpArgs false
set_option linter.unusedVariables false
open Go.RowKit Go.Sort Go.Lib Go.Shelf

/-- At block pa, of type T, is a column: its slice is v, its things are L, it may hold m; its blocks are among M. -/
def ColIs {α : Type} (enc : α → List Value) (et k T : Nat) (w : World) (M : Nat → Prop) (pa : Nat) (v : Value) (L : List α) (m : Int) : Prop :=
  w.heap[pa]? = some (.cells #[v, .int .i64 m] T (0, 0)) ∧ M pa ∧ RowAt enc et k w M v L
def ColAt {α : Type} (enc : α → List Value) (et k T : Nat) (w : World) (M : Nat → Prop) (pa : Nat) (L : List α) (m : Int) : Prop := ∃ v, ColIs enc et k T w M pa v L m

section
variable {α : Type} {enc : α → List Value} {et k T pa : Nat} {L L' : List α} {m : Int} {M R : Nat → Prop} {w w' w2 : World} {v v' : Value}
theorem ColIs.at (h : ColIs enc et k T w M pa v L m) : ColAt enc et k T w M pa L m := ⟨v, h⟩
theorem ColIs.mono {M' : Nat → Prop} (h : ColIs enc et k T w M pa v L m) (hM : ∀ b, M b → M' b) : ColIs enc et k T w M' pa v L m := ⟨h.1, hM _ h.2.1, h.2.2.mono hM⟩
theorem ColAt.mono {M' : Nat → Prop} (h : ColAt enc et k T w M pa L m) (hM : ∀ b, M b → M' b) : ColAt enc et k T w M' pa L m := h.imp fun _ q => q.mono hM
theorem ColIs.lt (h : ColIs enc et k T w M pa v L m) : pa < w.heap.size := (Array.getElem?_eq_some_iff.1 h.1).1
theorem ColAt.lt (h : ColAt enc et k T w M pa L m) : pa < w.heap.size := h.choose_spec.lt
theorem ColIs.kept (h : ColIs enc et k T w R pa v L m) (t : Tch M w w') (hd : ∀ b, R b → ¬ M b) : ColIs enc et k T w' R pa v L m :=
  ⟨(t.block pa h.lt (hd pa h.2.1)).trans h.1, h.2.1, h.2.2.kept t hd⟩
theorem ColAt.kept (h : ColAt enc et k T w R pa L m) (t : Tch M w w') (hd : ∀ b, R b → ¬ M b) : ColAt enc et k T w' R pa L m := h.imp fun _ q => q.kept t hd
theorem ColIs.below (h : ColIs enc et k T w R pa v L m) (t : RowKit.Below w.heap.size w w') : ColIs enc et k T w' R pa v L m := ⟨(t.block pa h.lt).trans h.1, h.2.1, h.2.2.below t⟩
theorem ColAt.below (h : ColAt enc et k T w R pa L m) (t : RowKit.Below w.heap.size w w') : ColAt enc et k T w' R pa L m := h.imp fun _ q => q.below t
theorem ColIs.cells (h : ColIs enc et k T w M pa v L m) : w.cell? ⟨pa, 0, none⟩ = some v ∧ w.cell? ⟨pa, 1, none⟩ = some (.int .i64 m) ∧ w.frozen? ⟨pa, 0, none⟩ = false ∧ w.frozen? ⟨pa, 1, none⟩ = false := two_cells h.1

/-- What a walk needs of a column: its slice's form, its cells, its row. -/
theorem ColAt.open (h : ColAt enc et k T w M pa L m) : ∃ p cap, ColIs enc et k T w M pa (.slice p L.length cap) L m ∧ L.length ≤ cap ∧ cap ≤ 9223372036854775807 ∧ (0 < L.length → ∃ g, p = some ⟨g, 0, none⟩ ∧ g < w.heap.size) := by
  obtain ⟨v, h⟩ := h
  obtain ⟨p, cap, rfl, h1, h2, h3⟩ := row_val h.2.2.1
  unfold maxLen at h2
  exact ⟨p, cap, h, h1, by omega, fun q => (h3 q).imp fun g e => ⟨e.1, e.2.1⟩⟩

/-- The slice is stored. -/
theorem col_put (hT : T ≠ et) {a : Value} (h1 : w.heap[pa]? = some (.cells #[a, .int .i64 m] T (0, 0))) (hm : M pa) (hr : RowAt enc et k w M v L) :
    ColIs enc et k T (w.setCell ⟨pa, 0, none⟩ v) M pa v L m ∧ Tch M w (w.setCell ⟨pa, 0, none⟩ v) := by
  have e := heap_setCell_same w pa 0 #[a, .int .i64 m] T v h1
  refine ⟨⟨by simpa using e, hm, ⟨row_keep hr.1 (fun g hg => ?_), hr.2⟩⟩, Tch.set w hm v⟩
  obtain ⟨c, hc⟩ := row_type hr.1 hg
  exact heap_setCell_other w ⟨pa, 0, none⟩ g v (type_apart hc h1 (Ne.symm hT))
/-- A cell of the row is stored. -/
theorem ColIs.cell (hT : T ≠ et) {g ln cs : Nat} (h : ColIs enc et k T w M pa (.slice (some ⟨g, 0, none⟩) ln cs) L m) (j : Nat) (u : Value) (hS : (flat enc L).set j u = flat enc L') (hl : L'.length = L.length) :
    ColIs enc et k T (w.setCell ⟨g, j, none⟩ u) M pa (.slice (some ⟨g, 0, none⟩) ln cs) L' m ∧ Tch M w (w.setCell ⟨g, j, none⟩ u) := by
  obtain ⟨h1, h2, h3⟩ := h
  obtain ⟨c3, hc3⟩ := row_type h3.1 (g := g) rfl
  have n1 : pa ≠ g := type_apart h1 hc3 hT
  have hln : ln = L.length := by
    obtain ⟨p, cap, e, _⟩ := row_val h3.1
    simp only [Value.slice.injEq] at e
    exact e.2.1
  subst hln
  have hst := (h3.1.stored j u).1
  refine ⟨⟨(heap_setCell_other w ⟨g, j, none⟩ pa u n1).trans h1, h2, ⟨?_, h3.2⟩⟩, Tch.set w (h3.2 g rfl) u⟩
  rw [hS] at hst
  rw [hl]
  exact hst
/-- The front of the row takes the row's place. -/
theorem ColIs.front (hT : T ≠ et) (hk : ∀ x, (enc x).length = k) {g ln cs : Nat} (h : ColIs enc et k T w M pa (.slice (some ⟨g, 0, none⟩) ln cs) L m) (j : Nat) (hj : j ≤ L.length) :
    ColIs enc et k T (w.setCell ⟨pa, 0, none⟩ (.slice (some ⟨g, 0, none⟩) j cs)) M pa (.slice (some ⟨g, 0, none⟩) j cs) (L.take j) m ∧ Tch M w (w.setCell ⟨pa, 0, none⟩ (.slice (some ⟨g, 0, none⟩) j cs)) := by
  have hln : ln = L.length := by
    obtain ⟨p, cap, e, _⟩ := row_val h.2.2.1
    simp only [Value.slice.injEq] at e
    exact e.2.1
  subst hln
  refine col_put hT h.1 h.2.1 ⟨?_, fun g' hg => h.2.2.2 g' hg⟩
  exact row_front hk h.2.2.1 rfl j hj
/-- Behind an append onto the row: the column's block. -/
theorem ColIs.grown (hT : T ≠ et) (h : ColIs enc et k T w M pa v L m) (hg : w.grownBy w' v.ownBlock) : w'.heap[pa]? = some (.cells #[v, .int .i64 m] T (0, 0)) :=
  blk_grown h.2.2 hg h.1 hT

/-- A column that the call has made. -/
theorem col_made {w1 : World} (hb : RowKit.Below w.heap.size w w1) (h1 : w1.ownsRow w.heap.size et k v L.length (flat enc L)) (T : Nat) (m : Int) :
    ColIs enc et k T (w1.alloc (.cells #[v, .int .i64 m] T)) (Fresh w (w1.alloc (.cells #[v, .int .i64 m] T))) w1.heap.size v L m :=
  ⟨heap_alloc_new w1 _, .inr ⟨hb.size, by simp⟩, row_fresh (row_below h1 (Ba (Below.refl _ w1) _))⟩
/-- A column is answered: in new blocks. -/
def ColNew (enc : α → List Value) (et k T : Nat) (w : World) (L : List α) (m : Int) (e : Ending) (w' : World) : Prop :=
  ∃ pb, e = .returned (.pointer (some ⟨pb, 0, none⟩)) ∧ ColAt enc et k T w' (Fresh w w') pb L m ∧ RowKit.Below w.heap.size w w'

/-! ### A column of the call's own, from base on. -/
def ColX (enc : α → List Value) (et k T base : Nat) (w : World) (pa : Nat) (L : List α) (m : Int) : Prop :=
  ∃ M, ColAt enc et k T w M pa L m ∧ (∀ b, M b → base ≤ b ∧ b < w.heap.size ∧ ∃ cs t f, w.heap[b]? = some (.cells cs t f) ∧ (t = T ∨ t = et)) ∧ base ≤ w.heap.size
/-- Only blocks from base on, of the column's types, have changed. -/
def Kx (et T base : Nat) (w w' : World) : Prop := Tch (fun b => base ≤ b ∧ ∃ cs t f, w.heap[b]? = some (.cells cs t f) ∧ (t = T ∨ t = et)) w w'
theorem Kx.of {base : Nat} (h : RowKit.Below w.heap.size w w') : Kx et T base w w' := Tch.of h
theorem Kx.below {base : Nat} (h : Kx et T base w w') (hb : base ≤ w.heap.size) : RowKit.Below base w w' := Tch.below h (fun _ e => e.1) hb
theorem Kx.cells {base : Nat} (h : Kx et T base w w') {b : Nat} {cs : Array Value} {t : Nat} {f : Nat × Nat} (hb : w.heap[b]? = some (.cells cs t f)) (h1 : t ≠ T) (h2 : t ≠ et) : w'.heap[b]? = some (.cells cs t f) :=
  (h.block b (Array.getElem?_eq_some_iff.1 hb).1 (fun e => by
    obtain ⟨_, cs', t', f', hc, hp⟩ := e
    rw [hb] at hc
    simp only [Option.some.injEq, Obj.cells.injEq] at hc
    rcases hp with hp | hp
    · exact h1 (hc.2.1.trans hp)
    · exact h2 (hc.2.1.trans hp))).trans hb
theorem Kx.map {base : Nat} (h : Kx et T base w w') {b : Nat} {es : Array MapEntry} {c : Nat} (hb : w.heap[b]? = some (.map es c)) : w'.heap[b]? = some (.map es c) :=
  (h.block b (Array.getElem?_eq_some_iff.1 hb).1 (fun e => by
    obtain ⟨_, cs', t', f', hc, hp⟩ := e
    rw [hb] at hc
    cases hc)).trans hb
theorem ColAt.shrink (h : ColAt enc et k T w M pa L m) : ColAt enc et k T w (fun b => M b ∧ ∃ cs t f, w.heap[b]? = some (.cells cs t f) ∧ (t = T ∨ t = et)) pa L m := by
  obtain ⟨v, h1, h2, h3⟩ := h
  refine ⟨v, h1, ⟨h2, _, _, _, h1, .inl rfl⟩, h3.1, fun g hg => ⟨h3.2 g hg, ?_⟩⟩
  obtain ⟨c, hc⟩ := row_type h3.1 hg
  exact ⟨_, _, _, hc, .inr rfl⟩
variable {base : Nat}
theorem ColX.at (h : ColX enc et k T base w pa L m) : ∃ M, ColAt enc et k T w M pa L m := ⟨_, h.choose_spec.1⟩
theorem ColX.lo (h : ColX enc et k T base w pa L m) : base ≤ w.heap.size := h.choose_spec.2.2
theorem ColX.below (h : ColX enc et k T base w pa L m) (t : RowKit.Below w.heap.size w w') : ColX enc et k T base w' pa L m := by
  obtain ⟨M, h1, h2, h3⟩ := h
  exact ⟨M, h1.below t, fun b hb => ⟨(h2 b hb).1, Nat.lt_of_lt_of_le (h2 b hb).2.1 t.size, by
    obtain ⟨cs, ty, f, hc, hp⟩ := (h2 b hb).2.2
    exact ⟨cs, ty, f, blk_below hc t, hp⟩⟩, Nat.le_trans h3 t.size⟩
/-- A change of its own. -/
theorem ColX.ask {P : Ending → Prop} {f : FuncId} {args : Array Value} (h : ColX enc et k T base w pa L m)
    (hc : ∀ M, ColAt enc et k T w M pa L m → Calls Tryz.prog f args w fun e w' => P e ∧ ColAt enc et k T w' (New M w w') pa L' m ∧ Tch M w w') :
    Calls Tryz.prog f args w fun e w' => P e ∧ ColX enc et k T base w' pa L' m ∧ Kx et T base w w' := by
  obtain ⟨M, h1, h2, h3⟩ := h
  refine (hc _ h1).mono fun e w' ⟨he, hp, ht⟩ => ⟨he, ⟨_, hp.shrink, fun b q => ?_, Nat.le_trans h3 ht.size⟩, ht.mono fun b e => ⟨(h2 b e).1, (h2 b e).2.2⟩⟩
  rcases q.1 with e | e
  · exact ⟨(h2 b e).1, Nat.lt_of_lt_of_le (h2 b e).2.1 ht.size, q.2⟩
  · exact ⟨by omega, e.2, q.2⟩
/-- A question that changes nothing that was there. -/
theorem ColX.read {P : Ending → World → Prop} {f : FuncId} {args : Array Value} (h : ColX enc et k T base w pa L m)
    (hc : ∀ M, ColAt enc et k T w M pa L m → Calls Tryz.prog f args w P) : Calls Tryz.prog f args w P := hc _ h.choose_spec.1
/-- A column that is new. -/
theorem ColX.new {w0 : World} (h : ColAt enc et k T w' (Fresh w0 w') pa L m) (hb : base ≤ w0.heap.size) (hs : w0.heap.size ≤ w'.heap.size) : ColX enc et k T base w' pa L m :=
  ⟨_, h.shrink, fun b e => by
    rcases e.1 with q | q
    · exact q.elim
    · exact ⟨by omega, q.2, e.2⟩, by omega⟩
end
end Go.Proofs.YtaehendpdfpibaaGreatDoor

/-
  Components in memory; Check, the ranges, the reference's Check; the order of components; the closures handed to the library.
-/
namespace Go.Proofs.YtaehendpdfpibaaGreatDoor
set_option linter.unusedSimpArgs false
set_option linter.unusedVariables false
open Go.RowKit Go.Sort Go.Lib Go.Shelf

def encV (x : Vl) : List Value := [.int .i64 x.1, .int .i64 x.2.1, .int .i64 x.2.2]
theorem lenV (x : Vl) : (encV x).length = 3 := rfl
theorem oneV (x : Vl) : ∀ v ∈ encV x, v.oneCell' = true := fun v hv => by simp [encV] at hv; rcases hv with rfl | rfl | rfl <;> rfl
theorem atV {w : World} {l : List Vl} {g o : Nat} (h : ∀ j u, (flat encV l)[j]? = some u → w.cell? ⟨g, o + j, none⟩ = some u) {i : Nat} (hi : i < l.length) :
    w.cell? ⟨g, o + i * 3, none⟩ = some (.int .i64 l[i]!.1) ∧ w.cell? ⟨g, o + i * 3 + 1, none⟩ = some (.int .i64 l[i]!.2.1) ∧ w.cell? ⟨g, o + i * 3 + 2, none⟩ = some (.int .i64 l[i]!.2.2) :=
  ⟨sl_at lenV h hi 0 _ rfl, sl_at lenV h hi 1 _ rfl, sl_at lenV h hi 2 _ rfl⟩
theorem apV : Ap encV 32 34 3 (.agg #[.int .i64 0, .int .i64 0, .int .i64 0]) 24 :=
  ⟨Tryz.underlying32, info_parts (by kernel_rfl), by decide, by decide, by decide, lenV, oneV⟩
/-- A component as a value. -/
def aggV (x : Vl) : Value := .agg #[.int .i64 x.1, .int .i64 x.2.1, .int .i64 x.2.2]
/-- An error by its number: none at 0. -/
def errV (A : Nat → Addr) (n : Nat) : Value := if n = 0 then .nilIface else .iface 258 (.pointer (some (A (n - 1))))
theorem errV_no (A : Nat → Addr) : errV A 0 = .nilIface := rfl
theorem errV_at (A : Nat → Addr) (n : Nat) (h : n ≠ 0) : errV A n = .iface 258 (.pointer (some (A (n - 1)))) := if_neg h

/-- The errors' variables that the code reads. -/
structure Er (w : World) (A : Nat → Addr) : Prop where
  range : w.cell? ⟨0, 0, none⟩ = some (.iface 258 (.pointer (some (A 0))))
  kind : w.cell? ⟨4, 0, none⟩ = some (.iface 258 (.pointer (some (A 4))))
theorem Er.below {w w' : World} {A : Nat → Addr} (h : Er w A) (hb : RowKit.Below w.heap.size w w') : Er w' A :=
  ⟨Bc hb (cell_lt h.range) h.range, Bc hb (cell_lt h.kind) h.kind⟩
theorem Er.k {w : World} {A : Nat → Addr} (h : Er w A) : ErrK w (A 4) := h.kind

/-! ### Ranges, Check. -/
theorem has_any (lo hi n : Int) (w : World) : Calls Tryz.prog 120 #[.agg #[.int .i64 lo, .int .i64 hi], .int .i64 n] w fun e w' => e = .returned (.bool (inV n (lo, hi))) ∧ Gr w w' := by
  go_enter Tryz.func120, Tryz.ntmps120
  go_wp2
  all_goals (go_ret; exact ⟨ret_bool (by simp [inV, *] <;> omega), (by repeat (first | with_reducible exact Gr.refl _ | with_reducible assumption | with_reducible apply Gr.alloc | with_reducible apply Gr.drewN | with_reducible apply Gr.drew | with_reducible apply Gr.grow | (with_reducible refine Gr.trans ?_ (by assumption))))⟩)
theorem in_any (n lo hi : Int) (w : World) : Calls Tryz.prog 135 #[.int .i64 n, .int .i64 lo, .int .i64 hi] w fun e w' => e = .returned (.bool (inV n (lo, hi))) ∧ w = w' := by
  go_enter Tryz.func135, Tryz.ntmps135
  go_wp2
  all_goals (go_ret; exact ⟨ret_bool (by simp [inV, *] <;> omega), rfl⟩)
/-- A kind's ranges, as the program hands them. -/
def rngA (k : Int) : Value := .tuple #[.agg #[.int .i64 (rngV k).1.1, .int .i64 (rngV k).1.2], .agg #[.int .i64 (rngV k).2.1, .int .i64 (rngV k).2.2]]

set_option maxHeartbeats 1000000 in
set_option maxRecDepth 100000 in
theorem spans_any (k : Int) (w : World) : Calls Tryz.prog 119 #[.int .i64 k] w fun e w' => e = .returned (rngA k) ∧ Gr w w' := by
  by_cases h0 : k = 0
  · subst h0
    rw [show rngA 0 = .tuple #[.agg #[.int .i64 (-1048576), .int .i64 1048576], .agg #[.int .i64 (-1048576), .int .i64 1048576]] from rfl]
    go_enter Tryz.func119, Tryz.ntmps119
    go_wp2_with fail
    go_region
    go_wp2
    exact bodyPost_ret (v := .tuple #[.agg #[.int .i64 (-1048576), .int .i64 1048576], .agg #[.int .i64 (-1048576), .int .i64 1048576]]) (by simp [results, Tryz.results119, go_sem, *]) rfl ⟨rfl, (by repeat (first | with_reducible exact Gr.refl _ | with_reducible assumption | with_reducible apply Gr.alloc | with_reducible apply Gr.drewN | with_reducible apply Gr.drew | with_reducible apply Gr.grow | (with_reducible refine Gr.trans ?_ (by assumption))))⟩
  · by_cases h2 : k = 2
    · subst h2
      rw [show rngA 2 = .tuple #[.agg #[.int .i64 (-1048576), .int .i64 1048576], .agg #[.int .i64 (-1048576), .int .i64 1048576]] from rfl]
      go_enter Tryz.func119, Tryz.ntmps119
      go_wp2_with fail
      go_region
      go_wp2
      exact bodyPost_ret (v := .tuple #[.agg #[.int .i64 (-1048576), .int .i64 1048576], .agg #[.int .i64 (-1048576), .int .i64 1048576]]) (by simp [results, Tryz.results119, go_sem, *]) rfl ⟨rfl, (by repeat (first | with_reducible exact Gr.refl _ | with_reducible assumption | with_reducible apply Gr.alloc | with_reducible apply Gr.drewN | with_reducible apply Gr.drew | with_reducible apply Gr.grow | (with_reducible refine Gr.trans ?_ (by assumption))))⟩
    · by_cases h1 : k = 1
      · subst h1
        rw [show rngA 1 = .tuple #[.agg #[.int .i64 0, .int .i64 1048576], .agg #[.int .i64 0, .int .i64 1048576]] from rfl]
        go_enter Tryz.func119, Tryz.ntmps119
        go_wp2_with fail
        go_region
        go_wp2
        exact bodyPost_ret (v := .tuple #[.agg #[.int .i64 0, .int .i64 1048576], .agg #[.int .i64 0, .int .i64 1048576]]) (by simp [results, Tryz.results119, go_sem, *]) rfl ⟨rfl, (by repeat (first | with_reducible exact Gr.refl _ | with_reducible assumption | with_reducible apply Gr.alloc | with_reducible apply Gr.drewN | with_reducible apply Gr.drew | with_reducible apply Gr.grow | (with_reducible refine Gr.trans ?_ (by assumption))))⟩
      · by_cases h3 : k = 3
        · subst h3
          rw [show rngA 3 = .tuple #[.agg #[.int .i64 0, .int .i64 0], .agg #[.int .i64 0, .int .i64 0]] from rfl]
          go_enter Tryz.func119, Tryz.ntmps119
          go_wp2
          exact bodyPost_ret (v := .tuple #[.agg #[.int .i64 0, .int .i64 0], .agg #[.int .i64 0, .int .i64 0]]) (by simp [results, Tryz.results119, go_sem, *]) rfl ⟨rfl, (by repeat (first | with_reducible exact Gr.refl _ | with_reducible assumption | with_reducible apply Gr.alloc | with_reducible apply Gr.drewN | with_reducible apply Gr.drew | with_reducible apply Gr.grow | (with_reducible refine Gr.trans ?_ (by assumption))))⟩
        · by_cases h4 : k = 4
          · subst h4
            rw [show rngA 4 = .tuple #[.agg #[.int .i64 0, .int .i64 255], .agg #[.int .i64 0, .int .i64 0]] from rfl]
            go_enter Tryz.func119, Tryz.ntmps119
            go_wp2
            exact bodyPost_ret (v := .tuple #[.agg #[.int .i64 0, .int .i64 255], .agg #[.int .i64 0, .int .i64 0]]) (by simp [results, Tryz.results119, go_sem, *]) rfl ⟨rfl, (by repeat (first | with_reducible exact Gr.refl _ | with_reducible assumption | with_reducible apply Gr.alloc | with_reducible apply Gr.drewN | with_reducible apply Gr.drew | with_reducible apply Gr.grow | (with_reducible refine Gr.trans ?_ (by assumption))))⟩
          · by_cases h5 : k = 5
            · subst h5
              rw [show rngA 5 = .tuple #[.agg #[.int .i64 0, .int .i64 1048576], .agg #[.int .i64 0, .int .i64 0]] from rfl]
              go_enter Tryz.func119, Tryz.ntmps119
              go_wp2
              exact bodyPost_ret (v := .tuple #[.agg #[.int .i64 0, .int .i64 1048576], .agg #[.int .i64 0, .int .i64 0]]) (by simp [results, Tryz.results119, go_sem, *]) rfl ⟨rfl, (by repeat (first | with_reducible exact Gr.refl _ | with_reducible assumption | with_reducible apply Gr.alloc | with_reducible apply Gr.drewN | with_reducible apply Gr.drew | with_reducible apply Gr.grow | (with_reducible refine Gr.trans ?_ (by assumption))))⟩
            · have e : rngA k = .tuple #[.agg #[.int .i64 (-4194304), .int .i64 4194304], .agg #[.int .i64 (-4194304), .int .i64 4194304]] := by simp [rngA, rngV, h0, h1, h2, h3, h4, h5]
              rw [e]
              clear e
              go_enter Tryz.func119, Tryz.ntmps119
              go_wp2_with fail
              go_region
              go_wp2
              exact bodyPost_ret (v := .tuple #[.agg #[.int .i64 (-4194304), .int .i64 4194304], .agg #[.int .i64 (-4194304), .int .i64 4194304]]) (by simp [results, Tryz.results119, go_sem, *]) rfl ⟨rfl, (by repeat (first | with_reducible exact Gr.refl _ | with_reducible assumption | with_reducible apply Gr.alloc | with_reducible apply Gr.drewN | with_reducible apply Gr.drew | with_reducible apply Gr.grow | (with_reducible refine Gr.trans ?_ (by assumption))))⟩
end Go.Proofs.YtaehendpdfpibaaGreatDoor

/-
  Check in the program and in the reference; what is wrong, the order by kind, rising.
-/
namespace Go.Proofs.YtaehendpdfpibaaGreatDoor
set_option linter.unusedSimpArgs false
set_option linter.unusedVariables false
open Go.RowKit Go.Sort Go.Lib Go.Shelf

theorem rngV_parts (k : Int) : ∃ a1 a2 b1 b2, rngV k = ((a1, a2), (b1, b2)) := ⟨_, _, _, _, rfl⟩

set_option maxHeartbeats 4000000 in
set_option maxRecDepth 100000 in
theorem check_any (x : Vl) (A : Nat → Addr) (w : World) (hE : Er w A) : Calls Tryz.prog 74 #[aggV x] w fun e w' => e = .returned (errV A (chk x)) ∧ Gr w w' := by
  obtain ⟨k, a, b⟩ := x
  have HE := Lib.hid hE
  clear hE
  unfold aggV
  dsimp only
  cases hk : kindB k
  · have e : chk (k, a, b) = 5 := by simp [chk, hk]
    rw [e, errV_at A 5 (by decide)]
    have HC : Hid (∀ W v, Sl encI W v [k] → ErrK W (A 4) → Calls Tryz.prog 67 #[v] W fun e w' => e = .returned (.tuple #[.int .u64 0, .iface 258 (.pointer (some (A 4)))]) ∧ Gr W w') := fun W v h1 h2 => by
      have := of_call [k] v (A 4) W h1 h2
      rwa [resK_no (by simp [hk])] at this
    clear e
    go_enter Tryz.func74, Tryz.ntmps74
    go_wp2_with (go_at_call 67; refine (HC.out _ _ (sl_lit [k] (by simp) rfl (by unfold maxLen; simp)) (HE.out.k.below (by repeat (first | with_reducible exact Below.refl _ _ | with_reducible assumption | with_reducible apply Ba | with_reducible apply Bd | with_reducible apply Bn | with_reducible apply Bg | (with_reducible refine Bs ?_ (by first | (simp; done) | (simp; omega)) _) | (with_reducible refine Bt ?_ (by assumption)) | (with_reducible refine Bt ?_ (Gr.below (by assumption))))))).mono ?_; rintro e w1 ⟨rfl, hg1⟩)
    go_ret
    exact ⟨rfl, (by repeat (first | with_reducible exact Gr.refl _ | with_reducible assumption | with_reducible apply Gr.alloc | with_reducible apply Gr.drewN | with_reducible apply Gr.drew | with_reducible apply Gr.grow | (with_reducible refine Gr.trans ?_ (by assumption))))⟩
  · obtain ⟨a1, a2, b1, b2, hr⟩ := rngV_parts k
    have e : chk (k, a, b) = if inV a (a1, a2) && inV b (b1, b2) then 0 else 1 := by simp [chk, hk, hr]
    rw [e]
    obtain ⟨m, hm⟩ : ∃ m : Nat, m = foldN true 0 [k] := ⟨_, rfl⟩
    have HC : Hid (∀ W v, Sl encI W v [k] → ErrK W (A 4) → Calls Tryz.prog 67 #[v] W fun e w' => e = .returned (.tuple #[.int .u64 m, .nilIface]) ∧ Gr W w') := fun W v h1 h2 => by
      have := of_call [k] v (A 4) W h1 h2
      rwa [resK_yes (by simp [hk]), ← hm] at this
    have HS : Hid (∀ W, Calls Tryz.prog 119 #[.int .i64 k] W fun e w' => e = .returned (.tuple #[.agg #[.int .i64 a1, .int .i64 a2], .agg #[.int .i64 b1, .int .i64 b2]]) ∧ Gr W w') := fun W => by
      have := spans_any k W
      unfold rngA at this
      rwa [hr] at this
    clear e hm hr
    cases ha : inV a (a1, a2)
    · simp only [Bool.false_and, Bool.false_eq_true, if_false]
      rw [errV_at A 1 (by decide)]
      have HA : Hid (∀ W, Calls Tryz.prog 120 #[.agg #[.int .i64 a1, .int .i64 a2], .int .i64 a] W fun e w' => e = .returned (.bool false) ∧ Gr W w') := fun W => by
        have := has_any a1 a2 a W
        rwa [ha] at this
      clear ha
      go_enter Tryz.func74, Tryz.ntmps74
      go_wp2_with (first
        | (go_at_call 67; refine (HC.out _ _ (sl_lit [k] (by simp) rfl (by unfold maxLen; simp)) (HE.out.k.below (by repeat (first | with_reducible exact Below.refl _ _ | with_reducible assumption | with_reducible apply Ba | with_reducible apply Bd | with_reducible apply Bn | with_reducible apply Bg | (with_reducible refine Bs ?_ (by first | (simp; done) | (simp; omega)) _) | (with_reducible refine Bt ?_ (by assumption)) | (with_reducible refine Bt ?_ (Gr.below (by assumption))))))).mono ?_; rintro e w1 ⟨rfl, hg1⟩; have b1' := hg1.below; have c0 : w1.cell? ⟨w.heap.size, 0, none⟩ = some (.int .i64 k) := Bc b1' (by simp; omega) (by simp); have c1 : w1.cell? ⟨w.heap.size, 1, none⟩ = some (.int .i64 a) := Bc b1' (by simp; omega) (by simp); have hl1 : w.heap.size < w1.heap.size := Bl b1' (by simp; omega); have E1 := Lib.hid (HE.out.below (w' := w1) (by repeat (first | with_reducible exact Below.refl _ _ | with_reducible assumption | with_reducible apply Ba | with_reducible apply Bd | with_reducible apply Bn | with_reducible apply Bg | (with_reducible refine Bs ?_ (by first | (simp; done) | (simp; omega)) _) | (with_reducible refine Bt ?_ (by assumption)) | (with_reducible refine Bt ?_ (Gr.below (by assumption)))))); clear b1')
        | (go_at_call 119; refine (HS.out _).mono ?_; rintro e w2 ⟨rfl, hg2⟩; have b2' := hg2.below; have d1 : w2.cell? ⟨w.heap.size, 1, none⟩ = some (.int .i64 a) := Bc b2' hl1 c1; have hl2 : w.heap.size < w2.heap.size := Bl b2' hl1; have E2 := Lib.hid (E1.out.below b2'); clear b2')
        | (go_at_call 120; refine (HA.out _).mono ?_; rintro e w3 ⟨rfl, hg3⟩; have r3 := (E2.out.below (w' := w3) (by repeat (first | with_reducible exact Below.refl _ _ | with_reducible assumption | with_reducible apply Ba | with_reducible apply Bd | with_reducible apply Bn | with_reducible apply Bg | (with_reducible refine Bs ?_ (by first | (simp; done) | (simp; omega)) _) | (with_reducible refine Bt ?_ (by assumption)) | (with_reducible refine Bt ?_ (Gr.below (by assumption)))))).range))
      go_ret
      exact ⟨rfl, (by repeat (first | with_reducible exact Gr.refl _ | with_reducible assumption | with_reducible apply Gr.alloc | with_reducible apply Gr.drewN | with_reducible apply Gr.drew | with_reducible apply Gr.grow | (with_reducible refine Gr.trans ?_ (by assumption))))⟩
    · simp only [Bool.true_and]
      generalize hq : inV b (b1, b2) = q
      cases q
      · rw [if_neg (by simp), errV_at A 1 (by decide)]
        go_enter Tryz.func74, Tryz.ntmps74
        go_wp2_with (first
          | (go_at_call 67; refine (HC.out _ _ (sl_lit [k] (by simp) rfl (by unfold maxLen; simp)) (HE.out.k.below (by repeat (first | with_reducible exact Below.refl _ _ | with_reducible assumption | with_reducible apply Ba | with_reducible apply Bd | with_reducible apply Bn | with_reducible apply Bg | (with_reducible refine Bs ?_ (by first | (simp; done) | (simp; omega)) _) | (with_reducible refine Bt ?_ (by assumption)) | (with_reducible refine Bt ?_ (Gr.below (by assumption))))))).mono ?_; rintro e w1 ⟨rfl, hg1⟩; have b1' := hg1.below; have c0 : w1.cell? ⟨w.heap.size, 0, none⟩ = some (.int .i64 k) := Bc b1' (by simp; omega) (by simp); have c1 : w1.cell? ⟨w.heap.size, 1, none⟩ = some (.int .i64 a) := Bc b1' (by simp; omega) (by simp); have c2 : w1.cell? ⟨w.heap.size, 2, none⟩ = some (.int .i64 b) := Bc b1' (by simp; omega) (by simp); have hl1 : w.heap.size < w1.heap.size := Bl b1' (by simp; omega); have E1 := Lib.hid (HE.out.below (w' := w1) (by repeat (first | with_reducible exact Below.refl _ _ | with_reducible assumption | with_reducible apply Ba | with_reducible apply Bd | with_reducible apply Bn | with_reducible apply Bg | (with_reducible refine Bs ?_ (by first | (simp; done) | (simp; omega)) _) | (with_reducible refine Bt ?_ (by assumption)) | (with_reducible refine Bt ?_ (Gr.below (by assumption)))))); clear b1')
          | (go_at_call 119; refine (HS.out _).mono ?_; rintro e w2 ⟨rfl, hg2⟩; have b2' := hg2.below; have d1 : w2.cell? ⟨w.heap.size, 1, none⟩ = some (.int .i64 a) := Bc b2' hl1 c1; have d2 : w2.cell? ⟨w.heap.size, 2, none⟩ = some (.int .i64 b) := Bc b2' hl1 c2; have hl2 : w.heap.size < w2.heap.size := Bl b2' hl1; have E2 := Lib.hid (E1.out.below b2'); clear b2' c0 c1 c2)
          | (go_at_call 120; refine (has_any _ _ _ _).mono ?_; rintro e w3 ⟨rfl, hg3⟩; have b3 := hg3.below; have f2 : w3.cell? ⟨w.heap.size, 2, none⟩ = some (.int .i64 b) := Bc (W := w2) (by repeat (first | with_reducible exact Below.refl _ _ | with_reducible assumption | with_reducible apply Ba | with_reducible apply Bd | with_reducible apply Bn | with_reducible apply Bg | (with_reducible refine Bs ?_ (by first | (simp; done) | (simp; omega)) _) | (with_reducible refine Bt ?_ (by assumption)) | (with_reducible refine Bt ?_ (Gr.below (by assumption))))) hl2 d2; have f3 : w3.cell? ⟨w2.heap.size + 1, 0, none⟩ = some (.int .i64 b1) := Bc b3 (by simp) (by simp); have f4 : w3.cell? ⟨w2.heap.size + 1, 1, none⟩ = some (.int .i64 b2) := Bc b3 (by simp) (by simp); have E3 := Lib.hid (E2.out.below (w' := w3) (by repeat (first | with_reducible exact Below.refl _ _ | with_reducible assumption | with_reducible apply Ba | with_reducible apply Bd | with_reducible apply Bn | with_reducible apply Bg | (with_reducible refine Bs ?_ (by first | (simp; done) | (simp; omega)) _) | (with_reducible refine Bt ?_ (by assumption)) | (with_reducible refine Bt ?_ (Gr.below (by assumption)))))); clear b3)
          | (go_at_call 120; refine (has_any _ _ _ _).mono ?_; rintro e w4 ⟨rfl, hg4⟩; have r4 := (E3.out.below (w' := w4) hg4.below).range))
        go_ret
        exact ⟨rfl, (by repeat (first | with_reducible exact Gr.refl _ | with_reducible assumption | with_reducible apply Gr.alloc | with_reducible apply Gr.drewN | with_reducible apply Gr.drew | with_reducible apply Gr.grow | (with_reducible refine Gr.trans ?_ (by assumption))))⟩
      · rw [if_pos rfl, errV_no A]
        go_enter Tryz.func74, Tryz.ntmps74
        go_wp2_with (first
          | (go_at_call 67; refine (HC.out _ _ (sl_lit [k] (by simp) rfl (by unfold maxLen; simp)) (HE.out.k.below (by repeat (first | with_reducible exact Below.refl _ _ | with_reducible assumption | with_reducible apply Ba | with_reducible apply Bd | with_reducible apply Bn | with_reducible apply Bg | (with_reducible refine Bs ?_ (by first | (simp; done) | (simp; omega)) _) | (with_reducible refine Bt ?_ (by assumption)) | (with_reducible refine Bt ?_ (Gr.below (by assumption))))))).mono ?_; rintro e w1 ⟨rfl, hg1⟩; have b1' := hg1.below; have c0 : w1.cell? ⟨w.heap.size, 0, none⟩ = some (.int .i64 k) := Bc b1' (by simp; omega) (by simp); have c1 : w1.cell? ⟨w.heap.size, 1, none⟩ = some (.int .i64 a) := Bc b1' (by simp; omega) (by simp); have c2 : w1.cell? ⟨w.heap.size, 2, none⟩ = some (.int .i64 b) := Bc b1' (by simp; omega) (by simp); have hl1 : w.heap.size < w1.heap.size := Bl b1' (by simp; omega); have E1 := Lib.hid (HE.out.below (w' := w1) (by repeat (first | with_reducible exact Below.refl _ _ | with_reducible assumption | with_reducible apply Ba | with_reducible apply Bd | with_reducible apply Bn | with_reducible apply Bg | (with_reducible refine Bs ?_ (by first | (simp; done) | (simp; omega)) _) | (with_reducible refine Bt ?_ (by assumption)) | (with_reducible refine Bt ?_ (Gr.below (by assumption)))))); clear b1')
          | (go_at_call 119; refine (HS.out _).mono ?_; rintro e w2 ⟨rfl, hg2⟩; have b2' := hg2.below; have d1 : w2.cell? ⟨w.heap.size, 1, none⟩ = some (.int .i64 a) := Bc b2' hl1 c1; have d2 : w2.cell? ⟨w.heap.size, 2, none⟩ = some (.int .i64 b) := Bc b2' hl1 c2; have hl2 : w.heap.size < w2.heap.size := Bl b2' hl1; have E2 := Lib.hid (E1.out.below b2'); clear b2' c0 c1 c2)
          | (go_at_call 120; refine (has_any _ _ _ _).mono ?_; rintro e w3 ⟨rfl, hg3⟩; have b3 := hg3.below; have f2 : w3.cell? ⟨w.heap.size, 2, none⟩ = some (.int .i64 b) := Bc (W := w2) (by repeat (first | with_reducible exact Below.refl _ _ | with_reducible assumption | with_reducible apply Ba | with_reducible apply Bd | with_reducible apply Bn | with_reducible apply Bg | (with_reducible refine Bs ?_ (by first | (simp; done) | (simp; omega)) _) | (with_reducible refine Bt ?_ (by assumption)) | (with_reducible refine Bt ?_ (Gr.below (by assumption))))) hl2 d2; have f3 : w3.cell? ⟨w2.heap.size + 1, 0, none⟩ = some (.int .i64 b1) := Bc b3 (by simp) (by simp); have f4 : w3.cell? ⟨w2.heap.size + 1, 1, none⟩ = some (.int .i64 b2) := Bc b3 (by simp) (by simp); have E3 := Lib.hid (E2.out.below (w' := w3) (by repeat (first | with_reducible exact Below.refl _ _ | with_reducible assumption | with_reducible apply Ba | with_reducible apply Bd | with_reducible apply Bn | with_reducible apply Bg | (with_reducible refine Bs ?_ (by first | (simp; done) | (simp; omega)) _) | (with_reducible refine Bt ?_ (by assumption)) | (with_reducible refine Bt ?_ (Gr.below (by assumption)))))); clear b3)
          | (go_at_call 120; refine (has_any _ _ _ _).mono ?_; rintro e w4 ⟨rfl, hg4⟩; have r4 := (E3.out.below (w' := w4) hg4.below).range))
        go_ret
        exact ⟨rfl, (by repeat (first | with_reducible exact Gr.refl _ | with_reducible assumption | with_reducible apply Gr.alloc | with_reducible apply Gr.drewN | with_reducible apply Gr.drew | with_reducible apply Gr.grow | (with_reducible refine Gr.trans ?_ (by assumption))))⟩
end Go.Proofs.YtaehendpdfpibaaGreatDoor
