/-
  Drop and Put of the program.
-/
import Derived.Test.YtbmclbajhgabgaaDoorVr
namespace Go.Proofs.YtbmclbajhgabgaaDoor
set_option linter.unusedSimpArgs false
set_option linter.unusedVariables false
open Go.RowKit Go.Sort Go.Lib Go.Shelf

section
variable {α : Type} [Inhabited α] {enc : α → List Value} {k : Nat}
theorem holds_prefix (hk : ∀ x, (enc x).length = k) {w : World} {b o : Nat} {d : Array α} {L : List α} (h : HoldsK enc k w b o d) (hl : L.length ≤ d.size) (hg : ∀ j, j < L.length → L[j]? = some d[j]!) : HoldsK enc k w b o L.toArray := fun j hj => by
  have hj' : j < L.length * k := by simpa using hj
  have k0 : 0 < k := by
    rcases Nat.eq_zero_or_pos k with e | e
    · subst e; simp at hj'
    · exact e
  have hq : j / k < L.length := Nat.div_lt_of_lt_mul (by rw [Nat.mul_comm]; exact hj')
  have hjd : j < d.size * k := Nat.lt_of_lt_of_le hj' (Nat.mul_le_mul_right k hl)
  have := h j (by simpa using hjd)
  rw [get_flatK _ _ _ j hjd] at this
  rw [get_flatK _ _ _ j (by simpa using hj'), arr_get]
  have e : L[j / k]! = d[j / k]! := by
    have := hg (j / k) hq
    rw [List.getElem?_eq_getElem hq] at this
    rw [getElem!_pos L (j / k) hq]
    exact Option.some.inj this
  rw [e]
  exact this
end
set_option maxHeartbeats 1000000 in
theorem delete_nil (cv : Value) (w : World) : Calls Tryd.prog 51 #[.slice none 0 0, .func (.func 52) #[] #[cv]] w fun e w' => e = .returned (.slice none 0 0) ∧ w' = w := by
  have HI : Hid (∀ W, Calls Tryd.prog 61 #[.slice none 0 0, .func (.func 52) #[] #[cv]] W fun e w' => e = .returned (.int .i64 (-1)) ∧ w' = W) := fun W => by
    go_enter Tryd.func61, Tryd.ntmps61
    go_wp2
    refine wp_loop_rounds 1 ?_
    rw [rounds_succ]
    go_wp2
    go_ret
    exact ⟨rfl, rfl⟩
  go_enter Tryd.func51, Tryd.ntmps51
  go_wp2_with fail
  refine (HI.out _).mono ?_
  rintro e w1 ⟨rfl, rfl⟩
  go_wp2
  go_ret
  exact ⟨rfl, rfl⟩

set_option maxHeartbeats 1000000 in
set_option maxRecDepth 100000 in
theorem drop_call (l : List Vl) (v : Value) (k : Int) (w : World) (hl : Sl encV w v l) (hlen : l.length ≤ 100000) :
    Calls Tryd.prog 28 #[v, .int .i64 k] w fun e w' => ∃ v', e = .returned v' ∧ w'.ownsRow (w.heap.size + 1) 23 3 v' (dropV l k).length (flat encV (dropV l k)) ∧ RowKit.Below w.heap.size w w' := by
  have HS := Lib.hid (hl.below (Ba (Below.refl _ w) (.cells #[.int .i64 k] 3)))
  clear hl
  go_enter Tryd.func28, Tryd.ntmps28
  go_wp2_with fail
  refine (cloneV_call l v _ HS.out hlen).mono ?_
  rintro e w1 ⟨v1, rfl, _, ho1, hb1⟩
  have hk1 : w1.cell? ⟨w.heap.size, 0, none⟩ = some (.int .i64 k) := Bc hb1 (by simp) (by simp)
  have hs1 : w.heap.size + 1 ≤ w1.heap.size := by have := hb1.size; simpa using this
  have hB0 : RowKit.Below w.heap.size w w1 := Bt (Ba (Below.refl _ w) _) hb1
  have hsz : (w.alloc (.cells #[.int .i64 k] 3)).heap.size = w.heap.size + 1 := by simp
  rw [hsz] at ho1
  have HP : PredD (w.heap.size + 1) w1 (.pointer (some ⟨w.heap.size, 0, none⟩)) (fun x => x.1 == k) := fun W hW a b c => drop1_any (a, b, c) k ⟨w.heap.size, 0, none⟩ W ((hW.cell (p := ⟨w.heap.size, 0, none⟩) (by simp)).trans hk1) rfl
  rcases ho1.2 with ⟨rfl, h0⟩ | ⟨g, cap, cur, rfl, hb, hg, hc, hm, hs, _⟩
  · have hl0 : l = [] := List.length_eq_zero_iff.1 h0
    have HB := Lib.hid hB0
    clear ho1 hb1 hk1 hs1 hB0 hsz HP HS h0
    subst hl0
    go_wp2_with fail
    refine (delete_nil _ w1).mono ?_
    rintro e w2 ⟨rfl, rfl⟩
    go_wp2
    go_ret
    exact ⟨_, rfl, ⟨by simp [dropV, flat], .inl ⟨rfl, rfl⟩⟩, HB.out⟩
  · have hgl : g < w1.heap.size := (Array.getElem?_eq_some_iff.1 hg).1
    have hH : HoldsK encV 3 w1 g 0 l.toArray := holds_of_flat lenV fun j u hu => ⟨cellsI ho1 j u hu, by rw [Nat.zero_add]; simp [World.frozen?, hg]⟩
    have hD := Lib.hid (deleteVD_call (w.heap.size + 1) w1 (.pointer (some ⟨w.heap.size, 0, none⟩)) (fun x => x.1 == k) HP g cap l.toArray w1 hH hgl hb (Below.refl _ _) (by simp; omega) (by simp; exact hc) (by unfold maxLen at hm; omega))
    have HB := Lib.hid hB0
    have HG := Lib.hid (show w1.heap[g]? = some (.cells cur 23 (0, 0)) ∧ cur.size = cap * 3 ∧ l.length ≤ cap ∧ cap ≤ maxLen ∧ w.heap.size + 1 ≤ g from ⟨hg, hs, hc, hm, hb⟩)
    have hsl : l.toArray.size = l.length := by simp
    rw [hsl] at hD
    clear ho1 hb1 hk1 hs1 hB0 hsz HP HS hH hg hb hc hm hs hsl hgl
    go_wp2_with fail
    refine hD.out.mono ?_
    rintro e w2 ⟨rfl, ⟨d', hds, hlow, hH2⟩, hsz2, hb2, hshp⟩
    have HLOW := Lib.hid hlow
    have HH2 := Lib.hid hH2
    have HX := Lib.hid (show w1.heap.size ≤ w2.heap.size ∧ RowKit.Below (w.heap.size + 1) w1 w2 ∧ Shp g w1 w2 ∧ d'.size = l.toArray.size from ⟨hsz2, hb2, hshp, hds⟩)
    clear hlow hH2 hsz2 hb2 hshp hds
    go_wp2
    go_ret
    obtain ⟨hg, hs, hc, hm, hb⟩ := HG.out
    obtain ⟨hsz2, hb2, hshp, hds⟩ := HX.out
    have e0 : (l.toArray.toList.filter fun x => !((fun x : Vl => x.1 == k) x)) = dropV l k := rfl
    have hlow := HLOW.out
    rw [e0] at hlow ⊢
    have hle : (dropV l k).length ≤ l.length := List.length_filter_le _ _
    obtain ⟨cur', hg', hs'⟩ := hshp cur _ _ hg
    have hH3 := holds_prefix lenV HH2.out (L := dropV l k) (by rw [hds]; simpa using hle) hlow
    have hrow := row_of_cells lenV (base := w.heap.size + 1) (dropV l k) hg' hb (by rw [hs', hs]) (by omega) hm (fun j u hu => by
      have := (flat_of_holds lenV hH3 j u hu).1
      rwa [Nat.zero_add] at this)
    exact ⟨_, rfl, hrow, HB.out.trans (hb2.mono (Nat.le_succ _))⟩

set_option maxHeartbeats 1000000 in
set_option maxRecDepth 100000 in
theorem put_call (l : List Vl) (v : Value) (x1 x2 x3 : Int) (w : World) (hl : Sl encV w v l) (hr : RiseK l) (hlen : l.length ≤ 1000) :
    Calls Tryd.prog 27 #[v, .agg #[.int .i64 x1, .int .i64 x2, .int .i64 x3]] w fun e w' => (∃ v', e = .returned v' ∧ Sl encV w' v' (putV l (x1, x2, x3))) ∧ RowKit.Below w.heap.size w w' := by
  have HS := Lib.hid (hl.below (Ba (Below.refl _ w) (.cells #[.int .i64 x1, .int .i64 x2, .int .i64 x3] 23)))
  have hrd : RiseK (dropV l x1) := rkFilter _ hr
  have hld : (dropV l x1).length ≤ 1000 := Nat.le_trans (List.length_filter_le _ _) hlen
  obtain ⟨D, hD⟩ : ∃ D, D = dropV l x1 := ⟨_, rfl⟩
  have hput : putV l (x1, x2, x3) = D.take (lessK x1 D) ++ [(x1, x2, x3)] ++ D.drop (lessK x1 D) := by subst hD; rfl
  have HD := Lib.hid (drop_call l v x1 (w.alloc (.cells #[.int .i64 x1, .int .i64 x2, .int .i64 x3] 23)) HS.out (by omega))
  rw [hput]
  rw [← hD] at hrd hld HD
  obtain ⟨n, hn⟩ : ∃ n, n = lessK x1 D := ⟨_, rfl⟩
  have hnl : n ≤ D.length := by rw [hn]; exact lessK_le _ _
  rw [← hn]
  have HR := Lib.hid hrd
  have HN := Lib.hid hn
  clear hl hr hD hput hrd hn
  go_enter Tryd.func27, Tryd.ntmps27
  go_wp2_with fail
  refine HD.out.mono ?_
  rintro e w1 ⟨v1, rfl, ho1, hb1⟩
  have c0 : w1.cell? ⟨w.heap.size, 0, none⟩ = some (.int .i64 x1) := Bc hb1 (by simp) (by simp)
  have c1 : w1.cell? ⟨w.heap.size, 1, none⟩ = some (.int .i64 x2) := Bc hb1 (by simp) (by simp)
  have c2 : w1.cell? ⟨w.heap.size, 2, none⟩ = some (.int .i64 x3) := Bc hb1 (by simp) (by simp)
  have hl1 : w.heap.size < w1.heap.size := by have := hb1.size; simp at this; omega
  have HB1 := Lib.hid (Bt (Ba (Below.refl _ w) _) hb1)
  have HO1 := Lib.hid ho1
  have HS1 := Lib.hid (row_sl lenV ho1 rfl)
  clear ho1 hb1 HD
  go_wp2_with fail
  refine (searchV_call D v1 x1 x2 x3 w1 HS1.out HR.out (by omega)).mono ?_
  rintro e w2 ⟨⟨b, rfl⟩, hg2⟩
  rw [← HN.out]
  have b2 := hg2.below
  have d0 : w2.cell? ⟨w.heap.size, 0, none⟩ = some (.int .i64 x1) := Bc b2 hl1 c0
  have d1 : w2.cell? ⟨w.heap.size, 1, none⟩ = some (.int .i64 x2) := Bc b2 hl1 c1
  have d2 : w2.cell? ⟨w.heap.size, 2, none⟩ = some (.int .i64 x3) := Bc b2 hl1 c2
  have HB2 := Lib.hid (Bt HB1.out b2)
  have HO2 := Lib.hid (show w2.ownsRow ((w.alloc (.cells #[.int .i64 x1, .int .i64 x2, .int .i64 x3] 23)).heap.size + 1) 23 3 v1 D.length (flat encV D) from row_keep HO1.out (fun g hg => b2.block g (row_lt HO1.out hg)))
  have HO3 := Lib.hid (show (w2.alloc (.cells #[.int .i64 x1, .int .i64 x2, .int .i64 x3] 23)).ownsRow w.heap.size 23 3 v1 D.length (flat encV D) from row_keep (by
      have := HO2.out
      refine ⟨this.1, ?_⟩
      rcases this.2 with h | ⟨g, cap, cur, e, hb, r⟩
      · exact .inl h
      · exact .inr ⟨g, cap, cur, e, by simp at hb; omega, r⟩) (fun g hg => (Ba (Below.refl _ w2) (.cells #[.int .i64 x1, .int .i64 x2, .int .i64 x3] 23)).block g (row_lt HO2.out hg)))
  have HNE := Lib.hid (fun g (hg : v1.ownBlock = some g) => show g ≠ w2.heap.size from by have := row_lt HO2.out hg; omega)
  clear c0 c1 c2 b2
  go_wp2_with fail
  refine (insertV_call D n hnl (x1, x2, x3) w.heap.size v1 w2.heap.size _ HO3.out (show (w2.heap.push _)[w2.heap.size]? = some _ from Array.getElem?_push_size) HNE.out hld (by have := HB2.out.size; simp; omega)).mono ?_
  rintro e w3 ⟨v3, rfl, ho3, hb3⟩
  have HO4 := Lib.hid ho3
  have HB3 := Lib.hid (((HB2.out).alloc HB2.out.size (.cells #[.int .i64 x1, .int .i64 x2, .int .i64 x3] 23)).trans hb3)
  clear ho3 hb3
  go_wp2
  go_ret
  exact ⟨⟨v3, rfl, row_sl lenV HO4.out (by simp; omega)⟩, HB3.out⟩
end Go.Proofs.YtbmclbajhgabgaaDoor
