import Derived.Test.YtlnncnbahmgpfaaDoorZ29
import Derived.Test.YtlnncnbahmgpfaaDoorZ44
import Derived.RangeFuncBox
import Derived.Test.YtlnncnbahmgpfaaDoorZ45
import Derived.Deep.RegionHeld3
import Derived.Test.YtlnncnbahmgpfaaDoorZ13

/-
  The walk of QuadWalks.
-/
namespace Go.Proofs.YtlnncnbahmgpfaaDoor
set_option linter.unusedSimpArgs false
set_option linter.unusedVariables false
open Go.RowKit Go.Sort Go.Lib Go.Shelf

/-- What the law keeps in memory beside the tree: how deep, left or not, the boxes that are wanted, the boxes. -/
structure Wk (bd bf bw b3 mp : Nat) (p0 : Option Addr) (n c0 : Nat) (d : Int) (left : Bool) (c : Nat) (f : Hd → Option Bool) (w : World) : Prop where
  deep : w.heap[bd]? = some (.cells #[.int .i64 d] 3 (0, 0))
  left : w.heap[bf]? = some (.cells #[.bool left] 4 (0, 0))
  want : w.heap[bw]? = some (.cells #[.map (some mp)] 46 (0, 0))
  row : w.heap[b3]? = some (.cells #[.slice p0 n c0] 43 (0, 0))
  map : MapW w mp c f
def ZW (bd bf bw b3 mp b : Nat) : Prop := b = bd ∨ b = bf ∨ b = bw ∨ b = b3 ∨ b = mp
theorem Wk.kept {bd bf bw b3 mp : Nat} {p0 : Option Addr} {n c0 : Nat} {d : Int} {left : Bool} {c : Nat} {f : Hd → Option Bool} {w w' : World} {R : Nat → Prop} (h : Wk bd bf bw b3 mp p0 n c0 d left c f w) (t : Tch R w w') (hR : ∀ b, R b → ¬ ZW bd bf bw b3 mp b) : Wk bd bf bw b3 mp p0 n c0 d left c f w' :=
  ⟨t.blk h.deep (fun r => hR _ r (.inl rfl)), t.blk h.left (fun r => hR _ r (.inr (.inl rfl))), t.blk h.want (fun r => hR _ r (.inr (.inr (.inl rfl)))), t.blk h.row (fun r => hR _ r (.inr (.inr (.inr (.inl rfl))))), h.map.kept t (fun r => hR _ r (.inr (.inr (.inr (.inr rfl)))))⟩
theorem Wk.below {bd bf bw b3 mp : Nat} {p0 : Option Addr} {n c0 : Nat} {d : Int} {left : Bool} {c : Nat} {f : Hd → Option Bool} {w w' : World} (h : Wk bd bf bw b3 mp p0 n c0 d left c f w) (t : RowKit.Below w.heap.size w w') : Wk bd bf bw b3 mp p0 n c0 d left c f w' := h.kept (R := fun _ => False) (Tch.of t) (fun _ e => e.elim)
/-- What Up answers at a cell that is one. -/
theorem up_any (p : Cl → Bool) {k : Nat} (hk : k ≤ 8) {x y : Int} (h1 : 0 ≤ x) (h2 : x < pwI k) (h3 : 0 ≤ y) (h4 : y < pwI k) : ∃ (mo : Bool) (u1 u2 u3 : Int), (∀ w, Calls Tryd.prog 13 #[clV ((k : Int), x, y)] w fun e w' => e = .returned (.tuple #[clV (u1, u2, u3), .bool mo]) ∧ RowKit.Below w.heap.size w w') ∧ upN mo (u1, u2, u3) < k + 1 ∧ ∀ tot b, (b && allUp p k x y) = tot → UpR p tot (b && p ((k : Int), x, y)) mo (u1, u2, u3) := by
  have h5 := fun w => qUp_call (k : Int) x y w
  have h6 := @upN_next k x y
  have h7 := fun tot b h => UpR.next (p := p) (tot := tot) (b := b) hk h1 h2 h3 h4 h
  generalize (if (rightC ((k : Int), x, y) && decide (0 < (k : Int))) = true then upC ((k : Int), x, y) else (0, 0, 0)) = u at *
  obtain ⟨u1, u2, u3⟩ := u
  exact ⟨_, u1, u2, u3, h5, h6, h7⟩
/-- How long the way up still is, of what lies in memory. -/
def upM (v15 v16 : Value) (w : World) : Nat := match v16, v15 with
  | .bool true, .pointer (some a) => (match w.cell? a with | some (.int _ n) => n.toNat + 1 | _ => 0)
  | _, _ => 0
theorem upM_eq {w : World} {bu : Nat} {mo : Bool} {u1 : Int} {c : Cl} (h : w.cell? ⟨bu, 0, none⟩ = some (.int .i64 u1)) (hc : c.1 = u1) : upM (.pointer (some ⟨bu, 0, none⟩)) (.bool mo) w = upN mo c := by
  subst hc
  cases mo
  · rfl
  · simp [upM, upN, h]
theorem set3q {w : World} {b : Nat} {t : TypeId} {a1 a2 a3 x1 x2 x3 : Value} (h : w.heap[b]? = some (.cells #[a1, a2, a3] t (0, 0))) : (((w.setCell ⟨b, 0, none⟩ x1).setCell ⟨b, 1, none⟩ x2).setCell ⟨b, 2, none⟩ x3).heap[b]? = some (.cells #[x1, x2, x3] t (0, 0)) := by
  have e1 := heap_setCell_same w b 0 #[a1, a2, a3] t x1 h
  have e1' : (w.setCell ⟨b, 0, none⟩ x1).heap[b]? = some (.cells #[x1, a2, a3] t (0, 0)) := by simpa using e1
  have e2 := heap_setCell_same _ b 1 #[x1, a2, a3] t x2 e1'
  have e2' : ((w.setCell ⟨b, 0, none⟩ x1).setCell ⟨b, 1, none⟩ x2).heap[b]? = some (.cells #[x1, x2, a3] t (0, 0)) := by simpa using e2
  have e3 := heap_setCell_same _ b 2 #[x1, x2, a3] t x3 e2'
  simpa using e3
section
variable {eR eN eF : TypeId × Value}
set_option maxHeartbeats 4000000 in
set_option maxRecDepth 100000 in
theorem quadWalks_walk (l : List Bx4) (v : Value) (dp : Int) (left : Bool) (W : World) (hv : Sl encX W v l) (hE : Er3 W eR eN eF) :
    Calls Tryd.prog 5 #[v, .int .i64 dp, .bool left] W fun e w' => e = .returned (.bool true) ∧ RowKit.Below W.heap.size W w' := by
  obtain ⟨p0, c0, rfl, v1, v2, v3⟩ := hv
  unfold maxLen at v2
  have HV := Lib.hid v3
  have HE := Lib.hid hE
  have hel := cell_lt hE.eN
  have bA := Ba (Ba (Ba (Below.refl _ W) (.cells #[.slice p0 l.length c0] 43)) (.cells #[.int .i64 dp] 3)) (.cells #[.bool left] 4)
  have AL := Lib.hid (alive_any _ (hE.below bA))
  have NS := Lib.hid newT_call
  have HC := Lib.hid (show ∀ w, RowKit.Below (W.heap.size + 3) (((W.alloc (.cells #[.slice p0 l.length c0] 43)).alloc (.cells #[.int .i64 dp] 3)).alloc (.cells #[.bool left] 4)) w → w.heap[W.heap.size]? = some (.cells #[.slice p0 l.length c0] 43 (0, 0)) ∧ w.heap[W.heap.size + 1]? = some (.cells #[.int .i64 dp] 3 (0, 0)) ∧ w.heap[W.heap.size + 2]? = some (.cells #[.bool left] 4 (0, 0)) from fun w hb => by
    have h1 := blk_below (blk_below (heap_alloc_new W (.cells #[.slice p0 l.length c0] 43)) (Ba (Below.refl _ _) (.cells #[.int .i64 dp] 3))) (Ba (Below.refl _ _) (.cells #[.bool left] 4))
    have h2 := blk_below (heap_alloc_new (W.alloc (.cells #[.slice p0 l.length c0] 43)) (.cells #[.int .i64 dp] 3)) (Ba (Below.refl _ _) (.cells #[.bool left] 4))
    have h3 := heap_alloc_new ((W.alloc (.cells #[.slice p0 l.length c0] 43)).alloc (.cells #[.int .i64 dp] 3)) (.cells #[.bool left] 4)
    have hsz : ∀ (w : World) o, (w.alloc o).heap.size = w.heap.size + 1 := fun w o => by simp
    simp only [hsz] at h2 h3
    exact ⟨(hb.block _ (by omega)).trans h1, (hb.block _ (by omega)).trans h2, (hb.block _ (by omega)).trans h3⟩)
  have hs0 : (((W.alloc (.cells #[.slice p0 l.length c0] 43)).alloc (.cells #[.int .i64 dp] 3)).alloc (.cells #[.bool left] 4)).heap.size = W.heap.size + 3 := by simp
  clear v3 hE
  by_cases h1 : l.length ≤ 40
  case neg =>
    have hz : (l.length : Int) > 40 := by omega
    go_enter Tryd.func5, Tryd.ntmps5
    go_wp2_with fail
    refine AL.out.mono ?_
    rintro e w1 ⟨rfl, hb1⟩
    rw [hs0] at hb1
    obtain ⟨k1, _⟩ := HC.out w1 hb1
    obtain ⟨k1, _⟩ := one_c k1
    have B1 := Bt bA (Below.mono hb1 (by omega))
    go_wp2
    go_ret
    exact ⟨rfl, B1⟩
  have hz : ¬ (l.length : Int) > 40 := by omega
  obtain ⟨dd, _, hdd⟩ := idx_any dp 10 (by omega) (by omega)
  have hmm := @run_makeMap Tryd.prog
  go_enter Tryd.func5, Tryd.ntmps5
  go_wp2_with fail
  refine AL.out.mono ?_
  rintro e w1 ⟨rfl, hb1⟩
  rw [hs0] at hb1
  obtain ⟨k3, k4, k5⟩ := HC.out w1 hb1
  have B1 := Lib.hid (Bt bA (Below.mono hb1 (by omega)))
  have H1 := Lib.hid hb1
  have K3 := Lib.hid k3
  have K4 := Lib.hid k4
  have K5 := Lib.hid k5
  obtain ⟨k1, _⟩ := one_c k3
  obtain ⟨k2, g2⟩ := one_c k4
  clear AL bA k3 k4 k5 hb1
  go_wp2_with fail
  refine (NS.out _).mono ?_
  rintro e w2 ⟨pt, rfl, hp2, hb2⟩
  have O2 := Lib.hid (OO.new (P := TrB pt []) (Z := fun b => b < W.heap.size + 3) (base := W.heap.size) hp2 B1.out.size hb2.size (fun b e => by have := H1.out.size; omega))
  have B2 := Lib.hid (Bt B1.out hb2)
  have hl1 := H1.out.size
  have q2 := blk_below K4.out hb2
  obtain ⟨k2, g2⟩ := one_c q2
  have hk2 := cell_lt k2
  have Q3 := Lib.hid (blk_below K3.out hb2)
  have Q4 := Lib.hid q2
  have Q5 := Lib.hid (blk_below K5.out hb2)
  have hlw : W.heap.size + 3 ≤ w2.heap.size := by have := hb2.size; have := hs0; omega
  obtain ⟨bd, hbd⟩ : ∃ bd, bd = W.heap.size + 1 := ⟨_, rfl⟩
  obtain ⟨bf, hbf⟩ : ∃ bf, bf = W.heap.size + 1 + 1 := ⟨_, rfl⟩
  obtain ⟨b3, hb3⟩ : ∃ b3, b3 = W.heap.size := ⟨_, rfl⟩
  rw [← hbf, ← hbd, ← hb3]
  rw [← hbd] at k2 g2 hk2 Q4
  rw [← hb3] at Q3
  rw [← hbf] at Q5
  have hd10 : wrap64 ((IntKind.u64.wrap dp).tmod 10) = (dd : Int) := hdd
  obtain ⟨k3, _⟩ := one_c Q3.out
  have hk3 := cell_lt k3
  have hne3 : b3 ≠ bd := by omega
  have hne3' : bd ≠ b3 := by omega
  obtain ⟨mp, hmp⟩ : ∃ mp, mp = w2.heap.size := ⟨_, rfl⟩
  obtain ⟨bw, hbw⟩ : ∃ bw, bw = w2.heap.size + 1 := ⟨_, rfl⟩
  obtain ⟨p, hp⟩ : ∃ p, p = entersB (dd : Int) left := ⟨_, rfl⟩
  have HP := Lib.hid hp
  have EN := Lib.hid (show ∀ w, (∃ c f, Wk bd bf bw b3 mp p0 l.length c0 dd left c f w) → ∀ (k : Nat) (x y : Int), k ≤ 8 → 0 ≤ x → x < pwI k → 0 ≤ y → Calls Tryd.prog 17 #[clV ((k : Int), x, y), .pointer (some ⟨bd, 0, none⟩), .pointer (some ⟨bf, 0, none⟩)] w fun e w' => e = .returned (.bool (p ((k : Int), x, y))) ∧ RowKit.Below w.heap.size w w' from fun w ⟨c, f, hK⟩ k x y h1 h2 h3 h4 => by
    rw [HP.out]
    exact (enters_call k h1 x y h2 (pw_255 h1 h3) bd bf dd left w (one_c hK.deep).1 (one_c hK.left).1).mono fun e w' ⟨he, hg⟩ => ⟨he, hg.below⟩)
  have BND := Lib.hid (And.intro hbd (And.intro hbf (And.intro hb3 (And.intro hlw (And.intro hmp hbw)))))
  have HST := Lib.hid (show OO (TrB pt (bl l 0)) (ZW bd bf bw b3 mp) W.heap.size (((w2.setCell ⟨bd, 0, none⟩ (.int .i64 (dd : Int))).alloc (.map #[] 0)).alloc (.cells #[.map (some mp)] 46)) ∧ Wk bd bf bw b3 mp p0 l.length c0 dd left (wantL p l 0).length (wantF (wantL p l 0) []) (((w2.setCell ⟨bd, 0, none⟩ (.int .i64 (dd : Int))).alloc (.map #[] 0)).alloc (.cells #[.map (some mp)] 46)) ∧ RowKit.Below W.heap.size W (((w2.setCell ⟨bd, 0, none⟩ (.int .i64 (dd : Int))).alloc (.map #[] 0)).alloc (.cells #[.map (some mp)] 46)) from by
    have T := ((Tch.set w2 (M := fun b => b = bd) (p := ⟨bd, 0, none⟩) rfl (.int .i64 (dd : Int))).alloc (.map #[] 0)).alloc (.cells #[.map (some mp)] 46)
    have hsz : ∀ (w : World) o, (w.alloc o).heap.size = w.heap.size + 1 := fun w o => by simp
    have hss : (w2.setCell ⟨bd, 0, none⟩ (.int .i64 (dd : Int))).heap.size = w2.heap.size := by simp
    have hd : (((w2.setCell ⟨bd, 0, none⟩ (.int .i64 (dd : Int))).alloc (.map #[] 0)).alloc (.cells #[.map (some mp)] 46)).heap[bd]? = some (.cells #[.int .i64 (dd : Int)] 3 (0, 0)) := by
      have e := heap_setCell_same w2 bd 0 #[.int .i64 dp] 3 (.int .i64 (dd : Int)) Q4.out
      exact blk_below (blk_below (by simpa using e) (Ba (Below.refl _ _) _)) (Ba (Below.refl _ _) _)
    have hw := heap_alloc_new ((w2.setCell ⟨bd, 0, none⟩ (.int .i64 (dd : Int))).alloc (.map #[] 0)) (.cells #[.map (some mp)] 46)
    rw [hsz, hss, ← hbw] at hw
    have hm := MapG.made (k := 50) (lit := kH) (ok := HdOk) (dt := blD) (zr := false) (R := blElem) (w2.setCell ⟨bd, 0, none⟩ (.int .i64 (dd : Int)))
    rw [hss, ← hmp] at hm
    refine ⟨O2.out.turn (fr_tr pt []) (T.mono (fun b e => by omega)) (fun b e => ?_), ⟨hd, T.blk Q5.out (by omega), hw, T.blk Q3.out (by omega), (hm.below (Ba (Below.refl _ _) _)).congr (fun q => rfl)⟩, B2.out.trans (Tch.below T (fun b e => by omega) B2.out.size)⟩
    rw [hsz, hsz, hss]
    rcases e with e | e | e | e | e
    all_goals first | exact ⟨.inl (by omega), by omega⟩ | exact ⟨.inr (.inr (by omega)), by omega⟩)
  clear O2 B2 Q3 Q4 Q5 hbd hbf hb3 hlw hp
  go_wp2
  rw [← hbw, ← hmp]
  go_loopw [33] (fun u wr => ∃ i : Nat, u = .int .i64 i ∧ i ≤ l.length ∧ OO (TrB pt (bl l i)) (ZW bd bf bw b3 mp) W.heap.size wr ∧ Wk bd bf bw b3 mp p0 l.length c0 dd left (wantL p l i).length (wantF (wantL p l i) []) wr ∧ RowKit.Below W.heap.size W wr) (fun u _ => l.length - (intOf u).toNat)
  case atStart => exact ⟨0, rfl, Nat.zero_le _, HST.out⟩
  case round =>
    clear HST k2 k3 g2 hk2 hk3 hne3 hne3' hmp hbw hdd hd10 hmm
    obtain ⟨i, rfl, hi, hO, hK, hb⟩ := hrel
    have HO := Lib.hid hO
    have HB := Lib.hid hb
    have HK := Lib.hid hK
    clear hO hb hK
    by_cases hlt : i < l.length
    · obtain ⟨g, o, rfl, hg1, hcs⟩ := HV.out (by omega)
      obtain ⟨c1, c2, c3, c4⟩ := atX hcs hlt
      replace c1 := Bc HB.out hg1 c1
      replace c2 := Bc HB.out hg1 c2
      replace c3 := Bc HB.out hg1 c3
      replace c4 := Bc HB.out hg1 c4
      have hx := hd_at (i : Int) (by omega) (by omega)
      have HPB := Lib.hid (bl_put l i)
      have HWS := Lib.hid (wantL_succ p l i)
      generalize l[i]! = x at *
      obtain ⟨x1, x2, x3, x4⟩ := x
      dsimp only at c1 c2 c3 c4
      have bA := Ba (Below.refl _ wr) (.cells #[.int .i64 x1, .int .i64 x2, .int .i64 x3, .int .i64 x4] 23)
      have QO := Lib.hid (qOf_call x1 x2 x3 x4 _ ((HE.out.below HB.out).below bA))
      clear hcs
      go_wp2_with fail
      refine QO.out.mono ?_
      rintro e w5 ⟨rfl, hb5⟩
      rcases err_cases eR eF (x1, x2, x3, x4) with ⟨he, ee⟩ | ⟨he, ee⟩ | ⟨he, ee⟩
      all_goals rw [ee]
      case inr.inl =>
        generalize cellE (x1, x2, x3, x4) = q at *
        obtain ⟨q1, q2, q3⟩ := q
        have B5 := Bt (Bt (Bt HB.out bA) hb5) (Ba (Below.refl _ w5) (.cells #[.int .i64 q1, .int .i64 q2, .int .i64 q3] 26))
        clear he ee HO HK QO HPB HWS
        go_wp2
        go_ret
        exact ⟨rfl, B5⟩
      case inr.inr =>
        generalize cellE (x1, x2, x3, x4) = q at *
        obtain ⟨q1, q2, q3⟩ := q
        have B5 := Bt (Bt (Bt HB.out bA) hb5) (Ba (Below.refl _ w5) (.cells #[.int .i64 q1, .int .i64 q2, .int .i64 q3] 26))
        clear he ee HO HK QO HPB HWS
        go_wp2
        go_ret
        exact ⟨rfl, B5⟩
      obtain ⟨k, q2, q3, hk8, hq, g2, g3, g4, g5, hall⟩ := cellE_fine he p
      rw [hq]
      have AL2 := Lib.hid hall
      have bB := Ba (Below.refl _ w5) (.cells #[.int .i64 (k : Int), .int .i64 q2, .int .i64 q3] 26)
      have hs5 : wr.heap.size + 1 ≤ w5.heap.size := by have := hb5.size; simp at this; omega
      have hs6 : (w5.alloc (.cells #[.int .i64 (k : Int), .int .i64 q2, .int .i64 q3] 26)).heap.size = w5.heap.size + 1 := by simp
      have T6 := (((Tch.refl (fun _ => False) wr).bel bA).bel hb5).bel bB
      have HZ := HO.out.zlt
      have HO6 := HO.out.turn (Z' := fun b => ZW bd bf bw b3 mp b ∨ wr.heap.size ≤ b ∧ b < w5.heap.size + 1) (fr_tr pt _) (T6.mono (fun _ e => e.elim)) (fun b e => by
        rcases e with e | e
        · exact ⟨.inl e, T6.lt (HZ b e)⟩
        · exact ⟨.inr (.inr e.1), by rw [hs6]; exact e.2⟩)
      have HB6 := Lib.hid (Bt (Bt (Bt HB.out bA) hb5) bB)
      have AP := Lib.hid (HO6.ask (asks_putT (base := W.heap.size) (i : Int) 1 x1 x2 x3 x4 hx he (by rw [bl_len]; omega) (HE.out.below HB6.out) hel))
      rw [HPB.out] at AP
      have HK6 := Lib.hid (HK.out.kept T6 (fun _ e => e.elim))
      have hc6 := Lib.hid (heap_alloc_new w5 (.cells #[.int .i64 (k : Int), .int .i64 q2, .int .i64 q3] 26))
      have hbx := blk_below (blk_below (heap_alloc_new wr (.cells #[.int .i64 x1, .int .i64 x2, .int .i64 x3, .int .i64 x4] 23)) hb5) bB
      obtain ⟨d1, d2, d3, d4⟩ := cells4 hbx
      have hbl := cell_lt d1
      have HZ2 := Lib.hid HZ
      have HS := Lib.hid (And.intro hs5 hs6)
      clear hb5 bA bB T6 HZ HO6 HO HK QO HB HPB hs5 hs6 hall ee hq hbx c1 c2 c3 c4
      go_wp2_with fail
      refine AP.out.mono ?_
      rintro e w7 ⟨rfl, hO7, ht7⟩
      have kc : w7.heap[w5.heap.size]? = some (.cells #[.int .i64 (k : Int), .int .i64 q2, .int .i64 q3] 26 (0, 0)) := ht7.blk hc6.out (fun r => r.2 (.inr ⟨by have := HS.out.1; omega, by omega⟩))
      have HK7 := HK6.out.kept ht7 (fun b r z => r.2 (.inl z))
      have HB7 := HB6.out.trans (OO.tch ht7 HB6.out.size)
      have HO7 := hO7.turn (Z' := ZW bd bf bw b3 mp) (fr_tr pt _) (Tch.refl _ _) (fun b e => ⟨.inl (.inl e), hO7.zlt b (.inl e)⟩)
      have EC := Lib.hid (EN.out w7 ⟨_, _, HK7⟩ k q2 q3 hk8 g2 g3 g4)
      obtain ⟨mo, u1, u2, u3, hup, hun, hur⟩ := up_any p hk8 g2 g3 g4 g5
      obtain ⟨tot, htot⟩ : ∃ tot, tot = seenB p (x1, x2, x3, x4) := ⟨_, rfl⟩
      rw [← htot] at HWS AL2
      have hur2 := hur tot true (by rw [Bool.true_and]; exact AL2.out)
      rw [Bool.true_and] at hur2
      generalize p ((k : Int), q2, q3) = pv at *
      have HUP := Lib.hid hup
      have HUR := Lib.hid hur2
      have WS7 := Lib.hid (And.intro HK7 (And.intro HB7 HO7))
      obtain ⟨⟨n1, n2, n3⟩, _⟩ := cells3 kc
      have hkl := cell_lt n1
      have KC := Lib.hid kc
      clear hO7 ht7 HK7 HB7 HO7 HK6 HB6 hc6 AP HZ2 HS d1 d2 d3 d4 hbl hup hur hur2 htot AL2 kc hun he
      go_wp2_with fail
      refine EC.out.mono ?_
      rintro e w8 ⟨rfl, hb8⟩
      obtain ⟨⟨n1, n2, n3⟩, _⟩ := cells3 (blk_below KC.out hb8)
      have hkl := cell_lt n1
      have HB8 := Lib.hid hb8
      clear hb8
      go_wp2_with fail
      refine (HUP.out _).mono ?_
      rintro e w9 ⟨rfl, hb9⟩
      have b89 := Bt HB8.out hb9
      have WS9 := Lib.hid (And.intro (WS7.out.1.below b89) (And.intro (Bt WS7.out.2.1 b89) (WS7.out.2.2.below (fr_tr pt _) b89)))
      have hst : (w9.alloc (.cells #[.int .i64 u1, .int .i64 u2, .int .i64 u3] 26)).heap[w9.heap.size]? = some (.cells #[.int .i64 u1, .int .i64 u2, .int .i64 u3] 26 (0, 0)) := heap_alloc_new _ _
      have HST9 := Lib.hid (And.intro hst (Ba (Below.refl _ w9) (.cells #[.int .i64 u1, .int .i64 u2, .int .i64 u3] 26)))
      clear hst hb9 b89 HB8 WS7 KC EC n1 n2 n3 hkl hk8 g2 g3 g4 g5
      obtain ⟨wo, rfl⟩ : ∃ wo, wo = wr := ⟨_, rfl⟩
      go_wp2
      go_loopw [14, 15, 16] (fun s14 s15 s16 wr => ∃ (b mo : Bool) (bu : Nat) (u1 u2 u3 : Int), s14 = .bool b ∧ s15 = .pointer (some ⟨bu, 0, none⟩) ∧ s16 = .bool mo ∧ w9.heap.size ≤ bu ∧ wr.heap[bu]? = some (.cells #[.int .i64 u1, .int .i64 u2, .int .i64 u3] 26 (0, 0)) ∧ UpR p tot b mo (u1, u2, u3) ∧ RowKit.Below w9.heap.size w9 wr) (fun _ s15 s16 wr => upM s15 s16 wr)
      case atStart => exact ⟨_, _, _, u1, u2, u3, rfl, rfl, rfl, Nat.le_refl _, HST9.out.1, HUR.out, HST9.out.2⟩
      case round =>
        clear HST9 HUR HUP
        obtain ⟨b, mo1, bu, u1, u2, u3, rfl, rfl, rfl, hbu, hcu, hU, hb⟩ := hrel
        have HU := Lib.hid hU
        have HBi := Lib.hid hb
        have HCu := Lib.hid hcu
        obtain ⟨⟨n1, n2, n3⟩, _⟩ := cells3 hcu
        have hnl := cell_lt n1
        clear hU hb hcu
        cases mo1
        · have htb : b = tot := HU.out.2 rfl
          subst htb
          have hKr := WS9.out.1.below HBi.out
          have hBr := WS9.out.2.1.trans (Below.mono HBi.out WS9.out.2.1.size)
          have hOr := WS9.out.2.2.below (fr_tr pt _) HBi.out
          cases b
          · rw [if_neg (by simp), List.append_nil] at HWS
            rw [← HWS.out] at hKr
            have WSr := Lib.hid (And.intro hOr (And.intro hKr hBr))
            clear hKr hBr hOr WS9 HBi HCu HU n1 n2 n3 hnl
            go_wp2
            go_roundw
            case measure => simp only [intOf]; omega
            case rel => exact ⟨i + 1, by go_num, by omega, WSr.out⟩
          · rw [if_pos rfl] at HWS
            obtain ⟨w13, hrun, hm, hg⟩ := hKr.map.put mptW (by have := wantL_len p l i; omega) ((i : Int), 1) hx true
            have T13 : Tch (fun b => b = mp) wr w13 := ⟨hg.os, hg.tape, hg.output, hg.size, fun k hk hn => hg.block k hk (fun e => by cases e; exact hn rfl)⟩
            have hfn : wantF (wantL p l i) [] ((i : Int), 1) = none := by
              unfold wantF
              rw [if_neg (fun e => wantL_not p l i e.1)]
            rw [hfn] at hm
            have hm2 : MapW w13 mp (wantL p l (i + 1)).length (wantF (wantL p l (i + 1)) []) := by
              rw [HWS.out, List.length_append]
              exact hm.congr (fun z => wantF_put _ _ _)
            have hne : ∀ {b : Nat} {cs : Array Value} {t : TypeId} {fz : Nat × Nat}, wr.heap[b]? = some (.cells cs t fz) → b ≠ mp := fun {b cs t fz} h e => (MapG.is hKr.map).elim fun es h2 => h2.elim fun c' h2 => by rw [← e, h] at h2; cases h2
            have hwc := (one_c hKr.want).1
            have hwl := cell_lt hwc
            have WSr := Lib.hid (show OO (TrB pt (bl l (i + 1))) (ZW bd bf bw b3 mp) W.heap.size w13 ∧ Wk bd bf bw b3 mp (some ⟨g, o, none⟩) l.length c0 dd left (wantL p l (i + 1)).length (wantF (wantL p l (i + 1)) []) w13 ∧ RowKit.Below W.heap.size W w13 from
              ⟨hOr.turn (fr_tr pt _) (T13.mono (fun b e => .inr (.inr (.inr (.inr e))))) (fun b e => ⟨.inl e, T13.lt (hOr.zlt b e)⟩),
               ⟨T13.blk hKr.deep (hne hKr.deep), T13.blk hKr.left (hne hKr.left), T13.blk hKr.want (hne hKr.want), T13.blk hKr.row (hne hKr.row), hm2⟩,
               hBr.trans (Tch.below T13 (fun b e => by have := BND.out; omega) hBr.size)⟩)
            unfold mH blV at hrun
            dsimp only at hrun
            clear hKr hBr hOr WS9 HBi HCu HU n1 n2 n3 hnl hm hg T13 hm2 hne hfn
            go_wp2
            go_roundw
            case measure => simp only [intOf]; omega
            case rel => exact ⟨i + 1, by go_num, by omega, WSr.out⟩
        · obtain ⟨k', hk', e1, e2, e3, e4, e5, hall'⟩ := HU.out.1 rfl
          dsimp only at e1 e2 e3 e4 e5 hall'
          subst e1
          have HM0 := Lib.hid (show upM (.pointer (some ⟨bu, 0, none⟩)) (.bool true) wr = k' + 1 from by rw [upM_eq (c := ((k' : Int), u2, u3)) n1 rfl]; simp [upN])
          obtain ⟨mo', v1, v2, v3, hup, hun, hur⟩ := up_any p hk' e2 e3 e4 e5
          have HUP := Lib.hid hup
          have HUN := Lib.hid hun
          have HUR := Lib.hid (hur tot b hall')
          have EC2 := Lib.hid (EN.out wr ⟨_, _, WS9.out.1.below HBi.out⟩ k' u2 u3 hk' e2 e3 e4)
          clear hup hun hur hall' HU
          cases b
          · rw [Bool.false_and] at HUR
            clear EC2 hk' e2 e3 e4 e5 n1 n2 n3 hnl
            obtain ⟨⟨n1, n2, n3⟩, _⟩ := cells3 (HCu.out)
            have hnl := cell_lt n1
            have hca := heap_alloc_new wr (.cells #[.int .i64 (k' : Int), .int .i64 u2, .int .i64 u3] 26)
            have HBa := Lib.hid ((HBi.out).trans (Below.mono (Ba (Below.refl _ wr) (.cells #[.int .i64 (k' : Int), .int .i64 u2, .int .i64 u3] 26)) (HBi.out).size))
            obtain ⟨⟨m1, m2, m3⟩, _⟩ := cells3 hca
            have HCA := Lib.hid hca
            clear hca
            go_wp2_with fail
            refine (HUP.out _).mono ?_
            rintro e w12 ⟨rfl, hb12⟩
            have hc12 := blk_below HCA.out hb12
            have hn12 : w9.heap.size ≤ wr.heap.size := (HBi.out).size
            obtain ⟨⟨r1, r2, r3⟩, f1, f2, f3⟩ := cells3 hc12
            have hrl := cell_lt r1
            have HC12 := Lib.hid (set3q (x1 := .int .i64 v1) (x2 := .int .i64 v2) (x3 := .int .i64 v3) hc12)
            have hB12 := HBa.out.trans (Below.mono hb12 HBa.out.size)
            have HB12 := Lib.hid (show RowKit.Below w9.heap.size w9 (((w12.setCell ⟨wr.heap.size, 0, none⟩ (.int .i64 v1)).setCell ⟨wr.heap.size, 1, none⟩ (.int .i64 v2)).setCell ⟨wr.heap.size, 2, none⟩ (.int .i64 v3)) from by
              have t := ((((Tch.of hB12) : Tch (fun _ => False) w9 w12).fresh (p := ⟨wr.heap.size, 0, none⟩) hn12 (.int .i64 v1)).fresh (p := ⟨wr.heap.size, 1, none⟩) hn12 (.int .i64 v2)).fresh (p := ⟨wr.heap.size, 2, none⟩) hn12 (.int .i64 v3)
              exact Tch.below t (fun _ e => e.elim) (Nat.le_refl _))
            have HME := Lib.hid (upM_eq (mo := mo') (c := (v1, v2, v3)) (cells3 HC12.out).1.1 rfl)
            have HN := Lib.hid hn12
            clear hc12 hB12 hb12 HBa HCA HUP n1 n2 n3 hnl m1 m2 m3 hn12
            go_wp2
            go_roundw
            case measure => rw [HME.out, HM0.out]; exact HUN.out
            case rel => exact ⟨_, _, _, v1, v2, v3, rfl, rfl, rfl, HN.out, HC12.out, HUR.out, HB12.out⟩
          · rw [Bool.true_and] at HUR
            clear hk' e2 e3 e4 e5
            generalize p ((k' : Int), u2, u3) = pw at *
            go_wp2_with fail
            refine EC2.out.mono ?_
            rintro e w10 ⟨rfl, hb10⟩
            have HB10 := Lib.hid (HBi.out.trans (Below.mono hb10 HBi.out.size))
            have HC10 := Lib.hid (blk_below HCu.out hb10)
            clear hb10 EC2 n1 n2 n3 hnl
            obtain ⟨⟨n1, n2, n3⟩, _⟩ := cells3 (HC10.out)
            have hnl := cell_lt n1
            have hca := heap_alloc_new w10 (.cells #[.int .i64 (k' : Int), .int .i64 u2, .int .i64 u3] 26)
            have HBa := Lib.hid ((HB10.out).trans (Below.mono (Ba (Below.refl _ w10) (.cells #[.int .i64 (k' : Int), .int .i64 u2, .int .i64 u3] 26)) (HB10.out).size))
            obtain ⟨⟨m1, m2, m3⟩, _⟩ := cells3 hca
            have HCA := Lib.hid hca
            clear hca
            go_wp2_with fail
            refine (HUP.out _).mono ?_
            rintro e w12 ⟨rfl, hb12⟩
            have hc12 := blk_below HCA.out hb12
            have hn12 : w9.heap.size ≤ w10.heap.size := (HB10.out).size
            obtain ⟨⟨r1, r2, r3⟩, f1, f2, f3⟩ := cells3 hc12
            have hrl := cell_lt r1
            have HC12 := Lib.hid (set3q (x1 := .int .i64 v1) (x2 := .int .i64 v2) (x3 := .int .i64 v3) hc12)
            have hB12 := HBa.out.trans (Below.mono hb12 HBa.out.size)
            have HB12 := Lib.hid (show RowKit.Below w9.heap.size w9 (((w12.setCell ⟨w10.heap.size, 0, none⟩ (.int .i64 v1)).setCell ⟨w10.heap.size, 1, none⟩ (.int .i64 v2)).setCell ⟨w10.heap.size, 2, none⟩ (.int .i64 v3)) from by
              have t := ((((Tch.of hB12) : Tch (fun _ => False) w9 w12).fresh (p := ⟨w10.heap.size, 0, none⟩) hn12 (.int .i64 v1)).fresh (p := ⟨w10.heap.size, 1, none⟩) hn12 (.int .i64 v2)).fresh (p := ⟨w10.heap.size, 2, none⟩) hn12 (.int .i64 v3)
              exact Tch.below t (fun _ e => e.elim) (Nat.le_refl _))
            have HME := Lib.hid (upM_eq (mo := mo') (c := (v1, v2, v3)) (cells3 HC12.out).1.1 rfl)
            have HN := Lib.hid hn12
            clear hc12 hB12 hb12 HBa HCA HUP n1 n2 n3 hnl m1 m2 m3 hn12
            go_wp2
            go_roundw
            case measure => rw [HME.out, HM0.out]; exact HUN.out
            case rel => exact ⟨_, _, _, v1, v2, v3, rfl, rfl, rfl, HN.out, HC12.out, HUR.out, HB12.out⟩
    · have hin : i = l.length := by omega
      subst hin
      have WK := Lib.hid (show Calls Tryd.prog 19 #[.pointer (some ⟨pt, 0, none⟩), .func (.func 17) #[] #[.pointer (some ⟨bd, 0, none⟩), .pointer (some ⟨bf, 0, none⟩)], .func (.func 20) #[] #[.pointer (some ⟨wr.heap.size, 0, none⟩), .pointer (some ⟨wr.heap.size + 1, 0, none⟩), .pointer (some ⟨bw, 0, none⟩), .pointer (some ⟨b3, 0, none⟩)]] ((wr.alloc (.cells #[.int .i64 0] 3)).alloc (.cells #[.bool true] 4)) fun e w' => (∃ r, e = .returned r) ∧ (∃ m : Nat, m ≤ l.length ∧ w'.cell? ⟨wr.heap.size, 0, none⟩ = some (.int .i64 (m : Int)) ∧ w'.cell? ⟨wr.heap.size + 1, 0, none⟩ = some (.bool true) ∧ w'.cell? ⟨bw, 0, none⟩ = some (.map (some mp)) ∧ w'.cell? ⟨b3, 0, none⟩ = some (.slice p0 l.length c0) ∧ ∃ f, MapW w' mp 0 f) ∧ RowKit.Below W.heap.size W w' from by
        obtain ⟨M, hM1, hM2, hM3, hM4⟩ := HO.out
        have bX := Ba (Ba (Below.refl _ wr) (.cells #[.int .i64 0] 3)) (.cells #[.bool true] 4)
        have hs6 : ((wr.alloc (.cells #[.int .i64 0] 3)).alloc (.cells #[.bool true] 4)).heap.size = wr.heap.size + 2 := by simp
        have b1 := blk_below (heap_alloc_new wr (.cells #[.int .i64 0] 3)) (Ba (Below.refl _ _) (.cells #[.bool true] 4))
        have b2 := heap_alloc_new (wr.alloc (.cells #[.int .i64 0] 3)) (.cells #[.bool true] 4)
        rw [show (wr.alloc (.cells #[.int .i64 0] 3)).heap.size = wr.heap.size + 1 by simp] at b2
        generalize ((wr.alloc (.cells #[.int .i64 0] 3)).alloc (.cells #[.bool true] 4)) = w6 at *
        obtain ⟨y1, y2, y3, y4, y5, y6⟩ := BND.out
        have z1 := hM3 bd (.inl rfl)
        have z2 := hM3 bf (.inr (.inl rfl))
        have z3 := hM3 bw (.inr (.inr (.inl rfl)))
        have z4 := hM3 b3 (.inr (.inr (.inr (.inl rfl))))
        have z5 := hM3 mp (.inr (.inr (.inr (.inr rfl))))
        have B6 := HB.out.trans (Below.mono bX HB.out.size)
        refine (walkT_call (X := fun b => b = wr.heap.size ∨ b = wr.heap.size + 1 ∨ b = mp) ((fr_tr pt _).below hM1 bX) (by rw [bl_len]; omega) (fun b e => ?_) (fun b e => by omega) _ _ _ _ (enters_of Tryd.func17 (by kernel_rfl) rfl) (enters_of Tryd.func20 (by kernel_rfl) rfl) p (fun s w' => s.Nodup ∧ (∀ x ∈ s, x ∈ bl l l.length ∧ seenB p x.2 = true) ∧ w'.heap[wr.heap.size]? = some (.cells #[.int .i64 (s.length : Nat)] 3 (0, 0)) ∧ w'.heap[wr.heap.size + 1]? = some (.cells #[.bool true] 4 (0, 0)) ∧ Wk bd bf bw b3 mp p0 l.length c0 dd left ((wantL p l l.length).length - s.length) (wantF (wantL p l l.length) s) w' ∧ RowKit.Below W.heap.size W w')
          ⟨List.nodup_nil, fun x hx => (by cases hx), b1, b2, HK.out.below bX, B6⟩ (fun s w w' hI t => ?_) (fun s w k x y hI hs h1 h2 h3 h4 h5 => ?_) (fun s w b hI hs hb hnb hsb => ?_)).mono ?_
        · have := hM2 b e
          rintro (f | f | f)
          · omega
          · omega
          · exact this.2.1 (.inr (.inr (.inr (.inr f))))
        · obtain ⟨i1, i2, i3, i4, i5, i6⟩ := hI
          refine ⟨i1, i2, t.blk i3 (by omega), t.blk i4 (by omega), i5.kept t (fun b r z => ?_), i6.trans (Tch.below t (fun b r => by omega) i6.size)⟩
          rcases z with z | z | z | z | z <;> omega
        · exact EN.out w ⟨_, _, hI.2.2.2.2.1⟩ k x y h1 h2 h3 h4
        · obtain ⟨i1, i2, i3, i4, i5, i6⟩ := hI
          obtain ⟨j, hj, rfl⟩ := mem_bl.1 hb
          obtain ⟨g, o, rfl, hg1, hcs⟩ := HV.out (by omega)
          have hls : s.length ≤ l.length := by
            have := nodup_sub_len i1 (fun x hx => (i2 x hx).1)
            rwa [bl_len] at this
          have hgw : g < wr.heap.size := by omega
          have hnot : ((j : Int), 1) ∉ s.map (·.1) := fun h => by
            obtain ⟨x, hx, e⟩ := List.mem_map.1 h
            exact hnb ((bl_once l l.length).eq (i2 x hx).1 hb e ▸ hx)
          have hL : Law wr.heap.size (wr.heap.size + 1) bw b3 mp g o c0 l s.length ((wantL p l l.length).length - s.length) (wantF (wantL p l l.length) s) w := ⟨i3, i4, i5.want, i5.row, i5.map, fun j u hu => Bc i6 hg1 (hcs j u hu)⟩
          refine (each_call hL (by omega) (by omega) (by omega) (by omega) (by omega) (by omega) (by omega) (by omega) (by omega) (by omega) (by omega) v1 (by omega) j hj (by unfold wantF; rw [if_pos ⟨mem_wantL.2 ⟨j, hj, hsb, rfl⟩, hnot⟩])).mono ?_
          rintro e w' ⟨he, hL', ht⟩
          refine ⟨he, ⟨?_, fun x hx => ?_, ?_, hL'.ok, ⟨ht.blk i5.deep (by omega), ht.blk i5.left (by omega), hL'.want, hL'.row, ?_⟩, i6.trans (Tch.below ht (fun b e => by omega) i6.size)⟩, ht⟩
          · rw [List.nodup_append]
            exact ⟨i1, by simp, fun a ha b hb e => hnb (by rw [List.mem_singleton] at hb; rw [← hb, ← e]; exact ha)⟩
          · rcases List.mem_append.1 hx with h | h
            · exact i2 x h
            · rw [List.mem_singleton] at h
              subst h
              exact ⟨hb, hsb⟩
          · have := hL'.met
            rwa [List.length_append]
          · rw [List.length_append, show (wantL p l l.length).length - (s.length + [(((j : Int), (1 : Int)), l[j]!)].length) = (wantL p l l.length).length - s.length - 1 from by simp; omega]
            exact hL'.map.congr (fun z => wantF_met _ _ (((j : Int), 1), l[j]!) z)
        · rintro e w' ⟨he, ⟨s, ⟨i1, i2, i3, i4, i5, i6⟩, hn, hs⟩, ht⟩
          have hml := met_all hn hs
          have h0 : (wantL p l l.length).length - s.length = 0 := by omega
          refine ⟨he, ⟨s.length, by rw [hml]; exact wantL_len p l _, (one_c i3).1, (one_c i4).1, (one_c i5.want).1, (one_c i5.row).1, _, i5.map.cnt h0⟩, i6⟩)
      clear HO HK HB hlt BND EN
      go_wp2_with fail
      refine WK.out.mono ?_
      rintro e w8 ⟨⟨r, rfl⟩, ⟨m, hm, q1, q2, q3, q4, f, q5⟩, hb8⟩
      have hlen := fun ty => q5.len mptW ty
      have HB8 := Lib.hid hb8
      have hle : (m : Int) ≤ (l.length : Int) := by omega
      clear WK hb8 q5
      go_wp2
      go_ret
      exact ⟨rfl, HB8.out⟩
end
end Go.Proofs.YtlnncnbahmgpfaaDoor

/-
  Whatever boxes, depth and side it is given, QuadWalks answers true and leaves its arguments as they were. Conditions: the errors' variables that it names read as the program's text lays them (the card ties them to that text).
-/
namespace Go.Proofs.YtlnncnbahmgpfaaDoor
set_option linter.unusedSimpArgs false
set_option linter.unusedVariables false
open Go.ChangeShapes Go.WideShapes Go.ChangeAt Go.RowKit Go.Joins

set_option maxRecDepth 100000 in
theorem quadWalks_lifted (os : Os) (started : os.Started) (H : Type) (enc : TypeId × Value → H) :
    ReturnsInHanded {} Tryd.checked os 5 .any (fun w args => (Rows.quadWalksSpec.pre enc Tryd.prog Tryd.f5 [] false w args ∧ laidMetH Tryd.prog Rows.quadWalksRow.laid w) ∧ sizedMet enc Tryd.prog Tryd.f5 (OpenSpec.ofChange Rows.quadWalksSpec) false w args)
      (Rows.quadWalksSpec.post enc Tryd.prog Tryd.f5 false true false false) := by
  refine returnsInHanded_of_change_and (C := Tryd.checked) (X := fun w _ => laidMetH Tryd.prog Rows.quadWalksRow.laid w) (fun _ _ _ hh h => h.of_heap hh) own started (by kernel_rfl) Tryd.func5
    (ChangeSpec.witness_shaped (enc := enc) (C := Tryd.checked) (os := os) (X := fun w _ => laidMetH Tryd.prog Rows.quadWalksRow.laid w) false (World.doorLaid Tryd.prog 199 os) #[.slice none 0 0, .int .i64 0, .bool false] 8 rfl (World.shaped_of_RefB (by kernel_rfl) (by kernel_rfl)) (by kernel_rfl) (by kernel_rfl) (by kernel_rfl) (laidMetH_of_parts3 (fuel := 8) (laidMet_of_run' 8 (by kernel_rfl) (by kernel_rfl)) (by kernel_rfl) (by kernel_rfl))) ?_
  intro W base args ds gs before hval0 hW _ _ hL _
  have hval : ∀ (j : Nat) t v, Tryd.f5.params[j]? = some t → args[j]? = some v → Value.okWide Tryd.prog W .any base t v := hval0
  have hW' := hW
  obtain ⟨p, q, hA0, hV, rfl, hfz, hnd⟩ := hW
  have hA : DataW.TrodAll enc Tryd.prog W 0 (fun _ => true) true Tryd.f5.params.toList args.toList ds p := hA0
  rw [Tryd.params5] at hA hval
  obtain ⟨v0, vs0, d0, ds0, p0, q0, hargs, rfl, rfl, h0, r0⟩ := trodAll_cons hA
  obtain ⟨v1, vs1, d1, ds1, p1, q1, rfl, rfl, rfl, h1, r1⟩ := trodAll_cons r0
  obtain ⟨v2, vs2, d2, ds2, p2, q2, rfl, rfl, rfl, h2, r2⟩ := trodAll_cons r1
  obtain ⟨rfl, rfl, rfl⟩ := trodAll_nil r2
  obtain rfl : args = #[v0, v1, v2] := by cases args; simp_all
  obtain ⟨l0, hl0⟩ := open_boxes (hval 0 43 v0 rfl rfl) h0
  obtain ⟨x1, rfl, rfl, rfl, w1⟩ := open_int Tryd.underlying3 (hval 1 3 v1 rfl rfl) h1
  obtain ⟨b2, rfl, _⟩ := open_bool Tryd.underlying4 (hval 2 4 v2 rfl rfl) h2
  clear hA0 hval0
  have hL' : laidMet Tryd.prog Rows.quadWalksRow.laid W := by
    have h := hL
    rw [MakeChecks.laidMetH_plain _ _ _ (by kernel_rfl)] at h
    exact h
  obtain ⟨aR, hR⟩ := sent_range hL' (.head _)
  obtain ⟨aN, hN⟩ := sent_none hL' (.tail _ (.head _))
  obtain ⟨aF, hF⟩ := sent_form hL' (.tail _ (.tail _ (.head _)))
  refine (quadWalks_walk l0 v0 x1 b2 W hl0 (Er3.three hR hN hF)).mono fun e W' ⟨he, hb⟩ => ?_
  subst he
  exact ⟨_, rfl, law_post laidOut (by kernel_rfl) rfl (by kernel_rfl) Tryd.underlying4 (fun ds hd => by match ds, hd with | [_, _, _], _ => rfl) hW' hb⟩

theorem quadWalks_row : Rows.QuadWalksSaid :=
  OpenClaim.holds_of_wide 5 Tryd.f5 rfl rfl rfl rfl rfl rfl rfl ⟨rfl, rfl, rfl, rfl, rfl⟩ rfl rfl rfl rfl rfl (by kernel_rfl) Tryd.func5 (by kernel_rfl)
    (of_decide_eq_true (by kernel_rfl)) (by unfold Func.isWrapper; first | (rw [if_pos (by decide +kernel)]; kernel_rfl) | (rw [if_neg (by decide +kernel)]; exact ⟨rfl, rfl⟩))
    (fun os started H enc _ => quadWalks_lifted os started H enc)

theorem quadWalks_holds : Rows.QuadWalksCardSaid :=
  Claim7.holds_tied_plain_at .later [] Rows.quadWalksCard.laidKinds true Rows.quadWalksCard.stood.harness true
    quadWalks_row (fun _ h => by cases h) (by kernel_rfl) (fun _ h => by cases h) quadWalks_row_tie rfl ⟨rfl, rfl⟩ (by kernel_rfl) rfl
    (fun f fn hf hfn => by
      obtain rfl : f = 5 := Option.some.inj ((show Tryd.prog.funcNamed "paddock/paddocklaw12.QuadWalks" = some 5 by kernel_rfl).symm.trans hf) |>.symm
      obtain rfl : fn = Tryd.f5 := (Option.some.inj (Tryd.func5.symm.trans hfn)).symm
      exact ⟨by kernel_rfl, fun j t ht => by
        rw [Tryd.params5] at ht
        have hm : t ∈ [43, 3, 4] := by
          have := Array.mem_of_getElem? ht
          simp at this ⊢
          first | omega | (rcases this with h | h | h <;> simp [h])
        have hall : ([43, 3, 4].all fun u => !Tryd.prog.wantsStandIn u) = true := by kernel_rfl
        exact (show Tryd.prog.wantsStandIn t = false by simpa using List.all_eq_true.1 hall t hm)⟩)
    (by kernel_rfl)
#print axioms quadWalks_holds
end Go.Proofs.YtlnncnbahmgpfaaDoor
