import Derived.Test.YtaehendpdfpibaaGreatDoorZ11
import Derived.Test.YtaehendpdfpibaaGreatDoorZ12
import Derived.Test.YtaehendpdfpibaaGreatDoorZ1
import Derived.Test.YtaehendpdfpibaaGreatDoorRows
import Derived.Test.YtaehendpdfpibaaGreatDoorTie
import Derived.Test.YtaehendpdfpibaaGreatDoorCards
import Derived.Test.YtaehendpdfpibaaGreatDoorZ2
import Derived.Test.YtaehendpdfpibaaGreatDoorZ8
import Derived.WalkKit
import Derived.ProofKit
import Derived.LaidMore
import Derived.Stop.LaidErr
import Derived.SevenTiedAt
import Derived.Lib.SmallJoins
import Derived.OpenShut
import Derived.Carry
import Derived.Deep.Slices
import Derived.SizedLaws
import Derived.Deep.Strs
import Derived.Test.YtaehendpdfpibaaGreatDoorZ5
import Derived.Lib.LaidTab
import Derived.Test.YtaehendpdfpibaaGreatDoorZ0

/-
  A store's Masks where there is at most one table: nothing to sort.
-/
namespace Go.Proofs.YtaehendpdfpibaaGreatDoor
set_option linter.unusedSimpArgs false
set_option linter.unusedVariables false
open Go.RowKit Go.Sort Go.Lib Go.Shelf Go.Maps

theorem keys_call (b : Nat) (w : World) : Calls Tryz.prog 80 #[.map (some b)] w fun e w' => e = .returned (.func (.func KeysF) #[] #[.pointer (some ⟨w.heap.size, 0, none⟩)]) ∧ w' = w.alloc (.cells #[.map (some b)] MapUT) := by
  go_enter Tryz.func80, Tryz.ntmps80
  go_wp2
  go_ret
  exact ⟨rfl, rfl⟩
theorem collect_call (Bm b c : Nat) (f : Nat → Option Nat) (hc : c ≤ 1000) (w : World) (hBm : Bm < w.heap.size) (hm : w.cell? ⟨Bm, 0, none⟩ = some (.map (some b))) (hmap : MapU w b c f) :
    Calls Tryz.prog 125 #[.func (.func KeysF) #[] #[.pointer (some ⟨Bm, 0, none⟩)]] w fun e W' => ∃ v ss, e = .returned v ∧ KeysOf f ss ∧ ss.length ≤ c ∧ W'.ownsRow w.heap.size 60 1 v ss.length (ss.map encU) ∧ RowKit.Below w.heap.size w W' := by
  have H := callsIn_wide.1 (appendSeqU_in Fence.wide 3 trivial trivial rfl (by omega) Bm b c f hc w hBm hm hmap)
  go_enter Tryz.func125, Tryz.ntmps125
  go_wp2_with fail
  refine H.mono ?_
  rintro e w1 ⟨v, ss, rfl, h1, h2, h3, h4⟩
  obtain ⟨p, cap, rfl, _, _, _⟩ := row_val h3
  go_wp2
  go_ret
  exact ⟨_, ss, rfl, h1, h2, h3, h4⟩
theorem bitsLen1 (n : Int) (hn : n = 0 ∨ n = 1) (w : World) : Calls Tryz.prog 160 #[.int .u64 n] w fun e w' => (∃ r, e = .returned (.int .i64 r)) ∧ w = w' := by
  rcases hn with rfl | rfl
  all_goals
    go_enter Tryz.func160, Tryz.ntmps160
    go_wp2
    go_ret
    exact ⟨⟨_, rfl⟩, rfl⟩

theorem insert1 (v : Value) (n : Nat) (hn : n ≤ 1) (w : World) : Calls Tryz.prog 167 #[v, .int .i64 0, .int .i64 n] w fun e w' => e = .returned (.tuple #[]) ∧ w = w' := by
  have h1 : ¬ (1 : Int) < (n : Int) := by omega
  go_enter Tryz.func167, Tryz.ntmps167
  go_wp2
  refine wp_loop_rounds 1 ?_
  rw [rounds_succ]
  go_wp2
  first | go_end0 | refine bodyPost_ret (results_none rfl _ _ _) rfl ?_
  exact ⟨rfl, rfl⟩
theorem pdq1 (v : Value) (n : Nat) (hn : n ≤ 1) (r : Int) (w : World) : Calls Tryz.prog 159 #[v, .int .i64 0, .int .i64 n, .int .i64 r] w fun e w' => e = .returned (.tuple #[]) ∧ w = w' := by
  have h1 : (n : Int) ≤ 12 := by omega
  have HI := Lib.hid (insert1 v n hn w)
  go_enter Tryz.func159, Tryz.ntmps159
  go_wp2
  refine wp_loop_rounds 1 ?_
  rw [rounds_succ]
  go_wp2_with fail
  refine HI.out.mono ?_
  rintro e w1 ⟨rfl, rfl⟩
  go_wp2
  refine bodyPost_ret (results_none rfl _ _ _) rfl ?_
  exact ⟨rfl, rfl⟩
theorem sort1 (p : Option Addr) (n cap : Nat) (hn : n ≤ 1) (w : World) : Calls Tryz.prog 126 #[.slice p n cap] w fun e w' => e = .returned (.tuple #[]) ∧ w = w' := by
  have HB := Lib.hid (bitsLen1 n (by omega) w)
  have HP := Lib.hid (fun r => pdq1 (.slice p n cap) n hn r w)
  have hu : IntKind.u64.wrap (n : Int) = n := by
    have : n = 0 ∨ n = 1 := by omega
    rcases this with rfl | rfl <;> decide
  go_enter Tryz.func126, Tryz.ntmps126
  go_wp2_with fail
  refine HB.out.mono ?_
  rintro e w1 ⟨⟨r, rfl⟩, rfl⟩
  go_wp2_with fail
  refine (HP.out _).mono ?_
  rintro e w1 ⟨rfl, rfl⟩
  go_wp2
  first | go_end0 | refine bodyPost_ret (results_none rfl _ _ _) rfl ?_
  exact ⟨rfl, rfl⟩
theorem pair_one : ∀ l : List Nat, l.length ≤ 1 → l.Pairwise (· < ·)
  | [], _ => List.Pairwise.nil
  | [x], _ => List.pairwise_singleton _ _
  | _ :: _ :: _, h => by simp at h
set_option maxRecDepth 100000 in
/-- slices.Sorted(maps.Keys(m)) where there is at most one key. -/
theorem sorted1 (Bm b c : Nat) (f : Nat → Option Nat) (hc : c ≤ 1) (w : World) (hBm : Bm < w.heap.size) (hm : w.cell? ⟨Bm, 0, none⟩ = some (.map (some b))) (hmap : MapU w b c f) :
    Calls Tryz.prog 79 #[.func (.func KeysF) #[] #[.pointer (some ⟨Bm, 0, none⟩)]] w fun e W' => ∃ v ss, e = .returned v ∧ KeysOf f ss ∧ ss.Pairwise (· < ·) ∧ W'.ownsRow w.heap.size 60 1 v ss.length (ss.map encU) ∧ RowKit.Below w.heap.size w W' := by
  have H := collect_call Bm b c f (by omega) w hBm hm hmap
  go_enter Tryz.func79, Tryz.ntmps79
  go_wp2_with fail
  refine H.mono ?_
  rintro e w1 ⟨v, ss, rfl, h1, h2, h3, h4⟩
  obtain ⟨p, cap, rfl, _, _, _⟩ := row_val h3
  have HS := Lib.hid (sort1 p ss.length cap (by omega) w1)
  have hp : ss.Pairwise (· < ·) := pair_one ss (by omega)
  go_wp2_with fail
  refine HS.out.mono ?_
  rintro e w2 ⟨rfl, rfl⟩
  go_wp2
  go_ret
  exact ⟨_, ss, rfl, h1, hp, h3, h4⟩
theorem mskE_rise (L : List En) : (mskE L).Pairwise (· < ·) := by
  unfold mskE
  generalize 1024 = n
  exact List.Pairwise.filter _ List.pairwise_lt_range
/-- The masks, out of the keys of the map of tables. -/
theorem keys_msk {tt : Nat → Option (Nat × List En)} {pl : Hd → Option Plc} {L : List En} (h : Lays tt pl L) (hG : Good L) {ss : List Nat} (hk : KeysOf (ftO tt) ss) (hs : ss.Pairwise (· < ·)) : ss = mskE L := by
  have key : ∀ q, q ∈ ss ↔ q ∈ mskE L := fun q => by
    have e1 : ∀ q, (ftO tt q).isSome = hasM L q := fun q => by rw [← h.mask]; unfold ftO; cases tt q <;> rfl
    have hlt : hasM L q = true → q < 1024 := fun e => by
      obtain ⟨r, hr, rfl⟩ := (hasM_iff _ _).1 e
      exact hG.hOk hr
    rw [mem_mskE, ← hasM_iff]
    constructor
    · intro hq
      have := (hk.2.1 q (hk.2.2 q hq)).1 hq
      rw [e1] at this
      exact ⟨hlt this, this⟩
    · rintro ⟨h1, h2⟩
      exact (hk.2.1 q (okU_lt (by omega))).2 (by rw [e1]; exact h2)
  have hs2 := mskE_rise L
  refine rise_uniq (lt := fun x y : Nat => decide (x < y)) ⟨by simp, by simp; omega, by simp; omega⟩ _ _ ?_ ?_ key
  · exact hs.imp (by simp)
  · exact hs2.imp (by simp)
section
variable {w w' : World} {M X : Nat → Prop} {ps bt bp ct cp : Nat} {ft ft' : Nat → Option Nat} {tt : Nat → Option (Nat × List En)} {pl pl' : Hd → Option Plc} {MT : Nat → Nat → Prop} {L : List En} {A : Nat → Addr}
set_option maxRecDepth 100000 in
theorem smasks1 (h : StoX w M ps bt bp tt pl MT L) (hc : nM L ≤ 1) : Calls Tryz.prog 39 #[psP ps] w fun e w' => ∃ v, e = .returned v ∧ w'.ownsRow w.heap.size 60 1 v (mskE L).length ((mskE L).map encU) ∧ RowKit.Below w.heap.size w w' := by
  obtain ⟨c0, c1, f0, f1⟩ := two_cells h.mem.head
  have hl := cell_lt c0
  have bb := Ba (Below.refl _ w) (.cells #[.map (some bt)] MapUT)
  have HS := Lib.hid (sorted1 w.heap.size bt (nM L) (ftO tt) hc (w.alloc (.cells #[.map (some bt)] MapUT)) (by simp) (by simp) (h.mem.mapT.below bb))
  have HK := Lib.hid (fun (ss : List Nat) (h1 : KeysOf (ftO tt) ss) h2 => keys_msk h.lays h.good h1 h2)
  clear h hc
  generalize mskE L = K at HK ⊢
  go_enter Tryz.func39, Tryz.ntmps39
  go_wp2_with fail
  refine (keys_call bt w).mono ?_
  rintro e w1 ⟨rfl, rfl⟩
  go_wp2_with fail
  refine HS.out.mono ?_
  rintro e w2 ⟨v, ss, rfl, h1, h2, h3, h4⟩
  have e9 := HK.out ss h1 h2
  rw [e9] at h3
  clear e9 h1 h2
  have h5 := row_mono h3 bb.size
  have h6 := Bt bb h4
  obtain ⟨p, cap, rfl, _, _, _⟩ := row_val h3
  clear h3 h4 HS HK c0 c1 f0 f1 hl bb
  go_wp2
  go_ret
  exact ⟨_, rfl, h5, h6⟩
end
end Go.Proofs.YtaehendpdfpibaaGreatDoor

/-
  A store of the call's own, off the blocks N; alive.
-/
namespace Go.Proofs.YtaehendpdfpibaaGreatDoor
set_option linter.unusedSimpArgs false
set_option linter.unusedVariables false
open Go.RowKit Go.Sort Go.Lib Go.Shelf

/-- A store of the call's own: its blocks lie from base on, none in N. -/
def StoO (N : Nat → Prop) (base : Nat) (w : World) (ps : Nat) (L : List En) : Prop :=
  ∃ M, StoM w M ps L ∧ (∀ b, M b → base ≤ b ∧ ¬ N b) ∧ (∀ b, N b → b < w.heap.size) ∧ base ≤ w.heap.size
/-- The world in which the errors' variables and the table of bits were read. -/
structure Era (base : Nat) (w : World) (A : Nat → Addr) : Prop where
  er : ∃ w0 : World, Er8 w0 A ∧ TabW w0 ∧ RowKit.Below w0.heap.size w0 w ∧ w0.heap.size ≤ base
theorem Era.of {w : World} {A : Nat → Addr} (hE : Er8 w A) (hT : TabW w) {base : Nat} (hb : w.heap.size ≤ base) : Era base w A := ⟨w, hE, hT, Below.refl _ _, hb⟩
theorem Era.below {base : Nat} {w w' : World} {A : Nat → Addr} (h : Era base w A) (t : RowKit.Below w.heap.size w w') : Era base w' A := by
  obtain ⟨w0, h1, h2, h3, h4⟩ := h
  exact ⟨w0, h1, h2, Bt h3 t, h4⟩
theorem Era.tch {base : Nat} {N : Nat → Prop} {w w' : World} {A : Nat → Addr} (h : Era base w A) (t : Tch (OffT base N) w w') : Era base w' A := by
  obtain ⟨w0, h1, h2, h3, h4⟩ := h
  exact ⟨w0, h1, h2, h3.trans (t.below (fun b e => Nat.le_trans h4 e.1) h3.size), h4⟩
theorem Era.env {base : Nat} {N M : Nat → Prop} {w : World} {A : Nat → Addr} (h : Era base w A) (hM : ∀ b, M b → base ≤ b ∧ ¬ N b) : Env M w A := by
  obtain ⟨w0, h1, h2, h3, h4⟩ := h
  exact Env.of h1 h2 h3 (fun b e => Nat.le_trans h4 (hM b e).1)
theorem Era.er8 {base : Nat} {w : World} {A : Nat → Addr} (h : Era base w A) : Er8 w A := by
  obtain ⟨w0, h1, h2, h3, h4⟩ := h
  exact h1.below h3
theorem Era.bits {base : Nat} {w : World} {A : Nat → Addr} (h : Era base w A) : TabW w := by
  obtain ⟨w0, h1, h2, h3, h4⟩ := h
  exact h2.below h3
section
variable {N : Nat → Prop} {base ps : Nat} {w w' : World} {L L' : List En} {A : Nat → Addr}
theorem StoO.below (h : StoO N base w ps L) (t : RowKit.Below w.heap.size w w') : StoO N base w' ps L := by
  obtain ⟨M, h1, h2, h3, h4⟩ := h
  exact ⟨M, h1.below t, h2, fun b e => Nat.lt_of_lt_of_le (h3 b e) t.size, Nat.le_trans h4 t.size⟩
theorem StoO.lo (h : StoO N base w ps L) : base ≤ w.heap.size := by
  obtain ⟨M, h1, h2, h3, h4⟩ := h
  exact h4
theorem StoO.good (h : StoO N base w ps L) : Good L := h.choose_spec.1.good
/-- What is new since an elder world of the store's is off it. -/
theorem StoO.off {w0 : World} (h : StoO N base w0 ps L) (t : RowKit.Below w0.heap.size w0 w) : StoO (fun b => N b ∨ (w0.heap.size ≤ b ∧ b < w.heap.size)) base w ps L := by
  obtain ⟨M, h1, h2, h3, h4⟩ := h
  refine ⟨M, h1.below t, fun b e => ⟨(h2 b e).1, fun c => c.elim (h2 b e).2 (fun c => by have := h1.lt b e; omega)⟩, fun b e => e.elim (fun e => Nat.lt_of_lt_of_le (h3 b e) t.size) (fun e => e.2), Nat.le_trans h4 t.size⟩
theorem StoO.forget {N' : Nat → Prop} (h : StoO N base w ps L) (hN : ∀ b, N' b → N b) : StoO N' base w ps L := by
  obtain ⟨M, h1, h2, h3, h4⟩ := h
  exact ⟨M, h1, fun b e => ⟨(h2 b e).1, fun c => (h2 b e).2 (hN b c)⟩, fun b e => h3 b (hN b e), h4⟩
theorem StoO.ask (h : StoO N base w ps L) {P : Ending → World → Prop} {fn : FuncId} {args : Array Value}
    (hc : ∀ M, StoM w M ps L → (∀ b, M b → base ≤ b ∧ ¬ N b) → Calls Tryz.prog fn args w fun e w' => P e w' ∧ StoM w' (New M w w') ps L' ∧ Tch M w w') :
    Calls Tryz.prog fn args w fun e w' => P e w' ∧ StoO N base w' ps L' ∧ Tch (OffT base N) w w' := by
  obtain ⟨M, h1, h2, h3, h4⟩ := h
  refine (hc M h1 h2).mono fun e w' ⟨he, hT, ht⟩ => ⟨he, ⟨_, hT, fun b e => ?_, fun b e => Nat.lt_of_lt_of_le (h3 b e) ht.size, Nat.le_trans h4 ht.size⟩, ht.mono h2⟩
  rcases e with e | e
  · exact h2 b e
  · exact ⟨by omega, fun c => by have := h3 b c; omega⟩
/-- A question. -/
theorem StoO.read (h : StoO N base w ps L) {P : Ending → World → Prop} {fn : FuncId} {args : Array Value} (hc : ∀ M bt bp tt pl MT, StoX w M ps bt bp tt pl MT L → Calls Tryz.prog fn args w P) : Calls Tryz.prog fn args w P := by
  obtain ⟨M, ⟨bt, bp, tt, pl, MT, h1⟩, _⟩ := h
  exact hc M bt bp tt pl MT h1
theorem newS (hb : base ≤ w.heap.size) (hN : ∀ b, N b → b < w.heap.size) : Calls Tryz.prog 9 #[] w fun e w' => ∃ ps, e = .returned (psP ps) ∧ StoO N base w' ps [] ∧ RowKit.Below w.heap.size w w' := by
  refine (snew_call w).mono fun e w' ⟨ps, he, hT, hb1⟩ => ⟨ps, he, ⟨_, hT, fun b e => ?_, fun b e => Nat.lt_of_lt_of_le (hN b e) hb1.size, Nat.le_trans hb hb1.size⟩, hb1⟩
  rcases e with e | e
  · exact e.elim
  · exact ⟨by omega, fun c => by have := hN b c; omega⟩
theorem putS (h : StoO N base w ps L) (x1 x2 : Int) (hx : HdOk (x1, x2)) (l : List Vl) (v : Value) {N' : Nat → Prop} (hv : SlN N' encV w v l) (hN : ∀ b, N' b → b < base ∨ N b) (hlen : l.length ≤ 100000) (hA : Era base w A) :
    Calls Tryz.prog 37 #[psP ps, .agg #[.int .i64 x1, .int .i64 x2], v] w fun e w' => e = .returned (errV A (putEN L (x1, x2) l)) ∧ StoO N base w' ps (putEL L (x1, x2) l) ∧ Tch (OffT base N) w w' := by
  have hlo := h.lo
  obtain ⟨M0, _, _, h3, _⟩ := id h
  refine h.ask (P := fun e _ => e = .returned (errV A (putEN L (x1, x2) l))) fun M ⟨bt, bp, tt, pl, MT, hS⟩ hM => sput_call hS x1 x2 hx l v hv (fun b e => ?_) hlen (hA.env hM)
  rcases hN b e with c | c
  · exact ⟨by omega, fun d => by have := (hM b d).1; omega⟩
  · exact ⟨h3 b c, fun d => (hM b d).2 c⟩
theorem addS (h : StoO N base w ps L) (x1 x2 : Int) (hx : HdOk (x1, x2)) (y1 y2 y3 : Int) (hA : Era base w A) :
    Calls Tryz.prog 38 #[psP ps, .agg #[.int .i64 x1, .int .i64 x2], .agg #[.int .i64 y1, .int .i64 y2, .int .i64 y3]] w fun e w' => e = .returned (errV A (addEN L (x1, x2) (y1, y2, y3))) ∧ StoO N base w' ps (addEL L (x1, x2) (y1, y2, y3)) ∧ Tch (OffT base N) w w' :=
  h.ask (P := fun e _ => e = .returned (errV A (addEN L (x1, x2) (y1, y2, y3)))) fun M ⟨bt, bp, tt, pl, MT, hS⟩ hM => sadd_call hS x1 x2 hx y1 y2 y3 (hA.env hM)
theorem remS (h : StoO N base w ps L) (x1 x2 : Int) (hx : HdOk (x1, x2)) (k : Int) (hA : Era base w A) :
    Calls Tryz.prog 49 #[psP ps, .agg #[.int .i64 x1, .int .i64 x2], .int .i64 k] w fun e w' => e = .returned (errV A (remEN L (x1, x2) k)) ∧ StoO N base w' ps (remEL L (x1, x2) k) ∧ Tch (OffT base N) w w' :=
  h.ask (P := fun e _ => e = .returned (errV A (remEN L (x1, x2) k))) fun M ⟨bt, bp, tt, pl, MT, hS⟩ hM => srem_call hS x1 x2 hx k (hA.env hM)
theorem setS (h : StoO N base w ps L) (x1 x2 : Int) (hx : HdOk (x1, x2)) (y1 y2 y3 : Int) (hkw : (Lit.int .i64 y1).wf = true) (hA : Era base w A) :
    Calls Tryz.prog 51 #[psP ps, .agg #[.int .i64 x1, .int .i64 x2], .agg #[.int .i64 y1, .int .i64 y2, .int .i64 y3]] w fun e w' => e = .returned (errV A (setEN L (x1, x2) (y1, y2, y3))) ∧ StoO N base w' ps (setEL L (x1, x2) (y1, y2, y3)) ∧ Tch (OffT base N) w w' :=
  h.ask (P := fun e _ => e = .returned (errV A (setEN L (x1, x2) (y1, y2, y3)))) fun M ⟨bt, bp, tt, pl, MT, hS⟩ hM => sset_call hS x1 x2 y1 y2 y3 hx hkw hA.er8
theorem takeS (h : StoO N base w ps L) (x1 x2 : Int) (hx : HdOk (x1, x2)) (hA : Era base w A) :
    Calls Tryz.prog 11 #[psP ps, .agg #[.int .i64 x1, .int .i64 x2]] w fun e w' => (∃ v, e = .returned (.tuple #[.agg #[.int .i64 (entE L (x1, x2)).1.1, .int .i64 (entE L (x1, x2)).1.2, v], errV A (takeEN L (x1, x2))]) ∧ Sl encV w' v (entE L (x1, x2)).2) ∧ StoO N base w' ps (delE L (x1, x2)) ∧ Tch (OffT base N) w w' :=
  h.ask (P := fun e w' => ∃ v, e = .returned (.tuple #[.agg #[.int .i64 (entE L (x1, x2)).1.1, .int .i64 (entE L (x1, x2)).1.2, v], errV A (takeEN L (x1, x2))]) ∧ Sl encV w' v (entE L (x1, x2)).2) fun M ⟨bt, bp, tt, pl, MT, hS⟩ hM => (stake_call hS x1 x2 hx (hA.env hM)).mono fun e w' ⟨⟨v, h1, h2⟩, h3⟩ => ⟨⟨v, h1, row_sl lenV h2 rfl⟩, h3⟩
theorem getS (h : StoO N base w ps L) (x1 x2 k : Int) (hx : HdOk (x1, x2)) (hkw : (Lit.int .i64 k).wf = true) (hA : Era base w A) : Calls Tryz.prog 14 #[psP ps, .agg #[.int .i64 x1, .int .i64 x2], .int .i64 k] w fun e w' => e = .returned (.tuple #[aggV (getEV L (x1, x2) k), errV A (getEN L (x1, x2) k)]) ∧ RowKit.Below w.heap.size w w' :=
  h.read fun M bt bp tt pl MT hS => sget_call hS x1 x2 k hx hkw hA.er8
theorem entS (h : StoO N base w ps L) (x1 x2 : Int) (hx : HdOk (x1, x2)) (hA : Era base w A) : Calls Tryz.prog 19 #[psP ps, .agg #[.int .i64 x1, .int .i64 x2]] w fun e w' => ∃ v, e = .returned (.tuple #[.agg #[.int .i64 (entE L (x1, x2)).1.1, .int .i64 (entE L (x1, x2)).1.2, v], errV A (takeEN L (x1, x2))]) ∧ Sl encV w' v (entE L (x1, x2)).2 ∧ RowKit.Below w.heap.size w w' :=
  h.read fun M bt bp tt pl MT hS => (sent_call hS x1 x2 hx hA.er8 hA.bits).mono fun e w' ⟨v, h1, h2, h3⟩ => ⟨v, h1, row_sl lenV h2 rfl, h3⟩
theorem hasS (h : StoO N base w ps L) (x1 x2 : Int) (hx : HdOk (x1, x2)) (hA : Era base w A) : Calls Tryz.prog 17 #[psP ps, .agg #[.int .i64 x1, .int .i64 x2]] w fun e w' => e = .returned (.bool (fndE L (x1, x2)).isSome) ∧ RowKit.Below w.heap.size w w' :=
  h.read fun M bt bp tt pl MT hS => shas_call hS x1 x2 hx hA.er8
theorem lenS (h : StoO N base w ps L) : Calls Tryz.prog 54 #[psP ps] w fun e w' => e = .returned (.int .i64 L.length) ∧ w = w' :=
  h.read fun M bt bp tt pl MT hS => slen_call hS
theorem masksS1 (h : StoO N base w ps L) (hc : nM L ≤ 1) : Calls Tryz.prog 39 #[psP ps] w fun e w' => ∃ v, e = .returned v ∧ w'.ownsRow w.heap.size 60 1 v (mskE L).length ((mskE L).map encU) ∧ RowKit.Below w.heap.size w w' :=
  h.read fun M bt bp tt pl MT hS => smasks1 hS hc
end
theorem nilP_run (op : BinOp) (a : Addr) (w : World) : True := trivial
section
variable {A : Nat → Addr}
theorem HdOk01 : HdOk (0, 1) := ⟨by decide, by decide⟩
set_option maxHeartbeats 2000000 in
set_option maxRecDepth 100000 in
theorem alive8_any (w : World) (hE : Er8 w A) (hT : TabW w) : Calls Tryz.prog 8 #[] w fun e w' => e = .returned (.bool true) ∧ RowKit.Below w.heap.size w w' := by
  have p1 : putEN [] (0, 1) [(0, 0, 0)] = 0 := by decide +kernel
  have p2 : putEL [] (0, 1) [(0, 0, 0)] = [((0, 1), [(0, 0, 0)])] := by unfold putEL; rw [p1]; decide +kernel
  have a1 : addEN [((0, 1), [(0, 0, 0)])] (0, 1) (1, 0, 0) = 0 := by decide +kernel
  have a2 : addEL [((0, 1), [(0, 0, 0)])] (0, 1) (1, 0, 0) = [((0, 1), [(0, 0, 0), (1, 0, 0)])] := by unfold addEL; rw [a1]; decide +kernel
  have m1 : mskE [((0, 1), [(0, 0, 0), (1, 0, 0)])] = [3] := by decide +kernel
  have HA := Lib.hid (Era.of hE hT (Nat.le_refl _))
  have C0 := Lib.hid (newS (N := NoN) (base := w.heap.size) (w := w) (Nat.le_refl _) (fun b e => e.elim))
  clear hE hT
  go_enter Tryz.func8, Tryz.ntmps8
  go_wp2_with fail
  refine C0.out.mono ?_
  rintro e w1 ⟨ps, rfl, hS1, hb1⟩
  have bl := Ba (Below.refl _ w1) (.cells #[.int .i64 0, .int .i64 0, .int .i64 0] 34)
  have B1 := Lib.hid (Bt hb1 bl)
  have T1 := Lib.hid (hS1.off bl)
  have S1 := Lib.hid (SlN.mono (SlN.kept (X := fun _ => False) (w' := w1.alloc (.cells #[.int .i64 0, .int .i64 0, .int .i64 0] 34)) (N := fun b => b = w1.heap.size) (show SlN _ encV (w1.alloc (.cells #[.int .i64 0, .int .i64 0, .int .i64 0] 34)) (.slice (some ⟨w1.heap.size, 0, none⟩) 1 1) [(0, 0, 0)] from ⟨_, 1, rfl, by decide, by unfold maxLen; decide, fun _ => ⟨w1.heap.size, 0, rfl, by simp, rfl, fun j u hu => by
    rw [World.cell?_alloc_at (w := w1) _ _ w1.heap.size _ rfl, Nat.zero_add]; simpa [flat, encV] using hu⟩⟩) (Tch.of (Below.refl _ _)) (fun _ _ e => e)) (N' := fun b => NoN b ∨ (w1.heap.size ≤ b ∧ b < (w1.alloc (.cells #[.int .i64 0, .int .i64 0, .int .i64 0] 34)).heap.size)) (fun b e => .inr ⟨by omega, by simp; omega⟩))
  have C1 := Lib.hid (putS T1.out 0 1 HdOk01 [(0, 0, 0)] _ S1.out (fun b e => .inr e) (by decide) ((HA.out.below hb1).below bl))
  rw [p1, p2, errV_no] at C1
  clear hb1 hS1 bl p1 p2
  generalize hN : (fun b => NoN b ∨ (w1.heap.size ≤ b ∧ b < (w1.alloc (.cells #[.int .i64 0, .int .i64 0, .int .i64 0] 34)).heap.size)) = N at *
  clear hN
  go_wp2_with fail
  refine C1.out.mono ?_
  rintro e w2 ⟨rfl, hS2, ht2⟩
  have B2 := Lib.hid (B1.out.trans (OffT.below ht2 B1.out.size))
  have C2 := Lib.hid (addS hS2 0 1 HdOk01 1 0 0 ((HA.out.below B1.out).tch ht2))
  rw [a1, a2, errV_no] at C2
  clear hS2 ht2 S1 C1 T1 a1 a2
  go_wp2_with fail
  refine C2.out.mono ?_
  rintro e w3 ⟨rfl, hS3, ht3⟩
  have B3 := Lib.hid (B2.out.trans (OffT.below ht3 B2.out.size))
  have C3 := Lib.hid (masksS1 hS3 (by unfold nM; rw [m1]; decide))
  rw [m1] at C3
  clear hS3 ht3 C2 m1
  go_wp2_with fail
  refine C3.out.mono ?_
  rintro e w4 ⟨v, rfl, ho, hb4⟩
  have B4 := Lib.hid (B3.out.trans (hb4.mono B3.out.size))
  obtain ⟨p, cap, rfl, hcap, _, hp⟩ := row_val ho
  obtain ⟨g, rfl, hg, _⟩ := hp (by decide)
  have d0 : w4.cell? ⟨g, 0, none⟩ = some (.int .u64 3) := by
    have := cellsI ho 0 (.int .u64 3) rfl
    simpa using this
  clear ho hb4 C3 hp
  go_wp2
  go_ret
  exact ⟨rfl, B4.out⟩
end
end Go.Proofs.YtaehendpdfpibaaGreatDoor

/-
  Pure: components of a row added one by one, in a turned order; few entities have few masks.
-/
namespace Go.Proofs.YtaehendpdfpibaaGreatDoor
set_option linter.unusedSimpArgs false
set_option linter.unusedVariables false
open Go.RowKit Go.Sort Go.Lib Go.Shelf

theorem mod2 {a n : Nat} (h : a < 2 * n) : a % n = if a < n then a else a - n := by
  split
  · exact Nat.mod_eq_of_lt ‹_›
  · rw [Nat.mod_eq_sub_mod (by omega), Nat.mod_eq_of_lt (by omega)]
theorem nM_le_len (L : List En) : nM L ≤ L.length := by
  have := nodup_len (mskE L) (L.map fun r => maskV r.2) ((mskE_rise L).imp (fun h => by omega)) (fun q hq => by
    obtain ⟨_, r, hr, e⟩ := (mem_mskE L q).1 hq
    exact List.mem_map.2 ⟨r, hr, e⟩)
  simpa [nM] using this
/-- One mask alone. -/
theorem msk_one {L : List En} {m : Nat} (hm : m < 1024) (h : ∀ q, hasM L q = decide (q = m)) : nM L = 1 := by
  unfold nM mskE
  rw [List.filter_congr (fun q _ => h q)]
  have := filter_or_len (fun _ => false) m 1024 hm
  simp only [Bool.false_or] at this
  rw [this]
  simp
/-- R holds just the components of the row from m on, k of them, turned round. -/
structure Got (row : List Vl) (m k : Nat) (R : List Vl) : Prop where
  right : RightV R
  mem : ∀ x, x ∈ R ↔ ∃ j, j < k ∧ row[(j + m) % row.length]? = some x
theorem Got.zero (row : List Vl) (m : Nat) : Got row m 0 [] := ⟨⟨List.Pairwise.nil, by simp⟩, fun x => by simp⟩
theorem rise_idx {row : List Vl} (hr : RiseK row) {i j : Nat} {x y : Vl} (hi : row[i]? = some x) (hj : row[j]? = some y) (e : x.1 = y.1) : i = j := by
  obtain ⟨h1, rfl⟩ := List.getElem?_eq_some_iff.1 hi
  obtain ⟨h2, rfl⟩ := List.getElem?_eq_some_iff.1 hj
  have hp := List.pairwise_iff_getElem.1 hr
  rcases Nat.lt_trichotomy i j with c | c | c
  · have := hp i j h1 h2 c; omega
  · exact c
  · have := hp j i h2 h1 c; omega
theorem turn_inj {n m j k : Nat} (hm : m < n) (hj : j < n) (hk : k < n) (e : (j + m) % n = (k + m) % n) : j = k := by
  rw [mod2 (by omega), mod2 (by omega)] at e
  split at e <;> split at e <;> omega
theorem Got.has {row : List Vl} {m k : Nat} {R : List Vl} (h : Got row m k R) (hr : RiseK row) (hm : m < row.length) (hk : k < row.length) : hasK R (row[(k + m) % row.length]!).1 = false := by
  have hlt : (k + m) % row.length < row.length := Nat.mod_lt _ (by omega)
  cases e : hasK R (row[(k + m) % row.length]!).1 with
  | false => rfl
  | true =>
    unfold hasK at e
    obtain ⟨y, hy⟩ := Option.isSome_iff_exists.1 e
    obtain ⟨h1, h2⟩ := find_some hy
    obtain ⟨j, hj, e2⟩ := (h.mem y).1 h1
    have := rise_idx hr e2 (List.getElem?_eq_getElem hlt) (by rw [h2, getElem!_pos row _ hlt])
    have := turn_inj hm (by omega) hk this
    omega
theorem Got.step {row : List Vl} {m k : Nat} {R : List Vl} (h : Got row m k R) (hr : RightV row) (hm : m < row.length) (hk : k < row.length) : Got row m (k + 1) (putV R row[(k + m) % row.length]!) := by
  have hlt : (k + m) % row.length < row.length := Nat.mod_lt _ (by omega)
  have hx : row[(k + m) % row.length]! ∈ row := by rw [getElem!_pos row _ hlt]; exact List.getElem_mem _
  refine ⟨putV_right h.right (hr.2 _ hx), fun y => ?_⟩
  rw [mem_putV, h.mem]
  constructor
  · rintro (rfl | ⟨⟨j, hj, e⟩, _⟩)
    · exact ⟨k, by omega, by rw [getElem!_pos row _ hlt]; exact List.getElem?_eq_getElem hlt⟩
    · exact ⟨j, by omega, e⟩
  · rintro ⟨j, hj, e⟩
    by_cases c : j = k
    · subst c
      left
      rw [getElem!_pos row _ hlt]
      rw [List.getElem?_eq_getElem hlt] at e
      exact (Option.some.inj e).symm
    · refine .inr ⟨⟨j, by omega, e⟩, fun e2 => c ?_⟩
      have := rise_idx hr.1 e (List.getElem?_eq_getElem hlt) (by rw [e2, getElem!_pos row _ hlt])
      exact turn_inj hm (by omega) hk this
theorem Got.all {row : List Vl} {m : Nat} {R : List Vl} (h : Got row m row.length R) (hr : RightV row) (hm : m < row.length) : R = row := by
  refine rise_ext _ _ h.right.1 hr.1 fun x => ?_
  rw [h.mem]
  constructor
  · rintro ⟨j, _, e⟩; exact List.mem_of_getElem? e
  · intro hx
    obtain ⟨i, hi, rfl⟩ := List.getElem_of_mem hx
    have hj : (i + (row.length - m)) % row.length < row.length := Nat.mod_lt _ (by omega)
    refine ⟨(i + (row.length - m)) % row.length, hj, ?_⟩
    have : ((i + (row.length - m)) % row.length + m) % row.length = i := by
      rw [mod2 (a := i + (row.length - m)) (by omega)]
      split
      · rw [mod2 (by omega)]; split <;> omega
      · rw [mod2 (by omega)]; split <;> omega
    rw [this]
    exact List.getElem?_eq_getElem hi
end Go.Proofs.YtaehendpdfpibaaGreatDoor

/-
  A call of a store's script in memory: seven cells; a row among rows: one cell.
-/
namespace Go.Proofs.YtaehendpdfpibaaGreatDoor
set_option linter.unusedSimpArgs false
set_option linter.unusedVariables false
open Go.RowKit Go.Sort Go.Lib Go.Shelf
/-- Kind; the handle; the row, as a value and what it holds; the component. -/
abbrev Oq := Int × Hd × (Value × List Vl) × Vl
abbrev Rr := Value × List Vl
instance : Inhabited Value := ⟨.nilIface⟩
def encQ (o : Oq) : List Value := [.int .i64 o.1, .int .i64 o.2.1.1, .int .i64 o.2.1.2, o.2.2.1.1, .int .i64 o.2.2.2.1, .int .i64 o.2.2.2.2.1, .int .i64 o.2.2.2.2.2]
theorem lenQ (o : Oq) : (encQ o).length = 7 := rfl
def encRr (r : Rr) : List Value := [r.1]
theorem lenRr (r : Rr) : (encRr r).length = 1 := rfl
end Go.Proofs.YtaehendpdfpibaaGreatDoor

/-
  What every statement of this seat needs, once: a law's post out of 'true, and no old memory changed'; the arguments' shapes: numbers, components, slices of components, a script, rows.
-/
namespace Go.Proofs.YtaehendpdfpibaaGreatDoor
set_option linter.unusedSimpArgs false
set_option linter.unusedVariables false
open Go.ChangeShapes Go.WideShapes Go.ChangeAt Go.RowKit Go.Joins Go.Sort

theorem own : ownKnob Tryz.prog.godebug = none := by kernel_rfl
theorem laidOut : laidOutB Tryz.prog = true := by kernel_rfl

section
variable {H : Type} {enc : TypeId × Value → H} {P : Program}

/-- The arguments read behind the call as they did. -/
theorem trodAll_stays (hl : laidOutB P = true) {W W' : World} (hb : RowKit.Below W.heap.size W W') :
    ∀ {ts : List TypeId} {vs : List Value} {ds : List (DataW H)} {ps : List MemPlace}, ts.all (fun t => P.readableRec t && decide (t < P.types.size)) = true → DataW.TrodAll enc P W 0 (fun _ => true) true ts vs ds ps →
      (∀ x ∈ ps, x.block < W.heap.size) → DataW.TrodAll enc P W' 0 (fun b => decide (b < W.heap.size)) true ts vs ds ps
  | [], _, _, _, _, h, _ => by
    obtain ⟨rfl, rfl, rfl⟩ := trodAll_nil h
    exact trodAll_mk0
  | t :: ts, _, _, _, hr, h, hlt => by
    obtain ⟨v, vs1, d, ds1, a, b, rfl, rfl, rfl, h1, h2⟩ := trodAll_cons h
    simp only [List.all_cons, Bool.and_eq_true, decide_eq_true_eq] at hr
    exact trodAll_cons_mk (RowKit.Below.trod hl hr.1.1 hr.1.2 h1 hb (fun x hx => hlt x (by simp [hx]))) (trodAll_stays hl hb (by simpa using hr.2) h2 (fun x hx => hlt x (by simp [hx])))

/-- A law's post: it answers true, nothing that was there has changed, the arguments read as they did. -/
theorem law_post {fn : Func} {s : ChangeSpec} {tb : TypeId} {W W' : World} {args : Array Value} {ds gs : List (DataW H)} {before : List MemPlace}
    (hl : laidOutB P = true) (hr : fn.params.toList.all (fun t => P.readableRec t && decide (t < P.types.size)) = true)
    (hvars : s.vars = []) (hres : fn.resultTypes = #[tb]) (htb : P.underlying tb = some .bool)
    (hs : ∀ ds : List (DataW H), ds.length = fn.params.size → s.fn H ds = { results := [.lit (.bool true)], args := ds })
    (hW : DataW.Whole enc P fn.params.toList s.vars false W args.toList ds gs before) (hb : RowKit.Below W.heap.size W W') :
    s.post enc P fn false true false false W args (.bool true) W' := by
  have hlt : ∀ x ∈ before, x.block < W.heap.size := fun x hx => by simpa using hW.lt x hx
  have hW' := hW
  obtain ⟨p, q, hA, hV, rfl, _, _⟩ := hW
  rw [hvars] at hV
  obtain ⟨rfl, rfl⟩ := trodVars_none hV
  simp only [List.append_nil] at hlt hW' ⊢
  have hlen : ds.length = fn.params.size := by
    have : ∀ {ts : List TypeId} {vs : List Value} {ds : List (DataW H)} {ps : List MemPlace}, DataW.TrodAll enc P W 0 (fun _ => true) true ts vs ds ps → ds.length = ts.length := by
      intro ts
      induction ts with
      | nil => intro vs ds ps h; obtain ⟨rfl, rfl, rfl⟩ := trodAll_nil h; rfl
      | cons t ts ih =>
        intro vs ds ps h
        obtain ⟨v, vs1, d, ds1, a, b, rfl, rfl, rfl, h1, h2⟩ := trodAll_cons h
        simp [ih h2]
    simpa using this hA
  have e := hs (ds ++ []) (by simpa using hlen)
  refine ⟨ds, [], p, [], p, [], by simpa using hW', ?_, ?_, ?_, hb.frame _, fun h => by cases h⟩
  · rw [e, hres]
    exact trodAll_mk1 (shut_bool htb _)
  · rw [e]
    simpa using trodAll_stays hl hb hr hA hlt
  · rw [e, hvars]
    rfl
end

theorem cellsInt : Tryz.prog.cellsOf 3 = 1 := by kernel_rfl
theorem cellsVal : Tryz.prog.cellsOf 34 = 3 := by kernel_rfl
theorem cellsVals : Tryz.prog.cellsOf 32 = 1 := by kernel_rfl
theorem cellsOp8 : Tryz.prog.cellsOf 36 = 7 := by kernel_rfl
theorem cellsHd : Tryz.prog.cellsOf 31 = 2 := by kernel_rfl

theorem sl_of_elemsP {α : Type} [Inhabited α] {enc : α → List Value} {k : Nat} (hk : ∀ x, (enc x).length = k) (k0 : 0 < k) {W : World} {a : Addr} {ln cap : Nat} {p : α → Prop} (hl : ln ≤ cap) (hm : cap ≤ maxLen)
    (elem : ∀ i, i < ln → ∃ x : α, p x ∧ ∀ c u, (enc x)[c]? = some u → W.cell? (a.add (i * k + c)) = some u) : ∃ l : List α, Sl enc W (.slice (some a) ln cap) l ∧ ∀ x ∈ l, p x := by
  have hX : ∃ X : Nat → α, ∀ i, i < ln → p (X i) ∧ ∀ c u, (enc (X i))[c]? = some u → W.cell? (a.add (i * k + c)) = some u :=
    ⟨fun i => if h : i < ln then (elem i h).choose else default, fun i hi => by simp only [dif_pos hi]; exact (elem i hi).choose_spec⟩
  obtain ⟨X, hX⟩ := hX
  have hlen : ((List.range ln).map X).length = ln := by simp
  refine ⟨(List.range ln).map X, ⟨some a, cap, by rw [hlen], by rw [hlen]; exact hl, hm, fun hp => ?_⟩, fun x hx => by
    obtain ⟨i, hi, rfl⟩ := List.mem_map.1 hx
    exact (hX i (List.mem_range.1 hi)).1⟩
  rw [hlen] at hp
  have h00 : (enc (X 0))[0]? = some ((enc (X 0))[0]'(by rw [hk]; exact k0)) := List.getElem?_eq_getElem (by rw [hk]; exact k0)
  have e0 := (hX 0 hp).2 0 _ h00
  obtain ⟨g, o, spot⟩ := a
  have hspot : spot = none := by simpa [Addr.add] using World.cell?_spot e0
  subst hspot
  rw [Addr.add_lit] at e0
  refine ⟨g, o, rfl, cell_lt e0, fun j u hu => ?_⟩
  have hj : j < ln * k := by have := (List.getElem?_eq_some_iff.1 hu).1; rwa [flat_len hk, hlen] at this
  have hq : j / k < ln := Nat.div_lt_of_lt_mul (by rw [Nat.mul_comm]; exact hj)
  have hr : j % k < k := Nat.mod_lt _ k0
  have e : j / k * k + j % k = j := by rw [Nat.mul_comm]; exact Nat.div_add_mod j k
  have g1 := flat_get hk ((List.range ln).map X) (j / k) (j % k) (by rw [hlen]; exact hq) hr
  rw [e, hu, getElem!_pos _ _ (by rw [hlen]; exact hq), List.getElem_map, List.getElem_range] at g1
  have := (hX (j / k) hq).2 (j % k) u g1.symm
  rwa [e, Addr.add_lit] at this

section
variable {H : Type} {enc : TypeId × Value → H} {W : World} {b0 : Nat} {held : Bool} {v : Value} {d : DataW H} {p : List MemPlace}

set_option maxRecDepth 100000 in
/-- A component as an argument. -/
theorem open_val (hv : Value.okWide Tryz.prog W .any b0 34 v) (h : DataW.Trod enc Tryz.prog W 0 (fun _ => true) held 34 v d p) :
    ∃ a b c : Int, v = .agg #[.int .i64 a, .int .i64 b, .int .i64 c] ∧ (Lit.int .i64 a).wf = true ∧ (Lit.int .i64 b).wf = true ∧ (Lit.int .i64 c).wf = true := by
  obtain ⟨c0, c1, c2, y0, y1, y2, m, rfl, rfl, rfl, h0, h1, h2⟩ := open_agg3 Tryz.underlying34 (by kernel_rfl) cellsVal hv h
  obtain ⟨a, e0, rfl, wa⟩ := DataW.trod_int Tryz.underlying3 h0
  obtain ⟨b, e1, rfl, wb⟩ := DataW.trod_int Tryz.underlying3 h1
  obtain ⟨c, e2, rfl, wc⟩ := DataW.trod_int Tryz.underlying3 h2
  simp at e0 e1 e2
  subst e0 e1 e2
  exact ⟨a, b, c, rfl, wa, wb, wc⟩

set_option maxRecDepth 100000 in
/-- The three cells of a component. -/
theorem open_cellsV {fuel : Nat} {cs : List Value} {x : DataW H × List MemPlace} (ht : DataW.trod enc Tryz.prog W 0 (fun _ => true) held fuel 34 cs = some x) (hl : cs.length = 3) :
    ∃ a b c : Int, cs = [.int .i64 a, .int .i64 b, .int .i64 c] := by
  match cs, hl with
  | [c0, c1, c2], _ =>
    obtain ⟨y0, y1, y2, n', _, _, s0, s1, s2⟩ := Go.Deep.trod_struct3 Tryz.underlying34 ht
    simp only [cellsInt, List.drop_zero, List.drop_succ_cons, List.take_succ_cons, List.take_zero] at s0 s1 s2
    obtain ⟨n0, g0, _, _⟩ := DataW.trod_int Tryz.underlying3 s0
    obtain ⟨n1, g1, _, _⟩ := DataW.trod_int Tryz.underlying3 s1
    obtain ⟨n2, g2, _, _⟩ := DataW.trod_int Tryz.underlying3 s2
    simp at g0 g1 g2
    subst g0 g1 g2
    exact ⟨n0, n1, n2, rfl⟩

set_option maxRecDepth 100000 in
/-- A slice of components. -/
theorem open_vals (hv : Value.okWide Tryz.prog W .any b0 32 v) (h : DataW.Trod enc Tryz.prog W 0 (fun _ => true) held 32 v d p) : ∃ l : List Vl, Sl encV W v l := by
  obtain ⟨al, ln, cp, rfl⟩ := okWide_slice Tryz.underlying32 hv
  obtain ⟨fuel, hf⟩ := h
  rcases Go.Deep.open_slice Tryz.underlying32 hf with ⟨hcs, _⟩ | ⟨a, len, cap, m, k, D, Pl, hcs, _, hl, hm, hmm, hx, hi⟩
  · simp [Value.cells] at hcs
    obtain ⟨rfl, rfl, rfl⟩ := hcs
    exact ⟨[], Sl.nil none 0 (Nat.zero_le _)⟩
  · simp [Value.cells] at hcs
    obtain ⟨rfl, rfl, rfl⟩ := hcs
    simp only [if_true] at hmm
    subst hmm
    refine (fun (q : ∃ l : List Vl, Sl encV W _ l ∧ ∀ x ∈ l, True) => q.imp fun _ h => h.1) (sl_of_elemsP (p := fun _ => True) lenV (by omega) hl hm fun i hic => ?_)
    obtain ⟨cs', hc, ht⟩ := hi i (by omega)
    rw [cellsVal] at hc
    obtain ⟨_, hlen, hat⟩ := World.cells?_some hc
    obtain ⟨n0, n1, n2, rfl⟩ := open_cellsV ht hlen
    refine ⟨(n0, n1, n2), trivial, fun c u hu => ?_⟩
    have hcl : c < 3 := by have := (List.getElem?_eq_some_iff.1 hu).1; rwa [lenV] at this
    have k0 := hat c (by simpa using hcl)
    rw [Go.Deep.add_add] at k0
    rw [k0]
    exact hu

set_option maxRecDepth 100000 in
theorem open_ints2 (hv : Value.okWide Tryz.prog W .any b0 80 v) (h : DataW.Trod enc Tryz.prog W 0 (fun _ => true) held 80 v d p) : ∃ l : List Int, Sl encI W v l := by
  obtain ⟨al, ln, cp, rfl⟩ := okWide_slice Tryz.underlying80 hv
  obtain ⟨fuel, hf⟩ := h
  rcases Go.Deep.open_slice Tryz.underlying80 hf with ⟨hcs, _⟩ | ⟨a, len, cap, m, k, D, Pl, hcs, _, hl, hm, hmm, hx, hi⟩
  · simp [Value.cells] at hcs
    obtain ⟨rfl, rfl, rfl⟩ := hcs
    exact ⟨[], Sl.nil none 0 (Nat.zero_le _)⟩
  · simp [Value.cells] at hcs
    obtain ⟨rfl, rfl, rfl⟩ := hcs
    simp only [if_true] at hmm
    subst hmm
    refine (fun (q : ∃ l : List Int, Sl encI W _ l ∧ ∀ x ∈ l, True) => q.imp fun _ h => h.1) (sl_of_elemsP (p := fun _ => True) lenI (by omega) hl hm fun i hic => ?_)
    obtain ⟨cs', hc, ht⟩ := hi i (by omega)
    rw [cellsInt] at hc
    obtain ⟨_, hlen, hat⟩ := World.cells?_some hc
    match cs', hlen with
    | [c0], _ =>
      obtain ⟨n0, g0, _, _⟩ := DataW.trod_int Tryz.underlying3 ht
      simp at g0
      subst g0
      refine ⟨n0, trivial, fun c u hu => ?_⟩
      have hcl : c < 1 := by have := (List.getElem?_eq_some_iff.1 hu).1; rwa [lenI] at this
      have k0 := hat c (by simpa using hcl)
      rw [Go.Deep.add_add] at k0
      rw [k0]
      exact hu


set_option maxRecDepth 100000 in
theorem nat_u64 {n : Int} (h : (Lit.int .u64 n).wf = true) : ∃ m : Nat, n = m ∧ m < 18446744073709551616 := by
  have := bounds_u64 h
  exact ⟨n.toNat, by omega, by omega⟩
set_option maxRecDepth 100000 in
theorem open_u64 {sp : Nat → Bool} (hv : Value.okWide Tryz.prog W .any b0 54 v) (h : DataW.Trod enc Tryz.prog W 0 sp held 54 v d p) : ∃ m : Nat, v = .int .u64 m ∧ m < 18446744073709551616 := by
  obtain ⟨x, rfl, rfl, rfl, hx⟩ := open_int Tryz.underlying54 hv h
  obtain ⟨m, rfl, hm⟩ := nat_u64 hx
  exact ⟨m, rfl, hm⟩

set_option maxRecDepth 100000 in
/-- A slice of components that lies in a cell. -/
theorem open_valsC {fuel : Nat} {c : Value} {x : DataW H × List MemPlace} (hf : DataW.trod enc Tryz.prog W 0 (fun _ => true) held fuel 32 [c] = some x) : ∃ l : List Vl, Sl encV W c l := by
  rcases Go.Deep.open_slice Tryz.underlying32 hf with ⟨hcs, _⟩ | ⟨a, len, cap, m, k, D, Pl, hcs, _, hl, hm, hmm, hx, hi⟩
  · simp at hcs
    subst hcs
    exact ⟨[], Sl.nil none 0 (Nat.zero_le _)⟩
  · simp at hcs
    subst hcs
    simp only [if_true] at hmm
    subst hmm
    refine (fun (q : ∃ l : List Vl, Sl encV W _ l ∧ ∀ x ∈ l, True) => q.imp fun _ h => h.1) (sl_of_elemsP (p := fun _ => True) lenV (by omega) hl hm fun i hic => ?_)
    obtain ⟨cs', hc, ht⟩ := hi i (by omega)
    rw [cellsVal] at hc
    obtain ⟨_, hlen, hat⟩ := World.cells?_some hc
    obtain ⟨n0, n1, n2, rfl⟩ := open_cellsV ht hlen
    refine ⟨(n0, n1, n2), trivial, fun c u hu => ?_⟩
    have hcl : c < 3 := by have := (List.getElem?_eq_some_iff.1 hu).1; rwa [lenV] at this
    have k0 := hat c (by simpa using hcl)
    rw [Go.Deep.add_add] at k0
    rw [k0]
    exact hu

set_option maxRecDepth 100000 in
/-- A script. -/
theorem open_ops8 (hv : Value.okWide Tryz.prog W .any b0 22 v) (h : DataW.Trod enc Tryz.prog W 0 (fun _ => true) held 22 v d p) : ∃ l : List Oq, Sl encQ W v l ∧ ∀ x ∈ l, Sl encV W x.2.2.1.1 x.2.2.1.2 ∧ HdOk x.2.1 ∧ (Lit.int .i64 x.2.2.2.1).wf = true := by
  obtain ⟨al, ln, cp, rfl⟩ := okWide_slice Tryz.underlying22 hv
  obtain ⟨fuel, hf⟩ := h
  rcases Go.Deep.open_slice Tryz.underlying22 hf with ⟨hcs, _⟩ | ⟨a, len, cap, m, k, D, Pl, hcs, _, hl, hm, hmm, hx, hi⟩
  · simp [Value.cells] at hcs
    obtain ⟨rfl, rfl, rfl⟩ := hcs
    exact ⟨[], Sl.nil none 0 (Nat.zero_le _), by simp⟩
  · simp [Value.cells] at hcs
    obtain ⟨rfl, rfl, rfl⟩ := hcs
    simp only [if_true] at hmm
    subst hmm
    refine sl_of_elemsP (p := fun x : Oq => Sl encV W x.2.2.1.1 x.2.2.1.2 ∧ HdOk x.2.1 ∧ (Lit.int .i64 x.2.2.2.1).wf = true) lenQ (by omega) hl hm fun i hic => ?_
    obtain ⟨cs', hc, ht⟩ := hi i (by omega)
    rw [cellsOp8] at hc
    obtain ⟨_, hlen, hat⟩ := World.cells?_some hc
    match cs', hlen with
    | [c0, c1, c2, c3, c4, c5, c6], _ =>
      obtain ⟨y0, y1, y2, y3, n', _, _, s0, s3, s4, s5⟩ := trod_struct4 Tryz.underlying36 ht
      simp only [cellsInt, cellsVal, cellsVals, cellsHd, List.drop_zero, List.drop_succ_cons, List.take_succ_cons, List.take_zero] at s0 s3 s4 s5
      obtain ⟨n0, g0, _, _⟩ := DataW.trod_int Tryz.underlying3 s0
      obtain ⟨xs3, n3, _, _, _, hl3, hf3⟩ := DataW.trod_struct Tryz.underlying31 s3
      match xs3, hl3 with
      | [z0, z1], _ =>
        have t0 := by simpa using hf3 0 _ rfl
        have t1 := by simpa using hf3 1 _ rfl
        simp only [cellsInt, List.drop_zero, List.drop_succ_cons, List.take_succ_cons, List.take_zero] at t0 t1
        obtain ⟨h1, g3, _, wh1⟩ := DataW.trod_int Tryz.underlying3 t0
        obtain ⟨h2, g4, _, wh2⟩ := DataW.trod_int Tryz.underlying3 t1
        obtain ⟨l, hl5⟩ := open_valsC s4
        obtain ⟨w0, w1, w2, n5, _, _, p0, p1, p2⟩ := Go.Deep.trod_struct3 Tryz.underlying34 s5
        simp only [cellsInt, List.drop_zero, List.drop_succ_cons, List.take_succ_cons, List.take_zero] at p0 p1 p2
        obtain ⟨v1, g5, _, wv⟩ := DataW.trod_int Tryz.underlying3 p0
        obtain ⟨v2, g6, _, _⟩ := DataW.trod_int Tryz.underlying3 p1
        obtain ⟨v3, g7, _, _⟩ := DataW.trod_int Tryz.underlying3 p2
        simp at g0 g3 g4 g5 g6 g7
        subst g0 g3 g4 g5 g6 g7
        refine ⟨(n0, (h1, h2), (c3, l), (v1, v2, v3)), ⟨hl5, ⟨wh1, wh2⟩, wv⟩, fun c u hu => ?_⟩
        have hcl : c < 7 := by have := (List.getElem?_eq_some_iff.1 hu).1; rwa [lenQ] at this
        have k0 := hat c (by simpa using hcl)
        rw [Go.Deep.add_add] at k0
        rw [k0]
        exact hu

set_option maxRecDepth 100000 in
/-- Rows. -/
theorem open_rows (hv : Value.okWide Tryz.prog W .any b0 53 v) (h : DataW.Trod enc Tryz.prog W 0 (fun _ => true) held 53 v d p) : ∃ l : List Rr, Sl encRr W v l ∧ ∀ x ∈ l, Sl encV W x.1 x.2 := by
  obtain ⟨al, ln, cp, rfl⟩ := okWide_slice Tryz.underlying53 hv
  obtain ⟨fuel, hf⟩ := h
  rcases Go.Deep.open_slice Tryz.underlying53 hf with ⟨hcs, _⟩ | ⟨a, len, cap, m, k, D, Pl, hcs, _, hl, hm, hmm, hx, hi⟩
  · simp [Value.cells] at hcs
    obtain ⟨rfl, rfl, rfl⟩ := hcs
    exact ⟨[], Sl.nil none 0 (Nat.zero_le _), by simp⟩
  · simp [Value.cells] at hcs
    obtain ⟨rfl, rfl, rfl⟩ := hcs
    simp only [if_true] at hmm
    subst hmm
    refine sl_of_elemsP (p := fun x : Rr => Sl encV W x.1 x.2) lenRr (by omega) hl hm fun i hic => ?_
    obtain ⟨cs', hc, ht⟩ := hi i (by omega)
    rw [cellsVals] at hc
    obtain ⟨_, hlen, hat⟩ := World.cells?_some hc
    match cs', hlen with
    | [c0], _ =>
      obtain ⟨l, hl5⟩ := open_valsC ht
      refine ⟨(c0, l), hl5, fun c u hu => ?_⟩
      have hcl : c < 1 := by have := (List.getElem?_eq_some_iff.1 hu).1; rwa [lenRr] at this
      have k0 := hat c (by simpa using hcl)
      rw [Go.Deep.add_add] at k0
      rw [k0]
      exact hu
end
end Go.Proofs.YtaehendpdfpibaaGreatDoor

/-
  What the row's listed variables give: each errors' variable holds an error of errors.New's make, no two the same.
-/
namespace Go.Proofs.YtaehendpdfpibaaGreatDoor
set_option linter.unusedSimpArgs false
set_option linter.unusedVariables false
open Go.ChangeShapes Go.WideShapes Go.ChangeAt Go.RowKit Go.Joins Go.Sort

def errT (text : List UInt8) : DataW Unit := .iface "*errors.errorString" (.ptr (.agg [.lit (.string text)]))

theorem starE : "*" ++ "errors.errorString" = "*errors.errorString" := by decide
theorem rowEr (u : TypeId) (h : Tryz.prog.typeName? 3 u = some "*errors.errorString") : u = 258 :=
  typeName_ptr_named (nm := "errors.errorString") (by rw [starE]; kernel_rfl) (by kernel_rfl) (by decide) u (by rw [starE]; exact h)
theorem cellsE : Tryz.prog.cellsOf 284 = 1 := by kernel_rfl
theorem cellsS : Tryz.prog.cellsOf 9 = 1 := by kernel_rfl

/-- The variable named n holds the error at a. -/
def SentAt (W : World) (n : String) (a : Addr) : Prop :=
  ∀ g, Tryz.prog.globalNamed n = some g → W.cell? ⟨g, 0, none⟩ = some (.iface 258 (.pointer (some a))) ∧ ∃ c t, W.heap[a.block]? = some (.cells c t (0, 0))

set_option maxRecDepth 100000 in
theorem sents_aux {W : World} : ∀ (L : List (String × DataW Unit)) (ps : List MemPlace), DataW.LaidVars Tryz.prog W L ps → ps.Nodup →
    (∀ b off, MemPlace.cell b off ∈ ps → (∃ c t, W.heap[b]? = some (.cells c t (0, 0))) ∧ ∀ u v, W.cell? ⟨b, off, none⟩ = some (.iface u v) → Value.okWide Tryz.prog W .any 0 u v) →
    (∀ x ∈ L, (∃ text, x.2 = errT text) ∧ ∃ g, Tryz.prog.globalNamed x.1 = some g ∧ (Tryz.prog.globals[g]?).map (·.type) = some 40) → (L.map (·.1)).Nodup →
    ∃ A : String → Addr, (∀ x ∈ L, SentAt W x.1 (A x.1) ∧ MemPlace.cell (A x.1).block (A x.1).off ∈ ps) ∧ ∀ x ∈ L, ∀ y ∈ L, x.1 ≠ y.1 → A x.1 ≠ A y.1
  | [], _, _, _, _, _, _ => ⟨fun _ => ⟨0, 0, none⟩, (fun x hx => absurd hx (by simp)), (fun x hx => absurd hx (by simp))⟩
  | (n, d) :: r, ps, h, hnd, hrows, hsh, hnn => by
    obtain ⟨g0, t0, cs0, f0, p0, q0, hg0, ht0, hv0, hd0, hq, e0⟩ := h
    obtain ⟨⟨text, hd⟩, g1, hg1, ht1⟩ := hsh (n, d) (by simp)
    have hd' : d = errT text := hd
    subst hd'
    obtain rfl := Option.some.inj (hg1.symm.trans hg0)
    obtain rfl := Option.some.inj (ht1.symm.trans ht0)
    subst e0
    obtain ⟨l0⟩ := cs0
    have ok0 : ∀ u v, l0 = [.iface u v] → Value.okWide Tryz.prog W .any 0 u v := fun u v e => by
      subst e
      exact (hrows g1 0 (by simp [MemPlace.row])).2 u v (by simpa using World.var?_cell hg0 hv0 0)
    obtain ⟨a0, s0, rfl, hc0, hs0, hz0, rfl⟩ := errorString_of_trod Tryz.underlying40 rowEr Tryz.underlying258 Tryz.underlying284 rfl rfl Tryz.underlying9 cellsE cellsS hd0 ok0
    have hin : MemPlace.cell a0.block a0.off ∈ MemPlace.row a0 1 := by simp [MemPlace.row]
    obtain ⟨hnd1, hnd2, hdis⟩ := List.nodup_append.1 hnd
    simp only [List.map_cons, List.nodup_cons] at hnn
    obtain ⟨A, hA, hne⟩ := sents_aux r q0 hq hnd2 (fun b off hm => hrows b off (by simp [hm])) (fun x hx => hsh x (by simp [hx])) hnn.2
    have hname : ∀ x ∈ r, x.1 ≠ n := fun x hx e => hnn.1 (by rw [← e]; exact List.mem_map_of_mem hx)
    have hfar : ∀ x ∈ r, a0 ≠ A x.1 := fun x hx e => by
      have h1 := (hA x hx).2
      exact hdis (MemPlace.cell a0.block a0.off) (by simp [hin]) (MemPlace.cell (A x.1).block (A x.1).off) h1 (by rw [e])
    refine ⟨fun s => if s = n then a0 else A s, fun x hx => ?_, fun x hx y hy hxy => ?_⟩
    · rcases List.mem_cons.1 hx with rfl | hx
      · simp only [if_true]
        refine ⟨fun g hg => ?_, by simp [hin]⟩
        obtain rfl := Option.some.inj (hg0.symm.trans hg)
        refine ⟨by simpa using World.var?_cell hg0 hv0 0, (hrows a0.block a0.off (by simp [hin])).1⟩
      · simp only [if_neg (hname x hx)]
        exact ⟨(hA x hx).1, by simp [(hA x hx).2]⟩
    · rcases List.mem_cons.1 hx with rfl | hx <;> rcases List.mem_cons.1 hy with rfl | hy
      · exact absurd rfl hxy
      · simp only [if_true, if_neg (hname y hy)]
        exact hfar y hy
      · simp only [if_true, if_neg (hname x hx)]
        exact fun e => hfar x hx e.symm
      · simp only [if_neg (hname y hy), if_neg (hname x hx)]
        exact hne x hx y hy hxy

theorem sents {W : World} {L : List (String × DataW Unit)} (h : laidMet Tryz.prog L W)
    (hsh : ∀ x ∈ L, (∃ text, x.2 = errT text) ∧ ∃ g, Tryz.prog.globalNamed x.1 = some g ∧ (Tryz.prog.globals[g]?).map (·.type) = some 40) (hnn : (L.map (·.1)).Nodup) :
    ∃ A : String → Addr, (∀ x ∈ L, SentAt W x.1 (A x.1)) ∧ ∀ x ∈ L, ∀ y ∈ L, x.1 ≠ y.1 → A x.1 ≠ A y.1 := by
  obtain ⟨ps, hv, hnd, hrows⟩ := h
  obtain ⟨A, h1, h2⟩ := sents_aux L ps hv hnd hrows hsh hnn
  exact ⟨A, fun x hx => (h1 x hx).1, h2⟩

/-- The names of the errors' variables, by the errors' numbers. -/
def errN : List String := ["paddock/api.ErrRange", "paddock/api.ErrFull", "paddock/api.ErrNone", "paddock/api.ErrExists", "paddock/api.ErrKind", "paddock/api.ErrState", "paddock/api.ErrForm", "paddock/api.ErrBlocked", "paddock/api.ErrPath", "paddock/api.ErrGoal"]
theorem errN_at : ∀ k, k < 10 → Tryz.prog.globalNamed (errN.getD k "") = some (errG.getD k 0) := by
  intro k hk
  obtain rfl | rfl | rfl | rfl | rfl | rfl | rfl | rfl | rfl | rfl : k = 0 ∨ k = 1 ∨ k = 2 ∨ k = 3 ∨ k = 4 ∨ k = 5 ∨ k = 6 ∨ k = 7 ∨ k = 8 ∨ k = 9 := by omega
  all_goals kernel_rfl
theorem errN_apart : ∀ i j, i < 10 → j < 10 → i ≠ j → errN.getD i "" ≠ errN.getD j "" := by
  have h : ((List.range 10).all fun i => (List.range 10).all fun j => i == j || errN.getD i "" != errN.getD j "") = true := by decide
  intro i j hi hj hij
  have := List.all_eq_true.1 (List.all_eq_true.1 h i (by simp; omega)) j (by simp; omega)
  simpa [hij] using this

/-- The shape of a row's list, out of one closed fact and the data's own form. -/
theorem shape_of {L : List (String × DataW Unit)} (hb : (L.all fun x => ((Tryz.prog.globalNamed x.1).bind fun g => (Tryz.prog.globals[g]?).map (·.type)) == some 40) = true) (ht : ∀ x ∈ L, ∃ text, x.2 = errT text) :
    ∀ x ∈ L, (∃ text, x.2 = errT text) ∧ ∃ g, Tryz.prog.globalNamed x.1 = some g ∧ (Tryz.prog.globals[g]?).map (·.type) = some 40 := by
  intro x hx
  refine ⟨ht x hx, ?_⟩
  have h := List.all_eq_true.1 hb x hx
  cases hg : Tryz.prog.globalNamed x.1 with
  | none => simp [hg] at h
  | some g => exact ⟨g, rfl, by simpa [hg] using h⟩

theorem errs_of {W : World} {L : List (String × DataW Unit)} (h : laidMet Tryz.prog L W)
    (hsh : ∀ x ∈ L, (∃ text, x.2 = errT text) ∧ ∃ g, Tryz.prog.globalNamed x.1 = some g ∧ (Tryz.prog.globals[g]?).map (·.type) = some 40) (hnn : (L.map (·.1)).Nodup)
    (hall : ∀ k, k < 10 → errN.getD k "" ∈ L.map (·.1)) : ∃ A, Errs W A := by
  obtain ⟨A, h1, h2⟩ := sents h hsh hnn
  have hm : ∀ k, k < 10 → ∃ x ∈ L, x.1 = errN.getD k "" := fun k hk => by simpa using List.mem_map.1 (hall k hk)
  refine ⟨fun k => A (errN.getD k ""), fun i hi => ?_, fun i hi => ?_, fun i j hi hj hij => ?_⟩
  · obtain ⟨x, hx, e⟩ := hm i hi
    have := (h1 x hx _ (by rw [e]; exact errN_at i hi)).1
    rwa [e] at this
  · obtain ⟨x, hx, e⟩ := hm i hi
    have := (h1 x hx _ (by rw [e]; exact errN_at i hi)).2
    rwa [e] at this
  · obtain ⟨x, hx, e⟩ := hm i hi
    obtain ⟨y, hy, f⟩ := hm j hj
    have := h2 x hx y hy (by rw [e, f]; exact errN_apart i j hi hj hij)
    rwa [e, f] at this


set_option maxRecDepth 100000 in
/-- One listed error's variable, wherever it stands on the list, whatever else is listed. -/
theorem sent_aux {W : World} : ∀ (L : List (String × DataW Unit)) (ps : List MemPlace), DataW.LaidVars Tryz.prog W L ps →
    (∀ b off, MemPlace.cell b off ∈ ps → ∀ u v, W.cell? ⟨b, off, none⟩ = some (.iface u v) → Value.okWide Tryz.prog W .any 0 u v) →
    ∀ n text, (n, errT text) ∈ L → ∀ g, Tryz.prog.globalNamed n = some g → (Tryz.prog.globals[g]?).map (·.type) = some 40 → ∃ a, W.cell? ⟨g, 0, none⟩ = some (.iface 258 (.pointer (some a)))
  | [], _, _, _, _, _, hm, _, _, _ => absurd hm (by simp)
  | (n', d) :: r, ps, h, hrows, n, text, hm, g, hg, ht => by
    obtain ⟨g0, t0, cs0, f0, p0, q0, hg0, ht0, hv0, hd0, hq, e0⟩ := h
    rcases List.mem_cons.1 hm with e | e
    · obtain ⟨rfl, rfl⟩ : n = n' ∧ errT text = d := by simpa using e
      obtain rfl := Option.some.inj (hg.symm.trans hg0)
      obtain rfl := Option.some.inj (ht.symm.trans ht0)
      subst e0
      obtain ⟨l0⟩ := cs0
      have ok0 : ∀ u v, l0 = [.iface u v] → Value.okWide Tryz.prog W .any 0 u v := fun u v e => by
        subst e
        exact hrows g 0 (by simp [MemPlace.row]) u v (by simpa using World.var?_cell hg0 hv0 0)
      obtain ⟨a0, s0, rfl, hc0, hs0, hz0, rfl⟩ := errorString_of_trod Tryz.underlying40 rowEr Tryz.underlying258 Tryz.underlying284 rfl rfl Tryz.underlying9 cellsE cellsS hd0 ok0
      exact ⟨a0, by simpa using World.var?_cell hg0 hv0 0⟩
    · exact sent_aux r q0 hq (fun b off hm' => hrows b off (by subst e0; simp [hm'])) n text e g hg ht

set_option maxRecDepth 100000 in
theorem sent_any {W : World} {L : List (String × DataW Unit)} (h : laidMet Tryz.prog L W) (n : String) {text : List UInt8} (hm : (n, errT text) ∈ L) {g : Nat} (hg : Tryz.prog.globalNamed n = some g) (ht : (Tryz.prog.globals[g]?).map (·.type) = some 40) : ∃ a, W.cell? ⟨g, 0, none⟩ = some (.iface 258 (.pointer (some a))) := by
  obtain ⟨ps, hv, _, hrows⟩ := h
  exact sent_aux L ps hv (fun b off hb => (hrows b off hb).2) _ text hm _ hg ht
/-- bits.TrailingZeros64's table stands first on the list. -/
theorem tab_of {W : World} {rest : List (String × DataW Unit)} (h : laidMet Tryz.prog (("math/bits.deBruijn64tab", Rows.laid_math_bits_deBruijn64tab) :: rest) W) : TabW W := by
  have hd : (Rows.laid_math_bits_deBruijn64tab : DataW Unit) = Lib.tabData .u8 (Lib.deBruijn64tab.map Int.ofNat) := rfl
  rw [hd] at h
  have ht := Lib.tabIs_of_head (g := 10) (t := 229) (e := 5) (n := 64) (by kernel_rfl) (by kernel_rfl) Tryz.underlying229 Tryz.underlying5 (by kernel_rfl) (by kernel_rfl) h
  intro j hj
  have := Lib.TabIs.cell (g := 10) ht (by kernel_rfl) j (by rw [List.length_map]; exact hj)
  rw [this]
  congr 2
  show (Lib.deBruijn64tab.map Int.ofNat).getD j 0 = _
  rw [List.getD_eq_getElem?_getD, List.getElem?_map, List.getD_eq_getElem?_getD]
  have hj' : j < Lib.deBruijn64tab.length := hj
  rw [List.getElem?_eq_getElem hj']
  rfl

/-- The list without its head. -/
theorem laid_tail {W : World} {x : String × DataW Unit} {L : List (String × DataW Unit)} (h : laidMet Tryz.prog (x :: L) W) : laidMet Tryz.prog L W := by
  obtain ⟨n, d⟩ := x
  obtain ⟨ps, hv, hnd, hrows⟩ := h
  obtain ⟨g0, t0, cs0, f0, p0, q0, hg0, ht0, hv0, hd0, hq, e0⟩ := hv
  subst e0
  exact ⟨q0, hq, (List.nodup_append.1 hnd).2.1, fun b off hm => hrows b off (by simp [hm])⟩
theorem laid_tail2 {W : World} {L : List (String × DataW Unit)} (h : laidMet Tryz.prog L W) : laidMet Tryz.prog L.tail W := by
  cases L with
  | nil => exact h
  | cons x r => exact laid_tail h
set_option maxRecDepth 100000 in
/-- The six errors' variables that package tables reads. -/
theorem er8_list {W : World} {L : List (String × DataW Unit)} (h : laidMet Tryz.prog L W) {t0 t1 t2 t3 t4 t6 : List UInt8} (h0 : ("paddock/api.ErrRange", errT t0) ∈ L) (h1 : ("paddock/api.ErrFull", errT t1) ∈ L) (h2 : ("paddock/api.ErrNone", errT t2) ∈ L) (h3 : ("paddock/api.ErrExists", errT t3) ∈ L) (h4 : ("paddock/api.ErrKind", errT t4) ∈ L) (h6 : ("paddock/api.ErrForm", errT t6) ∈ L) : ∃ A, Er8 W A := by
  obtain ⟨a0, e0⟩ := sent_any h _ h0 (g := 0) (by kernel_rfl) (by kernel_rfl)
  obtain ⟨a1, e1⟩ := sent_any h _ h1 (g := 1) (by kernel_rfl) (by kernel_rfl)
  obtain ⟨a2, e2⟩ := sent_any h _ h2 (g := 2) (by kernel_rfl) (by kernel_rfl)
  obtain ⟨a3, e3⟩ := sent_any h _ h3 (g := 3) (by kernel_rfl) (by kernel_rfl)
  obtain ⟨a4, e4⟩ := sent_any h _ h4 (g := 4) (by kernel_rfl) (by kernel_rfl)
  obtain ⟨a6, e6⟩ := sent_any h _ h6 (g := 6) (by kernel_rfl) (by kernel_rfl)
  exact ⟨fun k => if k = 0 then a0 else if k = 1 then a1 else if k = 2 then a2 else if k = 3 then a3 else if k = 4 then a4 else a6, ⟨⟨⟨e0, e4⟩, e1, e6⟩, e2, e3⟩⟩
theorem er8_of {W : World} {A : Nat → Addr} (h : Errs W A) : Er8 W A :=
  ⟨⟨⟨h.cell 0 (by omega), h.cell 4 (by omega)⟩, h.cell 1 (by omega), h.cell 6 (by omega)⟩, h.cell 2 (by omega), h.cell 3 (by omega)⟩
end Go.Proofs.YtaehendpdfpibaaGreatDoor
