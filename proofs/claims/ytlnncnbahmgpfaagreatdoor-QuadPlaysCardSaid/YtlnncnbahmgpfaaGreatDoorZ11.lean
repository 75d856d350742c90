import Derived.Test.YtlnncnbahmgpfaaGreatDoorZ0
import Derived.RangeFuncBox
import Derived.RangeFuncNested
import Derived.RangeFuncLeaves
import Derived.RangeFuncCalls
import Derived.WalkKit
import Derived.OwnWalkIn
import Derived.TacticsInMore
import Derived.LoopNIn
import Derived.LoopIn
import Derived.Test.YtlnncnbahmgpfaaGreatDoorZ4
import Derived.Maps.AppendAt
import Derived.Sort.MapsRangeIn

/-
  Of no program: a region that draws its order, in a round of a loop over a function: out of the walk outside.
-/
namespace Go.Proofs.YtlnncnbahmgpfaaGreatDoor
set_option linter.unusedSimpArgs false
set_option linter.unusedVariables false
open Go.RowKit Go.Sort Go.Lib Go.Shelf

theorem RowsIn.ofWide {n : Nat} {P : Program} {row : String} {args : Array Value} {w : World} {R : Value → World → Prop} (l : Nat) (h : Rows P row args w R) : RowsIn (Fence.wide.inRound l) n P row args w R :=
  fun c cs _ => let ⟨v, w', r, s⟩ := h c cs; ⟨v, w', r, by rw [fenced_inRound]; exact stepsIn_wide.2 s⟩
theorem wpIn_of_op {l n : Nat} {P : Program} {o : Oper} {a : Act} {w : World} {K : Act → World → Prop} {Q : Exit → Act → World → Prop} (hd : ∀ c, o.op ≠ .defer c) (h : o.wp P a w K Q) : o.wpIn (Fence.wide.inRound l) n P a w K Q := by
  unfold Oper.wp at h
  unfold Oper.wpIn
  refine ⟨fun _ _ => trivial, ?_⟩
  rw [show (Fence.wide.inRound l).round = some l from rfl, Oper.semAt_some _ _ _ hd]
  generalize (execOp a.eval o).run P w = r at *
  cases r with
  | ok x w' =>
    cases x with
    | value v => exact h
    | skip => exact h
    | defer d => exact h
    | enter f args => exact ⟨fun e => Bool.noConfusion e, CallsIn.inRound l (callsIn_wide.2 h)⟩
    | row row args => exact ⟨fun e => Bool.noConfusion e, RowsIn.ofWide l h⟩
    | _ => exact h.elim
  | halt x w' =>
    cases x with
    | panic v => exact h
    | _ => exact h.elim
/-- No operation is a defer statement. -/
def noDefer (ops : Array Oper) : Bool := ops.all fun o => match o.op with | .defer _ => false | _ => true
theorem noDefer_at {ops : Array Oper} (h : noDefer ops = true) {i : Nat} {o : Oper} (ho : ops[i]? = some o) (c : Call) : o.op ≠ .defer c := fun e => by
  unfold noDefer at h
  rw [Array.all_eq_true_iff_forall_mem] at h
  have := h o (Array.mem_of_getElem? ho)
  rw [e] at this
  cases this
theorem wpAnyIn_of {l n : Nat} {P : Program} {md : Region.Mode} {ops : Array Oper} {Q : Exit → Act → World → Prop} (hno : ¬ LetsOut Q) (hd : noDefer ops = true) : ∀ (fuel : Nat) (listed : Array Bool) (a : Act) (w : World),
    wpAny P md ops Q fuel listed a w → wpAnyIn (Fence.wide.inRound l) n P md ops Q fuel listed a w
  | 0, _, _, _, h => h
  | fuel + 1, listed, a, w, h => ⟨h.1, fun i hi => by
      have h1 := h.2 i hi
      unfold wpOp at h1
      unfold wpOpIn
      cases ho : ops[i]? with
      | none =>
        rw [ho] at h1
        exact wpAnyIn_of hno hd fuel _ a w h1
      | some o =>
        rw [ho] at h1
        dsimp only at h1 ⊢
        split
        · rename_i hw
          rw [if_pos hw] at h1
          rcases h1 with h1 | h1
          · exact Oper.wpIn_mono (fun a w q => wpAnyIn_of hno hd fuel _ a w q) (wpIn_of_op (noDefer_at hd ho) h1)
          · exact absurd h1.2 hno
        · rename_i hw
          rw [if_neg hw] at h1
          exact ⟨fun _ _ => trivial, wpAnyIn_of hno hd fuel _ _ w h1⟩⟩
/-- The beginning of a region that draws its order, in a round. -/
theorem wpIn_region_round {l n : Nat} {P : Program} {id : Nat} {ops : Array Oper} {Q : Exit → Act → World → Prop} {S : World → Prop} {a : Act} {w : World} (hm : P.follows .mixedOrders = true) (hno : ¬ LetsOut Q) (hd : noDefer ops = true) (hS : S w.drew)
    (h : S w.drew → wpAnyH P .any ops Q S ops.size (Array.replicate ops.size false) a w.drew) : (Code.region id ops true).wpIn (Fence.wide.inRound l) n P Q a w :=
  wpIn_region_any hm (wpAnyIn_of hno hd _ _ _ _ (wpAny_of_held _ _ _ _ (h hS)))
theorem not_out_then {K : Act → World → Prop} {Q : Exit → Act → World → Prop} (h : ¬ LetsOut Q) : ¬ LetsOut (Exit.then K Q) := fun ⟨a, w, q⟩ => h ⟨a, w, q⟩
theorem not_out_G {α : Type} {B : Nat} {Kp : World → World → Prop} {I : List α → World → Prop} {Ix : Code → List α → World → Prop} {xs : List α} {W : World} : ¬ LetsOut (ownPostG B Kp I Ix xs W) := fun ⟨_, _, q⟩ => q
end Go.Proofs.YtlnncnbahmgpfaaGreatDoor

/-
  Package quad: the handles that have a box, one after the other (of stage 11).
-/
namespace Go.Proofs.YtlnncnbahmgpfaaGreatDoor
set_option linter.unusedSimpArgs false
set_option linter.unusedVariables false
open Go.RowKit Go.Sort Go.Lib Go.Shelf Go.Maps

/-- All members of f, each once. -/
def KeysOf (f : Hd → Option Bx4) (ss : List Hd) : Prop := ss.Nodup ∧ (∀ q, HdOk q → (q ∈ ss ↔ (f q).isSome = true)) ∧ ∀ q ∈ ss, HdOk q
abbrev RngU (w : World) (b r c : Nat) (f : Hd → Option Bx4) (left : Hd → Bool) (cnt : Nat) : Prop := RngG (ε := Bx4) 28 kH HdOk bxD ((0, 0, 0, 0) : Bx4) bxElem w b r c f left cnt
section
variable {F : Fence} {n : Nat} {w : World} {b c : Nat} {f : Hd → Option Bx4} {ops : Array Oper} {rest : List Oper} {o : Oper} {a : Act} {Q : Exit → Act → World → Prop}
theorem wpli_rangeU (hg : o.guard = none) (m : Operand) (hop : o.op = Op.range MapBT m) (hm : a.eval m = .map (some b)) (h : MapX w b c f)
    (hK : ∀ w' cnt, RngU w' b w.heap.size c f (fun x => (f x).isSome) cnt → w.grownBy w' none → w'.heap.size = w.heap.size + 1 → cnt ≤ c → wpListIn F n Tryz.prog ops Q rest (a.put o.dst (.pointer (some ⟨w.heap.size, 0, none⟩))) w') : wpListIn F n Tryz.prog ops Q (o :: rest) a w := by
  refine wpListIn_plain hg fun K' hK' => ?_
  obtain ⟨w', cnt, hrun, r1, r2, r3, r4⟩ := h.range mptB
  unfold Oper.wpIn
  refine ⟨by simp [Oper.about, hop], ?_⟩
  rw [Oper.semAt_plain F _ _ (by rw [hop]; intro c hc'; cases hc')]
  simp [execOp, hop, hm, hrun, Result.andThen]
  exact hK' _ _ (hK w' cnt r1 r2 r3 r4)
theorem wpli_nextU (hg : o.guard = none) (it : Operand) (hop : o.op = Op.next it false) {r cnt : Nat} {left : Hd → Bool} (hit : a.eval it = .pointer (some ⟨r, 0, none⟩)) (h : RngU w b r c f left cnt)
    (hDone : (∀ x, HdOk x → left x = false) → wpListIn F n Tryz.prog ops Q rest (a.put o.dst (.tuple #[.bool false])) w)
    (hMore : ∀ x y w' cnt', HdOk x → left x = true → (f x).isSome = true → RngU w' b r c f (fun z => left z && !decide (z = x)) cnt' → cnt' < cnt → w.grownBy w' (some r) → w'.heap.size = w.heap.size →
      (Instr.entry (.pointer (some ⟨r, 0, none⟩))).run Tryz.prog w' = .ok (.tuple #[mH x, bxV y]) w' → wpListIn F n Tryz.prog ops Q rest (a.put o.dst (.tuple #[.bool true, mH x, bxV y])) w') : wpListIn F n Tryz.prog ops Q (o :: rest) a w := by
  refine wpListIn_plain hg fun K' hK' => ?_
  unfold Oper.wpIn
  refine ⟨by simp [Oper.about, hop], ?_⟩
  rw [Oper.semAt_plain F _ _ (by rw [hop]; intro c hc'; cases hc')]
  rcases h.next mptB o.type with ⟨hl, hrun⟩ | ⟨x, y, w', cnt', h1, h2, h3, hrun, h4, h5, h6, h7, h8⟩
  · simp [execOp, hop, hit, hrun, Result.andThen]
    exact hK' _ _ (hDone hl)
  · simp [execOp, hop, hit, hrun, Result.andThen]
    exact hK' _ _ (hMore x y w' cnt' h1 h2 (by rw [h3]; rfl) h4 h5 h6 h7 h8)
theorem RngG.of_walks {k : TypeId} {κ ε : Type} {lit : κ → Lit} {ok : κ → Prop} {dt : ε → DataW Unit} {zr : ε} {R : Value → Option (DataW Unit × List MemPlace)} {w w' : World} {b r c cnt : Nat} {f : κ → Option ε} {left : κ → Bool} (h : RngG k lit ok dt zr R w b r c f left cnt) (hk : KeepsWalks w w') : RngG k lit ok dt zr R w' b r c f left cnt := by
  obtain ⟨D, lf, h1, h2⟩ := h
  exact ⟨D, lf, h1.of_walks hk, h2⟩
theorem RngG.walk {k : TypeId} {κ ε : Type} {lit : κ → Lit} {ok : κ → Prop} {dt : ε → DataW Unit} {zr : ε} {R : Value → Option (DataW Unit × List MemPlace)} {w : World} {b r c cnt : Nat} {f : κ → Option ε} {left : κ → Bool} (h : RngG k lit ok dt zr R w b r c f left cnt) : ∃ o : Obj, w.heap[r]? = some o ∧ o.isWalk = true := by
  obtain ⟨D, lf, h1, _⟩ := h
  exact h1.iter_walk
end

attribute [local go_sem] Oper.semAt_some
abbrev KeysF : Nat := 88
set_option maxRecDepth 100000 in
set_option maxHeartbeats 1000000 in
/-- The iterator over a map's keys: each once, in some order. -/
theorem keysU_in (F : Fence) (n : Nat) (h93 : F.fn KeysF) (hro : F.round = none) (hn : 1 ≤ n) (l Bm b c : Nat) (f : Hd → Option Bx4) (J Jx : List Hd → World → Prop)
    (hY : ∀ pre x W, HdOk x → J pre W → pre.length < c → YieldAt F (n - 1) Tryz.prog l #[mH x] W fun e W' => (e = .returned (.bool true) ∧ J (pre ++ [x]) W' ∧ KeepsWalks W W') ∨ (e = .returned (.bool false) ∧ Jx (pre ++ [x]) W'))
    (W : World) (hJ : AbidesFrom W.heap.size J) (hm : W.cell? ⟨Bm, 0, none⟩ = some (.map (some b))) (hown : MapX W b c f) (h0 : J [] W) :
    CallsIn F n Tryz.prog KeysF #[.func (.yield l) #[] #[], .pointer (some ⟨Bm, 0, none⟩)] W fun e W' => (∃ v, e = .returned v) ∧ ((∃ ss, (KeysOf f ss ∧ ss.length ≤ c) ∧ J ss W') ∨ ∃ pre, True ∧ Jx pre W') := by
  refine callsIn_of_wp Tryz.func88 rfl h93 ?_ hro
  simp only [Tryz.ntmps88, List.size_toArray, List.length_cons, List.length_nil, Nat.reduceAdd, Nat.reduceSub, Array.replicate_succ, Array.replicate_zero, List.push_toArray, List.append_toArray, List.nil_append, List.cons_append]
  gi_wp2_with (gi_at_range; refine wpli_rangeU rfl _ rfl (by rfl) hown ?_; intro w0 cnt0 hrg0 hg0 hs0 hc0)
  go_frame
  gi_loopw [3] (fun _ wr => ∃ (left : Hd → Bool) (cnt : Nat) (ss : List Hd), RngU wr b W.heap.size c f left cnt ∧ ss.length + cnt ≤ c ∧ (ss.Nodup ∧ (∀ q, HdOk q → (q ∈ ss ↔ (f q).isSome = true ∧ left q = false)) ∧ ∀ q ∈ ss, HdOk q) ∧ J ss wr)
    (fun _ wr => wr.rangeLeft b W.heap.size)
  case atStart =>
    exact ⟨_, _, [], hrg0, by simpa using hc0, ⟨by simp, fun q _ => by cases f q <;> simp, by simp⟩, hJ [] W w0 none h0 hg0 (fun r e => by cases e)⟩
  case round =>
    obtain ⟨left, cnt, ss, hrg, hcs, ⟨hnd, hmem, hok⟩, hJs⟩ := hrel
    gi_wp2_with (gi_at_next; refine wpli_nextU rfl _ rfl (by rfl) hrg ?_ ?_)
    · intro hl0
      gi_wp2
      go_end0
      exact ⟨⟨_, rfl⟩, .inl ⟨ss, ⟨⟨hnd, fun q hq => (hmem q hq).trans ⟨fun e => e.1, fun e => ⟨e, hl0 q.1 q.2 hq⟩⟩, hok⟩, by omega⟩, hJs⟩⟩
    · intro x1 x2 y1 y2 y3 y4 w2 cnt2 hx0 hlx0 hfx0 hrg0 hlt hg2 hs2 hen0
      obtain ⟨x, e1, e2⟩ : ∃ x : Hd, x.1 = x1 ∧ x.2 = x2 := ⟨(x1, x2), rfl, rfl⟩
      subst e1 e2
      have hx : HdOk x := hx0
      have hlx : left x = true := hlx0
      have hfx : (f x).isSome = true := hfx0
      have hrg2 : RngU w2 b W.heap.size c f (fun z => left z && !decide (z = x)) cnt2 := hrg0
      have hen : (Instr.entry (.pointer (some ⟨W.heap.size, 0, none⟩))).run Tryz.prog w2 = .ok (.tuple #[mH x, bxV (y1, y2, y3, y4)]) w2 := hen0
      clear hx0 hlx0 hfx0 hrg0 hen0
      have hJ2 : J ss w2 := hJ ss wr w2 (some W.heap.size) hJs hg2 (fun r e => by cases e; exact ⟨Nat.le_refl _, hrg.walk⟩)
      have hJ3 := hJ ss w2 (w2.alloc (.cells #[.int .i64 x.1, .int .i64 x.2] 28)) none hJ2 (World.grownBy_alloc w2 _ none) (fun r e => by cases e)
      have hrg2' := hrg2.of_walks (KeepsWalks.alloc w2 (.cells #[.int .i64 x.1, .int .i64 x.2] 28))
      obtain ⟨fn, tmps, assign, body, hy, hR⟩ := hY ss x _ hx hJ3 (by omega)
      have HXX := Lib.hid (And.intro hx (And.intro hlx hfx))
      have HSS := Lib.hid (And.intro hnd (And.intro hmem hok))
      unfold mH at hy
      unfold mH bxV at hen
      dsimp only at hen
      clear hs2 hrg2 hg2 hJ2 hJ3 hx hlx hfx hnd hmem hok
      gi_wp2
      refine hR.mono ?_
      rintro e W3 (⟨rfl, hJ3, hk3⟩ | ⟨rfl, hJx3⟩)
      · gi_wp2
        have hrg3 := hrg2'.of_walks hk3
        obtain ⟨hx, hlx, hfx⟩ := HXX.out
        obtain ⟨hnd, hmem, hok⟩ := HSS.out
        go_roundw
        case rel =>
          refine ⟨_, cnt2, ss ++ [x], hrg3, by simp; omega, ⟨?_, fun q hq => ?_, fun q hq => ?_⟩, hJ3⟩
          · rw [List.nodup_append]
            refine ⟨hnd, by simp, fun a ha b hb e => ?_⟩
            rw [List.mem_singleton] at hb
            subst hb
            subst e
            have := ((hmem _ hx).1 ha).2
            rw [hlx] at this
            cases this
          · rw [List.mem_append, List.mem_singleton, hmem q hq]
            by_cases c2 : q = x
            · subst c2
              simp [hfx]
            · simp [c2]
          · rcases List.mem_append.1 hq with hq | hq
            · exact hok q hq
            · rw [List.mem_singleton] at hq; exact hq ▸ hx
        case measure => rw [hrg3.left_eq, hrg.left_eq]; exact hlt
      · gi_wp2
        refine bodyPost_ret (results_none rfl _ _ _) rfl ?_
        exact ⟨⟨_, rfl⟩, .inr ⟨_, trivial, hJx3⟩⟩
theorem keysU_stops (F : Fence) (n : Nat) (h93 : F.fn KeysF) (hro : F.round = none) (hn : 1 ≤ n) (Bm b c : Nat) (f : Hd → Option Bx4) (w : World) (hBm : Bm < w.heap.size) (hm : w.cell? ⟨Bm, 0, none⟩ = some (.map (some b))) (hmap : MapX w b c f) :
    SeqStops F n Tryz.prog KeysF #[.pointer (some ⟨Bm, 0, none⟩)] mH (fun ss => KeysOf f ss ∧ ss.length ≤ c) (fun _ => True) c w := fun l J Jx W hW hJ _ hY h0 =>
  keysU_in F n h93 hro hn l Bm b c f J Jx (fun pre x W _ => hY pre x W) W hJ ((hW.cell (p := ⟨Bm, 0, none⟩) hBm).trans hm) (hmap.below hW) h0
abbrev OkHd : Type := { q : Hd // HdOk q }
theorem keysOk_stops (F : Fence) (n : Nat) (h93 : F.fn KeysF) (hro : F.round = none) (hn : 1 ≤ n) (Bm b c : Nat) (f : Hd → Option Bx4) (w : World) (hBm : Bm < w.heap.size) (hm : w.cell? ⟨Bm, 0, none⟩ = some (.map (some b))) (hmap : MapX w b c f) :
    SeqStops F n Tryz.prog KeysF #[.pointer (some ⟨Bm, 0, none⟩)] (fun x : OkHd => mH x.1) (fun ss => KeysOf f (ss.map (fun x => x.1)) ∧ ss.length ≤ c) (fun _ => True) c w := fun l J Jx W hW hJ _ hY h0 => by
  refine (keysU_in F n h93 hro hn l Bm b c f (fun pre W => ∃ p' : List OkHd, p'.map (fun x => x.1) = pre ∧ J p' W) (fun pre W => ∃ p' : List OkHd, p'.map (fun x => x.1) = pre ∧ Jx p' W) (fun pre x W hx h hl => ?_) W (fun s W W' row hs hg hr => ?_) ((hW.cell (p := ⟨Bm, 0, none⟩) hBm).trans hm) (hmap.below hW) ⟨[], rfl, h0⟩).mono ?_
  · obtain ⟨p', rfl, h⟩ := h
    obtain ⟨fn, tmps, assign, body, hy, hR⟩ := hY p' ⟨x, hx⟩ W h (by simpa using hl)
    refine ⟨fn, tmps, assign, body, hy, hR.mono fun e W' he => ?_⟩
    rcases he with ⟨h1, h2, h3⟩ | ⟨h1, h2⟩
    · exact .inl ⟨h1, ⟨p' ++ [⟨x, hx⟩], by simp, h2⟩, h3⟩
    · exact .inr ⟨h1, ⟨p' ++ [⟨x, hx⟩], by simp, h2⟩⟩
  · obtain ⟨p', e, h⟩ := hs
    exact ⟨p', e, hJ p' W W' row h hg hr⟩
  · rintro e W' ⟨h1, h2⟩
    refine ⟨h1, ?_⟩
    rcases h2 with ⟨ss, hS, p', rfl, h⟩ | ⟨pre, _, p', rfl, h⟩
    · exact .inl ⟨p', ⟨hS.1, by have := hS.2; simpa using this⟩, h⟩
    · exact .inr ⟨p', trivial, h⟩
end Go.Proofs.YtlnncnbahmgpfaaGreatDoor

/-
  Package quad: the handles that have a box, collected.
-/
namespace Go.Proofs.YtlnncnbahmgpfaaGreatDoor
set_option linter.unusedSimpArgs false
set_option linter.unusedVariables false
open Go.RowKit Go.Sort Go.Lib Go.Shelf Go.Maps

section
variable {α : Type} {enc : α → List Value} {st et k : Nat} {z : Value} {bytes : Nat}
/-- An append in a fence. -/
theorem wpli_app (A : Ap enc st et k z bytes) {F : Fence} {N : Nat} {w : World} {ops : Array Oper} {rest : List Oper} {o : Oper} {a : Act} {Q : Exit → Act → World → Prop} (hgd : o.guard = none) (s x : Operand) (ho : o.op = .call { callee := .builtin .append, args := #[s, x], argTypes := #[st, st] }) (base : Nat)
    {v vx : Value} {n : Nat} {la lb : List α} (hs : a.eval s = v) (hx : a.eval x = vx) (hown : w.ownsRow base et k v n (flat enc la)) (hn : n = la.length) (hX : Sl enc w vx lb) (hlen : la.length + lb.length ≤ 1000000) (hbase : base ≤ w.heap.size)
    (h : ∀ v' w', w'.ownsRow base et k v' (la ++ lb).length (flat enc (la ++ lb)) → w.grownBy w' v.ownBlock → (v'.ownBlock = v.ownBlock ∨ v'.ownBlock = some w.heap.size) → wpListIn F N Tryz.prog ops Q rest (a.put o.dst v') w') : wpListIn F N Tryz.prog ops Q (o :: rest) a w := by
  obtain ⟨v', w', hr, h2, h3, h4, _⟩ := app_run2 A o.type base hown hn hX hlen hbase
  refine wpListIn_plain hgd fun K' hK' => ?_
  unfold Oper.wpIn
  refine ⟨by simp [Oper.about, ho, resolve, Target.leads], ?_⟩
  rw [Oper.semAt_plain F _ _ (by rw [ho]; intro c hc'; cases hc')]
  unfold execOp
  simp only [ho, resolve, invoke, builtin, Sem.run_bind, Sem.run_pure, Result.andThen_ok, List.map_toArray, List.map_cons, List.map_nil, hs, hx, hr]
  exact hK' _ _ (h v' w' h2 h3 h4)
end
/-- A box holds a slice that owns what has come. -/
def HoldB (n0 B : Nat) (t : TypeId) (g : List Hd) (W : World) : Prop := ∃ v, Boxed W B t v ∧ W.ownsRow n0 28 2 v g.length (flat encH g)
theorem holdB_kept {n0 B : Nat} {t : TypeId} {g : List Hd} {W W' : World} {row : Option Nat} (h : HoldB n0 B t g W) (hg : W.grownBy W' row) (hr : ∀ r, row = some r → ∃ o : Obj, W.heap[r]? = some o ∧ o.isCells = false) : HoldB n0 B t g W' := by
  obtain ⟨v, h1, h2⟩ := h
  refine ⟨v, h1.kept hg (fun e => ?_), row_keep h2 (fun b hb => hg.block b (row_lt h2 hb) (fun e => ?_))⟩
  · obtain ⟨o, ho, hc⟩ := hr B e.symm
    rw [show W.heap[B]? = _ from h1] at ho
    cases ho
    cases hc
  · obtain ⟨cs, hcs⟩ := row_type h2 hb
    obtain ⟨o, ho, hc⟩ := hr b e.symm
    rw [hcs] at ho
    cases ho
    cases hc
/-- Between two rounds of a loop that collects pairs. -/
def ICol (n0 : Nat) (w : World) (pre : List Hd) (W : World) : Prop := HoldB n0 n0 47 pre W ∧ RowKit.Below n0 w W
theorem icol_own {n0 B : Nat} {w : World} (hn : n0 ≤ w.heap.size) (hB : n0 ≤ B) : OwnFrom B (ICol n0 w) := fun s W W' row hs hg hr =>
  ⟨holdB_kept hs.1 hg (fun r e => (hr r e).2), (ownFrom_below (β := Unit) hn hB) () W W' row hs.2 hg hr⟩
/-- The loop variable's box. -/
def AxP (B : Nat) (T : Nat → Hd → Act) (x : Hd) (a' : Act) (W : World) : Prop := ∃ Bx, B ≤ Bx ∧ W.heap[Bx]? = some (.cells #[.int .i64 x.1, .int .i64 x.2] 28 (0, 0)) ∧ a' = T Bx x
theorem axp_own {B B' : Nat} {T : Nat → Hd → Act} {x : Hd} {a' : Act} : OwnFrom B' (fun (_ : Unit) (W : World) => AxP B T x a' W) := fun u W W' row hs hg hr => by
  obtain ⟨Bx, h1, h2, h3⟩ := hs
  exact ⟨Bx, h1, (hg.block Bx (Array.getElem?_eq_some_iff.1 h2).1 (fun e => by
    obtain ⟨o, ho', hc⟩ := (hr Bx e.symm).2
    rw [h2] at ho'
    cases ho'
    cases hc)).trans h2, h3⟩
theorem ICol.bel {n0 : Nat} {w : World} {pre : List Hd} {W W' : World} (h : ICol n0 w pre W) (hb : RowKit.Below W.heap.size W W') (hn : n0 ≤ W.heap.size) : ICol n0 w pre W' := by
  obtain ⟨⟨v, h1, h2⟩, h3⟩ := h
  exact ⟨⟨v, blk_below h1 hb, row_below h2 hb⟩, h3.trans (hb.mono hn)⟩
/-- One more is appended, and the box is stored into. -/
theorem ICol.app {n0 : Nat} {w : World} {pre : List Hd} {W w1 : World} {v v' : Value} {x : Hd} (hbx : Boxed W n0 47 v) (hrow : W.ownsRow n0 28 2 v pre.length (flat encH pre)) (hB : RowKit.Below n0 w W) (hn : n0 ≤ W.heap.size) (hown : w1.ownsRow n0 28 2 v' (pre ++ [x]).length (flat encH (pre ++ [x]))) (hg : W.grownBy w1 v.ownBlock) :
    ICol n0 w (pre ++ [x]) (w1.setCell ⟨n0, 0, none⟩ v') ∧ KeepsOthers W (w1.setCell ⟨n0, 0, none⟩ v') ∧ Boxed w1 n0 47 v := by
  have hvn : some n0 ≠ v.ownBlock := fun e => by
    obtain ⟨cs, hc⟩ := row_type hrow e.symm
    exact type_apart hbx hc (by decide) rfl
  have hb1 : Boxed w1 n0 47 v := hbx.kept hg hvn
  have hvn' : v'.ownBlock ≠ some n0 := fun e => by
    obtain ⟨cs, hc⟩ := row_type hown e
    exact type_apart hb1 hc (by decide) rfl
  refine ⟨⟨⟨v', hb1.set v', row_keep hown (fun g hg' => heap_setCell_other w1 ⟨n0, 0, none⟩ g v' (fun e => hvn' (by rw [← show g = n0 from e]; exact hg')))⟩, ?_⟩, ?_, hb1⟩
  · refine (hB.trans ?_).setCell (Nat.le_refl _) v'
    refine ⟨hg.os, hg.tape, hg.output, hg.size, fun k hk => hg.block k (by omega) (fun e => ?_)⟩
    have := row_base0 hrow e.symm
    omega
  · exact (KeepsOthers.of_grownBy hg (fun j o ej hj => by
      obtain ⟨cs, hc⟩ := row_type hrow (show v.ownBlock = some j from ej)
      rw [hc] at hj
      cases hj
      rfl)).trans (KeepsOthers.setCell _ _ _)

attribute [local go_sem] Oper.semAt_some
set_option maxHeartbeats 2000000 in
set_option maxRecDepth 100000 in
theorem appendSeqH (Bm b c : Nat) (f : Hd → Option Bx4) (hc : c ≤ 100000) (w : World) (hBm : Bm < w.heap.size) (hm : w.cell? ⟨Bm, 0, none⟩ = some (.map (some b))) (hmap : MapX w b c f) :
    Calls Tryz.prog 87 #[.slice none 0 0, .func (.func KeysF) #[] #[.pointer (some ⟨Bm, 0, none⟩)]] w fun e W' => ∃ v ss, e = .returned v ∧ KeysOf f ss ∧ ss.length ≤ c ∧ W'.ownsRow w.heap.size 28 2 v ss.length (flat encH ss) ∧ RowKit.Below w.heap.size w W' := by
  refine callsIn_wide (n := 6).1 ?_
  refine callsIn_of_wp_marks Tryz.func87 rfl trivial ?_ rfl
  simp only [Tryz.ntmps87, List.size_toArray, List.length_cons, List.length_nil, Nat.reduceAdd, Nat.reduceSub, Array.replicate_succ, Array.replicate_zero, List.push_toArray, List.append_toArray, List.nil_append, List.cons_append]
  obtain ⟨w1, hw1⟩ : ∃ w1, w1 = w.alloc (.cells #[.slice none 0 0] 47) := ⟨_, rfl⟩
  have bO : Boxed w1 w.heap.size 47 (.slice none 0 0) := by rw [hw1]; exact Boxed.new w 47 (.slice none 0 0)
  have hB0 : RowKit.Below w.heap.size w w1 := by rw [hw1]; exact (Below.refl _ w).alloc (Nat.le_refl _) _
  have hseq := keysU_stops Fence.wide 5 trivial rfl (by omega) Bm b c f w1 (Nat.lt_of_lt_of_le hBm hB0.size) ((hB0.cell (p := ⟨Bm, 0, none⟩) hBm).trans hm) (hmap.below hB0)
  have hseq := Lib.hid hseq
  have BO := Lib.hid bO
  have HB0 := Lib.hid hB0
  have hsz : w1.heap.size = w.heap.size + 1 := by rw [hw1]; simp
  have hwn := World.ownsRow_nil w1 w.heap.size 28 2
  clear bO hB0 hm hmap
  gi_wp2
  rw [← hw1]
  have HW1 := Lib.hid hw1
  clear hw1
  refine wpIn_rangeFunc_ownH (α := Hd) rfl (by omega) (gf := KeysF) (lb := #[.pointer (some ⟨Bm, 0, none⟩)]) rfl trivial (enters_of Tryz.func88 (by kernel_rfl) rfl)
    (seqStopsA_iff.1 (seqStops_iff.1 hseq.out)) walksK_t walksK_b (Below.refl _ _) (fun _ => rfl)
    (ICol w.heap.size w)
    (fun _ _ _ => False)
    (icol_own (Nat.le_refl _) (by omega))
    (fun _ _ _ _ _ hs _ _ => hs)
    ⟨⟨_, BO.out, hwn⟩, HB0.out⟩
    (fun z a' W => AxP w1.heap.size (fun Bx q => { tmps := #[.slice none 0 0, .func (.func KeysF) #[] #[.pointer (some ⟨Bm, 0, none⟩)], .pointer (some ⟨w.heap.size, 0, none⟩), undef, .slice none 0 0, .pointer (some ⟨Bx, 0, none⟩), .func (.func KeysF) #[] #[.pointer (some ⟨Bm, 0, none⟩)], mH q, undef, undef, undef, undef, undef], defers := [] }) z a' W)
    (fun z a' => axp_own) ?assign ?body ?done ?stop
  case assign =>
    intro l pre z W K1 hI hK1
    unfold mH at hK1 ⊢
    gi_wp2
    refine hK1 _ _ ((KeepsOthers.alloc W _).from _) (KeepsWalks.alloc W _) (hI.bel (Ba (Below.refl _ W) _) hI.2.size) ⟨W.heap.size, ?_, heap_alloc_new W _, rfl⟩
    obtain ⟨⟨v, h1, h2⟩, h3⟩ := hI
    have := h1.lt
    omega
  case body =>
    rintro l pre z a' W hl ⟨r, hr⟩ ⟨⟨v, hv, hrow⟩, hB⟩ ⟨Bx, hBx, hbx, rfl⟩ hlt
    obtain ⟨z1, z2⟩ := z
    unfold mH
    dsimp only at hbx ⊢
    have a1 : W.cell? ⟨Bx, 0, none⟩ = some (.int .i64 z1) := by simp [World.cell?, hbx]
    have a2 : W.cell? ⟨Bx, 1, none⟩ = some (.int .i64 z2) := by simp [World.cell?, hbx]
    have hc1 := hv.cell
    have l1 := cell_lt a1
    have l0 := cell_lt hc1
    have n01 : w.heap.size ≠ W.heap.size := by omega
    have HR := Lib.hid (hrow.alloc (.cells #[.int .i64 z1, .int .i64 z2] 28))
    have HV := Lib.hid (blk_below (show W.heap[w.heap.size]? = _ from hv) (Ba (Below.refl _ W) (.cells #[.int .i64 z1, .int .i64 z2] 28)))
    have S3 := Lib.hid (sl_lit (enc := encH) (w := W) (cs := #[.int .i64 z1, .int .i64 z2]) (t := 28) (b := W.heap.size) [(z1, z2)] (by simp) rfl (by unfold maxLen; simp))
    have HB := Lib.hid (hB.trans ((Ba (Below.refl _ W) (.cells #[.int .i64 z1, .int .i64 z2] 28)).mono hB.size))
    have hle : w.heap.size ≤ (W.alloc (.cells #[.int .i64 z1, .int .i64 z2] 28)).heap.size := by simp; omega
    have hpl : pre.length ≤ 100000 := by omega
    have HW := Lib.hid (KeepsOthers.alloc W (.cells #[.int .i64 z1, .int .i64 z2] 28))
    clear hrow hv hB hbx hr
    gi_wp2_with (gi_at_builtin; refine wpli_app apH rfl _ _ rfl w.heap.size (by rfl) (by rfl) HR.out rfl S3.out (by simp; omega) hle ?_; intro v2 w2 hown2 hgrow2 hat2; have hall := ICol.app (x := (z1, z2)) (show Boxed _ _ _ _ from HV.out) HR.out HB.out hle hown2 hgrow2; have hcb := hall.2.2.cell; have hfb := hall.2.2.frozen; have HALL := Lib.hid hall; have hlb := cell_lt hcb; obtain ⟨p2, cc2, hv2, _, _, _⟩ := row_val hown2; obtain ⟨nn, hnn⟩ : ∃ nn, nn = (pre ++ [(z1, z2)]).length := ⟨_, rfl⟩; rw [← hnn] at hv2; rw [hv2] at HALL ⊢; clear hall hown2 hgrow2 hat2 hnn)
    exact ⟨(HW.out.trans HALL.out.2.1).from _, (HW.out.trans HALL.out.2.1).walks, HALL.out.1⟩
  case done =>
    rintro D ys W hD hks ⟨⟨v, hv, hrow⟩, hB⟩ hK
    have hc1 := hv.cell
    have HK := Lib.hid hK
    have HR := Lib.hid hrow
    have HB := Lib.hid hB
    have HKS := Lib.hid hks
    clear hK hrow hB hks
    gi_wp2
    refine ⟨by simp, .inl ⟨_, _, rfl, run_takeDeferred HK.out, ?_⟩⟩
    refine ⟨_, results_tmp rfl _ _ _, v, ys, rfl, HKS.out.1, HKS.out.2, row_keep HR.out (fun g hg => World.putObj_heap_other (fun e => ?_)), HB.out.trans (belowK_b (w := w) (Nat.le_refl _) W D _ _ (by omega) HK.out rfl rfl)⟩
    obtain ⟨cs, hc⟩ := row_type HR.out hg
    rw [e, HK.out] at hc
    cases hc
  case stop =>
    rintro D c pre W _ _ h _
    exact h.elim
end Go.Proofs.YtlnncnbahmgpfaaGreatDoor
