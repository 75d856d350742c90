/-
  Package axis: the pairs, collected and in order; ends, lengths, new axes.
-/
import Derived.Test.YtbodefigeiaodaaDoorDp11
import Derived.Test.YtbodefigeiaodaaDoorRPairs
import Derived.Maps.AppendAt
import Derived.Sort.MapsRangeIn
namespace Go.Proofs.YtbodefigeiaodaaDoor
set_option linter.unusedSimpArgs false
set_option linter.unusedVariables false
open Go.RowKit Go.Sort Go.Lib Go.Shelf Go.Maps

/-- All members of f, each once. -/
def KeysOf (f : Pr → Option Unit) (ss : List Pr) : Prop := ss.Nodup ∧ (∀ q, PrOk q → (q ∈ ss ↔ (f q).isSome = true)) ∧ ∀ q ∈ ss, PrOk q
abbrev RngU (w : World) (b r c : Nat) (f : Pr → Option Unit) (left : Pr → Bool) (cnt : Nat) : Prop := RngG (ε := Unit) 68 kP PrOk unD (() : Unit) unElem w b r c f left cnt
section
variable {F : Fence} {n : Nat} {w : World} {b c : Nat} {f : Pr → Option Unit} {ops : Array Oper} {rest : List Oper} {o : Oper} {a : Act} {Q : Exit → Act → World → Prop}
theorem wpli_rangeU (hg : o.guard = none) (m : Operand) (hop : o.op = Op.range MapQT m) (hm : a.eval m = .map (some b)) (h : MapQ w b c f)
    (hK : ∀ w' cnt, RngU w' b w.heap.size c f (fun x => (f x).isSome) cnt → w.grownBy w' none → w'.heap.size = w.heap.size + 1 → cnt ≤ c → wpListIn F n Tryd.prog ops Q rest (a.put o.dst (.pointer (some ⟨w.heap.size, 0, none⟩))) w') : wpListIn F n Tryd.prog ops Q (o :: rest) a w := by
  refine wpListIn_plain hg fun K' hK' => ?_
  obtain ⟨w', cnt, hrun, r1, r2, r3, r4⟩ := h.range mptQ
  unfold Oper.wpIn
  refine ⟨by simp [Oper.about, hop], ?_⟩
  rw [Oper.semAt_plain F _ _ (by rw [hop]; intro c hc'; cases hc')]
  simp [execOp, hop, hm, hrun, Result.andThen]
  exact hK' _ _ (hK w' cnt r1 r2 r3 r4)
theorem wpli_nextU (hg : o.guard = none) (it : Operand) (hop : o.op = Op.next it false) {r cnt : Nat} {left : Pr → Bool} (hit : a.eval it = .pointer (some ⟨r, 0, none⟩)) (h : RngU w b r c f left cnt)
    (hDone : (∀ x, PrOk x → left x = false) → wpListIn F n Tryd.prog ops Q rest (a.put o.dst (.tuple #[.bool false])) w)
    (hMore : ∀ x w' cnt', PrOk x → left x = true → (f x).isSome = true → RngU w' b r c f (fun z => left z && !decide (z = x)) cnt' → cnt' < cnt → w.grownBy w' (some r) → w'.heap.size = w.heap.size →
      (Instr.entry (.pointer (some ⟨r, 0, none⟩))).run Tryd.prog w' = .ok (.tuple #[mP x, .agg #[]]) w' → wpListIn F n Tryd.prog ops Q rest (a.put o.dst (.tuple #[.bool true, mP x, .agg #[]])) w') : wpListIn F n Tryd.prog ops Q (o :: rest) a w := by
  refine wpListIn_plain hg fun K' hK' => ?_
  unfold Oper.wpIn
  refine ⟨by simp [Oper.about, hop], ?_⟩
  rw [Oper.semAt_plain F _ _ (by rw [hop]; intro c hc'; cases hc')]
  rcases h.next mptQ o.type with ⟨hl, hrun⟩ | ⟨x, y, w', cnt', h1, h2, h3, hrun, h4, h5, h6, h7, h8⟩
  · simp [execOp, hop, hit, hrun, Result.andThen]
    exact hK' _ _ (hDone hl)
  · simp [execOp, hop, hit, hrun, Result.andThen]
    exact hK' _ _ (hMore x w' cnt' h1 h2 (by rw [h3]; rfl) h4 h5 h6 h7 h8)
theorem RngG.of_walks {k : TypeId} {κ ε : Type} {lit : κ → Lit} {ok : κ → Prop} {dt : ε → DataW Unit} {zr : ε} {R : Value → Option (DataW Unit × List MemPlace)} {w w' : World} {b r c cnt : Nat} {f : κ → Option ε} {left : κ → Bool} (h : RngG k lit ok dt zr R w b r c f left cnt) (hk : KeepsWalks w w') : RngG k lit ok dt zr R w' b r c f left cnt := by
  obtain ⟨D, lf, h1, h2⟩ := h
  exact ⟨D, lf, h1.of_walks hk, h2⟩
theorem RngG.walk {k : TypeId} {κ ε : Type} {lit : κ → Lit} {ok : κ → Prop} {dt : ε → DataW Unit} {zr : ε} {R : Value → Option (DataW Unit × List MemPlace)} {w : World} {b r c cnt : Nat} {f : κ → Option ε} {left : κ → Bool} (h : RngG k lit ok dt zr R w b r c f left cnt) : ∃ o : Obj, w.heap[r]? = some o ∧ o.isWalk = true := by
  obtain ⟨D, lf, h1, _⟩ := h
  exact h1.iter_walk
end

attribute [local go_sem] Oper.semAt_some
abbrev KeysF : Nat := 77
set_option maxRecDepth 100000 in
set_option maxHeartbeats 1000000 in
/-- The iterator over a map's keys: each once, in some order. -/
theorem keysU_in (F : Fence) (n : Nat) (h93 : F.fn KeysF) (hro : F.round = none) (hn : 1 ≤ n) (l Bm b c : Nat) (f : Pr → Option Unit) (J Jx : List Pr → World → Prop)
    (hY : ∀ pre x W, PrOk x → J pre W → pre.length < c → YieldAt F (n - 1) Tryd.prog l #[mP x] W fun e W' => (e = .returned (.bool true) ∧ J (pre ++ [x]) W' ∧ KeepsWalks W W') ∨ (e = .returned (.bool false) ∧ Jx (pre ++ [x]) W'))
    (W : World) (hJ : AbidesFrom W.heap.size J) (hm : W.cell? ⟨Bm, 0, none⟩ = some (.map (some b))) (hown : MapQ W b c f) (h0 : J [] W) :
    CallsIn F n Tryd.prog KeysF #[.func (.yield l) #[] #[], .pointer (some ⟨Bm, 0, none⟩)] W fun e W' => (∃ v, e = .returned v) ∧ ((∃ ss, (KeysOf f ss ∧ ss.length ≤ c) ∧ J ss W') ∨ ∃ pre, True ∧ Jx pre W') := by
  refine callsIn_of_wp Tryd.func77 rfl h93 ?_ hro
  simp only [Tryd.ntmps77, List.size_toArray, List.length_cons, List.length_nil, Nat.reduceAdd, Nat.reduceSub, Array.replicate_succ, Array.replicate_zero, List.push_toArray, List.append_toArray, List.nil_append, List.cons_append]
  gi_wp2_with (gi_at_range; refine wpli_rangeU rfl _ rfl (by rfl) hown ?_; intro w0 cnt0 hrg0 hg0 hs0 hc0)
  go_frame
  gi_loopw [3] (fun _ wr => ∃ (left : Pr → Bool) (cnt : Nat) (ss : List Pr), RngU wr b W.heap.size c f left cnt ∧ ss.length + cnt ≤ c ∧ (ss.Nodup ∧ (∀ q, PrOk q → (q ∈ ss ↔ (f q).isSome = true ∧ left q = false)) ∧ ∀ q ∈ ss, PrOk q) ∧ J ss wr)
    (fun _ wr => wr.rangeLeft b W.heap.size)
  case atStart =>
    exact ⟨_, _, [], hrg0, by simpa using hc0, ⟨by simp, fun q _ => by cases f q <;> simp, by simp⟩, hJ [] W w0 none h0 hg0 (fun r e => by cases e)⟩
  case round =>
    obtain ⟨left, cnt, ss, hrg, hcs, ⟨hnd, hmem, hok⟩, hJs⟩ := hrel
    gi_wp2_with (gi_at_next; refine wpli_nextU rfl _ rfl (by rfl) hrg ?_ ?_)
    · intro hl0
      gi_wp2
      go_end0
      exact ⟨⟨_, rfl⟩, .inl ⟨ss, ⟨⟨hnd, fun q hq => (hmem q hq).trans ⟨fun e => e.1, fun e => ⟨e, hl0 q.1.1 q.1.2 q.2.1 q.2.2 hq⟩⟩, hok⟩, by omega⟩, hJs⟩⟩
    · intro x1 x2 x3 x4 w2 cnt2 hx0 hlx0 hfx0 hrg0 hlt hg2 hs2 hen0
      obtain ⟨x, e1, e2, e3, e4⟩ : ∃ x : Pr, x.1.1 = x1 ∧ x.1.2 = x2 ∧ x.2.1 = x3 ∧ x.2.2 = x4 := ⟨((x1, x2), (x3, x4)), rfl, rfl, rfl, rfl⟩
      subst e1 e2 e3 e4
      have hx : PrOk x := hx0
      have hlx : left x = true := hlx0
      have hfx : (f x).isSome = true := hfx0
      have hrg2 : RngU w2 b W.heap.size c f (fun z => left z && !decide (z = x)) cnt2 := hrg0
      have hen : (Instr.entry (.pointer (some ⟨W.heap.size, 0, none⟩))).run Tryd.prog w2 = .ok (.tuple #[mP x, .agg #[]]) w2 := hen0
      clear hx0 hlx0 hfx0 hrg0 hen0
      have hJ2 : J ss w2 := hJ ss wr w2 (some W.heap.size) hJs hg2 (fun r e => by cases e; exact ⟨Nat.le_refl _, hrg.walk⟩)
      have hJ3 := hJ ss w2 (w2.alloc (.cells #[.int .i64 x.1.1, .int .i64 x.1.2, .int .i64 x.2.1, .int .i64 x.2.2] 68)) none hJ2 (World.grownBy_alloc w2 _ none) (fun r e => by cases e)
      have hrg2' := hrg2.of_walks (KeepsWalks.alloc w2 (.cells #[.int .i64 x.1.1, .int .i64 x.1.2, .int .i64 x.2.1, .int .i64 x.2.2] 68))
      obtain ⟨fn, tmps, assign, body, hy, hR⟩ := hY ss x _ hx hJ3 (by omega)
      have HXX := Lib.hid (And.intro hx (And.intro hlx hfx))
      have HSS := Lib.hid (And.intro hnd (And.intro hmem hok))
      unfold mP at hy hen
      clear hs2 hrg2 hg2 hJ2 hJ3 hx hlx hfx hnd hmem hok
      gi_wp2
      refine hR.mono ?_
      rintro e W3 (⟨rfl, hJ3, hk3⟩ | ⟨rfl, hJx3⟩)
      · gi_wp2
        have hrg3 := hrg2'.of_walks hk3
        obtain ⟨hx, hlx, hfx⟩ := HXX.out
        obtain ⟨hnd, hmem, hok⟩ := HSS.out
        go_roundw
        case rel =>
          refine ⟨_, cnt2, ss ++ [x], hrg3, by simp; omega, ⟨?_, fun q hq => ?_, fun q hq => ?_⟩, hJ3⟩
          · rw [List.nodup_append]
            refine ⟨hnd, by simp, fun a ha b hb e => ?_⟩
            rw [List.mem_singleton] at hb
            subst hb
            subst e
            have := ((hmem _ hx).1 ha).2
            rw [hlx] at this
            cases this
          · rw [List.mem_append, List.mem_singleton, hmem q hq]
            by_cases c2 : q = x
            · subst c2
              simp [hfx]
            · simp [c2]
          · rcases List.mem_append.1 hq with hq | hq
            · exact hok q hq
            · rw [List.mem_singleton] at hq; exact hq ▸ hx
        case measure => rw [hrg3.left_eq, hrg.left_eq]; exact hlt
      · gi_wp2
        refine bodyPost_ret (results_none rfl _ _ _) rfl ?_
        exact ⟨⟨_, rfl⟩, .inr ⟨_, trivial, hJx3⟩⟩
theorem keysU_stops (F : Fence) (n : Nat) (h93 : F.fn KeysF) (hro : F.round = none) (hn : 1 ≤ n) (Bm b c : Nat) (f : Pr → Option Unit) (w : World) (hBm : Bm < w.heap.size) (hm : w.cell? ⟨Bm, 0, none⟩ = some (.map (some b))) (hmap : MapQ w b c f) :
    SeqStops F n Tryd.prog KeysF #[.pointer (some ⟨Bm, 0, none⟩)] mP (fun ss => KeysOf f ss ∧ ss.length ≤ c) (fun _ => True) c w := fun l J Jx W hW hJ _ hY h0 =>
  keysU_in F n h93 hro hn l Bm b c f J Jx (fun pre x W _ => hY pre x W) W hJ ((hW.cell (p := ⟨Bm, 0, none⟩) hBm).trans hm) (hmap.below hW) h0
abbrev OkPr : Type := { q : Pr // PrOk q }
theorem keysOk_stops (F : Fence) (n : Nat) (h93 : F.fn KeysF) (hro : F.round = none) (hn : 1 ≤ n) (Bm b c : Nat) (f : Pr → Option Unit) (w : World) (hBm : Bm < w.heap.size) (hm : w.cell? ⟨Bm, 0, none⟩ = some (.map (some b))) (hmap : MapQ w b c f) :
    SeqStops F n Tryd.prog KeysF #[.pointer (some ⟨Bm, 0, none⟩)] (fun x : OkPr => mP x.1) (fun ss => KeysOf f (ss.map (fun x => x.1)) ∧ ss.length ≤ c) (fun _ => True) c w := fun l J Jx W hW hJ _ hY h0 => by
  refine (keysU_in F n h93 hro hn l Bm b c f (fun pre W => ∃ p' : List OkPr, p'.map (fun x => x.1) = pre ∧ J p' W) (fun pre W => ∃ p' : List OkPr, p'.map (fun x => x.1) = pre ∧ Jx p' W) (fun pre x W hx h hl => ?_) W (fun s W W' row hs hg hr => ?_) ((hW.cell (p := ⟨Bm, 0, none⟩) hBm).trans hm) (hmap.below hW) ⟨[], rfl, h0⟩).mono ?_
  · obtain ⟨p', rfl, h⟩ := h
    obtain ⟨fn, tmps, assign, body, hy, hR⟩ := hY p' ⟨x, hx⟩ W h (by simpa using hl)
    refine ⟨fn, tmps, assign, body, hy, hR.mono fun e W' he => ?_⟩
    rcases he with ⟨h1, h2, h3⟩ | ⟨h1, h2⟩
    · exact .inl ⟨h1, ⟨p' ++ [⟨x, hx⟩], by simp, h2⟩, h3⟩
    · exact .inr ⟨h1, ⟨p' ++ [⟨x, hx⟩], by simp, h2⟩⟩
  · obtain ⟨p', e, h⟩ := hs
    exact ⟨p', e, hJ p' W W' row h hg hr⟩
  · rintro e W' ⟨h1, h2⟩
    refine ⟨h1, ?_⟩
    rcases h2 with ⟨ss, hS, p', rfl, h⟩ | ⟨pre, _, p', rfl, h⟩
    · exact .inl ⟨p', ⟨hS.1, by have := hS.2; simpa using this⟩, h⟩
    · exact .inr ⟨p', trivial, h⟩
end Go.Proofs.YtbodefigeiaodaaDoor
