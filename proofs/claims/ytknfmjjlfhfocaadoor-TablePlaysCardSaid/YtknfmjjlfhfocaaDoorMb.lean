/-
  Maps keyed by numbers, of yes and no: a set S; what a table's Take leaves of a list of numbers.
-/
import Derived.Test.YtknfmjjlfhfocaaDoorLTf
namespace Go.Proofs.YtknfmjjlfhfocaaDoor
set_option linter.unusedSimpArgs false
set_option linter.unusedVariables false
open Go.RowKit Go.Sort Go.Lib Go.Shelf Go.ChangeShapes Go.WideShapes

abbrev BMapTy : Nat := 72
theorem mapBU : Tryd.prog.underlying BMapTy = some (.map 3 4) := Tryd.underlying72
theorem zeroB (w : World) : (zeroValue 4).run Tryd.prog w = .ok (.bool false) w := by kernel_rfl
/-- Block b is a map of at most n entries that says yes at S. -/
def MapB (w : World) (b n : Nat) (S : List Int) : Prop :=
  ∃ D : DataW Unit, w.ownsMap Tryd.prog 3 (plainElem Tryd.prog 4) b n D ∧ (∀ x, D.atKey (kk x) (.lit (.bool false)) = .lit (.bool (decide (x ∈ S)))) ∧ (∀ x, Maps.has D (kk x) = decide (x ∈ S)) ∧ Maps.size D = S.length
section
variable {w w' : World} {b n : Nat} {S S' : List Int}
theorem MapB.made (w : World) : MapB (w.alloc (.map #[] 0)) w.heap.size 0 [] := ⟨_, World.ownsMap_made w _ _ _, fun s => rfl, fun s => rfl, rfl⟩
theorem MapB.lt (h : MapB w b n S) : b < w.heap.size := h.choose_spec.1.lt
theorem MapB.mono {m : Nat} (h : MapB w b n S) (hm : n ≤ m) : MapB w b m S := by
  obtain ⟨D, h1, h2⟩ := h
  exact ⟨D, h1.mono hm, h2⟩
theorem MapB.blk (h : MapB w b n S) (k : w'.heap[b]? = w.heap[b]?) : MapB w' b n S := by
  obtain ⟨D, ⟨es, clock, hb, r⟩, h2⟩ := h
  exact ⟨D, ⟨es, clock, k.trans hb, r⟩, h2⟩
theorem MapB.below (h : MapB w b n S) (k : RowKit.Below w.heap.size w w') : MapB w' b n S := h.blk (k.block b h.lt)
theorem MapB.look (h : MapB w b n S) (x : Int) (hx : (Lit.int .i64 x).wf = true) : (Instr.lookup BMapTy (.map (some b)) (.int .i64 x) false).run Tryd.prog w = .ok (.bool (decide (x ∈ S))) w := by
  obtain ⟨D, h1, h2, _⟩ := h
  obtain ⟨v, ps, hr, hv⟩ := h1.lookup kindKeyed mapBU (zeroB w) (plainElem_bool Tryd.underlying4 false) (keyK hx)
  rw [h2] at hv
  have : v = .bool (decide (x ∈ S)) := by
    cases v <;> simp [plainElem, Tryd.underlying4] at hv
    rw [hv.1]
  rw [this] at hr
  exact hr
theorem MapB.len (h : MapB w b n S) (ty : TypeId) : (Builtin.len_ #[BMapTy] ty #[.map (some b)]).run Tryd.prog w = .ok (.int .i64 S.length) w := by
  obtain ⟨D, h1, _, _, h4⟩ := h
  rw [h1.len mapBU ty, h4]
theorem wpl_putB {ops : Array Oper} {rest : List Oper} {o : Oper} {a : Act} {Q : Exit → Act → World → Prop} (hg : o.guard = none) (m x v : Operand) (hop : o.op = Op.mapUpdate BMapTy m x v) (hm : a.eval m = .map (some b)) (h : MapB w b n S) (hn : n < 1000) (k : Int) (hx : a.eval x = .int .i64 k) (hk : (Lit.int .i64 k).wf = true) (hkS : k ∉ S) (hv : a.eval v = .bool true)
    (hK : ∀ w', MapB w' b (n + 1) (S ++ [k]) → w.grownBy w' (some b) → wpList Tryd.prog ops Q rest (a.put o.dst undef) w') : wpList Tryd.prog ops Q (o :: rest) a w := by
  refine wpList_plain hg fun K' hK' => ?_
  obtain ⟨D, h1, h2, h3, h4⟩ := h
  obtain ⟨w', hr, ho, hgr⟩ := h1.update kindKeyed mapBU (by unfold maxLen; omega) (keyK hk) (plainElem_bool Tryd.underlying4 true)
  unfold Oper.wp
  simp [execOp, hop, hm, hx, hv, hr, Result.andThen]
  refine hK' _ _ (hK w' ⟨_, ho, fun y => ?_, fun y => ?_, ?_⟩ hgr)
  · by_cases e : y = k
    · subst e
      rw [Maps.atKey_put_same h1.isMap (kindKeyed.key (keyK hk))]; simp
    · rw [Maps.atKey_put_other (fun q => e (kk_inj q)), h2]; simp [e]
  · by_cases e : y = k
    · subst e
      rw [Maps.has_put_same h1.isMap (kindKeyed.key (keyK hk))]; simp
    · rw [Maps.has_put_other (fun q => e (kk_inj q)), h3]; simp [e]
  · rw [Maps.size_put (h1.tidy kindKeyed), h3, h4]; simp [hkS]
theorem wpl_delB {ops : Array Oper} {rest : List Oper} {o : Oper} {a : Act} {Q : Exit → Act → World → Prop} (hg : o.guard = none) (m x : Operand) (hop : o.op = Op.call { callee := Callee.builtin Builtin.delete, args := #[m, x], argTypes := #[BMapTy, 3] }) (hm : a.eval m = .map (some b)) (h : MapB w b n S) (k : Int) (hx : a.eval x = .int .i64 k) (hk : (Lit.int .i64 k).wf = true) (hS : ∀ y, y ∈ S' ↔ y ∈ S ∧ y ≠ k) (hl : S'.length + (if k ∈ S then 1 else 0) = S.length)
    (hK : ∀ w', MapB w' b n S' → w.grownBy w' (some b) → wpList Tryd.prog ops Q rest (a.put o.dst (.tuple #[])) w') : wpList Tryd.prog ops Q (o :: rest) a w := by
  refine wpList_plain hg fun K' hK' => ?_
  obtain ⟨D, h1, h2, h3, h4⟩ := h
  obtain ⟨w', hr, ho, hgr⟩ := h1.drop kindKeyed mapBU (keyK hk) o.type
  unfold Oper.wp
  simp [execOp, hop, resolve, invoke, builtin, hm, hx, hr, Result.andThen]
  have ed : ∀ y, ¬ y = k → decide (y ∈ S') = decide (y ∈ S) := fun y e => decide_eq_decide.2 ⟨fun c => ((hS y).1 c).1, fun c => (hS y).2 ⟨c, e⟩⟩
  refine hK' _ _ (hK w' ⟨_, ho, fun y => ?_, fun y => ?_, ?_⟩ hgr.grown)
  · by_cases e : y = k
    · subst e
      rw [Maps.atKey_del_same, decide_eq_false (fun c => ((hS y).1 c).2 rfl)]
    · rw [Maps.atKey_del_other (fun q => e (kk_inj q)), h2, ed y e]
  · by_cases e : y = k
    · subst e
      rw [Maps.has_del_same, decide_eq_false (fun c => ((hS y).1 c).2 rfl)]
    · rw [Maps.has_del_other (fun q => e (kk_inj q)), h3, ed y e]
  · have := Maps.size_del (k := kk k) (h1.tidy kindKeyed)
    rw [h3, h4] at this
    simp only [decide_eq_true_eq] at this
    omega
end

/-- What Take leaves, told by membership, where no number stands twice. -/
theorem takeC_nodup {L : List Int} (h : L.Nodup) {n : Nat} (hn : n < L.length) : (takeC L n).Nodup ∧ ∀ y, y ∈ takeC L n ↔ y ∈ L ∧ y ≠ L[n] := by
  have key : ∀ i j, i < L.length → j < L.length → L[i]! = L[j]! → i = j := fun i j hi hj e => by
    rw [getElem!_pos L i hi, getElem!_pos L j hj] at e
    have f := List.pairwise_iff_getElem.1 h
    rcases Nat.lt_trichotomy i j with c | c | c
    · exact absurd e (f i j hi hj c)
    · exact c
    · exact absurd e.symm (f j i hj hi c)
  have hl := takeC_len L n
  have at_ : ∀ k, k < L.length - 1 → (takeC L n)[k]! = L[if k = n then L.length - 1 else k]! := fun k hk => by
    rw [takeC_get L n k hk]
    split <;> rfl
  constructor
  · refine List.pairwise_iff_getElem.2 fun i j hi hj hij e => ?_
    rw [hl] at hi hj
    rw [← getElem!_pos (takeC L n) i (by omega), ← getElem!_pos (takeC L n) j (by omega), at_ i (by omega), at_ j (by omega)] at e
    have := key _ _ (by split <;> omega) (by split <;> omega) e
    split at this <;> split at this <;> omega
  · intro y
    rw [List.mem_iff_getElem]
    constructor
    · rintro ⟨k, hk, rfl⟩
      rw [hl] at hk
      rw [← getElem!_pos (takeC L n) k (by omega), at_ k hk]
      have hlt : (if k = n then L.length - 1 else k) < L.length := by split <;> omega
      refine ⟨by rw [getElem!_pos L _ hlt]; exact List.getElem_mem hlt, fun e => ?_⟩
      rw [← getElem!_pos L n hn] at e
      have := key _ _ hlt hn e
      split at this <;> omega
    · rintro ⟨hy, hne⟩
      obtain ⟨k, hk, rfl⟩ := List.getElem_of_mem hy
      have hkn : k ≠ n := fun e => hne (by subst e; rfl)
      by_cases c : k = L.length - 1
      · refine ⟨n, by rw [hl]; omega, ?_⟩
        rw [← getElem!_pos (takeC L n) n (by omega), at_ n (by omega), if_pos rfl, ← c, getElem!_pos L k hk]
      · refine ⟨k, by rw [hl]; omega, ?_⟩
        rw [← getElem!_pos (takeC L n) k (by omega), at_ k (by omega), if_neg hkn, getElem!_pos L k hk]
end Go.Proofs.YtknfmjjlfhfocaaDoor
