import Derived.Test.YtlnncnbahmgpfaaDoorZ39
import Derived.Test.YtlnncnbahmgpfaaDoorZ12
import Derived.Test.YtlnncnbahmgpfaaDoorZ1

/-
  Package quad's Walk, for functions that own the blocks X.
-/
namespace Go.Proofs.YtlnncnbahmgpfaaDoor
set_option linter.unusedSimpArgs false
set_option linter.unusedVariables false
open Go.RowKit Go.Sort Go.Lib Go.Shelf

theorem mem_mid {α : Type} {s t : List α} {x : α} {E : List α} (h : s ++ x :: t = E) : x ∈ E := by rw [← h]; simp
theorem nodup_mid {α : Type} {s t : List α} {x : α} {E : List α} (h : s ++ x :: t = E) (hn : E.Nodup) : x ∉ s := by
  rw [← h, List.nodup_append] at hn
  exact fun hx => hn.2.2 x hx x List.mem_cons_self rfl
/-- A cell that is asked of. -/
theorem ask_fine {p : Cl → Bool} {R : Rw} {c : Cl} (h : Ev.ask c ∈ evs p R 9 []) : ∃ (k : Nat) (x y : Int), c = ((k : Int), x, y) ∧ k ≤ 8 ∧ 0 ≤ x ∧ x < pwI k ∧ 0 ≤ y ∧ y < pwI k := by
  obtain ⟨t, h1, _, _, h3, h4⟩ := (ask_evs 9 []).1 h
  rw [List.nil_append] at h1
  have e1 := cellU_depth t
  have e2 := cellU_nonneg t
  have e3 := cellU_in t h4 (by omega)
  rw [← h1] at e1 e2 e3
  obtain ⟨c1, c2, c3⟩ := c
  exact ⟨t.length, c2, c3, by rw [← e1], by omega, e2.1, e3.1, e2.2, e3.2⟩
theorem walkT_call {w : World} {M : Nat → Prop} {pt : Nat} {B : List Bxd} (hp : TrAt w M pt B) (hl : B.length ≤ 200) {X : Nat → Prop} (hX : ∀ b, M b → ¬ X b) (hXl : ∀ b, X b → b < w.heap.size)
    (fe fa : FuncId) (ve va : Array Value) (hene : ∀ args w, (callFunc fe args).run Tryd.prog w = .ok (.enter fe args) w) (hena : ∀ args w, (callFunc fa args).run Tryd.prog w = .ok (.enter fa args) w) (p : Cl → Bool) (I : List Bxd → World → Prop) (h0 : I [] w)
    (hI : ∀ s W W', I s W → Tch (fun b => w.heap.size ≤ b) W W' → I s W')
    (he : ∀ s W (k : Nat) (x y : Int), I s W → w.heap.size ≤ W.heap.size → k ≤ 8 → 0 ≤ x → x < pwI k → 0 ≤ y → y < pwI k → Calls Tryd.prog fe (#[clV ((k : Int), x, y)] ++ ve) W fun e w' => e = .returned (.bool (p ((k : Int), x, y))) ∧ RowKit.Below W.heap.size W w')
    (ha : ∀ s W b, I s W → w.heap.size ≤ W.heap.size → b ∈ B → b ∉ s → seenB p b.2 = true → Calls Tryd.prog fa (#[.agg #[.int .i64 b.1.1, .int .i64 b.1.2], bxV b.2] ++ va) W fun e w' => (∃ r, e = .returned r) ∧ I (s ++ [b]) w' ∧ Tch X W w') :
    Calls Tryd.prog 19 #[.pointer (some ⟨pt, 0, none⟩), .func (.func fe) #[] ve, .func (.func fa) #[] va] w fun e w' => (∃ r, e = .returned r) ∧ (∃ s, I s w' ∧ s.Nodup ∧ ∀ b, b ∈ s ↔ b ∈ B ∧ seenB p b.2 = true) ∧ Tch X w w' := by
  obtain ⟨mb, R, rv, q, hT⟩ := hp.thr
  have hM : ∀ b, Thr w M b → b < w.heap.size := fun b e => e.2
  have hnd := hT.rows.evs_nodup p
  have hst : Stab (fun s Y W => Y = X ∧ I (tellL s) W ∧ w.heap.size ≤ W.heap.size) := fun s Y W W' ⟨h1, h2, h3⟩ hb => ⟨h1, hI _ _ _ h2 (Tch.of hb), Nat.le_trans h3 hb.size⟩
  have hX2 : ∀ b, X b → ∀ W : World, w.heap.size ≤ W.heap.size → b < W.heap.size := fun b e W h => Nat.lt_of_lt_of_le (hXl b e) h
  refine (walkG_call hT (by omega) (Y := X) (I := fun s Y W => Y = X ∧ I (tellL s) W ∧ w.heap.size ≤ W.heap.size) (fun b e => ⟨hX b e.1, hM b e⟩) hst fe ve (.func (.func fa) #[] va) p (.inl ⟨fa, va, rfl⟩) hene ?_ (tell_func hst _ fa va hena ?_) ⟨rfl, h0, Nat.le_refl _⟩ hXl).mono ?_
  · intro s t Y W c hs ⟨h1, h2, h3⟩ ho
    subst h1
    obtain ⟨k, x, y, rfl, hk, a1, a2, a3, a4⟩ := ask_fine (mem_mid hs)
    refine (he _ W k x y h2 h3 hk a1 a2 a3 a4).mono fun e w' ⟨h, hb⟩ => ⟨h, Y, ⟨rfl, ?_, Nat.le_trans h3 hb.size⟩, Tch.of hb, fun b e => ⟨.inl e, hX2 b e _ (Nat.le_trans h3 hb.size)⟩⟩
    rw [tellL_ask]
    exact hI _ _ _ h2 (Tch.of hb)
  · intro s t Y W b hs ⟨h1, h2, h3⟩ ho
    subst h1
    obtain ⟨hB, hsn⟩ := (hT.rows.tells hT.ok p b).1 (mem_mid hs)
    refine (ha _ W b h2 h3 hB (fun e => nodup_mid hs hnd (mem_tellL.1 e)) hsn).mono fun e w' ⟨h, h4, h5⟩ => ⟨h, Y, ⟨rfl, ?_, Nat.le_trans h3 h5.size⟩, h5, fun b e => ⟨.inl e, hX2 b e _ (Nat.le_trans h3 h5.size)⟩⟩
    rw [tellL_tell]
    exact h4
  · rintro e w' ⟨h, Y', ⟨rfl, h2, _⟩, h3, _⟩
    exact ⟨h, ⟨_, h2, nodup_tellL hnd, fun b => by rw [mem_tellL, hT.rows.tells hT.ok p b]⟩, h3⟩
end Go.Proofs.YtlnncnbahmgpfaaDoor
