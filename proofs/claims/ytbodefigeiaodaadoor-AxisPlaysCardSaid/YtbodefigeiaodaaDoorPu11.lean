/-
  Package axis: Put.
-/
import Derived.Test.YtbodefigeiaodaaDoorDr11
namespace Go.Proofs.YtbodefigeiaodaaDoor
set_option linter.unusedSimpArgs false
set_option linter.unusedVariables false
open Go.RowKit Go.Sort Go.Lib Go.Shelf

attribute [local go_sem] Oper.semAt_some
section
variable {pa : Nat} {L : List Spn} {M : Nat → Prop} {w : World}
theorem cut_fam {C P : World → Nat → Prop} {T : Prop} (h : (∀ W vb, C W vb → P W vb) → T) (p : ∀ W vb, C W vb → P W vb) : T := h p
theorem drop_any (h : AxAt w M pa L) (x y : Int) (hx : HdOk (x, y)) (hlen : L.length ≤ 200) (t : TypeId) (u : Value) (hE : w.cell? ⟨2, 0, none⟩ = some (.iface t u)) :
    Calls Tryd.prog 15 #[.pointer (some ⟨pa, 0, none⟩), .agg #[.int .i64 x, .int .i64 y]] w fun e w' => (∃ r, e = .returned r) ∧ AxAt w' (New M w w') pa (without L (x, y)) ∧ Tch M w w' := by
  cases hq : spF L (x, y) with
  | none =>
    refine (drop_none h x y hx hq t u hE).mono ?_
    rintro e w' ⟨rfl, hb⟩
    rw [without_none (spF_no hq)]
    exact ⟨⟨_, rfl⟩, (h.below hb).mono (fun b e => .inl e), Tch.of hb⟩
  | some s =>
    obtain ⟨s1, s2⟩ := s
    refine (drop_some h x y s1 s2 hx (spF_some hq) hlen).mono ?_
    rintro e w' ⟨rfl, h1, h2⟩
    exact ⟨⟨_, rfl⟩, h1, h2⟩
/-- Is it a span? -/
def spanB (a b : Int) : Bool := decide (a ≤ b) && reachB a b
set_option maxHeartbeats 1000000 in
set_option maxRecDepth 100000 in
theorem put_no (x y a b : Int) (hb : spanB a b = false) (t : TypeId) (u : Value) (hE : w.cell? ⟨0, 0, none⟩ = some (.iface t u)) :
    Calls Tryd.prog 10 #[.pointer (some ⟨pa, 0, none⟩), .agg #[.int .i64 x, .int .i64 y], .int .i64 a, .int .i64 b] w fun e w' => e = .returned (.iface t u) ∧ RowKit.Below w.heap.size w w' := by
  have HR := Lib.hid (fun W => reach_any a b W)
  have HE := Lib.hid hE
  have hEl := cell_lt hE
  unfold spanB at hb
  clear hE
  by_cases h1 : a ≤ b
  · rw [decide_eq_true h1, Bool.true_and] at hb
    rw [hb] at HR
    have h2 : ¬ a > b := by omega
    clear hb
    go_enter Tryd.func10, Tryd.ntmps10
    go_wp2_with fail
    refine (HR.out _).mono ?_
    rintro e w1 ⟨rfl, hg1⟩
    have hE1 := Bc (Bt (Ba (Ba (Below.refl _ w) (.cells #[.pointer (some ⟨pa, 0, none⟩)] 24)) (.cells #[.int .i64 x, .int .i64 y] 28)) hg1) hEl HE.out
    go_wp2
    go_ret
    exact ⟨rfl, (by repeat (first | with_reducible exact Below.refl _ _ | with_reducible assumption | with_reducible apply Ba | with_reducible apply Bd | with_reducible apply Bn | with_reducible apply Bg | (with_reducible refine Bs ?_ (by first | (simp; done) | (simp; omega)) _) | (with_reducible refine Bt ?_ (by assumption)) | (with_reducible refine Bt ?_ (Gr.below (by assumption)))))⟩
  · have h2 : a > b := by omega
    have hE1 := Bc (Ba (Ba (Below.refl _ w) (.cells #[.pointer (some ⟨pa, 0, none⟩)] 24)) (.cells #[.int .i64 x, .int .i64 y] 28)) hEl HE.out
    clear hb
    go_enter Tryd.func10, Tryd.ntmps10
    go_wp2
    go_ret
    exact ⟨rfl, (by repeat (first | with_reducible exact Below.refl _ _ | with_reducible assumption | with_reducible apply Ba | with_reducible apply Bd | with_reducible apply Bn | with_reducible apply Bg | (with_reducible refine Bs ?_ (by first | (simp; done) | (simp; omega)) _) | (with_reducible refine Bt ?_ (by assumption)) | (with_reducible refine Bt ?_ (Gr.below (by assumption)))))⟩

/-- The ends when i of a new span's two are put. -/
def pE (L : List Spn) (s : Spn) (i : Nat) : List En := if i = 0 then endsL L else if i = 1 then put ltE (lo s) (endsL L) else endsL (L ++ [s])
theorem pE_step {L : List Spn} {s : Spn} (hs : ∀ b ∈ L, b.1 ≠ s.1) {i : Nat} (hi2 : i < 2) : ∃ e : En, e = (if i = 0 then lo s else hi s) ∧ e ∉ pE L s i ∧ Rise ltE (pE L s i) ∧ (pE L s i).length ≤ 2 * L.length + 1 ∧ pE L s (i + 1) = put ltE e (pE L s i) := by
  have h0 := endsL_len L
  have hno : ∀ e ∈ endsL L, e.2.2 ≠ s.1 := fun e he => by
    obtain ⟨b, hb, hbe⟩ := mem_endsL.1 he
    rcases hbe with rfl | rfl
    · exact hs b hb
    · exact hs b hb
  rcases Nat.lt_or_ge i 1 with c | c
  · obtain rfl : i = 0 := by omega
    exact ⟨lo s, rfl, fun he => hno _ he rfl, rise_endsL L, by show (endsL L).length ≤ _; omega, rfl⟩
  · obtain rfl : i = 1 := by omega
    refine ⟨hi s, rfl, fun he => ?_, rise_put sto_en _ _ (rise_endsL L), ?_, (endsL_snoc L s)⟩
    · rcases (mem_put _ _ _).1 he with e | e
      · exact absurd (congrArg (fun z : En => z.2.1) e) (by simp [Go.Proofs.YtbodefigeiaodaaDoor.hi, lo])
      · exact hno _ e rfl
    · show (put ltE (lo s) (endsL L)).length ≤ _
      have : ∀ l : List En, (put ltE (lo s) l).length ≤ l.length + 1 := by
        intro l
        induction l with
        | nil => simp [put]
        | cons y r ih =>
          unfold put
          split
          · simp; omega
          · split <;> simp
      have := this (endsL L)
      omega
end
end Go.Proofs.YtbodefigeiaodaaDoor
