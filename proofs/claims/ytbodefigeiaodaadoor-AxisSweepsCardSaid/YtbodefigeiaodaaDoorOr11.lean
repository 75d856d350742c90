/-
  Of no program: what a sweep holds, as a set; boxes put in any order; the pairs that are on both axes.
-/
import Derived.Test.YtbodefigeiaodaaDoorTn11
namespace Go.Proofs.YtbodefigeiaodaaDoor
set_option linter.unusedSimpArgs false
set_option linter.unusedVariables false

theorem mem_woB {B : List Bxd} {h : Hd} {y : Bxd} : y ∈ woB B h ↔ y ∈ B ∧ y.1 ≠ h := by simp [woB]
theorem woB_len (B : List Bxd) (h : Hd) : (woB B h).length ≤ B.length := List.length_filter_le _ _
theorem once_wo {B : List Bxd} (h : OnceB B) (x : Hd) : OnceB (woB B x) := List.Sublist.nodup (List.Sublist.map _ List.filter_sublist) h
theorem once_put {B : List Bxd} (h : OnceB B) (x : Hd) (b : Bx4) : OnceB (woB B x ++ [(x, b)]) := by
  unfold OnceB
  rw [List.map_append, List.nodup_append]
  refine ⟨once_wo h x, by simp, fun p hp q hq => ?_⟩
  obtain ⟨y, hy, rfl⟩ := List.mem_map.1 hp
  simp only [List.map_cons, List.map_nil, List.mem_singleton] at hq
  subst hq
  exact (mem_woB.1 hy).2
/-- The sweep holds just these, each handle once. -/
def Hv (S : Bxd → Prop) (B : List Bxd) : Prop := OnceB B ∧ ∀ y, y ∈ B ↔ S y
theorem Hv.none : Hv (fun _ => False) [] := ⟨List.nodup_nil, fun y => by simp⟩
theorem Hv.congr {S S' : Bxd → Prop} {B : List Bxd} (h : Hv S B) (hs : ∀ y, S' y ↔ S y) : Hv S' B := ⟨h.1, fun y => by rw [hs, h.2]⟩
theorem Hv.put {S S' : Bxd → Prop} {B : List Bxd} (h : Hv S B) (x : Hd) (b : Bx4) (hs : ∀ y, S' y ↔ (S y ∧ y.1 ≠ x) ∨ y = (x, b)) : Hv S' (woB B x ++ [(x, b)]) :=
  ⟨once_put h.1 x b, fun y => by rw [hs, List.mem_append, mem_woB, h.2, List.mem_singleton]⟩
theorem Hv.drop {S S' : Bxd → Prop} {B : List Bxd} (h : Hv S B) (x : Hd) (hs : ∀ y, S' y ↔ S y ∧ y.1 ≠ x) : Hv S' (woB B x) := ⟨once_wo h.1 x, fun y => by rw [hs, mem_woB, h.2]⟩
theorem OnceB.nodup {B : List Bxd} (h : OnceB B) : B.Nodup := List.Pairwise.of_map (·.1) (fun a b h e => h (by rw [e])) h
theorem Hv.same {S : Bxd → Prop} {A B : List Bxd} (ha : Hv S A) (hb : Hv S B) : pairsB A = pairsB B ∧ A.length = B.length := by
  refine ⟨pairs_same fun q => ?_, Nat.le_antisymm (nodup_sub_len ha.1.nodup fun x hx => (hb.2 x).2 ((ha.2 x).1 hx)) (nodup_sub_len hb.1.nodup fun x hx => (ha.2 x).2 ((hb.2 x).1 hx))⟩
  rw [mem_allX, mem_allX]
  unfold PMB
  simp only [ha.2, hb.2]
/-- The first i of l, at the handles from o on. -/
def P1 (l : List Bx4) (o : Int) (i : Nat) (y : Bxd) : Prop := ∃ j : Nat, j < i ∧ y = (((j : Int) + o, 1), l[j]!)
theorem P1_zero (l : List Bx4) (o : Int) (y : Bxd) : P1 l o 0 y ↔ False := ⟨fun ⟨_, h, _⟩ => by omega, False.elim⟩
theorem hd_inj {a b c : Int} (e : ((a, c) : Hd) = (b, c)) : a = b := congrArg Prod.fst e
theorem P1_step (l : List Bx4) (o : Int) (i : Nat) (y : Bxd) : P1 l o (i + 1) y ↔ (P1 l o i y ∧ y.1 ≠ ((i : Int) + o, 1)) ∨ y = (((i : Int) + o, 1), l[i]!) := by
  constructor
  · rintro ⟨j, hj, rfl⟩
    by_cases e : j = i
    · subst e
      exact .inr rfl
    · exact .inl ⟨⟨j, by omega, rfl⟩, fun q => e (by have := hd_inj q; omega)⟩
  · rintro (⟨⟨j, hj, rfl⟩, _⟩ | rfl)
    · exact ⟨j, by omega, rfl⟩
    · exact ⟨i, by omega, rfl⟩
/-- All of gl, from 50 on; of l those that i rounds have put, from the f-th on. -/
def P3 (l gl : List Bx4) (f i : Nat) (y : Bxd) : Prop := P1 gl 50 gl.length y ∨ ∃ j : Nat, j < i ∧ y = ((((((j + f) % l.length : Nat) : Int)), 1), l[(j + f) % l.length]!)
theorem P3_zero (l gl : List Bx4) (f : Nat) (y : Bxd) : P3 l gl f 0 y ↔ P1 gl 50 gl.length y := ⟨fun h => h.elim id (fun ⟨_, h, _⟩ => by omega), .inl⟩
theorem P3_step (l gl : List Bx4) (f i : Nat) (h1 : l.length ≤ 40) (h2 : i < l.length) (y : Bxd) :
    P3 l gl f (i + 1) y ↔ (P3 l gl f i y ∧ y.1 ≠ ((((i + f) % l.length : Nat) : Int), 1)) ∨ y = ((((((i + f) % l.length : Nat) : Int)), 1), l[(i + f) % l.length]!) := by
  have hk : ∀ j, (j + f) % l.length < l.length := fun j => Nat.mod_lt _ (by omega)
  constructor
  · rintro (⟨j, hj, rfl⟩ | ⟨j, hj, rfl⟩)
    · exact .inl ⟨.inl ⟨j, hj, rfl⟩, fun q => by have := hd_inj q; have := hk i; omega⟩
    · by_cases e : (j + f) % l.length = (i + f) % l.length
      · rw [e]
        exact .inr rfl
      · exact .inl ⟨.inr ⟨j, by by_cases q : j = i; · subst q; exact absurd rfl e
                                · omega, rfl⟩, fun q => e (by have := hd_inj q; omega)⟩
  · rintro (⟨h | ⟨j, hj, rfl⟩, _⟩ | rfl)
    · exact .inl h
    · exact .inr ⟨j, by omega, rfl⟩
    · exact .inr ⟨i, by omega, rfl⟩
/-- Two boxes put at the same handle. -/
theorem Hv.put2 {S S' : Bxd → Prop} {B : List Bxd} (h : Hv S B) (x : Hd) (g b : Bx4) (hs : ∀ y, S' y ↔ (S y ∧ y.1 ≠ x) ∨ y = (x, b)) : Hv S' (woB (woB B x ++ [(x, g)]) x ++ [(x, b)]) :=
  (h.put (S' := fun y => (S y ∧ y.1 ≠ x) ∨ y = (x, g)) x g fun _ => Iff.rfl).put x b fun y => by
    rw [hs]
    constructor
    · rintro (⟨h1, h2⟩ | h1)
      · exact .inl ⟨.inl ⟨h1, h2⟩, h2⟩
      · exact .inr h1
    · rintro (⟨⟨h1, h2⟩ | rfl, h3⟩ | h1)
      · exact .inl ⟨h1, h2⟩
      · exact absurd rfl h3
      · exact .inr h1
/-- All of l; of gl those from the i-th on. -/
def P4 (l gl : List Bx4) (i : Nat) (y : Bxd) : Prop := (∃ j : Nat, i ≤ j ∧ j < gl.length ∧ y = (((j : Int) + 50, 1), gl[j]!)) ∨ P1 l 0 l.length y
theorem P4_of (l gl : List Bx4) (f : Nat) (hf : f < l.length ∨ l.length = 0) (y : Bxd) : P4 l gl 0 y ↔ P3 l gl f l.length y := by
  have hs : ∀ t, t < l.length → ∃ j, j < l.length ∧ (j + f) % l.length = t := fun t ht => by
    refine ⟨(t + (l.length - f)) % l.length, Nat.mod_lt _ (by omega), ?_⟩
    rw [Nat.mod_add_mod, show t + (l.length - f) + f = t + l.length by omega, Nat.add_mod_right, Nat.mod_eq_of_lt ht]
  unfold P4 P3
  refine or_congr ⟨fun ⟨j, _, h, e⟩ => ⟨j, h, e⟩, fun ⟨j, h, e⟩ => ⟨j, Nat.zero_le _, h, e⟩⟩ ⟨?_, ?_⟩
  · rintro ⟨t, ht, rfl⟩
    obtain ⟨j, hj, e⟩ := hs t ht
    exact ⟨j, hj, by rw [e, Int.add_zero]⟩
  · rintro ⟨j, hj, rfl⟩
    exact ⟨(j + f) % l.length, Nat.mod_lt _ (by omega), by rw [Int.add_zero]⟩
theorem P4_step (l gl : List Bx4) (i : Nat) (h1 : l.length ≤ 40) (y : Bxd) : P4 l gl (i + 1) y ↔ P4 l gl i y ∧ y.1 ≠ ((i : Int) + 50, 1) := by
  constructor
  · rintro (⟨j, h2, h3, rfl⟩ | ⟨j, hj, rfl⟩)
    · exact ⟨.inl ⟨j, by omega, h3, rfl⟩, fun q => by have := hd_inj q; omega⟩
    · exact ⟨.inr ⟨j, hj, rfl⟩, fun q => by have := hd_inj q; omega⟩
  · rintro ⟨⟨j, h2, h3, rfl⟩ | h, hne⟩
    · refine .inl ⟨j, ?_, h3, rfl⟩
      by_cases e : j = i
      · subst e
        exact absurd rfl hne
      · omega
    · exact .inr h
theorem P4_end (l gl : List Bx4) (y : Bxd) : P4 l gl gl.length y ↔ P1 l 0 l.length y := ⟨fun h => h.elim (fun ⟨_, _, _, _⟩ => by omega) id, .inr⟩
theorem put_len (B : List Bxd) (x : Hd) (b : Bx4) : (woB B x ++ [(x, b)]).length ≤ B.length + 1 := by
  have := woB_len B x
  simp
  omega

theorem mem_pairsL (L : List Spn) (q : Pr) : q ∈ pairsL L ↔ PM L q := by rw [pairsL, mem_srt sto_pr, mem_allS]
theorem mem_pairsB (B : List Bxd) (q : Pr) : q ∈ pairsB B ↔ PMB B q := by rw [pairsB, mem_srt sto_pr, mem_allX]
/-- The pairs of X's that are Y's as well. -/
def bothK (X Y : List Pr) : List Pr := X.filter fun q => decide (q ∈ Y)
theorem both_pairs {B : List Bxd} (ho : OnceB B) : bothK (pairsL (B.map xsp)) (pairsL (B.map ysp)) = pairsB B :=
  rise_uniq sto_pr _ _ (rise_filter (rise_srt sto_pr _) _) (rise_srt sto_pr _) fun q => by
    show q ∈ bothK _ _ ↔ q ∈ pairsB B
    unfold bothK
    rw [List.mem_filter, decide_eq_true_eq, mem_pairsL, mem_pairsL, mem_pairsB, both_PMB ho]
def inK (Y : List Pr) (j : Nat) (p : Pr) : List Pr := if p ∈ Y.take j then [p] else []
theorem inK_step {Y : List Pr} (hn : Y.Nodup) {j : Nat} (hj : j < Y.length) (p : Pr) : inK Y (j + 1) p = inK Y j p ++ (if p = Y[j]! then [p] else []) := by
  unfold inK
  have h1 : Y.take (j + 1) = Y.take j ++ [Y[j]!] := by rw [List.take_succ_eq_append_getElem hj, getElem!_pos Y j hj]
  have h2 : Y[j]! ∉ Y.take j := fun h => by
    rw [getElem!_pos Y j hj] at h
    obtain ⟨k, hk, e⟩ := List.mem_take_iff_getElem.1 h
    exact List.pairwise_iff_getElem.1 hn k j (by omega) hj (by omega) e
  rw [h1]
  simp only [List.mem_append, List.mem_singleton]
  by_cases e : p = Y[j]!
  · rw [if_pos (.inr e), if_neg (fun q => h2 (e ▸ q)), if_pos e]
    rfl
  · rw [if_neg e, List.append_nil]
    simp only [e, or_false]
theorem bothK_step (X Y : List Pr) {i : Nat} (hi : i < X.length) : bothK (X.take (i + 1)) Y = bothK (X.take i) Y ++ inK Y Y.length X[i]! := by
  unfold bothK inK
  rw [List.take_succ_eq_append_getElem hi, List.filter_append, List.take_length, getElem!_pos X i hi]
  congr 1
  simp only [List.filter_cons, List.filter_nil, decide_eq_true_eq]
theorem inK_len (Y : List Pr) (j : Nat) (p : Pr) : (inK Y j p).length ≤ 1 := by
  unfold inK
  split <;> simp
theorem nodup_pairsL (L : List Spn) : (pairsL L).Nodup := rise_nodup sto_pr (rise_srt sto_pr _)
theorem pairsL_len (L : List Spn) (h : L.length ≤ 100) : (pairsL L).length ≤ 10000 := by
  have h1 := PM.len (nodup_pairsL L) (fun q hq => (mem_pairsL L q).1 hq)
  have h2 := Nat.mul_le_mul h h
  omega
end Go.Proofs.YtbodefigeiaodaaDoor
