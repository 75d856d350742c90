/-
  Of no program: boxes by two spans each; which meet.
-/
import Derived.Test.YtbodefigeiaodaaDoorPa11
namespace Go.Proofs.YtbodefigeiaodaaDoor
set_option linter.unusedSimpArgs false
set_option linter.unusedVariables false

abbrev Bx4 := Int × Int × Int × Int
abbrev Bxd := Hd × Bx4
def xsp (b : Bxd) : Spn := (b.1, (b.2.1, b.2.2.2.1))
def ysp (b : Bxd) : Spn := (b.1, (b.2.2.1, b.2.2.2.2))
def woB (B : List Bxd) (h : Hd) : List Bxd := B.filter fun b => !decide (b.1 = h)
def meetsX (a b : Bxd) : Bool := meets (xsp a).2 (xsp b).2 && meets (ysp a).2 (ysp b).2
theorem meetsX_comm (a b : Bxd) : meetsX a b = meetsX b a := by unfold meetsX; rw [meets_comm, meets_comm (ysp a).2]
theorem woB_x (B : List Bxd) (h : Hd) : (woB B h).map xsp = without (B.map xsp) h := by
  unfold woB without
  rw [List.filter_map]
  rfl
theorem woB_y (B : List Bxd) (h : Hd) : (woB B h).map ysp = without (B.map ysp) h := by
  unfold woB without
  rw [List.filter_map]
  rfl
def OnceB (B : List Bxd) : Prop := (B.map (·.1)).Nodup
theorem OnceB.x {B : List Bxd} (h : OnceB B) : Once (B.map xsp) := by
  unfold Once
  rw [List.map_map]
  exact h
theorem OnceB.of_x {B : List Bxd} (h : Once (B.map xsp)) : OnceB B := by
  unfold Once at h
  rw [List.map_map] at h
  exact h
theorem OnceB.eq {B : List Bxd} (h : OnceB B) : ∀ {a b : Bxd}, a ∈ B → b ∈ B → a.1 = b.1 → a = b := by
  induction B with
  | nil => intro a b ha; cases ha
  | cons x r ih =>
    intro a b ha hb e
    obtain ⟨h1, h2⟩ := List.nodup_cons.1 h
    rcases List.mem_cons.1 ha with e1 | ha1
    · rcases List.mem_cons.1 hb with e2 | hb1
      · rw [e1, e2]
      · exact absurd (List.mem_map.2 ⟨b, hb1, by rw [← e, e1]⟩) h1
    · rcases List.mem_cons.1 hb with e2 | hb1
      · exact absurd (List.mem_map.2 ⟨a, ha1, by rw [e, e2]⟩) h1
      · exact ih h2 ha1 hb1 e
/-- q is the pair of two boxes that meet. -/
def PMB (B : List Bxd) (q : Pr) : Prop := ∃ a ∈ B, ∃ b ∈ B, a.1 ≠ b.1 ∧ meetsX a b = true ∧ q = norm (a.1, b.1)
theorem both_PMB {B : List Bxd} (ho : OnceB B) (q : Pr) : (PM (B.map xsp) q ∧ PM (B.map ysp) q) ↔ PMB B q := by
  constructor
  · rintro ⟨⟨a, ha, b, hb, hne, hm, rfl⟩, c, hc, d, hd, hne2, hm2, e⟩
    obtain ⟨a', ha', rfl⟩ := List.mem_map.1 ha
    obtain ⟨b', hb', rfl⟩ := List.mem_map.1 hb
    obtain ⟨c', hc', rfl⟩ := List.mem_map.1 hc
    obtain ⟨d', hd', rfl⟩ := List.mem_map.1 hd
    refine ⟨a', ha', b', hb', hne, ?_, rfl⟩
    unfold meetsX
    rw [hm, Bool.true_and]
    rcases norm_inj e with ⟨e1, e2⟩ | ⟨e1, e2⟩
    · obtain rfl := ho.eq ha' hc' e1
      obtain rfl := ho.eq hb' hd' e2
      exact hm2
    · obtain rfl := ho.eq ha' hd' e1
      obtain rfl := ho.eq hb' hc' e2
      rw [meets_comm]
      exact hm2
  · rintro ⟨a, ha, b, hb, hne, hm, rfl⟩
    unfold meetsX at hm
    simp only [Bool.and_eq_true] at hm
    exact ⟨⟨_, List.mem_map.2 ⟨a, ha, rfl⟩, _, List.mem_map.2 ⟨b, hb, rfl⟩, hne, hm.1, rfl⟩, _, List.mem_map.2 ⟨a, ha, rfl⟩, _, List.mem_map.2 ⟨b, hb, rfl⟩, hne, hm.2, rfl⟩
/-- The document's pairs of boxes. -/
def allX (B : List Bxd) : List Pr := allP meetsX (fun b => b.1) [] B
def pairsB (B : List Bxd) : List Pr := srt ltP (rightOnes (allX B))
theorem mem_allX (B : List Bxd) (q : Pr) : q ∈ rightOnes (allX B) ↔ PMB B q := mem_allP_right _ _ meetsX_comm B q
theorem pairsB_of {B : List Bxd} {ss : List Pr} (h : ∀ q, q ∈ ss ↔ PMB B q) : srt ltP (rightOnes ss) = pairsB B :=
  pairs_same fun q => by
    rw [mem_allX, mem_right]
    constructor
    · rintro ⟨p, hp, _, rfl⟩
      have h1 := (h p).1 hp
      obtain ⟨a, ha, b, hb, hne, hm, e⟩ := h1
      exact ⟨a, ha, b, hb, hne, hm, by rw [e, norm_norm hne]⟩
    · intro h1
      have hq := (h q).2 h1
      obtain ⟨a, ha, b, hb, hne, hm, rfl⟩ := h1
      exact ⟨_, hq, norm_ne hne, (norm_norm hne).symm⟩
/-- Do the boxes of two handles meet? -/
def meetB (B : List Bxd) (x y : Hd) : Bool := decide (x ≠ y) && decide (norm (x, y) ∈ rightOnes (allX B))
end Go.Proofs.YtbodefigeiaodaaDoor
