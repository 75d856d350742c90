/-
  Pure: bits.OnesCount64's reckoning is the number of bits that are set.
-/
import Derived.Test.YtcmfkjjagffjnaaDoorMm
namespace Go.Proofs.YtcmfkjjagffjnaaDoor
set_option linter.unusedSimpArgs false
set_option linter.unusedVariables false

theorem pop_list (l : List Nat) (hl : l.length = 8) (hb : ∀ a ∈ l, a < 256) : s3 1085102592571150095 (s2 3689348814741910323 (s1 6148914691236517205 (ofD l))) = ofD (l.map (cnt 8)) := by
  have k1 := S1 l hb
  have hb1 : ∀ a ∈ l.map (s1 85), a < 256 := fun a ha => by
    obtain ⟨x, hx, rfl⟩ := List.mem_map.1 ha
    exact (b3 ⟨x, hb x hx⟩).1
  have k2 := S2 (l.map (s1 85)) hb1
  have hb2 : ∀ a ∈ (l.map (s1 85)).map (s2 51), a < 256 ∧ a / 16 ≤ 4 ∧ a % 16 ≤ 4 := fun a ha => by
    obtain ⟨y, hy, rfl⟩ := List.mem_map.1 ha
    obtain ⟨x, hx, rfl⟩ := List.mem_map.1 hy
    have := b3 ⟨x, hb x hx⟩
    exact ⟨this.2.2.2, this.2.1, this.2.2.1⟩
  have k3 := S3 ((l.map (s1 85)).map (s2 51)) hb2
  simp only [List.length_map, hl] at k1 k2 k3
  have r1 : rep 85 8 = 6148914691236517205 := rfl
  have r2 : rep 51 8 = 3689348814741910323 := rfl
  have r3 : rep 15 8 = 1085102592571150095 := rfl
  rw [r1] at k1
  rw [r2] at k2
  rw [r3] at k3
  have hm : ((l.map (s1 85)).map (s2 51)).map (s3 15) = l.map (cnt 8) := by
    rw [List.map_map, List.map_map]
    exact List.map_congr_left fun a ha => (b5 ⟨a, hb a ha⟩).1
  rw [k1, k2, k3, hm]
theorem pop_sum8 : ∀ l : List Nat, l.length = 8 → (∀ p ∈ l.map (cnt 8), p ≤ 8) → (ofD (l.map (cnt 8)) + ofD (l.map (cnt 8)) / 256 + (ofD (l.map (cnt 8)) + ofD (l.map (cnt 8)) / 256) / 65536 + (ofD (l.map (cnt 8)) + ofD (l.map (cnt 8)) / 256 + (ofD (l.map (cnt 8)) + ofD (l.map (cnt 8)) / 256) / 65536) / 4294967296) % 128 = cntD l ∧ ofD (l.map (cnt 8)) ≤ 578721382704613384
  | [a0, a1, a2, a3, a4, a5, a6, a7], _, hp => by
    simp only [List.map_cons, List.map_nil, cntD] at hp ⊢
    generalize cnt 8 a0 = p0 at *
    generalize cnt 8 a1 = p1 at *
    generalize cnt 8 a2 = p2 at *
    generalize cnt 8 a3 = p3 at *
    generalize cnt 8 a4 = p4 at *
    generalize cnt 8 a5 = p5 at *
    generalize cnt 8 a6 = p6 at *
    generalize cnt 8 a7 = p7 at *
    have h0 := hp p0 (by simp)
    have h1 := hp p1 (by simp)
    have h2 := hp p2 (by simp)
    have h3 := hp p3 (by simp)
    have h4 := hp p4 (by simp)
    have h5 := hp p5 (by simp)
    have h6 := hp p6 (by simp)
    have h7 := hp p7 (by simp)
    clear hp
    refine ⟨?_, ?_⟩
    · rw [pop_sum _ _ _ _ _ _ _ _ h0 h1 h2 h3 h4 h5 h6 h7]
      omega
    · simp only [ofD]
      omega
theorem pop_is (x : Nat) (h : x < 18446744073709551616) : popN x = cnt 64 x ∧ s3 1085102592571150095 (s2 3689348814741910323 (s1 6148914691236517205 x)) ≤ 578721382704613384 := by
  obtain ⟨l, hl, hb, hx⟩ := bytes8 h
  have hc := cnt_ofD l hb
  have hp : ∀ p ∈ l.map (cnt 8), p ≤ 8 := fun p hp => by
    obtain ⟨a, ha, rfl⟩ := List.mem_map.1 hp
    exact (b5 ⟨a, hb a ha⟩).2
  have k := pop_list l hl hb
  obtain ⟨g1, g2⟩ := pop_sum8 l hl hp
  rw [hl, hx] at hc
  rw [hx] at k
  rw [← k] at g1 g2
  exact ⟨g1.trans hc.symm, g2⟩
end Go.Proofs.YtcmfkjjagffjnaaDoor
