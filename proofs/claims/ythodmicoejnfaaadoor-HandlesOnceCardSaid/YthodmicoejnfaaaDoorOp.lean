/-
  HandlesOnce, as lists: what is given, what is gone, what lives.
-/
import Derived.Test.YthodmicoejnfaaaDoorLp
namespace Go.Proofs.YthodmicoejnfaaaDoor
set_option linter.unusedSimpArgs false
set_option linter.unusedVariables false

/-- A handle that was given: its place is there, its generation is none that is to come. -/
def Past (S : List Slt) (h : Hd) : Prop := 0 ≤ h.1 ∧ h.1.toNat < S.length ∧ 1 ≤ h.2 ∧ (h.2 < S[h.1.toNat]!.1 ∨ (h.2 = S[h.1.toNat]!.1 ∧ S[h.1.toNat]!.2 = true))
/-- A handle that is gone: its generation is past. -/
def Gone (S : List Slt) (h : Hd) : Prop := 0 ≤ h.1 ∧ h.1.toNat < S.length ∧ 1 ≤ h.2 ∧ h.2 < S[h.1.toNat]!.1

/-- What holds after k calls: L live, G were given, N are gone. -/
structure OnceInv (k : Nat) (S : List Slt) (L G N : List Hd) : Prop where
  once : L.Nodup
  live : ∀ h, h ∈ L ↔ livesP S h = true
  given : ∀ h, h ∈ G → Past S h
  gone : ∀ h, h ∈ N → Gone S h
  gen : ∀ j, j < S.length → S[j]!.1 ≤ (k : Int) + 1

theorem once_new : OnceInv 0 [] [] [] [] := ⟨by simp, fun h => by simp [livesP]; intro a b; omega, by simp, by simp, by simp⟩
theorem OnceInv.count {k : Nat} {S : List Slt} {L G N : List Hd} (o : OnceInv k S L G N) : (listP S).length = L.length := by
  have hp : List.Perm (listP S) L := (List.perm_ext_iff_of_nodup (nodup_listN S S.length) o.once).2 fun h => by
    rw [show listN S S.length = listP S from rfl, mem_listP, o.live]
  exact hp.length_eq
theorem past_of_lives {S : List Slt} {Fr : List Int} {h : Hd} (r : Right S Fr) (hl : livesP S h = true) : Past S h := by
  obtain ⟨a, b, c⟩ := livesP_iff.1 hl
  have hp : h.1.toNat < S.length := by omega
  have := r.gen _ hp
  rw [c] at this
  exact ⟨a, hp, this.1, .inr ⟨by rw [c], by rw [c]⟩⟩
/-- Gone handles don't live. -/
theorem Gone.dead {S : List Slt} {h : Hd} (g : Gone S h) : livesP S h = false := by
  cases hl : livesP S h with
  | false => rfl
  | true =>
    obtain ⟨a, b, c⟩ := livesP_iff.1 hl
    have := g.2.2.2
    rw [c] at this
    exact absurd this (Int.lt_irrefl _)
theorem OnceInv.dead {k : Nat} {S : List Slt} {L G N : List Hd} (o : OnceInv k S L G N) {h : Hd} (hm : h ∈ N) : livesP S h = false := (o.gone h hm).dead
/-- Where nothing is to be had, 128 live. -/
theorem OnceInv.full {k : Nat} {S : List Slt} {Fr : List Int} {L G N : List Hd} (o : OnceInv k S L G N) (r : Right S Fr) (hk : k ≤ 1000) (e : takeP S Fr = none) : L.length = 128 := by
  obtain ⟨rfl, hs⟩ := takeP_none e
  rw [← o.count, listP_full, hs]
  intro j hj
  cases hv : S[j]!.2 with
  | true => rfl
  | false =>
    have := r.all j hj hv (by have := o.gen j hj; omega)
    cases this

/-- A handle that is taken was never given. -/
theorem OnceInv.take {k : Nat} {S : List Slt} {Fr : List Int} {L G N : List Hd} (o : OnceInv k S L G N) (r : Right S Fr) {h : Hd} {S' : List Slt} {Fr' : List Int} (e : takeP S Fr = some (h, S', Fr')) :
    h ∉ G ∧ h ∉ N ∧ OnceInv (k + 1) S' (L ++ [h]) (G ++ [h]) N ∧ 0 ≤ h.1 ∧ h.1 ≤ 128 ∧ 1 ≤ h.2 ∧ h.2 ≤ (k : Int) + 1 := by
  have hr' := right_take r e
  by_cases hf : 0 < Fr.length
  · rw [takeP_free hf] at e
    simp only [Option.some.injEq, Prod.mk.injEq] at e
    obtain ⟨rfl, rfl, rfl⟩ := e
    obtain ⟨t1, t2, t3⟩ := r.top hf
    have hgen := r.gen _ t2
    have hk := o.gen _ t2
    have hl := r.len
    have sg := fun j => set_get S (topF Fr).toNat j (S[(topF Fr).toNat]!.1, true) t2
    have hG : ∀ x : Hd, Past S x → x ≠ (topF Fr, S[(topF Fr).toNat]!.1) := fun x hx hxe => by
      subst hxe
      rcases hx.2.2.2 with h1 | h1
      · exact absurd h1 (Int.lt_irrefl _)
      · have := h1.2
        dsimp only at this
        rw [t3] at this
        cases this
    have hpast : ∀ x, Gone S x → Past S x := fun x hx => ⟨hx.1, hx.2.1, hx.2.2.1, .inl hx.2.2.2⟩
    refine ⟨fun hm => hG _ (o.given _ hm) rfl, fun hm => hG _ (hpast _ (o.gone _ hm)) rfl, ⟨?_, fun x => ?_, fun x hx => ?_, fun x hx => ?_, fun j hj => ?_⟩, t1, by omega, hgen.1, hk⟩
    · rw [List.nodup_append]
      refine ⟨o.once, by simp, fun a ha b hb hab => ?_⟩
      simp at hb
      subst hb
      subst hab
      have := (o.live _).1 ha
      obtain ⟨_, _, c⟩ := livesP_iff.1 this
      dsimp only at c
      have hc := congrArg Prod.snd c
      dsimp only at hc
      rw [t3] at hc
      cases hc
    · rw [List.mem_append, o.live, List.mem_singleton, livesP_iff, livesP_iff]
      simp only [List.length_set]
      rw [sg]
      constructor
      · rintro (⟨a, b, c⟩ | rfl)
        · refine ⟨a, b, ?_⟩
          rw [if_neg]
          · exact c
          · intro hxe
            rw [hxe] at c
            have := congrArg Prod.snd c
            dsimp only at this
            rw [t3] at this
            cases this
        · exact ⟨t1, by dsimp only; omega, by rw [if_pos rfl]⟩
      · rintro ⟨a, b, c⟩
        split at c
        · rename_i hxe
          refine .inr (Prod.ext ?_ ?_)
          · dsimp only; omega
          · have := congrArg Prod.fst c
            exact this.symm
        · exact .inl ⟨a, b, c⟩
    · rcases List.mem_append.1 hx with hx | hx
      · obtain ⟨a, b, c, d⟩ := o.given x hx
        refine ⟨a, by simpa using b, c, ?_⟩
        rw [sg]
        split
        · rename_i hxe
          rw [hxe] at d
          rcases d with d | d
          · exact .inl d
          · exact .inr ⟨d.1, rfl⟩
        · exact d
      · simp only [List.mem_singleton] at hx
        subst hx
        exact ⟨t1, by simpa using t2, hgen.1, .inr (by rw [sg, if_pos rfl]; exact ⟨rfl, rfl⟩)⟩
    · obtain ⟨a, b, c, d⟩ := o.gone x hx
      refine ⟨a, by simpa using b, c, ?_⟩
      rw [sg]
      split
      · rename_i hxe
        rw [hxe] at d
        exact d
      · exact d
    · have hj' : j < S.length := by simpa using hj
      rw [sg]
      have := o.gen j hj'
      split
      · dsimp only; push_cast; omega
      · push_cast; omega
  · by_cases hs : S.length = 128
    · rw [takeP_full hf hs] at e; cases e
    · rw [takeP_new hf hs] at e
      simp only [Option.some.injEq, Prod.mk.injEq] at e
      obtain ⟨rfl, rfl, rfl⟩ := e
      have hl := r.len
      have ag := fun j hj => app_get S (1, true) j hj
      refine ⟨fun hm => ?_, fun hm => ?_, ⟨?_, fun x => ?_, fun x hx => ?_, fun x hx => ?_, fun j hj => ?_⟩, by simp, by dsimp only; omega, by dsimp only; omega, by dsimp only; omega⟩
      · have := (o.given _ hm).2.1
        simp at this
      · have := (o.gone _ hm).2.1
        simp at this
      · rw [List.nodup_append]
        refine ⟨o.once, by simp, fun a ha b hb hab => ?_⟩
        simp at hb
        subst hb
        subst hab
        have := (livesP_iff.1 ((o.live _).1 ha)).2.1
        dsimp only at this
        omega
      · rw [List.mem_append, o.live, List.mem_singleton, livesP_iff, livesP_iff]
        simp only [List.length_append, List.length_singleton]
        constructor
        · rintro (⟨a, b, c⟩ | rfl)
          · refine ⟨a, by omega, ?_⟩
            rw [ag _ (by omega), if_neg (by omega)]
            exact c
          · refine ⟨by simp, by dsimp only; omega, ?_⟩
            dsimp only
            rw [Int.toNat_natCast, ag _ (Nat.le_refl _), if_pos rfl]
        · rintro ⟨a, b, c⟩
          rw [ag _ (by omega)] at c
          split at c
          · refine .inr (Prod.ext ?_ ?_)
            · dsimp only; omega
            · exact (congrArg Prod.fst c).symm
          · exact .inl ⟨a, by omega, c⟩
      · rcases List.mem_append.1 hx with hx | hx
        · obtain ⟨a, b, c, d⟩ := o.given x hx
          refine ⟨a, by simp; omega, c, ?_⟩
          rw [ag _ (by omega), if_neg (by omega)]
          exact d
        · simp only [List.mem_singleton] at hx
          subst hx
          refine ⟨by simp, by simp, by dsimp only; omega, .inr ?_⟩
          dsimp only
          rw [Int.toNat_natCast, ag _ (Nat.le_refl _), if_pos rfl]
          exact ⟨rfl, rfl⟩
      · obtain ⟨a, b, c, d⟩ := o.gone x hx
        refine ⟨a, by simp; omega, c, ?_⟩
        rw [ag _ (by omega), if_neg (by omega)]
        exact d
      · have hj' : j < S.length + 1 := by simpa using hj
        rw [ag j (by omega)]
        split
        · dsimp only; push_cast; omega
        · have := o.gen j (by omega)
          push_cast; omega

/-- A handle that lives is freed. -/
theorem OnceInv.free {k : Nat} {S : List Slt} {Fr : List Int} {L G N : List Hd} (o : OnceInv k S L G N) (r : Right S Fr) (hk : k ≤ 1000) {m : Nat} (hm : m < L.length) :
    livesP S L[m]! = true ∧ OnceInv (k + 1) (freeS S L[m]!) (L.eraseIdx m) G (N ++ [L[m]!]) ∧ livesP (freeS S L[m]!) L[m]! = false ∧ Past S L[m]! := by
  have hmem := get_mem L m hm
  have hl := (o.live _).1 hmem
  have hpast := past_of_lives r hl
  have her : ∀ x, x ∈ L.eraseIdx m ↔ x ∈ L ∧ x ≠ L[m]! := fun x => by
    have hsp : L.take m ++ L[m]! :: L.drop (m + 1) = L := by
      rw [getElem!_pos L m hm, ← List.drop_eq_getElem_cons hm, List.take_append_drop]
    have hn := o.once
    rw [← hsp, List.nodup_append, List.nodup_cons] at hn
    have hmem2 : x ∈ L ↔ x ∈ L.take m ∨ x = L[m]! ∨ x ∈ L.drop (m + 1) := by
      conv => lhs; rw [← hsp]
      simp
    rw [List.eraseIdx_eq_take_drop_succ, List.mem_append, hmem2]
    constructor
    · rintro (hx | hx)
      · exact ⟨.inl hx, fun hxe => hn.2.2 _ hx _ (by simp) hxe⟩
      · exact ⟨.inr (.inr hx), fun hxe => hn.2.1.1 (hxe ▸ hx)⟩
    · rintro ⟨hx | hx | hx, hxe⟩
      · exact .inl hx
      · exact absurd hx hxe
      · exact .inr hx
  generalize L[m]! = h at *
  obtain ⟨a, b, c⟩ := livesP_iff.1 hl
  have hp : h.1.toNat < S.length := by omega
  have hg := o.gen _ hp
  rw [c] at hg
  dsimp only at hg
  have hne : ¬ h.2 = 1073741824 := by omega
  have e : freeS S h = S.set h.1.toNat (h.2 + 1, false) := by unfold freeS; rw [if_neg hne]
  have sg := fun j => set_get S h.1.toNat j (h.2 + 1, false) hp
  rw [e]
  have hgone : Gone (S.set h.1.toNat (h.2 + 1, false)) h := ⟨a, by simpa using hp, hpast.2.2.1, by rw [sg, if_pos rfl]; dsimp only; omega⟩
  refine ⟨hl, ⟨?_, fun x => ?_, fun x hx => ?_, fun x hx => ?_, fun j hj => ?_⟩, hgone.dead, hpast⟩
  · exact (List.eraseIdx_sublist L m).nodup o.once
  · rw [her, o.live, livesP_iff, livesP_iff]
    simp only [List.length_set]
    rw [sg]
    constructor
    · rintro ⟨⟨a', b', c'⟩, hx⟩
      refine ⟨a', b', ?_⟩
      rw [if_neg]
      · exact c'
      · intro hxe
        apply hx
        rw [hxe, c] at c'
        exact Prod.ext (by omega) (congrArg Prod.fst c').symm
    · rintro ⟨a', b', c'⟩
      split at c'
      · have := congrArg Prod.snd c'
        cases this
      · rename_i hxe
        exact ⟨⟨a', b', c'⟩, fun hx => hxe (by rw [hx])⟩
  · obtain ⟨a', b', c', d'⟩ := o.given x hx
    refine ⟨a', by simpa using b', c', ?_⟩
    rw [sg]
    split
    · rename_i hxe
      rw [hxe, c] at d'
      dsimp only at d' ⊢
      exact .inl (by omega)
    · exact d'
  · rcases List.mem_append.1 hx with hx | hx
    · obtain ⟨a', b', c', d'⟩ := o.gone x hx
      refine ⟨a', by simpa using b', c', ?_⟩
      rw [sg]
      split
      · rename_i hxe
        rw [hxe, c] at d'
        dsimp only at d' ⊢
        omega
      · exact d'
    · simp only [List.mem_singleton] at hx
      subst hx
      exact hgone
  · have hj' : j < S.length := by simpa using hj
    rw [sg]
    have := o.gen j hj'
    split
    · dsimp only; push_cast; omega
    · push_cast; omega
theorem OnceInv.next {k : Nat} {S : List Slt} {L G N : List Hd} (o : OnceInv k S L G N) : OnceInv (k + 1) S L G N :=
  ⟨o.once, o.live, o.given, o.gone, fun j hj => by have := o.gen j hj; push_cast; omega⟩
theorem Past.ok {S : List Slt} {Fr : List Int} {h : Hd} (p : Past S h) (r : Right S Fr) : 0 ≤ h.1 ∧ h.1 ≤ 128 ∧ 1 ≤ h.2 ∧ h.2 ≤ 1073741824 := by
  obtain ⟨a, b, c, d⟩ := p
  have := r.gen _ b
  have := r.len
  exact ⟨a, by omega, c, by rcases d with d | d <;> omega⟩
end Go.Proofs.YthodmicoejnfaaaDoor
