/-
  Of no program: spans, their ends in order, the pairs that meet; what putting and dropping does to them.
-/
import Derived.Test.YtklpemcchfmdjaaDoorSrt
namespace Go.Proofs.YtklpemcchfmdjaaDoor
set_option linter.unusedSimpArgs false
set_option linter.unusedVariables false

abbrev Spn := Hd × (Int × Int)
abbrev En := Int × Bool × Hd
/-- Which end comes ahead. -/
def ltE (a b : En) : Bool := decide (a.1 < b.1) || (decide (a.1 = b.1) && ((!a.2.1 && b.2.1) || (decide (a.2.1 = b.2.1) && ltH a.2.2 b.2.2)))
theorem sto_en : STO ltE where
  irrefl x := by
    obtain ⟨a, b, c⟩ := x
    cases b <;> simp [ltE, sto_hd.irrefl]
  trans x y z h1 h2 := by
    obtain ⟨a1, b1, c1⟩ := x
    obtain ⟨a2, b2, c2⟩ := y
    obtain ⟨a3, b3, c3⟩ := z
    simp only [ltE, Bool.or_eq_true, decide_eq_true_eq, Bool.and_eq_true, Bool.not_eq_true'] at *
    rcases h1 with h1 | ⟨e1, h1⟩ <;> rcases h2 with h2 | ⟨e2, h2⟩
    · exact .inl (by omega)
    · exact .inl (by omega)
    · exact .inl (by omega)
    · refine .inr ⟨by omega, ?_⟩
      rcases h1 with ⟨p1, p2⟩ | ⟨p1, p2⟩ <;> rcases h2 with ⟨q1, q2⟩ | ⟨q1, q2⟩
      · exact .inl ⟨p1, q2⟩
      · exact .inl ⟨p1, q1 ▸ p2⟩
      · exact .inl ⟨p1.trans q1, q2⟩
      · exact .inr ⟨p1.trans q1, sto_hd.trans _ _ _ p2 q2⟩
  total x y h1 h2 := by
    obtain ⟨a1, b1, c1⟩ := x
    obtain ⟨a2, b2, c2⟩ := y
    have e1 : a1 = a2 := by
      simp only [ltE, Bool.or_eq_false_iff, decide_eq_false_iff_not] at h1 h2
      omega
    subst e1
    have e2 : b1 = b2 := by
      cases b1 <;> cases b2 <;> simp [ltE] at h1 h2 <;> rfl
    subst e2
    have e3 : c1 = c2 := by
      refine sto_hd.total _ _ ?_ ?_
      · cases b1 <;> simpa [ltE] using h1
      · cases b1 <;> simpa [ltE] using h2
    rw [e3]

def lo (s : Spn) : En := (s.2.1, false, s.1)
def hi (s : Spn) : En := (s.2.2, true, s.1)
def endsOf (L : List Spn) : List En := L.flatMap fun s => [lo s, hi s]
/-- All ends, in order. -/
def endsL (L : List Spn) : List En := srt ltE (endsOf L)
theorem mem_endsOf {L : List Spn} {e : En} : e ∈ endsOf L ↔ ∃ s ∈ L, e = lo s ∨ e = hi s := by simp [endsOf]
theorem mem_endsL {L : List Spn} {e : En} : e ∈ endsL L ↔ ∃ s ∈ L, e = lo s ∨ e = hi s := by rw [endsL, mem_srt sto_en, mem_endsOf]
theorem rise_endsL (L : List Spn) : Rise ltE (endsL L) := rise_srt sto_en _
theorem endsOf_len (L : List Spn) : (endsOf L).length = 2 * L.length := by
  induction L with
  | nil => rfl
  | cons s r ih =>
    unfold endsOf at ih ⊢
    rw [List.flatMap_cons, List.length_append, ih]
    simp
    omega
theorem endsL_len (L : List Spn) : (endsL L).length ≤ 2 * L.length := by
  have := srt_len ltE (endsOf L)
  rwa [endsOf_len] at this
theorem endsL_snoc (L : List Spn) (s : Spn) : endsL (L ++ [s]) = put ltE (hi s) (put ltE (lo s) (endsL L)) := by
  unfold endsL endsOf
  rw [List.flatMap_append]
  simp only [List.flatMap_cons, List.flatMap_nil, List.append_nil]
  rw [show ∀ l : List En, l ++ [lo s, hi s] = (l ++ [lo s]) ++ [hi s] from fun l => by simp, srt_snoc, srt_snoc]
def without (L : List Spn) (h : Hd) : List Spn := L.filter fun s => !decide (s.1 = h)
theorem mem_without {L : List Spn} {h : Hd} {s : Spn} : s ∈ without L h ↔ s ∈ L ∧ s.1 ≠ h := by simp [without]
/-- Each handle once. -/
def Once (L : List Spn) : Prop := (L.map (·.1)).Nodup
theorem Once.eq {L : List Spn} (h : Once L) : ∀ {a b : Spn}, a ∈ L → b ∈ L → a.1 = b.1 → a = b := by
  induction L with
  | nil => intro a b ha; cases ha
  | cons x r ih =>
    intro a b ha hb e
    obtain ⟨h1, h2⟩ := List.nodup_cons.1 h
    rcases List.mem_cons.1 ha with e1 | ha1
    · rcases List.mem_cons.1 hb with e2 | hb1
      · rw [e1, e2]
      · exact absurd (List.mem_map.2 ⟨b, hb1, by rw [← e, e1]⟩) h1
    · rcases List.mem_cons.1 hb with e2 | hb1
      · exact absurd (List.mem_map.2 ⟨a, ha1, by rw [e, e2]⟩) h1
      · exact ih h2 ha1 hb1 e
theorem Once.without {L : List Spn} (h : Once L) (g : Hd) : Once (without L g) := List.Sublist.nodup (List.Sublist.map _ List.filter_sublist) h
theorem Once.snoc {L : List Spn} (h : Once L) {s : Spn} (hs : ∀ b ∈ L, b.1 ≠ s.1) : Once (L ++ [s]) := by
  unfold Once at *
  rw [List.map_append, List.nodup_append]
  refine ⟨h, by simp, ?_⟩
  intro a ha b hb e
  obtain ⟨x, hx, rfl⟩ := List.mem_map.1 ha
  simp at hb
  subst hb
  exact hs x hx e
theorem without_len (L : List Spn) (h : Hd) : (without L h).length ≤ L.length := List.length_filter_le _ _
theorem without_none {L : List Spn} {h : Hd} (hn : ∀ s ∈ L, s.1 ≠ h) : without L h = L := List.filter_eq_self.2 fun s hs => by simpa using hn s hs
theorem without_one {L : List Spn} (ho : Once L) {s : Spn} (hs : s ∈ L) : (without L s.1).length + 1 = L.length := by
  induction L with
  | nil => cases hs
  | cons x r ih =>
    obtain ⟨h1, h2⟩ := List.nodup_cons.1 ho
    rcases List.mem_cons.1 hs with rfl | hs
    · have : without (s :: r) s.1 = without r s.1 := by simp [without]
      rw [this, without_none (fun b hb e => h1 (List.mem_map.2 ⟨b, hb, e⟩))]
      rfl
    · have hne : x.1 ≠ s.1 := fun e => h1 (List.mem_map.2 ⟨s, hs, e.symm⟩)
      have : without (x :: r) s.1 = x :: without r s.1 := by simp [without, hne]
      rw [this, List.length_cons, ih h2 hs, List.length_cons]
/-- Both ends are taken out. -/
theorem endsL_without {L : List Spn} (ho : Once L) {s : Spn} (hs : s ∈ L) : ((endsL L).filter fun e => !decide (e = lo s)).filter (fun e => !decide (e = hi s)) = endsL (without L s.1) := by
  refine rise_uniq sto_en _ _ (rise_filter (rise_filter (rise_endsL L) _) _) (rise_endsL _) fun e => ?_
  simp only [List.mem_filter, Bool.not_eq_true', decide_eq_false_iff_not, mem_endsL, mem_without]
  constructor
  · rintro ⟨⟨⟨t, ht, he⟩, h1⟩, h2⟩
    refine ⟨t, ⟨ht, fun e1 => ?_⟩, he⟩
    obtain rfl := ho.eq ht hs e1
    exact he.elim h1 h2
  · rintro ⟨t, ⟨ht, hne⟩, he⟩
    refine ⟨⟨⟨t, ht, he⟩, fun e1 => ?_⟩, fun e1 => ?_⟩
    · subst e1
      rcases he with he | he <;> simp [lo, hi] at he
      exact hne he.2.symm
    · subst e1
      rcases he with he | he <;> simp [lo, hi] at he
      exact hne he.2.symm

/-! ### Where an end stands. -/
section
variable {α : Type} {lt : α → α → Bool}
theorem headLess_lt (x : α) : ∀ (l : List α) (j : Nat), j < headLess lt x l → ∃ y, l[j]? = some y ∧ lt y x = true
  | [], j, h => by simp [headLess] at h
  | y :: r, j, h => by
    unfold headLess at h
    split at h
    · rename_i e
      cases j with
      | zero => exact ⟨y, rfl, e⟩
      | succ j => exact headLess_lt x r j (by omega)
    · omega
theorem headLess_not (x : α) : ∀ (l : List α) (y : α), l[headLess lt x l]? = some y → lt y x = false
  | [], y, h => by simp at h
  | z :: r, y, h => by
    unfold headLess at h
    split at h
    · exact headLess_not x r y (by simpa using h)
    · rename_i e
      simp at h
      subst h
      simpa using e
theorem headLess_ge (h : STO lt) (x : α) {l : List α} (hl : Rise lt l) (j : Nat) (hj : headLess lt x l ≤ j) {y : α} (hy : l[j]? = some y) : lt y x = false := by
  obtain ⟨hjl, rfl⟩ := List.getElem?_eq_some_iff.1 hy
  have h0 : headLess lt x l < l.length := by omega
  have h1 := headLess_not x l l[headLess lt x l] (List.getElem?_eq_getElem h0)
  rcases Nat.lt_or_ge (headLess lt x l) j with c | c
  · have h2 := rise_lt hl c hjl
    cases e : lt l[j] x with
    | false => rfl
    | true => rw [h.trans _ _ _ h2 e] at h1; cases h1
  · obtain rfl : headLess lt x l = j := by omega
    exact h1
/-- The place of one that is there. -/
theorem headLess_mem (h : STO lt) (x : α) {l : List α} (hl : Rise lt l) (hx : x ∈ l) : l[headLess lt x l]? = some x := by
  obtain ⟨j, hj, rfl⟩ := List.getElem_of_mem hx
  have h1 : ¬ j < headLess lt l[j] l := fun c => by
    obtain ⟨y, hy, hlt⟩ := headLess_lt l[j] l j c
    rw [List.getElem?_eq_getElem hj] at hy
    simp at hy
    subst hy
    rw [h.irrefl] at hlt
    cases hlt
  have h0 : headLess lt l[j] l < l.length := by omega
  rw [List.getElem?_eq_getElem h0]
  rcases Nat.lt_or_ge (headLess lt l[j] l) j with c | c
  · have h2 := headLess_not l[j] l _ (List.getElem?_eq_getElem h0)
    rw [rise_lt hl c hj] at h2
    cases h2
  · congr 1
    congr 1
    omega
theorem put_new [DecidableEq α] (h : STO lt) (x : α) {l : List α} (hx : x ∉ l) : put lt x l = l.take (headLess lt x l) ++ [x] ++ l.drop (headLess lt x l) := by
  rw [put_eq, if_neg (fun e => hx (List.mem_of_getElem? e))]
  simp
/-- One is taken out. -/
theorem cut_one [DecidableEq α] (h : STO lt) (x : α) {l : List α} (hl : Rise lt l) (hx : x ∈ l) : l.take (headLess lt x l) ++ l.drop (headLess lt x l + 1) = l.filter fun e => !decide (e = x) := by
  have h1 := headLess_mem h x hl hx
  obtain ⟨hj, h2⟩ := List.getElem?_eq_some_iff.1 h1
  have e : l = l.take (headLess lt x l) ++ x :: l.drop (headLess lt x l + 1) := by
    conv => lhs; rw [← List.take_append_drop (headLess lt x l) l, List.drop_eq_getElem_cons hj, h2]
  generalize headLess lt x l = k at *
  have hn := rise_nodup h hl
  rw [e] at hn
  have hnd := List.nodup_append.1 hn
  conv => rhs; rw [e]
  rw [List.filter_append, List.filter_cons]
  simp only [decide_true, Bool.not_true, Bool.false_eq_true, if_false]
  have f1 : (l.take k).filter (fun e => !decide (e = x)) = l.take k := List.filter_eq_self.2 fun a ha => by simpa using fun e : a = x => hnd.2.2 a ha x (by simp) e
  have f2 : (l.drop (k + 1)).filter (fun e => !decide (e = x)) = l.drop (k + 1) := List.filter_eq_self.2 fun a ha => by simpa using fun e : a = x => (List.nodup_cons.1 hnd.2.1).1 (e ▸ ha)
  rw [f1, f2]
end

/-! ### Which meet. -/
abbrev IV := Int × Int
def meets (a b : IV) : Bool := decide (a.1 ≤ b.2) && decide (b.1 ≤ a.2)
theorem meets_comm (a b : IV) : meets a b = meets b a := by unfold meets; rw [Bool.and_comm]
/-- What a handle's span is. -/
def spF (L : List Spn) (h : Hd) : Option IV := (L.find? fun s => decide (s.1 = h)).map (·.2)
theorem spF_mem {L : List Spn} (ho : Once L) {s : Spn} (hs : s ∈ L) : spF L s.1 = some s.2 := by
  unfold spF
  cases e : L.find? (fun t => decide (t.1 = s.1)) with
  | none => exact absurd (List.find?_eq_none.1 e s hs) (by simp)
  | some t =>
    have h1 := List.mem_of_find?_eq_some e
    have h2 := List.find?_some e
    rw [ho.eq h1 hs (by simpa using h2)]
    rfl
theorem spF_some {L : List Spn} {h : Hd} {v : IV} (e : spF L h = some v) : (h, v) ∈ L := by
  unfold spF at e
  cases e2 : L.find? (fun t => decide (t.1 = h)) with
  | none => rw [e2] at e; cases e
  | some t =>
    rw [e2] at e
    have h1 := List.mem_of_find?_eq_some e2
    have h2 := List.find?_some e2
    simp at e h2
    subst e h2
    exact h1
theorem spF_none {L : List Spn} {h : Hd} (hn : ∀ s ∈ L, s.1 ≠ h) : spF L h = none := by
  unfold spF
  rw [List.find?_eq_none.2 (fun s hs => by simpa using hn s hs)]
  rfl
theorem spF_no {L : List Spn} {h : Hd} (e : spF L h = none) : ∀ s ∈ L, s.1 ≠ h := fun s hs q => by
  unfold spF at e
  rw [Option.map_eq_none_iff] at e
  have := List.find?_eq_none.1 e s hs
  simp at this
  exact this q
theorem spF_snoc {L : List Spn} {s : Spn} (hs : ∀ b ∈ L, b.1 ≠ s.1) (z : Hd) : spF (L ++ [s]) z = if z = s.1 then some s.2 else spF L z := by
  by_cases hz : z = s.1
  · subst hz
    rw [if_pos rfl]
    unfold spF
    rw [List.find?_append, List.find?_eq_none.2 (fun b hb => by simpa using hs b hb)]
    simp
  · rw [if_neg hz]
    unfold spF
    rw [List.find?_append]
    have : ¬ s.1 = z := fun e => hz e.symm
    cases L.find? (fun t => decide (t.1 = z)) <;> simp [this]
theorem spF_without (L : List Spn) (h z : Hd) : spF (without L h) z = if z = h then none else spF L z := by
  by_cases hz : z = h
  · subst hz
    rw [if_pos rfl]
    exact spF_none fun s hs => (mem_without.1 hs).2
  · rw [if_neg hz]
    unfold spF without
    congr 1
    rw [List.find?_filter]
    congr 1
    funext s
    by_cases e : s.1 = z
    · simp [e, hz]
    · simp [e]

/-- q is the pair of two spans that meet. -/
def PM (L : List Spn) (q : Pr) : Prop := ∃ a ∈ L, ∃ b ∈ L, a.1 ≠ b.1 ∧ meets a.2 b.2 = true ∧ q = norm (a.1, b.1)
theorem norm_comm (a b : Hd) (h : a ≠ b) : norm (a, b) = norm (b, a) := by
  unfold norm
  dsimp only
  cases e : ltH b a with
  | true => rw [sto_hd.asymm e]; simp
  | false =>
    cases e2 : ltH a b with
    | true => simp
    | false => exact absurd (sto_hd.total _ _ e2 e) h
theorem norm_set (a b : Hd) : (norm (a, b) = (a, b)) ∨ (norm (a, b) = (b, a)) := by
  unfold norm
  dsimp only
  cases ltH b a <;> simp
theorem norm_ne {a b : Hd} (h : a ≠ b) : (norm (a, b)).1 ≠ (norm (a, b)).2 := by
  rcases norm_set a b with e | e <;> rw [e]
  · exact h
  · exact h.symm
theorem norm_lt {a b : Hd} (h : a ≠ b) : ltH (norm (a, b)).1 (norm (a, b)).2 = true := by
  unfold norm
  dsimp only
  cases e : ltH b a with
  | true => exact e
  | false =>
    cases e2 : ltH a b with
    | true => exact e2
    | false => exact absurd (sto_hd.total _ _ e2 e) h
theorem norm_norm {a b : Hd} (h : a ≠ b) : norm (norm (a, b)) = norm (a, b) := by
  have := sto_hd.asymm (norm_lt h)
  generalize norm (a, b) = q at *
  unfold norm
  rw [this]
  rfl
theorem norm_inj {a b c d : Hd} (e : norm (a, b) = norm (c, d)) : (a = c ∧ b = d) ∨ (a = d ∧ b = c) := by
  rcases norm_set a b with h1 | h1 <;> rcases norm_set c d with h2 | h2 <;> rw [h1, h2] at e <;> simp only [Prod.mk.injEq] at e <;> obtain ⟨rfl, rfl⟩ := e <;> simp
theorem PM.put {L : List Spn} {s : Spn} (hs : ∀ b ∈ L, b.1 ≠ s.1) (q : Pr) : PM (L ++ [s]) q ↔ PM L q ∨ ∃ b ∈ L, meets b.2 s.2 = true ∧ q = norm (s.1, b.1) := by
  constructor
  · rintro ⟨a, ha, b, hb, hne, hm, rfl⟩
    rcases List.mem_append.1 ha with ha1 | ha1
    · rcases List.mem_append.1 hb with hb1 | hb1
      · exact .inl ⟨a, ha1, b, hb1, hne, hm, rfl⟩
      · have e := List.mem_singleton.1 hb1
        rw [e] at hm hne ⊢
        exact .inr ⟨a, ha1, hm, norm_comm _ _ hne⟩
    · have e := List.mem_singleton.1 ha1
      rw [e] at hm hne ⊢
      rcases List.mem_append.1 hb with hb1 | hb1
      · exact .inr ⟨b, hb1, by rw [meets_comm]; exact hm, rfl⟩
      · have e2 := List.mem_singleton.1 hb1
        rw [e2] at hne
        exact absurd rfl hne
  · rintro (⟨a, ha, b, hb, hne, hm, rfl⟩ | ⟨b, hb, hm, rfl⟩)
    · exact ⟨a, by simp [ha], b, by simp [hb], hne, hm, rfl⟩
    · exact ⟨s, by simp, b, by simp [hb], fun e => hs b hb e.symm, by rw [meets_comm]; exact hm, rfl⟩
theorem PM.drop {L : List Spn} (ho : Once L) {s : Spn} (hs : s ∈ L) (q : Pr) : PM (without L s.1) q ↔ PM L q ∧ ¬ ∃ b ∈ without L s.1, meets b.2 s.2 = true ∧ q = norm (s.1, b.1) := by
  constructor
  · rintro ⟨a, ha, b, hb, hne, hm, rfl⟩
    have ha' := mem_without.1 ha
    have hb' := mem_without.1 hb
    refine ⟨⟨a, ha'.1, b, hb'.1, hne, hm, rfl⟩, ?_⟩
    rintro ⟨c, hc, _, e⟩
    rcases norm_inj e with ⟨e1, e2⟩ | ⟨e1, e2⟩
    · exact ha'.2 e1
    · exact hb'.2 e2
  · rintro ⟨⟨a, ha, b, hb, hne, hm, rfl⟩, hn⟩
    have c1 : a.1 ≠ s.1 := fun e => by
      obtain rfl := ho.eq ha hs e
      exact hn ⟨b, mem_without.2 ⟨hb, fun e2 => hne e2.symm⟩, by rw [meets_comm]; exact hm, rfl⟩
    have c2 : b.1 ≠ s.1 := fun e => by
      obtain rfl := ho.eq hb hs e
      exact hn ⟨a, mem_without.2 ⟨ha, hne⟩, hm, norm_comm _ _ hne⟩
    exact ⟨a, mem_without.2 ⟨ha, c1⟩, b, mem_without.2 ⟨hb, c2⟩, hne, hm, rfl⟩

/-! ### The iterator's row. -/
/-- Does this end's span meet? -/
def hit (f : Hd → Option IV) (s : IV) (e : En) : Bool := !e.2.1 && decide (((f e.2.2).getD (0, 0)).2 ≥ s.1)
theorem hits_all {L : List Spn} (ho : Once L) (s : IV) (k : Nat) (hk : ∀ j e, (endsL L)[j]? = some e → k ≤ j → e.1 > s.2) (hb : ∀ j e, (endsL L)[j]? = some e → j < k → e.1 ≤ s.2) (h : Hd) :
    h ∈ (((endsL L).take k).filter (hit (spF L) s)).map (·.2.2) ↔ ∃ b ∈ L, b.1 = h ∧ meets b.2 s = true := by
  simp only [List.mem_map, List.mem_filter]
  constructor
  · rintro ⟨e, ⟨he, hh⟩, rfl⟩
    obtain ⟨j, hj, hje⟩ := List.getElem_of_mem he
    rw [List.getElem_take] at hje
    have hjk : j < k := by rw [List.length_take] at hj; omega
    have hje2 : (endsL L)[j]? = some e := by rw [List.getElem?_eq_some_iff]; exact ⟨by rw [List.length_take] at hj; omega, hje⟩
    obtain ⟨b, hbL, heb⟩ := mem_endsL.1 (List.mem_of_getElem? hje2)
    simp only [hit, Bool.and_eq_true, Bool.not_eq_true', decide_eq_true_eq] at hh
    have hle := hb j e hje2 hjk
    rcases heb with rfl | rfl
    · refine ⟨b, hbL, rfl, ?_⟩
      have h2 := hh.2
      rw [show (lo b).2.2 = b.1 from rfl, spF_mem ho hbL] at h2
      unfold meets
      simp only [Option.getD_some] at h2
      have hle' : b.2.1 ≤ s.2 := hle
      simp [hle']
      omega
    · cases hh.1
  · rintro ⟨b, hbL, rfl, hm⟩
    unfold meets at hm
    simp only [Bool.and_eq_true, decide_eq_true_eq] at hm
    have hmem : lo b ∈ endsL L := mem_endsL.2 ⟨b, hbL, .inl rfl⟩
    obtain ⟨j, hj, hje⟩ := List.getElem_of_mem hmem
    have hje2 : (endsL L)[j]? = some (lo b) := by rw [List.getElem?_eq_getElem hj, hje]
    have hjk : j < k := by
      rcases Nat.lt_or_ge j k with c | c
      · exact c
      · have := hk j _ hje2 c
        have h3 : b.2.1 > s.2 := this
        omega
    refine ⟨lo b, ⟨?_, ?_⟩, rfl⟩
    · rw [List.mem_iff_getElem?]
      exact ⟨j, by rw [List.getElem?_take, if_pos hjk]; exact hje2⟩
    · simp only [hit, Bool.and_eq_true, Bool.not_eq_true', decide_eq_true_eq]
      refine ⟨rfl, ?_⟩
      rw [show (lo b).2.2 = b.1 from rfl, spF_mem ho hbL]
      simp only [Option.getD_some]
      omega
/-- In a rising row the At's rise. -/
theorem rise_at {l : List En} (hl : Rise ltE l) {i j : Nat} (hij : i ≤ j) {a b : En} (ha : l[i]? = some a) (hb : l[j]? = some b) : a.1 ≤ b.1 := by
  obtain ⟨h1, rfl⟩ := List.getElem?_eq_some_iff.1 ha
  obtain ⟨h2, rfl⟩ := List.getElem?_eq_some_iff.1 hb
  rcases Nat.lt_or_ge i j with c | c
  · have := rise_lt hl c h2
    simp only [ltE, Bool.or_eq_true, Bool.and_eq_true, decide_eq_true_eq] at this
    omega
  · obtain rfl : i = j := by omega
    exact Int.le_refl _
theorem take_hit (L : List En) (f : Hd → Option IV) (s : IV) (k : Nat) (hk : k < L.length) : ((L.take (k + 1)).filter (hit f s)).map (·.2.2) = ((L.take k).filter (hit f s)).map (·.2.2) ++ (if hit f s L[k]! = true then [L[k]!.2.2] else []) := by
  rw [List.take_succ_eq_append_getElem hk, List.filter_append, List.map_append, getElem!_pos L k hk]
  congr 1
  by_cases h : hit f s L[k] = true
  · simp [h]
  · simp [h]

/-! ### The set of pairs. -/
def prF (K : List Pr) (q : Pr) : Option Unit := if q ∈ K then some () else none
theorem prF_put (K : List Pr) (x q : Pr) : (if q = x then some () else prF K q) = prF (if x ∈ K then K else K ++ [x]) q := by
  unfold prF
  by_cases h : q = x
  · subst h
    by_cases hk : q ∈ K <;> simp [hk]
  · by_cases hx : x ∈ K <;> simp [h, hx]
theorem prF_del (K : List Pr) (x q : Pr) : (if q = x then none else prF K q) = prF (K.filter fun z => !decide (z = x)) q := by
  unfold prF
  by_cases h : q = x
  · simp [h]
  · simp [h]
theorem prF_some (K : List Pr) (x : Pr) : (prF K x).isSome = decide (x ∈ K) := by
  unfold prF
  by_cases h : x ∈ K <;> simp [h]
/-- The row of the pairs with one. -/
def joinK (K : List Pr) (x : Pr) : List Pr := if x ∈ K then K else K ++ [x]
theorem mem_joinK {K : List Pr} {x q : Pr} : q ∈ joinK K x ↔ q ∈ K ∨ q = x := by
  unfold joinK
  by_cases h : x ∈ K
  · rw [if_pos h]
    exact ⟨.inl, fun e => e.elim id (fun e => e ▸ h)⟩
  · rw [if_neg h]
    simp
theorem nodup_joinK {K : List Pr} {x : Pr} (h : K.Nodup) : (joinK K x).Nodup := by
  unfold joinK
  by_cases hx : x ∈ K
  · rw [if_pos hx]; exact h
  · rw [if_neg hx, List.nodup_append]
    refine ⟨h, by simp, fun a ha b hb e => ?_⟩
    simp at hb
    subst hb
    subst e
    exact hx ha
theorem len_joinK (K : List Pr) (x : Pr) : (joinK K x).length = if (prF K x).isSome then K.length else K.length + 1 := by
  rw [prF_some]
  unfold joinK
  by_cases hx : x ∈ K <;> simp [hx]
def partK (K : List Pr) (x : Pr) : List Pr := K.filter fun z => !decide (z = x)
theorem mem_partK {K : List Pr} {x q : Pr} : q ∈ partK K x ↔ q ∈ K ∧ q ≠ x := by simp [partK]
theorem nodup_partK {K : List Pr} {x : Pr} (h : K.Nodup) : (partK K x).Nodup := h.sublist List.filter_sublist
theorem len_partK {K : List Pr} (x : Pr) (h : K.Nodup) : (partK K x).length = if (prF K x).isSome then K.length - 1 else K.length := by
  rw [prF_some]
  unfold partK
  by_cases hx : x ∈ K
  · simp only [hx, decide_true, if_true]
    induction K with
    | nil => cases hx
    | cons y r ih =>
      obtain ⟨h1, h2⟩ := List.nodup_cons.1 h
      rcases List.mem_cons.1 hx with rfl | hx
      · rw [List.filter_cons]
        simp only [decide_true, Bool.not_true, Bool.false_eq_true, if_false, List.length_cons, Nat.add_sub_cancel]
        congr 1
        exact List.filter_eq_self.2 fun a ha => by simpa using fun e : a = x => h1 (e ▸ ha)
      · have hne : y ≠ x := fun e => h1 (e ▸ hx)
        have hpos : 0 < r.length := List.length_pos_of_mem hx
        rw [List.filter_cons]
        simp only [hne, decide_false, Bool.not_false, if_true, List.length_cons]
        rw [ih h2 hx]
        omega
  · simp only [hx, decide_false, Bool.false_eq_true, if_false]
    congr 1
    exact List.filter_eq_self.2 fun a ha => by simpa using fun e : a = x => hx (e ▸ ha)
/-- K is the set of the pairs that meet. -/
def KOf (L : List Spn) (K : List Pr) : Prop := K.Nodup ∧ ∀ q, q ∈ K ↔ PM L q
theorem nodup_sub_len {α : Type} [DecidableEq α] : ∀ {a b : List α}, a.Nodup → (∀ x ∈ a, x ∈ b) → a.length ≤ b.length
  | [], _, _, _ => Nat.zero_le _
  | x :: r, b, h, hs => by
    obtain ⟨h1, h2⟩ := List.nodup_cons.1 h
    have hx : x ∈ b := hs x (by simp)
    have h3 : r.length ≤ (b.erase x).length := nodup_sub_len h2 fun y hy => (List.mem_erase_of_ne (fun e => h1 (by rw [← e]; exact hy))).2 (hs y (by simp [hy]))
    rw [List.length_erase_of_mem hx] at h3
    have := List.length_pos_of_mem hx
    rw [List.length_cons]
    omega
theorem PM.len {L : List Spn} {K : List Pr} (h : K.Nodup) (hs : ∀ q ∈ K, PM L q) : K.length ≤ L.length * L.length := by
  have := nodup_sub_len (b := L.flatMap fun a => L.map fun b => norm (a.1, b.1)) h (fun q hq => by
    obtain ⟨a, ha, b, hb, _, _, rfl⟩ := hs q hq
    rw [List.mem_flatMap]
    exact ⟨a, ha, List.mem_map.2 ⟨b, hb, rfl⟩⟩)
  refine Nat.le_trans this ?_
  rw [List.length_flatMap]
  have e : ∀ l : List Spn, (l.map fun a => (L.map fun b => norm (a.1, b.1)).length).sum = l.length * L.length := by
    intro l
    induction l with
    | nil => simp
    | cons x r ih => rw [List.map_cons, List.sum_cons, ih, List.length_map, List.length_cons, Nat.add_mul, Nat.one_mul, Nat.add_comm]
  rw [e]
  exact Nat.le_refl _

/-! ### All pairs of which something holds, as the document's answer tells them. -/
section
variable {β : Type} (f : β → β → Bool) (hd : β → Hd)
def rowP (a : β) (l : List β) : List Pr := l.filterMap fun b => if f a b then some (hd a, hd b) else none
def allP : List β → List β → List Pr
  | _, [] => []
  | pre, a :: r => rowP f hd a pre ++ allP (pre ++ [a]) r
theorem allP_snoc : ∀ (r pre : List β) (a : β), allP f hd pre (r ++ [a]) = allP f hd pre r ++ rowP f hd a (pre ++ r)
  | [], pre, a => by simp [allP]
  | x :: r, pre, a => by
    simp only [List.cons_append, allP]
    rw [allP_snoc r (pre ++ [x]) a]
    simp
theorem allP_take [Inhabited β] (l : List β) (i : Nat) (hi : i < l.length) : allP f hd [] (l.take (i + 1)) = allP f hd [] (l.take i) ++ rowP f hd l[i]! (l.take i) := by
  rw [List.take_succ_eq_append_getElem hi, allP_snoc, getElem!_pos l i hi]
  simp
theorem rowP_take [Inhabited β] (a : β) (l : List β) (j : Nat) (hj : j < l.length) : rowP f hd a (l.take (j + 1)) = rowP f hd a (l.take j) ++ if f a l[j]! then [(hd a, hd l[j]!)] else [] := by
  unfold rowP
  rw [List.take_succ_eq_append_getElem hj, List.filterMap_append, getElem!_pos l j hj]
  congr 1
  cases h : f a l[j] <;> simp [h]
theorem rowP_len (a : β) (l : List β) : (rowP f hd a l).length ≤ l.length := List.length_filterMap_le _ _
theorem allP_len : ∀ (r pre : List β), (allP f hd pre r).length ≤ r.length * (pre.length + r.length)
  | [], _ => by simp [allP]
  | a :: r, pre => by
    have h1 := allP_len r (pre ++ [a])
    have h2 := rowP_len f hd a pre
    simp only [allP, List.length_append, List.length_cons, List.length_nil] at *
    have e : (r.length + 1) * (pre.length + (r.length + 1)) = r.length * (pre.length + (0 + 1) + r.length) + (pre.length + (r.length + 1)) := by
      rw [Nat.add_mul, Nat.one_mul]
      congr 2
      omega
    rw [e]
    omega
theorem mem_allP : ∀ (r pre : List β) (q : Pr), q ∈ allP f hd pre r → ∃ a ∈ r, ∃ b ∈ pre ++ r, f a b = true ∧ q = (hd a, hd b)
  | [], _, q, h => by simp [allP] at h
  | a :: r, pre, q, h => by
    simp only [allP, List.mem_append] at h
    rcases h with h | h
    · obtain ⟨b, hb, e⟩ := List.mem_filterMap.1 h
      split at e
      · rename_i hf
        simp at e
        exact ⟨a, by simp, b, by simp [hb], hf, e.symm⟩
      · cases e
    · obtain ⟨x, hx, b, hb, hf, e⟩ := mem_allP r (pre ++ [a]) q h
      exact ⟨x, by simp [hx], b, by simpa using hb, hf, e⟩
theorem allP_has (hc : ∀ a b, f a b = f b a) : ∀ (r pre : List β) (a b : β), a ∈ r → b ∈ pre ++ r → hd a ≠ hd b → f a b = true → (hd a, hd b) ∈ allP f hd pre r ∨ (hd b, hd a) ∈ allP f hd pre r
  | [], _, a, _, ha, _, _, _ => by cases ha
  | x :: r, pre, a, b, ha, hb, hne, hf => by
    simp only [allP, List.mem_append]
    have row : ∀ {u v : β}, v ∈ pre → f u v = true → (hd u, hd v) ∈ rowP f hd u pre := fun {u v} hv huv => List.mem_filterMap.2 ⟨v, hv, by rw [huv]; rfl⟩
    rcases List.mem_cons.1 ha with rfl | ha
    · rcases List.mem_append.1 hb with hb | hb
      · exact .inl (.inl (row hb hf))
      · rcases List.mem_cons.1 hb with rfl | hb
        · exact absurd rfl hne
        · rcases allP_has hc r (pre ++ [a]) b a hb (by simp) hne.symm (by rw [hc]; exact hf) with h | h
          · exact .inr (.inr h)
          · exact .inl (.inr h)
    · have hb' : b ∈ (pre ++ [x]) ++ r := by
        rcases List.mem_append.1 hb with hb | hb
        · simp [hb]
        · rcases List.mem_cons.1 hb with rfl | hb
          · simp
          · simp [hb]
      rcases allP_has hc r (pre ++ [x]) a b ha hb' hne hf with h | h
      · exact .inl (.inr h)
      · exact .inr (.inr h)
/-- All of them as pairs. -/
theorem mem_right {l : List Pr} {q : Pr} : q ∈ rightOnes l ↔ ∃ p ∈ l, p.1 ≠ p.2 ∧ q = norm p := by
  unfold rightOnes
  rw [List.mem_filterMap]
  constructor
  · rintro ⟨p, hp, e⟩
    split at e
    · cases e
    · rename_i hne
      simp at e
      exact ⟨p, hp, hne, e.symm⟩
  · rintro ⟨p, hp, hne, rfl⟩
    exact ⟨p, hp, by rw [if_neg hne]⟩
theorem mem_allP_right (hc : ∀ a b, f a b = f b a) (l : List β) (q : Pr) : q ∈ rightOnes (allP f hd [] l) ↔ ∃ a ∈ l, ∃ b ∈ l, hd a ≠ hd b ∧ f a b = true ∧ q = norm (hd a, hd b) := by
  rw [mem_right]
  constructor
  · rintro ⟨p, hp, hne, rfl⟩
    obtain ⟨a, ha, b, hb, hf, rfl⟩ := mem_allP f hd l [] p hp
    exact ⟨a, ha, b, by simpa using hb, hne, hf, rfl⟩
  · rintro ⟨a, ha, b, hb, hne, hf, rfl⟩
    rcases allP_has f hd hc l [] a b ha (by simpa using hb) hne hf with h | h
    · exact ⟨_, h, hne, rfl⟩
    · exact ⟨_, h, hne.symm, norm_comm _ _ hne⟩
end
/-- The pairs, in order: from whatever row of the set. -/
theorem pairs_same {K A : List Pr} (h : ∀ q, q ∈ rightOnes K ↔ q ∈ rightOnes A) : srt ltP (rightOnes K) = srt ltP (rightOnes A) :=
  srt_eq sto_pr (rise_srt sto_pr _) fun z => by rw [mem_srt sto_pr, h]
theorem right_KOf {L : List Spn} {K : List Pr} (h : ∀ q, q ∈ K ↔ PM L q) (q : Pr) : q ∈ rightOnes K ↔ PM L q := by
  rw [mem_right]
  constructor
  · rintro ⟨p, hp, _, rfl⟩
    have h1 := (h p).1 hp
    obtain ⟨a, ha, b, hb, hne, hm, e⟩ := h1
    refine ⟨a, ha, b, hb, hne, hm, ?_⟩
    rw [e, norm_norm hne]
  · intro h1
    have hq := (h q).2 h1
    obtain ⟨a, ha, b, hb, hne, hm, rfl⟩ := h1
    exact ⟨_, hq, norm_ne hne, (norm_norm hne).symm⟩
/-- The document's pairs of spans. -/
def allS (L : List Spn) : List Pr := allP (fun a b => meets a.2 b.2) (fun s => s.1) [] L
theorem mem_allS (L : List Spn) (q : Pr) : q ∈ rightOnes (allS L) ↔ PM L q := mem_allP_right _ _ (fun a b => meets_comm _ _) L q
def pairsL (L : List Spn) : List Pr := srt ltP (rightOnes (allS L))
theorem pairsL_of {L : List Spn} {K : List Pr} (h : ∀ q, q ∈ K ↔ PM L q) : srt ltP (rightOnes K) = pairsL L :=
  pairs_same fun q => by rw [right_KOf h, mem_allS]
end Go.Proofs.YtklpemcchfmdjaaDoor
