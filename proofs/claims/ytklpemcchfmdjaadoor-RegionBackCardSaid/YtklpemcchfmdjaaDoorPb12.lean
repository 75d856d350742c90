/-
  Of no program: boxes with their handles; a box taken away, a box put; what a tree holds, as a set.
-/
import Derived.Test.YtklpemcchfmdjaaDoorPa11
namespace Go.Proofs.YtklpemcchfmdjaaDoor
set_option linter.unusedSimpArgs false
set_option linter.unusedVariables false

abbrev Bx4 := Int × Int × Int × Int
abbrev Bxd := Hd × Bx4
def woB (B : List Bxd) (h : Hd) : List Bxd := B.filter fun b => !decide (b.1 = h)
def OnceB (B : List Bxd) : Prop := (B.map (·.1)).Nodup
theorem mem_woB {B : List Bxd} {h : Hd} {y : Bxd} : y ∈ woB B h ↔ y ∈ B ∧ y.1 ≠ h := by simp [woB]
theorem woB_len (B : List Bxd) (h : Hd) : (woB B h).length ≤ B.length := List.length_filter_le _ _
theorem once_wo {B : List Bxd} (h : OnceB B) (x : Hd) : OnceB (woB B x) := List.Sublist.nodup (List.Sublist.map _ List.filter_sublist) h
theorem once_put {B : List Bxd} (h : OnceB B) (x : Hd) (b : Bx4) : OnceB (woB B x ++ [(x, b)]) := by
  unfold OnceB
  rw [List.map_append, List.nodup_append]
  refine ⟨once_wo h x, by simp, fun p hp q hq => ?_⟩
  obtain ⟨y, hy, rfl⟩ := List.mem_map.1 hp
  simp only [List.map_cons, List.map_nil, List.mem_singleton] at hq
  subst hq
  exact (mem_woB.1 hy).2
theorem OnceB.eq {B : List Bxd} (h : OnceB B) : ∀ {a b : Bxd}, a ∈ B → b ∈ B → a.1 = b.1 → a = b := by
  induction B with
  | nil => intro a b ha; cases ha
  | cons x r ih =>
    intro a b ha hb e
    obtain ⟨h1, h2⟩ := List.nodup_cons.1 h
    rcases List.mem_cons.1 ha with e1 | ha1
    · rcases List.mem_cons.1 hb with e2 | hb1
      · rw [e1, e2]
      · exact absurd (List.mem_map.2 ⟨b, hb1, by rw [← e, e1]⟩) h1
    · rcases List.mem_cons.1 hb with e2 | hb1
      · exact absurd (List.mem_map.2 ⟨a, ha1, by rw [e, e2]⟩) h1
      · exact ih h2 ha1 hb1 e
theorem OnceB.nodup {B : List Bxd} (h : OnceB B) : B.Nodup := List.Pairwise.of_map (·.1) (fun a b h e => h (by rw [e])) h
theorem put_len (B : List Bxd) (x : Hd) (b : Bx4) : (woB B x ++ [(x, b)]).length ≤ B.length + 1 := by
  rw [List.length_append]
  have := woB_len B x
  simp only [List.length_cons, List.length_nil]
  omega
/-- A handle's box, if it has one. -/
def boxF (B : List Bxd) (h : Hd) : Option Bx4 := (B.find? fun b => decide (b.1 = h)).map (·.2)
theorem boxF_none {B : List Bxd} {h : Hd} : boxF B h = none ↔ ∀ b ∈ B, b.1 ≠ h := by
  unfold boxF
  rw [Option.map_eq_none_iff, List.find?_eq_none]
  simp
theorem boxF_some {B : List Bxd} {h : Hd} {x : Bx4} (e : boxF B h = some x) : (h, x) ∈ B := by
  unfold boxF at e
  rw [Option.map_eq_some_iff] at e
  obtain ⟨b, hb, rfl⟩ := e
  have h1 := List.find?_some hb
  have h2 := List.mem_of_find?_eq_some hb
  simp only [decide_eq_true_eq] at h1
  subst h1
  exact h2
theorem boxF_mem {B : List Bxd} (ho : OnceB B) {h : Hd} {x : Bx4} (hm : (h, x) ∈ B) : boxF B h = some x := by
  cases hq : boxF B h with
  | none => exact absurd rfl (boxF_none.1 hq _ hm)
  | some y =>
    have := ho.eq (boxF_some hq) hm rfl
    rw [Prod.mk.injEq] at this
    rw [this.2]
theorem woB_none {B : List Bxd} {h : Hd} (hn : boxF B h = none) : woB B h = B := List.filter_eq_self.2 fun b hb => by simpa using boxF_none.1 hn b hb
theorem woB_one {B : List Bxd} (ho : OnceB B) {h : Hd} {x : Bx4} (hm : (h, x) ∈ B) : (woB B h).length + 1 = B.length := by
  induction B with
  | nil => cases hm
  | cons b r ih =>
    obtain ⟨h1, h2⟩ := List.nodup_cons.1 ho
    by_cases e : b.1 = h
    · have hr : woB r h = r := List.filter_eq_self.2 fun y hy => by
        have : y.1 ≠ h := fun q => h1 (List.mem_map.2 ⟨y, hy, q.trans e.symm⟩)
        simpa using this
      unfold woB at hr ⊢
      rw [List.filter_cons, if_neg (by simp [e]), hr]
      rfl
    · have hm' : (h, x) ∈ r := by
        rcases List.mem_cons.1 hm with q | q
        · exact absurd (by rw [← q]) e
        · exact q
      have := ih h2 hm'
      unfold woB at this ⊢
      rw [List.filter_cons, if_pos (by simp [e])]
      simp only [List.length_cons]
      omega
/-- A handle is not held, or its box goes. -/
theorem woB_cases {B : List Bxd} (ho : OnceB B) (h : Hd) : (boxF B h = none ∧ woB B h = B) ∨ ∃ b : Bx4, (h, b) ∈ B ∧ (woB B h).length + 1 = B.length := by
  cases hq : boxF B h with
  | none => exact .inl ⟨rfl, woB_none hq⟩
  | some b => exact .inr ⟨b, boxF_some hq, woB_one ho (boxF_some hq)⟩
/-- It holds just these, each handle once. -/
def Hv (S : Bxd → Prop) (B : List Bxd) : Prop := OnceB B ∧ ∀ y, y ∈ B ↔ S y
theorem Hv.none : Hv (fun _ => False) [] := ⟨List.nodup_nil, fun y => by simp⟩
theorem Hv.congr {S S' : Bxd → Prop} {B : List Bxd} (h : Hv S B) (hs : ∀ y, S' y ↔ S y) : Hv S' B := ⟨h.1, fun y => by rw [hs, h.2]⟩
theorem Hv.put {S S' : Bxd → Prop} {B : List Bxd} (h : Hv S B) (x : Hd) (b : Bx4) (hs : ∀ y, S' y ↔ (S y ∧ y.1 ≠ x) ∨ y = (x, b)) : Hv S' (woB B x ++ [(x, b)]) :=
  ⟨once_put h.1 x b, fun y => by rw [hs, List.mem_append, mem_woB, h.2, List.mem_singleton]⟩
theorem Hv.drop {S S' : Bxd → Prop} {B : List Bxd} (h : Hv S B) (x : Hd) (hs : ∀ y, S' y ↔ S y ∧ y.1 ≠ x) : Hv S' (woB B x) := ⟨once_wo h.1 x, fun y => by rw [hs, mem_woB, h.2]⟩
theorem Hv.len {S : Bxd → Prop} {A B : List Bxd} (ha : Hv S A) (hb : Hv S B) : A.length = B.length :=
  Nat.le_antisymm (nodup_sub_len ha.1.nodup fun x hx => (hb.2 x).2 ((ha.2 x).1 hx)) (nodup_sub_len hb.1.nodup fun x hx => (ha.2 x).2 ((hb.2 x).1 hx))
/-- The handles, rising. -/
def hdsB (B : List Bxd) : List Hd := srt ltH (B.map (·.1))
theorem Hv.hds {S : Bxd → Prop} {A B : List Bxd} (ha : Hv S A) (hb : Hv S B) : hdsB A = hdsB B := by
  refine srt_eq sto_hd (rise_srt sto_hd _) fun z => ?_
  unfold hdsB
  rw [mem_srt sto_hd, List.mem_map, List.mem_map]
  simp only [ha.2, hb.2]
theorem boxF_Hv {S : Bxd → Prop} {A B : List Bxd} (ha : Hv S A) (hb : Hv S B) (h : Hd) : boxF A h = boxF B h := by
  cases hq : boxF B h with
  | none => exact boxF_none.2 fun b hm => boxF_none.1 hq b ((hb.2 b).2 ((ha.2 b).1 hm))
  | some x => exact boxF_mem ha.1 ((ha.2 _).2 ((hb.2 _).1 (boxF_some hq)))
/-- Two boxes meet. -/
def meets4 (a q : Bx4) : Bool := !(decide (a.2.2.1 < q.1) || (decide (q.2.2.1 < a.1) || (decide (a.2.2.2 < q.2.1) || decide (q.2.2.2 < a.2.1))))
/-- The handles of those that meet a box, rising. -/
def meetL (B : List Bxd) (q : Bx4) : List Hd := srt ltH ((B.filter fun b => meets4 b.2 q).map (·.1))
theorem mem_meetL {B : List Bxd} {q : Bx4} {h : Hd} : h ∈ meetL B q ↔ ∃ b ∈ B, meets4 b.2 q = true ∧ b.1 = h := by
  rw [meetL, mem_srt sto_hd, List.mem_map]
  simp only [List.mem_filter]
  exact ⟨fun ⟨b, h1, h2⟩ => ⟨b, h1.1, h1.2, h2⟩, fun ⟨b, h1, h2, h3⟩ => ⟨b, ⟨h1, h2⟩, h3⟩⟩
theorem meetL_take {B : List Bxd} {k : Nat} (hk : k < B.length) (q : Bx4) : ((B.take (k + 1)).filter fun b => meets4 b.2 q).map (·.1) = ((B.take k).filter fun b => meets4 b.2 q).map (·.1) ++ (if meets4 B[k]!.2 q = true then [B[k]!.1] else []) := by
  rw [List.take_succ_eq_append_getElem hk, List.filter_append, List.map_append, getElem!_pos B k hk]
  congr 1
  by_cases e : meets4 B[k].2 q = true <;> simp [List.filter_cons, e]
end Go.Proofs.YtklpemcchfmdjaaDoor
