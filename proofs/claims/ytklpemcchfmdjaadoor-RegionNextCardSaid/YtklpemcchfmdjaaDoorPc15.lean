/-
  Of no program: labels by flooding: from each tile without a label, in order, its number goes to all that hang together with it.
-/
import Derived.Test.YtklpemcchfmdjaaDoorPb15
namespace Go.Proofs.YtklpemcchfmdjaaDoor
set_option linter.unusedSimpArgs false
set_option linter.unusedVariables false

section
variable {G : Ground} {L L0 : List Int} {S ks : List Nat} {t x k : Nat}
/-- The labels below T are given; all others are None. -/
structure Flood (G : Ground) (L : List Int) (T : Nat) : Prop where
  len : L.length = G.n
  yes : ∀ x, G.fr x → G.lab x < T → L[x]! = (G.lab x : Int)
  no : ∀ x, x < G.n → ¬ (G.bl x = false ∧ G.lab x < T) → L[x]! = -1
theorem Flood.start (hl : L.length = G.n) (h : ∀ x, x < G.n → L[x]! = -1) : Flood G L 0 := ⟨hl, fun x _ h2 => absurd h2 (Nat.not_lt_zero _), fun x hx _ => h x hx⟩
theorem Flood.skip (h : Flood G L t) (hc : G.bl t = true ∨ L[t]! ≠ -1) (ht : t < G.n) : Flood G L (t + 1) := by
  have key : ∀ x, G.fr x → G.lab x ≠ t := fun x hx e => by
    have hh := lab_hang hx
    rw [e] at hh
    have hf := hh.right
    rcases hc with hc | hc
    · rw [hf.2] at hc; cases hc
    · refine hc (h.no t ht fun q => ?_)
      have := lab_eq hh
      omega
  exact ⟨h.len, fun x hx hlt => h.yes x hx (by have := key x hx; omega), fun x hx hn => h.no x hx fun q => hn ⟨q.1, by omega⟩⟩
theorem Flood.shut (h : Flood G L G.n) : L = G.labs := by
  refine List.ext_getElem (by rw [h.len, labs_len]) fun t h1 h2 => ?_
  have ht : t < G.n := by rw [← h.len]; exact h1
  rw [← getElem!_pos L t h1, ← getElem!_pos _ t h2, labs_get ht]
  cases hb : G.bl t
  · have hf : G.fr t := ⟨ht, hb⟩
    have := lab_self hf
    rw [labI_free hf]
    exact h.yes t hf (by omega)
  · rw [h.no t ht (fun q => by rw [hb] at q; cases q.1)]
    unfold Ground.labI
    rw [hb]
    rfl
/-- A tile without a label is its own region's least. -/
theorem Flood.root (h : Flood G L t) (hf : G.fr t) (hL : L[t]! = -1) : G.lab t = t := by
  have := lab_self hf
  rcases Nat.lt_or_ge (G.lab t) t with hq | hq
  · have := h.yes t hf hq
    omega
  · omega
/-- A spread from t, between two rounds: the stack S. -/
structure SpH (G : Ground) (L0 L : List Int) (t : Nat) (S : List Nat) : Prop where
  len : L.length = G.n
  base : ∀ x, x < G.n → L[x]! = L0[x]! ∨ (L0[x]! = -1 ∧ L[x]! = (t : Int) ∧ G.fr x ∧ G.lab x = t)
  root : L[t]! = (t : Int)
  stk : ∀ s, s ∈ S → G.fr s ∧ G.lab s = t ∧ L[s]! = (t : Int)
  shut : ∀ x, G.fr x → L[x]! = (t : Int) → x ∉ S → ∀ k, k ∈ G.nx x → G.fr k → L[k]! ≠ -1
  few : S.length + cntL L (-1) ≤ G.n
/-- In the midst of a spread from t: the stack S; of the tile y the next ones in ks have been asked. -/
structure Spread (G : Ground) (L0 L : List Int) (t : Nat) (S : List Nat) (y : Nat) (ks : List Nat) : Prop where
  len : L.length = G.n
  base : ∀ x, x < G.n → L[x]! = L0[x]! ∨ (L0[x]! = -1 ∧ L[x]! = (t : Int) ∧ G.fr x ∧ G.lab x = t)
  root : L[t]! = (t : Int)
  stk : ∀ s, s ∈ S → G.fr s ∧ G.lab s = t ∧ L[s]! = (t : Int)
  shut : ∀ x, G.fr x → L[x]! = (t : Int) → x ∉ S → x ≠ y → ∀ k, k ∈ G.nx x → G.fr k → L[k]! ≠ -1
  seen : ∀ k, k ∈ ks → G.fr k → L[k]! ≠ -1
  few : S.length + cntL L (-1) ≤ G.n
theorem cntL_set {L : List Int} {x y : Int} {k : Nat} (hk : k < L.length) (h0 : L[k]! = x) (hxy : y ≠ x) : cntL (L.set k y) x + 1 = cntL L x := by
  induction L generalizing k with
  | nil => simp at hk
  | cons a r ih =>
    cases k with
    | zero =>
      rw [getElem!_pos (a :: r) 0 hk, List.getElem_cons_zero] at h0
      subst h0
      unfold cntL
      rw [List.set_cons_zero, List.filter_cons, List.filter_cons, if_neg (by simpa using hxy), if_pos (by simp), List.length_cons]
    | succ k =>
      have hk' : k < r.length := by simpa using hk
      have := ih hk' (by rw [getElem!_pos (a :: r) (k + 1) hk, List.getElem_cons_succ] at h0; rw [getElem!_pos r k hk']; exact h0)
      unfold cntL at this ⊢
      rw [List.set_cons_succ, List.filter_cons, List.filter_cons]
      by_cases e : decide (a = x) = true
      · rw [if_pos e, if_pos e, List.length_cons, List.length_cons]; omega
      · rw [if_neg e, if_neg e]; exact this
theorem SpH.start (h : Flood G L0 t) (hf : G.fr t) (hL : L0[t]! = -1) : SpH G L0 (L0.set t (t : Int)) t [t] := by
  have htl : t < L0.length := by rw [h.len]; exact hf.1
  have hr := h.root hf hL
  have e := fun j (hj : j < G.n) => set_at htl (t : Int) j (by rw [h.len]; exact hj)
  have ne : ∀ x, G.fr x → L0[x]! ≠ (t : Int) := fun x hx q => by
    by_cases c : G.bl x = false ∧ G.lab x < t
    · have := h.yes x hx c.2
      omega
    · have := h.no x hx.1 c
      omega
  have hc := cntL_set (L := L0) (x := -1) (y := (t : Int)) htl hL (by omega)
  have hcl : cntL L0 (-1) ≤ L0.length := by unfold cntL; exact List.length_filter_le _ _
  refine ⟨by rw [List.length_set, h.len], fun x hx => ?_, ?_, fun s hs => ?_, fun x hx hxt hS => ?_, ?_⟩
  · rw [e x hx]
    by_cases c : x = t
    · subst c
      rw [if_pos rfl]
      exact .inr ⟨hL, rfl, hf, hr⟩
    · rw [if_neg c]; exact .inl rfl
  · rw [e t hf.1, if_pos rfl]
  · obtain rfl : s = t := by simpa using hs
    refine ⟨hf, hr, ?_⟩
    rw [e s hf.1, if_pos rfl]
  · have c : x ≠ t := fun c => hS (by simp [c])
    rw [e x hx.1, if_neg c] at hxt
    exact absurd hxt (ne x hx)
  · rw [h.len] at hcl
    simp only [List.length_cons, List.length_nil]
    omega
/-- A tile is taken off the stack. -/
theorem SpH.pop (h : SpH G L0 L t (S ++ [x])) : Spread G L0 L t S x [] := by
  refine ⟨h.len, h.base, h.root, fun s hs => h.stk s (List.mem_append_left _ hs), fun u hu hut hS hne k hk hfk => h.shut u hu hut (by simp [hS, hne]) k hk hfk, fun k hk => by simp at hk, ?_⟩
  have := h.few
  simp at this
  omega
theorem Spread.close {y : Nat} (h : Spread G L0 L t S y (G.nx y)) : SpH G L0 L t S :=
  ⟨h.len, h.base, h.root, h.stk, fun u hu hut hS k hk hfk => by
    by_cases c : u = y
    · subst c; exact h.seen k hk hfk
    · exact h.shut u hu hut hS c k hk hfk, h.few⟩
/-- One next to it is left as it is. -/
theorem Spread.keep {y : Nat} (h : Spread G L0 L t S y ks) (hc : G.fr k → L[k]! ≠ -1) : Spread G L0 L t S y (ks ++ [k]) :=
  ⟨h.len, h.base, h.root, h.stk, h.shut, fun u hu hf => by
    rcases List.mem_append.1 hu with hq | hq
    · exact h.seen u hq hf
    · obtain rfl : u = k := by simpa using hq
      exact hc hf, h.few⟩
/-- One next to it gets the label. -/
theorem Spread.turn {y : Nat} (h : Spread G L0 L t S y ks) (hy : G.fr y) (hyt : G.lab y = t) (hk : k ∈ G.nx y) (hf : G.fr k) (hL : L[k]! = -1) : Spread G L0 (L.set k (t : Int)) t (S ++ [k]) y (ks ++ [k]) := by
  have hkl : k < L.length := by rw [h.len]; exact hf.1
  have e := fun j (hj : j < G.n) => set_at hkl (t : Int) j (by rw [h.len]; exact hj)
  have hkt : G.lab k = t := by rw [← hyt]; exact (lab_eq (Hang.edge hy hf hk)).symm
  have ne : ∀ j, j < G.n → L[j]! ≠ -1 → (L.set k (t : Int))[j]! ≠ -1 := fun j hj q => by
    rw [e j hj]
    by_cases c : j = k
    · rw [if_pos c]; omega
    · rw [if_neg c]; exact q
  have yes : ∀ j, j < G.n → L[j]! = (t : Int) → (L.set k (t : Int))[j]! = (t : Int) := fun j hj q => by
    rw [e j hj]
    by_cases c : j = k
    · rw [if_pos c]
    · rw [if_neg c]; exact q
  have ht : t < G.n := by have := (lab_hang hf).right.1; rw [hkt] at this; exact this
  refine ⟨by rw [List.length_set, h.len], fun x hx => ?_, yes t ht h.root, fun s hs => ?_, fun x hx hxt hS hne q hq hfq => ?_, fun u hu hfu => ?_, ?_⟩
  · rw [e x hx]
    by_cases c : x = k
    · subst c
      rw [if_pos rfl]
      rcases h.base x hx with q | q
      · rw [hL] at q
        exact .inr ⟨q.symm, rfl, hf, hkt⟩
      · omega
    · rw [if_neg c]; exact h.base x hx
  · rcases List.mem_append.1 hs with hq | hq
    · obtain ⟨a, b, c⟩ := h.stk s hq
      exact ⟨a, b, yes s a.1 c⟩
    · obtain rfl : s = k := by simpa using hq
      exact ⟨hf, hkt, by rw [e s hf.1, if_pos rfl]⟩
  · have c : x ≠ k := fun c => hS (by simp [c])
    rw [e x hx.1, if_neg c] at hxt
    exact ne q hfq.1 (h.shut x hx hxt (fun q => hS (by simp [q])) hne q hq hfq)
  · rcases List.mem_append.1 hu with hq | hq
    · exact ne u hfu.1 (h.seen u hq hfu)
    · obtain rfl : u = k := by simpa using hq
      rw [e u hf.1, if_pos rfl]
      omega
  · have := cntL_set (x := -1) (y := (t : Int)) hkl hL (by omega)
    have := h.few
    simp
    omega
/-- The stack is empty: the region has its label. -/
theorem SpH.done (h : SpH G L0 L t []) (h0 : Flood G L0 t) (hf : G.fr t) (hL : L0[t]! = -1) : Flood G L (t + 1) := by
  have hr := h0.root hf hL
  have cl : ∀ x u, Hang G x u → G.lab x = t → L[x]! = (t : Int) → L[u]! = (t : Int) := by
    intro x u hh
    induction hh with
    | one _ => exact fun _ q => q
    | @step x k u a b c ih =>
      intro hx hxt
      have hk := c.left
      have hkt : G.lab k = t := by rw [← hx]; exact (lab_eq (Hang.edge a hk b)).symm
      have hne : L[k]! ≠ -1 := h.shut x a hxt (by simp) k b hk
      refine ih hkt ?_
      rcases h.base k hk.1 with q | q
      · have := h0.no k hk.1 (by omega)
        omega
      · exact q.2.1
  refine ⟨h.len, fun x hx hlt => ?_, fun x hx hn => ?_⟩
  · by_cases c : G.lab x = t
    · have hh : Hang G t x := by have := (lab_hang hx).symm; rw [c] at this; exact this
      rw [c]
      exact cl t x hh hr h.root
    · rcases h.base x hx.1 with q | q
      · rw [q]; exact h0.yes x hx (by omega)
      · exact absurd q.2.2.2 c
  · rcases h.base x hx with q | q
    · rw [q]; exact h0.no x hx fun z => hn ⟨z.1, by omega⟩
    · exact absurd ⟨q.2.2.1.2, by omega⟩ hn
end
/-- All tiles free: one region, whose least tile is 0. -/
theorem all_free {W H : Nat} (hW : 0 < W) (bl : Nat → Bool) (hb : ∀ t, t < H * W → bl t = false) : ∀ t, t < H * W → Hang (gridG W H hW bl) t 0 := by
  intro t
  induction t using Nat.strongRecOn with
  | ind t ih =>
    intro ht
    have hf : ∀ u, u < H * W → (gridG W H hW bl).fr u := fun u hu => ⟨hu, hb u hu⟩
    rcases Nat.eq_zero_or_pos t with e | e
    · subst e; exact .one (hf 0 ht)
    · by_cases c : W ≤ t
      · exact .step (hf t ht) (mem_next.2 (.inr (.inr (.inl ⟨c, rfl⟩)))) (ih (t - W) (by omega) (by omega))
      · have hm : t % W = t := Nat.mod_eq_of_lt (by omega)
        exact .step (hf t ht) (mem_next.2 (.inl ⟨by omega, rfl⟩)) (ih (t - 1) (by omega) (by omega))
theorem labs_free {W H : Nat} (hW : 0 < W) (bl : Nat → Bool) (hb : ∀ t, t < H * W → bl t = false) : (gridG W H hW bl).labs = List.replicate (H * W) 0 := by
  refine List.ext_getElem (by rw [labs_len]; simp; rfl) fun t h1 h2 => ?_
  have ht : t < (gridG W H hW bl).n := by rw [labs_len] at h1; exact h1
  rw [← getElem!_pos _ t h1, labs_get ht, labI_free ⟨ht, hb t ht⟩]
  have := lab_le (all_free hW bl hb t ht)
  simp
  omega
end Go.Proofs.YtklpemcchfmdjaaDoor
