/-
  slices.Clone, slices.SortFunc and slices.Compact put together: order.rising at handles, pairs and numbers; order.Handles, order.Ints.
-/
import Derived.Test.YtbodefigeiaodaaDoorShelf
import Derived.Test.YtbodefigeiaodaaDoorAp11
import Derived.Test.YtbodefigeiaodaaDoorCompP
import Derived.Test.YtbodefigeiaodaaDoorFc
namespace Go.Proofs.YtbodefigeiaodaaDoor
set_option linter.unusedSimpArgs false
set_option linter.unusedVariables false
open Go.RowKit Go.Sort Go.Lib Go.Shelf

theorem swo_of_sto {α : Type} {lt : α → α → Bool} (h : STO lt) : SWO lt where
  irrefl := h.irrefl
  trans := h.trans
  ntrans x y z h1 h2 := by
    cases e : lt x z with
    | false => rfl
    | true =>
      cases e2 : lt y x with
      | true => have := h.trans _ _ _ e2 e; rw [h2] at this; cases this
      | false => have := h.total _ _ h1 e2; subst this; rw [h2] at e; cases e

/-- A sorted permutation, of runs of equal ones one each: rising, each once. -/
theorem compact_srt {α : Type} [Inhabited α] [DecidableEq α] {lt : α → α → Bool} (h : STO lt) {l : List α} {d d' : Array α} (hd : d = l.toArray) (hp : PermIn 0 d.size d d') (hs : SortedIn lt 0 d.size d') : compactUpTo d' d'.size = srt lt l := by
  obtain ⟨hsz, _, hperm⟩ := hp
  have e1 : d'.extract 0 d.size = d' := by rw [← hsz]; exact Array.extract_size
  have e2 : d.extract 0 d.size = d := Array.extract_size
  rw [e1, e2, hd] at hperm
  have hmem : ∀ z, z ∈ l ↔ ∃ i, i < d'.size ∧ d'[i]! = z := fun z => by
    have := hperm.mem_iff (a := z)
    simp only [List.toList_toArray] at this
    rw [← this]
    constructor
    · intro hz
      obtain ⟨i, hi, e⟩ := List.getElem_of_mem hz
      have hi' : i < d'.size := by simpa using hi
      exact ⟨i, hi', by rw [getElem!_pos d' i hi']; simpa using e⟩
    · rintro ⟨i, hi, e⟩
      rw [getElem!_pos d' i hi] at e
      rw [← e]
      simp
  have key : ∀ m, m ≤ d'.size → Rise lt (compactUpTo d' m) ∧ ∀ z, z ∈ compactUpTo d' m ↔ ∃ i, i < m ∧ d'[i]! = z := by
    intro m
    induction m with
    | zero => intro _; exact ⟨by simp [compactUpTo, Rise], fun z => by simp [compactUpTo]⟩
    | succ m ih =>
      intro hm
      obtain ⟨ih1, ih2⟩ := ih (by omega)
      rw [compactUpTo_succ]
      cases hk : keeps d' m with
      | true =>
        simp only [if_true]
        refine ⟨List.pairwise_append.2 ⟨ih1, by simp, fun x hx y hy => ?_⟩, fun z => ?_⟩
        · simp only [List.mem_singleton] at hy
          subst hy
          obtain ⟨i, hi, rfl⟩ := (ih2 x).1 hx
          have hnl : lt d'[m]! d'[i]! = false := hs i m (Nat.zero_le _) hi (by omega)
          cases e : lt d'[i]! d'[m]! with
          | true => rfl
          | false =>
            have eq := h.total _ _ e hnl
            have hm0 : ¬ m = 0 := by omega
            have hkeep : d'[m]! ≠ d'[m - 1]! := by
              unfold keeps at hk
              simpa [hm0] using hk
            have hb : lt d'[m]! d'[m - 1]! = false := hs (m - 1) m (Nat.zero_le _) (by omega) (by omega)
            have ha : lt d'[m - 1]! d'[m]! = false := by
              rw [← eq]
              by_cases him : i = m - 1
              · rw [him]; exact h.irrefl _
              · exact hs i (m - 1) (Nat.zero_le _) (by omega) (by omega)
            exact absurd (h.total _ _ hb ha) hkeep
        · rw [List.mem_append, ih2 z]
          simp only [List.mem_singleton]
          constructor
          · rintro (⟨i, hi, e⟩ | e)
            · exact ⟨i, by omega, e⟩
            · exact ⟨m, by omega, e.symm⟩
          · rintro ⟨i, hi, e⟩
            by_cases him : i = m
            · subst him; exact .inr e.symm
            · exact .inl ⟨i, by omega, e⟩
      | false =>
        simp only [Bool.false_eq_true, if_false, List.append_nil]
        refine ⟨ih1, fun z => ?_⟩
        rw [ih2 z]
        have hm0 : m ≠ 0 ∧ d'[m]! = d'[m - 1]! := by
          unfold keeps at hk
          simpa using hk
        constructor
        · rintro ⟨i, hi, e⟩
          exact ⟨i, by omega, e⟩
        · rintro ⟨i, hi, e⟩
          by_cases him : i = m
          · subst him; exact ⟨i - 1, by omega, by rw [← hm0.2]; exact e⟩
          · exact ⟨i, by omega, e⟩
  obtain ⟨k1, k2⟩ := key d'.size (Nat.le_refl _)
  exact (srt_eq h k1 fun z => by rw [k2 z, hmem z]).symm

section
variable {α : Type} [Inhabited α] {enc : α → List Value} {k : Nat}
theorem holds_prefix (hk : ∀ x, (enc x).length = k) {w : World} {b o : Nat} {d : Array α} {L : List α} (h : HoldsK enc k w b o d) (hl : L.length ≤ d.size) (hg : ∀ j, j < L.length → L[j]? = some d[j]!) : HoldsK enc k w b o L.toArray := fun j hj => by
  have hj' : j < L.length * k := by simpa using hj
  have k0 : 0 < k := by
    rcases Nat.eq_zero_or_pos k with e | e
    · subst e; simp at hj'
    · exact e
  have hq : j / k < L.length := Nat.div_lt_of_lt_mul (by rw [Nat.mul_comm]; exact hj')
  have hjd : j < d.size * k := Nat.lt_of_lt_of_le hj' (Nat.mul_le_mul_right k hl)
  have := h j (by simpa using hjd)
  rw [get_flatK _ _ _ j hjd] at this
  rw [get_flatK _ _ _ j (by simpa using hj'), arr_get]
  have e : L[j / k]! = d[j / k]! := by
    have := hg (j / k) hq
    rw [List.getElem?_eq_getElem hq] at this
    rw [getElem!_pos L (j / k) hq]
    exact Option.some.inj this
  rw [e]
  exact this

theorem below_putRow {α : Type} [Inhabited α] {enc : α → Value} {B : Nat} {w : World} {b o : Nat} {d : Array α} (hB : B ≤ b) : RowKit.Below B w (putRow enc w b o d) := by
  refine ⟨rfl, rfl, rfl, ?_, fun j hj => ?_⟩
  · simp [putRow, mapBlock]
  · simp only [putRow, mapBlock, Array.getElem?_modify]
    rw [if_neg (by omega)]
theorem below_sortWorldK {B : Nat} {w : World} {b o n : Nat} {d : Array α} {os : Array Obj} (hB : B ≤ b) (hs : B ≤ w.heap.size) : RowKit.Below B w (sortWorldK enc k w b o n d os) := by
  unfold sortWorldK
  have h1 : RowKit.Below B w (putRowK enc k (Sort.ahead w n) b o d) := by
    have : RowKit.Below B (Sort.ahead w n) (putRowK enc k (Sort.ahead w n) b o d) := below_putRow hB
    exact ⟨this.os, this.tape, this.output, this.size, this.block⟩
  exact ⟨h1.os, h1.tape, h1.output, by rw [size_grow]; exact Nat.le_trans h1.size (Nat.le_add_right _ _), fun j hj => (heap_grow_old _ os (Nat.lt_of_lt_of_le (Nat.lt_of_lt_of_le hj hs) h1.size)).trans (h1.block j hj)⟩
theorem below_sortWorld {α : Type} [Inhabited α] {enc : α → Value} {B : Nat} {w : World} {b o n : Nat} {d : Array α} {os : Array Obj} (hB : B ≤ b) (hs : B ≤ w.heap.size) : RowKit.Below B w (sortWorld enc w b o n d os) := by
  unfold sortWorld
  have h1 : RowKit.Below B w (putRow enc (Sort.ahead w n) b o d) := by
    have : RowKit.Below B (Sort.ahead w n) (putRow enc (Sort.ahead w n) b o d) := below_putRow hB
    exact ⟨this.os, this.tape, this.output, this.size, this.block⟩
  exact ⟨h1.os, h1.tape, h1.output, by rw [size_grow]; exact Nat.le_trans h1.size (Nat.le_add_right _ _), fun j hj => (heap_grow_old _ os (Nat.lt_of_lt_of_le (Nat.lt_of_lt_of_le hj hs) h1.size)).trans (h1.block j hj)⟩
end

set_option maxHeartbeats 1000000 in
set_option maxRecDepth 100000 in
/-- slices.Clone. -/
theorem cloneP_call (l : List Pr) (v : Value) (w : World) (hl : Sl encP w v l) (hlen : l.length ≤ 100000) :
    Calls Tryd.prog 72 #[v] w fun e w' => ∃ v', e = .returned v' ∧ Own w.heap.size encP 4 w' v' l ∧ (w'.ownsRow w.heap.size 68 4 v' l.length (flat encP l)) ∧ RowKit.Below w.heap.size w w' := by
  obtain ⟨p, cap, rfl, h1, h2, h⟩ := hl
  cases p with
  | none =>
    have h0 : l.length = 0 := by
      rcases Nat.eq_zero_or_pos l.length with h0 | h0
      · exact h0
      · obtain ⟨g, o, e, _⟩ := h h0; cases e
    have hl0 : l = [] := List.length_eq_zero_iff.1 h0
    subst hl0
    have q22 : ∀ (w : World) (a : Option Addr) (n c n' c' : Nat), (binOp .eql 50 (.slice a n c) (.slice none n' c')).run Tryd.prog w = .ok (.bool a.isNone) w := fun w a n c n' c' => Lib.run_eql_slice_nil w _ _ a n c n' c' Tryd.underlying50
    go_enter Tryd.func72, Tryd.ntmps72
    go_wp2
    go_ret
    exact ⟨_, rfl, ⟨none, 0, rfl, Nat.le_refl _, Nat.zero_le _, fun h => absurd h (by simp)⟩, World.ownsRow_nil _ _ _ _, (by repeat (first | with_reducible exact Below.refl _ _ | with_reducible assumption | with_reducible apply Ba | with_reducible apply Bd | with_reducible apply Bn | with_reducible apply Bg | (with_reducible refine Bs ?_ (by first | (simp; done) | (simp; omega)) _) | (with_reducible refine Bt ?_ (by assumption)) | (with_reducible refine Bt ?_ (Gr.below (by assumption)))))⟩
  | some ad =>
    have HS := Lib.hid (show Sl encP w (.slice (some ad) l.length cap) l from ⟨_, cap, rfl, h1, h2, h⟩)
    have O1 := Lib.hid (show (w.alloc (.cells #[] 68)).ownsRow w.heap.size 68 4 (.slice (some ⟨w.heap.size, 0, none⟩) 0 0) 0 (flat encP []) from World.ownsRow_made _ #[] 0 (Nat.le_refl _) (Nat.zero_le _) (by simp))
    have A1 := Lib.hid (Ba (Below.refl _ w) (.cells #[] 68))
    have S1 := Lib.hid (HS.out.below A1.out)
    clear h
    have q22 : ∀ (w : World) (a : Option Addr) (n c n' c' : Nat), (binOp .eql 50 (.slice a n c) (.slice none n' c')).run Tryd.prog w = .ok (.bool a.isNone) w := fun w a n c n' c' => Lib.run_eql_slice_nil w _ _ a n c n' c' Tryd.underlying50
    go_enter Tryd.func72, Tryd.ntmps72
    go_wp2_with (at_builtin; refine wpl_app apP rfl _ _ rfl w.heap.size (by rfl) (by rfl) O1.out rfl S1.out (by simp; omega) A1.out.size ?_; intro v1 w1 hown1 hgrow1 hnil1)
    have b1 := grownB A1.out O1.out hgrow1
    go_ret
    have e : [] ++ l = l := List.nil_append l
    rw [e] at hown1
    simp only [List.length_nil, Nat.zero_add] at hown1
    exact ⟨v1, rfl, own_of_row lenP hown1 rfl, hown1, b1⟩

theorem swoH : SWO (ltOf cmpH) := by
  have e : ltOf cmpH = ltH := funext fun x => funext fun y => cmpH_lt x y
  rw [e]
  exact swo_of_sto sto_hd

theorem swoP : SWO (ltOf cmpP) := by
  have e : ltOf cmpP = ltP := funext fun x => funext fun y => cmpP_lt x y
  rw [e]
  exact swo_of_sto sto_pr

set_option maxHeartbeats 1000000 in
set_option maxRecDepth 100000 in
/-- slices.SortFunc. -/
theorem sortP_call (base : Nat) (l : List Pr) (v : Value) (w : World) (hl : Own base encP 4 w v l) (hb : base ≤ w.heap.size) (hlen : l.length ≤ 100000) :
    Calls Tryd.prog 73 #[v, .func (.func 64) #[] #[]] w fun e w' => e = .returned (.tuple #[]) ∧ (∃ d' : Array Pr, PermIn 0 l.toArray.size l.toArray d' ∧ SortedIn ltP 0 l.toArray.size d' ∧ Own base encP 4 w' v d'.toList) ∧ RowKit.Below base w w' := by
  obtain ⟨p, cap, rfl, h1, h2, h⟩ := hl
  by_cases h0 : l.length = 0
  · have hl0 : l = [] := List.length_eq_zero_iff.1 h0
    subst hl0
    have hcon := AnyF.slices_SortFunc_none (P := Tryd.prog) (ρ := Tryd.sortP_ren) { Tryd.sortP with } p cap (.func (.func 64) #[] #[]) w
    refine hcon.mono ?_
    rintro e w' ⟨rfl, rfl⟩
    exact ⟨rfl, ⟨#[], ⟨rfl, fun i _ => rfl, by simp⟩, fun i j _ _ hj => absurd hj (by simp), ⟨p, cap, rfl, h1, h2, fun h => absurd h (by simp)⟩⟩, Below.refl _ _⟩
  · obtain ⟨g, rfl, hbg, hgl, hH⟩ := h (by omega)
    have eg : ∀ args w, (callFunc 64 args).run Tryd.prog w = .ok (.enter 64 args) w := enters_of Tryd.func64 (by kernel_rfl) rfl
    have hcon := AnyQ.slices_SortFunc Tryd.sortP 4 Tryd.isAgg68 Tryd.sizeOf68 encP lenP oneP cmpP swoP 64 #[] g 0 cap l.toArray w eg (fun m os dk _ x y => cmpP_call x.1.1 x.1.2 x.2.1 x.2.2 y.1.1 y.1.2 y.2.1 y.2.2 _) hH hgl (by simp; omega)
    have e2 : ltOf cmpP = ltP := funext fun x => funext fun y => cmpP_lt x y
    rw [e2] at hcon
    refine hcon.mono ?_
    rintro e w' ⟨rfl, d', n, os, hp, hs, rfl⟩
    have hds : d'.size = l.length := by rw [hp.1]; simp
    have hdl : d'.toList.length = l.length := by rw [Array.length_toList, hds]
    refine ⟨rfl, ⟨d', hp, hs, ⟨_, cap, by rw [hdl], by rw [hdl]; exact h1, h2, fun _ => ⟨g, rfl, hbg, ?_, ?_⟩⟩⟩, below_sortWorldK hbg hb⟩
    · exact Nat.lt_of_lt_of_le hgl (size_sortWorldK_c encP 4 w g 0 n d' os)
    · rw [Array.toArray_toList]
      exact holdsK_sortWorldK_c encP 4 w g 0 l.toArray d' n os hH hgl (by rw [hds]; simp)

set_option maxHeartbeats 1000000 in
set_option maxRecDepth 100000 in
/-- order.rising: rising, each once; a copy. -/
theorem risingP_call (l : List Pr) (v : Value) (w : World) (hl : Sl encP w v l) (hlen : l.length ≤ 100000) :
    Calls Tryd.prog 63 #[.func (.func 64) #[] #[], v] w fun e w' => ∃ v', e = .returned v' ∧ Own w.heap.size encP 4 w' v' (srt ltP l) ∧ RowKit.Below w.heap.size w w' := by
  go_enter Tryd.func63, Tryd.ntmps63
  go_wp2_with fail
  refine (cloneP_call l v w hl hlen).mono ?_
  rintro e w1 ⟨v1, rfl, ho1, _, hb1⟩
  have HO1 := Lib.hid ho1
  have HB1 := Lib.hid hb1
  clear ho1 hb1 hl
  go_wp2_with fail
  refine (sortP_call w.heap.size l v1 w1 HO1.out HB1.out.size hlen).mono ?_
  rintro e w2 ⟨rfl, ⟨d', hp, hs, ho2⟩, hb2⟩
  have hds : d'.size = l.length := by rw [hp.1]; simp
  have HSRT := Lib.hid (compact_srt sto_pr rfl hp hs)
  have HB2 := Lib.hid (HB1.out.trans hb2)
  obtain ⟨p, cap, hv1, h1, h2, h⟩ := ho2
  subst hv1
  have hcm : cap ≤ 9223372036854775807 := by unfold maxLen at h2; omega
  by_cases h0 : d'.size = 0
  · have hd0 : d' = #[] := Array.size_eq_zero_iff.1 h0
    subst hd0
    have HS0 := Lib.hid (show srt ltP l = [] by rw [← HSRT.out]; rfl)
    have H2 := Lib.hid h2
    clear hp hs h h1 hb2 h2
    go_wp2_with fail
    refine (show Calls Tryd.prog 74 #[.slice p 0 cap] w2 fun e w' => e = .returned (.slice p 0 cap) ∧ w' = w2 by
      go_enter Tryd.func74, Tryd.ntmps74
      go_wp2
      go_ret
      exact ⟨rfl, rfl⟩).mono ?_
    rintro e w3 ⟨rfl, rfl⟩
    go_wp2
    go_ret
    exact ⟨_, rfl, by rw [HS0.out]; exact ⟨p, cap, rfl, Nat.zero_le _, H2.out, fun h => absurd h (by simp)⟩, HB2.out⟩
  · obtain ⟨g, rfl, hbg, hgl, hH⟩ := h (by rw [Array.length_toList]; omega)
    rw [Array.toArray_toList] at hH
    rw [Array.length_toList] at h1 ⊢
    have hcon := compactP_call w.heap.size g cap d' w2 hH hbg (by omega) h1 hcm
    have HC := Lib.hid hcon
    have H2 := Lib.hid h2
    have HDS := Lib.hid hds
    clear hcon hp hs h hH hb2 h2 hds
    go_wp2_with fail
    refine HC.out.mono ?_
    rintro e w3 ⟨rfl, ⟨d2, hs2, hlow, hH2⟩, hb3⟩
    rw [HSRT.out] at hlow ⊢
    have hle : (srt ltP l).length ≤ d2.size := by have hds := HDS.out; have := srt_len ltP l; omega
    have HH := Lib.hid (holds_prefix lenP hH2 hle hlow)
    have HB3 := Lib.hid (HB2.out.trans hb3)
    have hgl3 : g < w3.heap.size := Nat.lt_of_lt_of_le hgl hb3.size
    clear hlow hH2 hb3
    go_wp2
    go_ret
    exact ⟨_, rfl, ⟨_, cap, rfl, by omega, H2.out, fun _ => ⟨g, rfl, hbg, hgl3, HH.out⟩⟩, HB3.out⟩

end Go.Proofs.YtbodefigeiaodaaDoor
