import Derived.Test.YthgkbmeilolapaaGreatDoorZ21
import Derived.Test.YthgkbmeilolapaaGreatDoorZ13
import Derived.Test.YthgkbmeilolapaaGreatDoorZ14

/-
  slices.Sort at masks, fewer than 50; the keys of a map from masks in order; a store's Masks.
-/
namespace Go.Proofs.YthgkbmeilolapaaGreatDoor
set_option linter.unusedSimpArgs false
set_option linter.unusedVariables false
open Go.RowKit Go.Sort Go.Lib Go.Shelf

set_option maxRecDepth 1000000 in
/-- slices.Sort. -/
theorem sortU_call (blk off cap : Nat) (d : Array Nat) (w : World) (hH : Holds mU w blk off d) (hblk : blk < w.heap.size) (hsz : d.size < 50) :
    Calls Tryz.prog 92 #[slU blk off d.size cap] w fun e w' => e = .returned (.tuple #[]) ∧ At mU w blk off (Sort.sort ltU d) w' := by
  have hk : bitsLen d.size ≤ 62 := (bitsLen_le_iff d.size 62).2 (by omega)
  have hu : IntKind.u64.wrap (d.size : Int) = d.size := by rw [IntKind.wrap_u64]; omega
  have CL := Lib.hid (lenU_call d.size hsz w)
  have CP := Lib.hid (pdqU_call (d.size - 0 + 1) blk off cap 0 d.size (bitsLen d.size) d w (by omega) hH hblk (Nat.zero_le _) (Nat.le_refl _) hsz (by omega) (Or.inl rfl))
  change Hid (Calls _ _ _ _ fun e w' => e = .returned (.tuple #[]) ∧ At mU w blk off (Sort.sort ltU d) w') at CP
  generalize Sort.sort ltU d = ds at *
  generalize bitsLen d.size = k at *
  clear hH
  go_enter Tryz.func92, Tryz.ntmps92
  go_wp2_with fail
  refine CL.out.mono ?_
  rintro e w1 ⟨rfl, rfl⟩
  go_wp2_with fail
  refine CP.out.mono ?_
  rintro e w1 ⟨rfl, hA⟩
  have HA := Lib.hid hA
  clear hA
  go_wp2
  go_end0
  exact ⟨rfl, HA.out⟩

theorem holdsU_of_block {w : World} {g : Nat} {cur : Array Value} {e : TypeId} {ss : List Nat} (hb : w.heap[g]? = some (.cells cur e (0, 0))) (ht : cur.toList.take ss.length = ss.map encU) : Holds mU w g 0 ss.toArray := by
  intro j hj
  have hj' : j < ss.length := by simpa using hj
  refine ⟨?_, by simp [World.frozen?, hb]⟩
  have h1 : (cur.toList.take ss.length)[j]? = (ss.map encU)[j]? := by rw [ht]
  rw [List.getElem?_take_of_lt hj'] at h1
  simp only [World.cell?, hb, Nat.zero_add]
  simp only [Option.isSome_none, Bool.false_eq_true, if_false]
  rw [← Array.getElem?_toList, h1]
  simp [hj', encU, mU]
theorem heap_putU {w : World} {g n : Nat} {os : Array Obj} {cur : Array Value} {e : TypeId} {fr : Nat × Nat} (d : Array Nat) (hb : w.heap[g]? = some (.cells cur e fr)) :
    (Sort.grow (putRow mU (Sort.ahead w n) g 0 d) os).heap[g]? = some (.cells (putCells mU 0 d cur) e fr) := by
  have hg : g < w.heap.size := (Array.getElem?_eq_some_iff.1 hb).1
  rw [heap_grow_old _ _ (by simpa using hg)]
  simp [putRow, mapBlock, Sort.ahead, Array.getElem?_modify, hb, onCells]
theorem below_putU {w : World} {base g n : Nat} {os : Array Obj} (d : Array Nat) (hg : base ≤ g) (hb : base ≤ w.heap.size) : RowKit.Below base w (Sort.grow (putRow mU (Sort.ahead w n) g 0 d) os) := by
  refine ⟨rfl, rfl, rfl, by simp, fun k hk => ?_⟩
  rw [heap_grow_old _ _ (by simp; omega)]
  have : g ≠ k := by omega
  simp [putRow, mapBlock, Sort.ahead, Array.getElem?_modify, this]
theorem take_putU (cur : Array Value) (ts : List Nat) (h : ts.length ≤ cur.size) : (putCells mU 0 ts.toArray cur).toList.take ts.length = ts.map encU := by
  apply List.ext_getElem?
  intro j
  by_cases hj : j < ts.length
  · rw [List.getElem?_take_of_lt hj, Array.getElem?_toList]
    simp [putCells, hj, show j < cur.size by omega, encU, mU]
  · rw [List.getElem?_take_eq_none (by omega), List.getElem?_eq_none (by simp; omega)]
/-- The list sorted. -/
theorem sortU_list (ss : List Nat) : (Sort.sort ltU ss.toArray).toList.Perm ss ∧ (Sort.sort ltU ss.toArray).toList.Pairwise (fun x y => x ≤ y) := by
  obtain ⟨⟨hs, _, hp⟩, ho⟩ := sort_sorts ltU swoU ss.toArray
  generalize Sort.sort ltU ss.toArray = D at *
  have hs' : D.size = ss.length := by simpa using hs
  constructor
  · have e1 : (D.extract 0 ss.toArray.size).toList = D.toList := by
      rw [show ss.toArray.size = D.size by rw [hs]]
      simp
    have e2 : (ss.toArray.extract 0 ss.toArray.size).toList = ss := by simp
    rwa [e1, e2] at hp
  · rw [List.pairwise_iff_getElem]
    intro i j hi hj hij
    have := ho i j (Nat.zero_le _) hij (by simpa [hs'] using hj)
    have hi2 : i < D.size := by simpa using hi
    have hj2 : j < D.size := by simpa using hj
    rw [getElem!_pos D j hj2, getElem!_pos D i hi2] at this
    simpa [ltU] using this
theorem sortRowU {w : World} {base : Nat} {v : Value} {ss : List Nat} (h : w.ownsRow base 69 1 v ss.length (ss.map encU)) (hb : base ≤ w.heap.size) (hl : ss.length < 50) :
    Calls Tryz.prog 92 #[v] w fun e w' => e = .returned (.tuple #[]) ∧ ∃ ts : List Nat, ts.Perm ss ∧ ts.Pairwise (fun x y => x ≤ y) ∧ w'.ownsRow base 69 1 v ss.length (ts.map encU) ∧ RowKit.Below base w w' := by
  rcases h.2 with ⟨rfl, h0⟩ | ⟨g, cap, cur, rfl, hbg, hh, h1, h2, h3, h4⟩
  · have hss : ss = [] := List.length_eq_zero_iff.1 h0
    subst hss
    refine (sort1 none 0 0 (by omega) w).mono fun e w' ⟨he, hw⟩ => ⟨he, [], List.Perm.refl _, List.Pairwise.nil, by subst hw; exact h, by subst hw; exact ⟨rfl, rfl, rfl, Nat.le_refl _, fun _ _ => rfl⟩⟩
  · rw [Nat.mul_one] at h4
    have hH := holdsU_of_block hh h4
    have hC := sortU_call g 0 cap ss.toArray w hH (Array.getElem?_eq_some_iff.1 hh).1 (by simpa using hl)
    rw [show ss.toArray.size = ss.length by simp] at hC
    obtain ⟨p1, p2⟩ := sortU_list ss
    refine hC.mono fun e w' ⟨he, n, os, hw⟩ => ⟨he, _, p1, p2, ?_, ?_⟩
    · subst hw
      have hl2 : (Sort.sort ltU ss.toArray).toList.length = ss.length := p1.length_eq
      refine ⟨by simp [← hl2], .inr ⟨g, cap, _, rfl, hbg, heap_putU _ hh, h1, h2, by simp [putCells, h3], ?_⟩⟩
      rw [Nat.mul_one, ← hl2]
      have := take_putU cur (Sort.sort ltU ss.toArray).toList (by rw [hl2, h3]; omega)
      simpa using this
    · subst hw
      exact below_putU _ hbg hb
set_option maxRecDepth 100000 in
/-- slices.Sorted(maps.Keys(m)). -/
theorem sortedU (Bm b c : Nat) (f : Nat → Option Nat) (hc : c < 50) (w : World) (hBm : Bm < w.heap.size) (hm : w.cell? ⟨Bm, 0, none⟩ = some (.map (some b))) (hmap : MapU w b c f) :
    Calls Tryz.prog 54 #[.func (.func KeysF) #[] #[.pointer (some ⟨Bm, 0, none⟩)]] w fun e W' => ∃ v ss, e = .returned v ∧ KeysOf f ss ∧ ss.Pairwise (· < ·) ∧ W'.ownsRow w.heap.size 69 1 v ss.length (ss.map encU) ∧ RowKit.Below w.heap.size w W' := by
  have H := collect_call Bm b c f (by omega) w hBm hm hmap
  go_enter Tryz.func54, Tryz.ntmps54
  go_wp2_with fail
  refine H.mono ?_
  rintro e w1 ⟨v, ss, rfl, h1, h2, h3, h4⟩
  have HS := Lib.hid (sortRowU h3 h4.size (by omega))
  have H1 := Lib.hid h1
  have H4 := Lib.hid h4
  obtain ⟨p, cap, rfl, _, _, _⟩ := row_val h3
  clear h1 h3 h4 H
  go_wp2_with fail
  refine HS.out.mono ?_
  rintro e w2 ⟨rfl, ts, p1, p2, p3, p4⟩
  have HP := Lib.hid (And.intro p1 (And.intro p2 (And.intro p3 p4)))
  clear p1 p2 p3 p4 HS
  go_wp2
  go_ret
  obtain ⟨p1, p2, p3, p4⟩ := HP.out
  obtain ⟨k1, k2, k3⟩ := H1.out
  refine ⟨_, ts, rfl, ⟨p1.symm.nodup k1, fun q hq => (p1.mem_iff).trans (k2 q hq), fun q hq => k3 q (p1.mem_iff.1 hq)⟩, ?_, by rw [p1.length_eq]; exact p3, H4.out.trans p4⟩
  have hn : ts.Pairwise (· ≠ ·) := p1.symm.nodup k1
  exact (p2.and hn).imp fun {a b} ⟨h1, h2⟩ => by omega
section
variable {w w' : World} {M X : Nat → Prop} {ps bt bp ct cp : Nat} {ft ft' : Nat → Option Nat} {tt : Nat → Option (Nat × List En)} {pl pl' : Hd → Option Plc} {MT : Nat → Nat → Prop} {L : List En} {A : Nat → Addr}
set_option maxRecDepth 100000 in
/-- A store's Masks. -/
theorem smasks_call (h : StoX w M ps bt bp tt pl MT L) : Calls Tryz.prog 23 #[psP ps] w fun e w' => ∃ v, e = .returned v ∧ w'.ownsRow w.heap.size 69 1 v (mskE L).length ((mskE L).map encU) ∧ RowKit.Below w.heap.size w w' := by
  obtain ⟨c0, c1, f0, f1⟩ := two_cells h.mem.head
  have hl := cell_lt c0
  have bb := Ba (Below.refl _ w) (.cells #[.map (some bt)] MapUT)
  have hc := h.good.msk
  have HS := Lib.hid (sortedU w.heap.size bt (nM L) (ftO tt) (by omega) (w.alloc (.cells #[.map (some bt)] MapUT)) (by simp) (by simp) (h.mem.mapT.below bb))
  have HK := Lib.hid (fun (ss : List Nat) (h1 : KeysOf (ftO tt) ss) h2 => keys_msk h.lays h.good h1 h2)
  clear h hc
  generalize mskE L = K at HK ⊢
  go_enter Tryz.func23, Tryz.ntmps23
  go_wp2_with fail
  refine (keys_call bt w).mono ?_
  rintro e w1 ⟨rfl, rfl⟩
  go_wp2_with fail
  refine HS.out.mono ?_
  rintro e w2 ⟨v, ss, rfl, h1, h2, h3, h4⟩
  have e9 := HK.out ss h1 h2
  rw [e9] at h3
  clear e9 h1 h2
  have h5 := row_mono h3 bb.size
  have h6 := Bt bb h4
  obtain ⟨p, cap, rfl, _, _, _⟩ := row_val h3
  clear h3 h4 HS HK c0 c1 f0 f1 hl bb
  go_wp2
  go_ret
  exact ⟨_, rfl, h5, h6⟩
end
section
variable {N : Nat → Prop} {base ps : Nat} {w w' : World} {L L' : List En} {A : Nat → Addr}
theorem masksS (h : StoO N base w ps L) : Calls Tryz.prog 23 #[psP ps] w fun e w' => ∃ v, e = .returned v ∧ w'.ownsRow w.heap.size 69 1 v (mskE L).length ((mskE L).map encU) ∧ RowKit.Below w.heap.size w w' :=
  h.read fun M bt bp tt pl MT hS => smasks_call hS
theorem inS2 (h : StoO N base w ps L) (q : Nat) (hq : q < 18446744073709551616) : Calls Tryz.prog 29 #[psP ps, .int .u64 q] w fun e w' => ∃ v, e = .returned v ∧ Sl encH w' v (inE L q) ∧ RowKit.Below w.heap.size w w' :=
  h.read fun M bt bp tt pl MT hS => sin_call hS q hq
end
end Go.Proofs.YthgkbmeilolapaaGreatDoor

/-
  Entities told by their masks; pure.
-/
namespace Go.Proofs.YthgkbmeilolapaaGreatDoor
set_option linter.unusedSimpArgs false
set_option linter.unusedVariables false
open Go.RowKit Go.Sort Go.Lib Go.Shelf

/-- How many entities stand in the tables of these masks. -/
def sumIn (L : List En) (K : List Nat) : Nat := K.foldr (fun q s => (inE L q).length + s) 0
theorem len_inE_cons (r : En) (L : List En) (q : Nat) : (inE (r :: L) q).length = (inE L q).length + (if q = maskV r.2 then 1 else 0) := by
  unfold inE hds
  by_cases e : maskV r.2 = q
  · simp [List.filter_cons, e]
  · have e' : ¬ q = maskV r.2 := fun c => e c.symm
    simp [List.filter_cons, e, e']
theorem sumIn_app (L : List En) : ∀ A B : List Nat, sumIn L (A ++ B) = sumIn L A + sumIn L B
  | [], B => by simp [sumIn]
  | q :: A, B => by
    have := sumIn_app L A B
    unfold sumIn at *
    simp only [List.cons_append, List.foldr_cons, this]
    omega
def cntN (m : Nat) (K : List Nat) : Nat := K.foldr (fun q s => (if q = m then 1 else 0) + s) 0
theorem cntN_not {m : Nat} : ∀ {K : List Nat}, m ∉ K → cntN m K = 0
  | [], _ => rfl
  | q :: K, h => by
    have h1 : ¬ q = m := fun e => h (by rw [e]; exact List.mem_cons_self ..)
    have := cntN_not (m := m) (K := K) (fun e => h (List.mem_cons_of_mem _ e))
    unfold cntN at *
    simp only [List.foldr_cons, this, if_neg h1]
theorem cntN_one {m : Nat} : ∀ {K : List Nat}, K.Nodup → m ∈ K → cntN m K = 1
  | [], _, h => by cases h
  | q :: K, hn, h => by
    rw [List.nodup_cons] at hn
    by_cases e : q = m
    · subst e
      have := cntN_not hn.1
      unfold cntN at *
      simp only [List.foldr_cons, this, if_pos]
    · have h2 : m ∈ K := by
        rcases List.mem_cons.1 h with c | c
        · exact absurd c.symm e
        · exact c
      have := cntN_one hn.2 h2
      unfold cntN at *
      simp only [List.foldr_cons, this, if_neg e]
theorem sumIn_row (r : En) (L : List En) : ∀ K : List Nat, sumIn (r :: L) K = sumIn L K + cntN (maskV r.2) K
  | [] => rfl
  | q :: K => by
    have := sumIn_row r L K
    show (inE (r :: L) q).length + sumIn (r :: L) K = ((inE L q).length + sumIn L K) + ((if q = maskV r.2 then 1 else 0) + cntN (maskV r.2) K)
    rw [this, len_inE_cons]
    omega
theorem sumIn_nil : ∀ K : List Nat, sumIn [] K = 0
  | [] => rfl
  | q :: K => by
    have := sumIn_nil K
    unfold sumIn at *
    simp only [List.foldr_cons, this]
    rfl
theorem sumIn_all {K : List Nat} (hK : K.Nodup) : ∀ L : List En, (∀ r ∈ L, maskV r.2 ∈ K) → sumIn L K = L.length
  | [], _ => sumIn_nil K
  | r :: L, h => by
    rw [sumIn_row, sumIn_all hK L (fun x hx => h x (List.mem_cons_of_mem _ hx)), cntN_one hK (h r (List.mem_cons_self ..)), List.length_cons]
theorem mskE_all {L : List En} (hG : Good L) : sumIn L (mskE L) = L.length :=
  sumIn_all ((mskE_rise L).imp (fun {a b} h => by omega)) L fun r hr => (mem_mskE _ _).2 ⟨hG.hOk hr, r, hr, rfl⟩
theorem sumIn_step {L : List En} {K : List Nat} {k : Nat} (hk : k < K.length) : sumIn L (K.take (k + 1)) = sumIn L (K.take k) + (inE L K[k]!).length := by
  rw [getElem!_pos K k hk, List.take_add_one, List.getElem?_eq_getElem hk, sumIn_app]
  rfl
theorem sumIn_le {L : List En} (hG : Good L) (k : Nat) : sumIn L ((mskE L).take k) ≤ L.length := by
  have h1 := mskE_all hG
  rw [← List.take_append_drop k (mskE L), sumIn_app] at h1
  omega
theorem mskE_pos {L : List En} {k : Nat} (hk : k < (mskE L).length) : 0 < (inE L (mskE L)[k]!).length ∧ (mskE L)[k]! < 1024 := by
  have hm : ∀ K : List Nat, k < K.length → K[k]! ∈ K := fun K h => by rw [getElem!_pos K k h]; exact List.getElem_mem _
  replace hm := hm (mskE L) hk
  obtain ⟨h1, ⟨a, r⟩, h2, h3⟩ := (mem_mskE _ _).1 hm
  exact ⟨List.length_pos_of_mem ((mem_inE _ _ _).2 ⟨_, h2, h3⟩), h1⟩
theorem srt_inE {L : List En} (hL : RiseE L) (q : Nat) : srt ltH (inE L q) = inE L q := srt_eq sto_hd (rise_inE hL q) fun z => Iff.rfl
theorem upto_in {l : List Rr} {k : Nat} {L : List En} (h : Upto l k L) {q : Nat} {x : Hd} (hx : x ∈ inE L q) : ∃ i : Nat, i < k ∧ x = ((i : Int), 1) ∧ maskV l[i]!.2 = q := by
  obtain ⟨row, h1, h2⟩ := (mem_inE _ _ _).1 hx
  obtain ⟨i, hi, e⟩ := h.only _ h1
  dsimp only at e
  subst e
  have h3 := h.row i hi
  rw [(fndE_some h.good.rise).2 h1] at h3
  exact ⟨i, hi, rfl, by rw [← Option.some.inj h3]; exact h2⟩
end Go.Proofs.YthgkbmeilolapaaGreatDoor

/-
  Entities put whose masks are of 40 kinds: just 32 tables, just 128 entities; pure.
-/
namespace Go.Proofs.YthgkbmeilolapaaGreatDoor
set_option linter.unusedSimpArgs false
set_option linter.unusedVariables false
open Go.RowKit Go.Sort Go.Lib Go.Shelf

def kdL : List Int := [0, 2, 3, 6, 7, 8]
/-- The row of number j, of its first k bits. -/
def limR (j k : Nat) : List Vl := ((List.range k).filter fun b => j.testBit b).map fun b => (kdL[b]!, 0, 0)
theorem limR_step (j k : Nat) : limR j (k + 1) = if j.testBit k = true then limR j k ++ [(kdL[k]!, 0, 0)] else limR j k := by
  unfold limR
  rw [List.range_succ, List.filter_append, List.map_append]
  by_cases e : j.testBit k = true
  · rw [if_pos e]; simp [List.filter_cons, e]
  · rw [if_neg e]; simp [List.filter_cons, e]
theorem limR_len (j k : Nat) : (limR j k).length ≤ k := by
  unfold limR
  rw [List.length_map]
  exact Nat.le_trans (List.length_filter_le _ _) (by simp)
theorem limR_right : ∀ j, j < 40 → rightB (limR j 6) = true := by decide +kernel
theorem limR_inj : ∀ i, i < 40 → ∀ j, j < 40 → maskV (limR i 6) = maskV (limR j 6) → i = j := by decide +kernel
structure Lim (i : Nat) (L : List En) : Prop where
  good : Good L
  len : L.length = min 128 (32 * (i / 40) + min (i % 40) 32)
  row : ∀ r ∈ L, ∃ j : Nat, j < i ∧ r.1 = ((j : Int), 1)
  msk : ∀ q, hasM L q = true ↔ ∃ j, j < 32 ∧ j < i ∧ q = maskV (limR j 6)
  num : nM L = min i 32
theorem lim_zero : Lim 0 [] where
  good := good_nil
  len := by decide
  row r h := by cases h
  msk q := by simp [hasM]
  num := by rw [nM_nil]; rfl
theorem lim_hd (k : Nat) (h : k ≤ 200) : HdOk ((k : Int), 1) := ⟨WalkArith.wf_i64 (by omega), (show (Lit.int .i64 1).wf = true by decide)⟩
theorem lim_step {i : Nat} {L : List En} (h : Lim i L) (hi : i < 200) :
    (¬ (128 ≤ L.length ∨ 32 ≤ i % 40) → putEN L ((i : Int), 1) (limR (i % 40) 6) = 0 ∧ (fndE (putEL L ((i : Int), 1) (limR (i % 40) 6)) ((i : Int), 1)).isSome = true ∧ (putEL L ((i : Int), 1) (limR (i % 40) 6)).length = L.length + 1) ∧
    ((128 ≤ L.length ∨ 32 ≤ i % 40) → putEN L ((i : Int), 1) (limR (i % 40) 6) = 2 ∧ (fndE (putEL L ((i : Int), 1) (limR (i % 40) 6)) ((i : Int), 1)).isSome = false ∧ (putEL L ((i : Int), 1) (limR (i % 40) 6)).length = L.length) ∧
    Lim (i + 1) (putEL L ((i : Int), 1) (limR (i % 40) 6)) := by
  have hn : ((i : Int), 1) ∉ hds L := fun e => by
    obtain ⟨r, hr1, hr2⟩ := List.mem_map.1 e
    obtain ⟨j, hj, e2⟩ := h.row r hr1
    rw [e2] at hr2
    have := (Prod.mk.inj hr2).1
    omega
  have hf : fndE L ((i : Int), 1) = none := fndE_none.2 fun r hr1 e => hn (List.mem_map.2 ⟨r, hr1, e⟩)
  have h40 : i % 40 < 40 := Nat.mod_lt _ (by decide)
  have hr := limR_right _ h40
  have hR : RightV (limR (i % 40) 6) := (rightB_iff _).1 hr
  have hml := mask_lt hR
  have hnm := nM_insE L (((i : Int), 1), limR (i % 40) 6) hml
  dsimp only at hnm
  have hlen := h.len
  have hnum := h.num
  have hhas : hasM L (maskV (limR (i % 40) 6)) = true ↔ i % 40 < 32 ∧ i % 40 < i := by
    rw [h.msk]
    constructor
    · rintro ⟨j, h1, h2, h3⟩
      have := limR_inj _ h40 j (by omega) h3
      omega
    · rintro ⟨h1, h2⟩
      exact ⟨_, h1, h2, rfl⟩
  have hp : putEN L ((i : Int), 1) (limR (i % 40) 6) = if L.length < 128 ∧ nM (insE L (((i : Int), 1), limR (i % 40) 6)) ≤ 32 then 0 else 2 := by
    unfold putEN
    rw [hf, if_neg (by simp), if_pos hr]
  by_cases hfull : 128 ≤ L.length ∨ 32 ≤ i % 40
  · have hno : ¬ (L.length < 128 ∧ nM (insE L (((i : Int), 1), limR (i % 40) 6)) ≤ 32) := by
      rintro ⟨c1, c2⟩
      have h32 : 32 ≤ i % 40 := by omega
      rw [hnm, if_neg (fun e => by have := (hhas.1 e).1; omega)] at c2
      omega
    rw [if_neg hno] at hp
    have hpl : putEL L ((i : Int), 1) (limR (i % 40) 6) = L := by unfold putEL; rw [hp, if_neg (by decide)]
    rw [hpl]
    refine ⟨fun c => absurd hfull c, fun _ => ⟨hp, by rw [hf]; rfl, rfl⟩, ⟨h.good, by omega, fun r hr => ?_, fun q => ?_, by omega⟩⟩
    · obtain ⟨j, h1, h2⟩ := h.row r hr
      exact ⟨j, by omega, h2⟩
    · rw [h.msk]
      exact ⟨fun ⟨j, h1, h2, h3⟩ => ⟨j, h1, by omega, h3⟩, fun ⟨j, h1, h2, h3⟩ => ⟨j, h1, by omega, h3⟩⟩
  · have h1 : L.length < 128 := by omega
    have h2 : i % 40 < 32 := by omega
    have hm : nM (insE L (((i : Int), 1), limR (i % 40) 6)) = min (i + 1) 32 := by
      rw [hnm, hnum]
      by_cases e : i % 40 < i
      · rw [if_pos (hhas.2 ⟨h2, e⟩)]; omega
      · rw [if_neg (fun c => e (hhas.1 c).2)]; omega
    rw [if_pos ⟨h1, by omega⟩] at hp
    have hpl : putEL L ((i : Int), 1) (limR (i % 40) 6) = insE L (((i : Int), 1), limR (i % 40) 6) := by unfold putEL; rw [if_pos hp]
    rw [hpl]
    refine ⟨fun _ => ⟨hp, by rw [fndE_insE h.good.rise hn, if_pos rfl]; rfl, len_insE _ _⟩, fun c => absurd c hfull, ⟨h.good.ins (lim_hd i (by omega)) hR hn h1 (by omega), by rw [len_insE]; omega, fun r hr => ?_, fun q => ?_, hm⟩⟩
    · rcases (mem_insE _ _ _).1 hr with rfl | hr
      · exact ⟨i, by omega, rfl⟩
      · obtain ⟨j, h1, h2⟩ := h.row r hr
        exact ⟨j, by omega, h2⟩
    · rw [hasM_insE, Bool.or_eq_true, decide_eq_true_eq, h.msk]
      constructor
      · rintro (⟨j, h1, h2, h3⟩ | e)
        · exact ⟨j, h1, by omega, h3⟩
        · exact ⟨i % 40, h2, by omega, e⟩
      · rintro ⟨j, h1', h2', h3'⟩
        by_cases e : j < i
        · exact .inl ⟨j, h1', e, h3'⟩
        · have : j = i := by omega
          subst this
          exact .inr (by rw [h3', Nat.mod_eq_of_lt (by omega)])
/-- A bit of a small number. -/
theorem bit_at : ∀ j, j < 40 → ∀ k, k < 6 → bits .and .i64 (((j >>> k : Nat)) : Int) 1 = if j.testBit k = true then 1 else 0 := by decide +kernel
end Go.Proofs.YthgkbmeilolapaaGreatDoor
