import Derived.Test.YtaehendpdfpibaaGreatDoorZ21
import Derived.Test.YtaehendpdfpibaaGreatDoorZ13
import Derived.Test.YtaehendpdfpibaaGreatDoorZ14

/-
  slices.Sort at masks, fewer than 50; the keys of a map from masks in order; a store's Masks.
-/
namespace Go.Proofs.YtaehendpdfpibaaGreatDoor
set_option linter.unusedSimpArgs false
set_option linter.unusedVariables false
open Go.RowKit Go.Sort Go.Lib Go.Shelf

set_option maxRecDepth 1000000 in
/-- slices.Sort. -/
theorem sortU_call (blk off cap : Nat) (d : Array Nat) (w : World) (hH : Holds mU w blk off d) (hblk : blk < w.heap.size) (hsz : d.size < 50) :
    Calls Tryz.prog 126 #[slU blk off d.size cap] w fun e w' => e = .returned (.tuple #[]) ∧ At mU w blk off (Sort.sort ltU d) w' := by
  have hk : bitsLen d.size ≤ 62 := (bitsLen_le_iff d.size 62).2 (by omega)
  have hu : IntKind.u64.wrap (d.size : Int) = d.size := by rw [IntKind.wrap_u64]; omega
  have CL := Lib.hid (lenU_call d.size hsz w)
  have CP := Lib.hid (pdqU_call (d.size - 0 + 1) blk off cap 0 d.size (bitsLen d.size) d w (by omega) hH hblk (Nat.zero_le _) (Nat.le_refl _) hsz (by omega) (Or.inl rfl))
  change Hid (Calls _ _ _ _ fun e w' => e = .returned (.tuple #[]) ∧ At mU w blk off (Sort.sort ltU d) w') at CP
  generalize Sort.sort ltU d = ds at *
  generalize bitsLen d.size = k at *
  clear hH
  go_enter Tryz.func126, Tryz.ntmps126
  go_wp2_with fail
  refine CL.out.mono ?_
  rintro e w1 ⟨rfl, rfl⟩
  go_wp2_with fail
  refine CP.out.mono ?_
  rintro e w1 ⟨rfl, hA⟩
  have HA := Lib.hid hA
  clear hA
  go_wp2
  go_end0
  exact ⟨rfl, HA.out⟩

theorem holdsU_of_block {w : World} {g : Nat} {cur : Array Value} {e : TypeId} {ss : List Nat} (hb : w.heap[g]? = some (.cells cur e (0, 0))) (ht : cur.toList.take ss.length = ss.map encU) : Holds mU w g 0 ss.toArray := by
  intro j hj
  have hj' : j < ss.length := by simpa using hj
  refine ⟨?_, by simp [World.frozen?, hb]⟩
  have h1 : (cur.toList.take ss.length)[j]? = (ss.map encU)[j]? := by rw [ht]
  rw [List.getElem?_take_of_lt hj'] at h1
  simp only [World.cell?, hb, Nat.zero_add]
  simp only [Option.isSome_none, Bool.false_eq_true, if_false]
  rw [← Array.getElem?_toList, h1]
  simp [hj', encU, mU]
theorem heap_putU {w : World} {g n : Nat} {os : Array Obj} {cur : Array Value} {e : TypeId} {fr : Nat × Nat} (d : Array Nat) (hb : w.heap[g]? = some (.cells cur e fr)) :
    (Sort.grow (putRow mU (Sort.ahead w n) g 0 d) os).heap[g]? = some (.cells (putCells mU 0 d cur) e fr) := by
  have hg : g < w.heap.size := (Array.getElem?_eq_some_iff.1 hb).1
  rw [heap_grow_old _ _ (by simpa using hg)]
  simp [putRow, mapBlock, Sort.ahead, Array.getElem?_modify, hb, onCells]
theorem below_putU {w : World} {base g n : Nat} {os : Array Obj} (d : Array Nat) (hg : base ≤ g) (hb : base ≤ w.heap.size) : RowKit.Below base w (Sort.grow (putRow mU (Sort.ahead w n) g 0 d) os) := by
  refine ⟨rfl, rfl, rfl, by simp, fun k hk => ?_⟩
  rw [heap_grow_old _ _ (by simp; omega)]
  have : g ≠ k := by omega
  simp [putRow, mapBlock, Sort.ahead, Array.getElem?_modify, this]
theorem take_putU (cur : Array Value) (ts : List Nat) (h : ts.length ≤ cur.size) : (putCells mU 0 ts.toArray cur).toList.take ts.length = ts.map encU := by
  apply List.ext_getElem?
  intro j
  by_cases hj : j < ts.length
  · rw [List.getElem?_take_of_lt hj, Array.getElem?_toList]
    simp [putCells, hj, show j < cur.size by omega, encU, mU]
  · rw [List.getElem?_take_eq_none (by omega), List.getElem?_eq_none (by simp; omega)]
/-- The list sorted. -/
theorem sortU_list (ss : List Nat) : (Sort.sort ltU ss.toArray).toList.Perm ss ∧ (Sort.sort ltU ss.toArray).toList.Pairwise (fun x y => x ≤ y) := by
  obtain ⟨⟨hs, _, hp⟩, ho⟩ := sort_sorts ltU swoU ss.toArray
  generalize Sort.sort ltU ss.toArray = D at *
  have hs' : D.size = ss.length := by simpa using hs
  constructor
  · have e1 : (D.extract 0 ss.toArray.size).toList = D.toList := by
      rw [show ss.toArray.size = D.size by rw [hs]]
      simp
    have e2 : (ss.toArray.extract 0 ss.toArray.size).toList = ss := by simp
    rwa [e1, e2] at hp
  · rw [List.pairwise_iff_getElem]
    intro i j hi hj hij
    have := ho i j (Nat.zero_le _) hij (by simpa [hs'] using hj)
    have hi2 : i < D.size := by simpa using hi
    have hj2 : j < D.size := by simpa using hj
    rw [getElem!_pos D j hj2, getElem!_pos D i hi2] at this
    simpa [ltU] using this
theorem sortRowU {w : World} {base : Nat} {v : Value} {ss : List Nat} (h : w.ownsRow base 60 1 v ss.length (ss.map encU)) (hb : base ≤ w.heap.size) (hl : ss.length < 50) :
    Calls Tryz.prog 126 #[v] w fun e w' => e = .returned (.tuple #[]) ∧ ∃ ts : List Nat, ts.Perm ss ∧ ts.Pairwise (fun x y => x ≤ y) ∧ w'.ownsRow base 60 1 v ss.length (ts.map encU) ∧ RowKit.Below base w w' := by
  rcases h.2 with ⟨rfl, h0⟩ | ⟨g, cap, cur, rfl, hbg, hh, h1, h2, h3, h4⟩
  · have hss : ss = [] := List.length_eq_zero_iff.1 h0
    subst hss
    refine (sort1 none 0 0 (by omega) w).mono fun e w' ⟨he, hw⟩ => ⟨he, [], List.Perm.refl _, List.Pairwise.nil, by subst hw; exact h, by subst hw; exact ⟨rfl, rfl, rfl, Nat.le_refl _, fun _ _ => rfl⟩⟩
  · rw [Nat.mul_one] at h4
    have hH := holdsU_of_block hh h4
    have hC := sortU_call g 0 cap ss.toArray w hH (Array.getElem?_eq_some_iff.1 hh).1 (by simpa using hl)
    rw [show ss.toArray.size = ss.length by simp] at hC
    obtain ⟨p1, p2⟩ := sortU_list ss
    refine hC.mono fun e w' ⟨he, n, os, hw⟩ => ⟨he, _, p1, p2, ?_, ?_⟩
    · subst hw
      have hl2 : (Sort.sort ltU ss.toArray).toList.length = ss.length := p1.length_eq
      refine ⟨by simp [← hl2], .inr ⟨g, cap, _, rfl, hbg, heap_putU _ hh, h1, h2, by simp [putCells, h3], ?_⟩⟩
      rw [Nat.mul_one, ← hl2]
      have := take_putU cur (Sort.sort ltU ss.toArray).toList (by rw [hl2, h3]; omega)
      simpa using this
    · subst hw
      exact below_putU _ hbg hb
set_option maxRecDepth 100000 in
/-- slices.Sorted(maps.Keys(m)). -/
theorem sortedU (Bm b c : Nat) (f : Nat → Option Nat) (hc : c < 50) (w : World) (hBm : Bm < w.heap.size) (hm : w.cell? ⟨Bm, 0, none⟩ = some (.map (some b))) (hmap : MapU w b c f) :
    Calls Tryz.prog 79 #[.func (.func KeysF) #[] #[.pointer (some ⟨Bm, 0, none⟩)]] w fun e W' => ∃ v ss, e = .returned v ∧ KeysOf f ss ∧ ss.Pairwise (· < ·) ∧ W'.ownsRow w.heap.size 60 1 v ss.length (ss.map encU) ∧ RowKit.Below w.heap.size w W' := by
  have H := collect_call Bm b c f (by omega) w hBm hm hmap
  go_enter Tryz.func79, Tryz.ntmps79
  go_wp2_with fail
  refine H.mono ?_
  rintro e w1 ⟨v, ss, rfl, h1, h2, h3, h4⟩
  have HS := Lib.hid (sortRowU h3 h4.size (by omega))
  have H1 := Lib.hid h1
  have H4 := Lib.hid h4
  obtain ⟨p, cap, rfl, _, _, _⟩ := row_val h3
  clear h1 h3 h4 H
  go_wp2_with fail
  refine HS.out.mono ?_
  rintro e w2 ⟨rfl, ts, p1, p2, p3, p4⟩
  have HP := Lib.hid (And.intro p1 (And.intro p2 (And.intro p3 p4)))
  clear p1 p2 p3 p4 HS
  go_wp2
  go_ret
  obtain ⟨p1, p2, p3, p4⟩ := HP.out
  obtain ⟨k1, k2, k3⟩ := H1.out
  refine ⟨_, ts, rfl, ⟨p1.symm.nodup k1, fun q hq => (p1.mem_iff).trans (k2 q hq), fun q hq => k3 q (p1.mem_iff.1 hq)⟩, ?_, by rw [p1.length_eq]; exact p3, H4.out.trans p4⟩
  have hn : ts.Pairwise (· ≠ ·) := p1.symm.nodup k1
  exact (p2.and hn).imp fun {a b} ⟨h1, h2⟩ => by omega
section
variable {w w' : World} {M X : Nat → Prop} {ps bt bp ct cp : Nat} {ft ft' : Nat → Option Nat} {tt : Nat → Option (Nat × List En)} {pl pl' : Hd → Option Plc} {MT : Nat → Nat → Prop} {L : List En} {A : Nat → Addr}
set_option maxRecDepth 100000 in
/-- A store's Masks. -/
theorem smasks_call (h : StoX w M ps bt bp tt pl MT L) : Calls Tryz.prog 39 #[psP ps] w fun e w' => ∃ v, e = .returned v ∧ w'.ownsRow w.heap.size 60 1 v (mskE L).length ((mskE L).map encU) ∧ RowKit.Below w.heap.size w w' := by
  obtain ⟨c0, c1, f0, f1⟩ := two_cells h.mem.head
  have hl := cell_lt c0
  have bb := Ba (Below.refl _ w) (.cells #[.map (some bt)] MapUT)
  have hc := h.good.msk
  have HS := Lib.hid (sortedU w.heap.size bt (nM L) (ftO tt) (by omega) (w.alloc (.cells #[.map (some bt)] MapUT)) (by simp) (by simp) (h.mem.mapT.below bb))
  have HK := Lib.hid (fun (ss : List Nat) (h1 : KeysOf (ftO tt) ss) h2 => keys_msk h.lays h.good h1 h2)
  clear h hc
  generalize mskE L = K at HK ⊢
  go_enter Tryz.func39, Tryz.ntmps39
  go_wp2_with fail
  refine (keys_call bt w).mono ?_
  rintro e w1 ⟨rfl, rfl⟩
  go_wp2_with fail
  refine HS.out.mono ?_
  rintro e w2 ⟨v, ss, rfl, h1, h2, h3, h4⟩
  have e9 := HK.out ss h1 h2
  rw [e9] at h3
  clear e9 h1 h2
  have h5 := row_mono h3 bb.size
  have h6 := Bt bb h4
  obtain ⟨p, cap, rfl, _, _, _⟩ := row_val h3
  clear h3 h4 HS HK c0 c1 f0 f1 hl bb
  go_wp2
  go_ret
  exact ⟨_, rfl, h5, h6⟩
end
section
variable {N : Nat → Prop} {base ps : Nat} {w w' : World} {L L' : List En} {A : Nat → Addr}
theorem masksS (h : StoO N base w ps L) : Calls Tryz.prog 39 #[psP ps] w fun e w' => ∃ v, e = .returned v ∧ w'.ownsRow w.heap.size 60 1 v (mskE L).length ((mskE L).map encU) ∧ RowKit.Below w.heap.size w w' :=
  h.read fun M bt bp tt pl MT hS => smasks_call hS
theorem inS2 (h : StoO N base w ps L) (q : Nat) (hq : q < 18446744073709551616) : Calls Tryz.prog 55 #[psP ps, .int .u64 q] w fun e w' => ∃ v, e = .returned v ∧ Sl encH w' v (inE L q) ∧ RowKit.Below w.heap.size w w' :=
  h.read fun M bt bp tt pl MT hS => sin_call hS q hq
end
end Go.Proofs.YtaehendpdfpibaaGreatDoor
