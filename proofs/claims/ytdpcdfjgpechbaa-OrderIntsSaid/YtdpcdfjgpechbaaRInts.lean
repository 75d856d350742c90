/-
  order.Drop; OrderInts: numbers in order, each once; put, dropped; what is handed in stays.
-/
import Derived.Test.YtdpcdfjgpechbaaRIntsB
import Derived.Test.YtdpcdfjgpechbaaAlive
namespace Go.Proofs.Ytdpcdfjgpechbaa
set_option linter.unusedSimpArgs false
set_option linter.unusedVariables false
open Go.RowKit Go.Sort Go.Lib Go.Shelf

/-- What is left when a number is dropped. -/
def leftI (n : Int) (l : List Int) : List Int := l.filter fun x => !decide (x = n)
theorem leftI_len (n : Int) (l : List Int) : (leftI n l).length ≤ l.length := List.length_filter_le _ _
theorem leftI_take (n : Int) (l : List Int) (k : Nat) (hk : k < l.length) : leftI n (l.take (k + 1)) = leftI n (l.take k) ++ (if l[k]! = n then [] else [l[k]!]) := by
  rw [List.take_succ_eq_append_getElem hk, getElem!_pos l k hk]
  unfold leftI
  rw [List.filter_append]
  congr 1
  by_cases h : l[k] = n <;> simp [h]

theorem indexI_none (p : Option Addr) (cap : Nat) (f : Value) (w : World) : Calls Try.prog 66 #[.slice p 0 cap, f] w fun e w' => e = .returned (.int .i64 (-1)) ∧ w' = w := by
  go_enter Try.func66, Try.ntmps66
  go_wp2
  refine wp_loop_rounds 1 ?_
  rw [rounds_succ]
  go_wp2
  go_ret
  exact ⟨rfl, rfl⟩
theorem deleteI_none (p : Option Addr) (cap : Nat) (f : Value) (w : World) : Calls Try.prog 49 #[.slice p 0 cap, f] w fun e w' => e = .returned (.slice p 0 cap) ∧ w' = w := by
  go_enter Try.func49, Try.ntmps49
  go_wp2_with fail
  refine (indexI_none p cap f w).mono ?_
  rintro e w1 ⟨rfl, rfl⟩
  go_wp2
  go_ret
  exact ⟨rfl, rfl⟩

set_option maxHeartbeats 1000000 in
set_option maxRecDepth 100000 in
theorem drop_call (l : List Int) (v : Value) (n : Int) (w : World) (hl : Sl encI w v l) (hlen : l.length ≤ 100000) :
    Calls Try.prog 32 #[v, .int .i64 n] w fun e w' => ∃ v', e = .returned v' ∧ Own w.heap.size encI 1 w' v' (leftI n l) ∧ RowKit.Below w.heap.size w w' := by
  have A1 := Lib.hid (Ba (Below.refl _ w) (.cells #[.int .i64 n] 3))
  have S1 := Lib.hid (hl.below A1.out)
  clear hl
  go_enter Try.func32, Try.ntmps32
  go_wp2_with fail
  refine (cloneI_call l v _ S1.out hlen).mono ?_
  rintro e w1 ⟨v1, rfl, ho1, _, hb1⟩
  have hcell := Lib.hid (show w1.cell? ⟨w.heap.size, 0, none⟩ = some (.int .i64 n) from Bc hb1 (by simp) (by simp))
  have HB1 := Lib.hid (Bt A1.out hb1)
  have hws : w.heap.size < w1.heap.size := by have := hb1.size; simp at this; omega
  clear hb1
  obtain ⟨p, cap, rfl, h1, h2, h⟩ := ho1
  by_cases h0 : l.length = 0
  · have hl0 : l = [] := List.length_eq_zero_iff.1 h0
    subst hl0
    have H2 := Lib.hid h2
    clear h h2
    go_wp2_with fail
    refine (deleteI_none p cap _ w1).mono ?_
    rintro e w2 ⟨rfl, rfl⟩
    go_wp2
    go_ret
    exact ⟨_, rfl, ⟨p, cap, rfl, Nat.zero_le _, H2.out, fun h => absurd h (by simp [leftI])⟩, HB1.out⟩
  · obtain ⟨g, rfl, hbg, hgl, hH⟩ := h (by omega)
    have hbg1 : w.heap.size + 1 ≤ g := by simpa using hbg
    have hcon := deleteI_call w.heap.size g cap w.heap.size n l.toArray w1 hH (by omega) hws (by omega) hcell.out (by simp; omega) (by simpa using h1)
    have hcon2 : Calls Try.prog 49 #[.slice (some ⟨g, 0, none⟩) l.length cap, .func (.func 50) #[] #[.pointer (some ⟨w.heap.size, 0, none⟩)]] w1 fun e w' => e = .returned (.slice (some ⟨g, 0, none⟩) (leftI n l).length cap) ∧
      (∃ d' : Array Int, d'.size = l.length ∧ (∀ j, j < (leftI n l).length → (leftI n l)[j]? = some d'[j]!) ∧ HoldsK encI 1 w' g 0 d') ∧ RowKit.Below w.heap.size w1 w' := hcon
    have HC := Lib.hid hcon2
    have H2 := Lib.hid h2
    clear hcon hcon2 h hH h2
    go_wp2_with fail
    refine HC.out.mono ?_
    rintro e w2 ⟨rfl, ⟨d2, hs2, hlow, hH2⟩, hb2⟩
    have hle : (leftI n l).length ≤ d2.size := by have := leftI_len n l; omega
    have HH := Lib.hid (holds_prefix lenI hH2 hle hlow)
    have HB2 := Lib.hid (HB1.out.trans hb2)
    have hgl2 : g < w2.heap.size := Nat.lt_of_lt_of_le hgl hb2.size
    have hll : (leftI n l).length ≤ cap := Nat.le_trans (leftI_len n l) h1
    clear hlow hH2 hb2
    go_wp2
    go_ret
    exact ⟨_, rfl, ⟨_, cap, rfl, hll, H2.out, fun _ => ⟨g, rfl, by omega, hgl2, HH.out⟩⟩, HB2.out⟩
end Go.Proofs.Ytdpcdfjgpechbaa
