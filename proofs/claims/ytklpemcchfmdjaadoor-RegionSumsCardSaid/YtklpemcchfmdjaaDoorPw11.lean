/-
  Package plane's and the reference's questions about points and boxes (stage 1's texts over Kit).
-/
import Derived.Test.YtklpemcchfmdjaaDoorAp11
namespace Go.Proofs.YtklpemcchfmdjaaDoor
set_option linter.unusedSimpArgs false
set_option linter.unusedVariables false
open Go.RowKit Go.Sort Go.Lib Go.Shelf

theorem bool_is {P : Program} {f : FuncId} {args : Array Value} {w : World} {B v : Bool} (h : B = v) (c : Calls P f args w fun e w' => e = .returned (.bool B) ∧ Below w.heap.size w w') :
    Calls P f args w fun e w' => e = .returned (.bool v) ∧ Below w.heap.size w w' := by
  subst h
  exact c

/-! ### Steps of 'Below' from the heap's own size on: no side goals. -/
theorem bz1 {a w : World} {o1 : Obj} (h : Below (a.alloc o1).heap.size (a.alloc o1) w) : a.heap.size < w.heap.size := by
  have := h.size
  simp at this
  omega
theorem bz2 {a w : World} {o1 o2 : Obj} (h : Below ((a.alloc o1).alloc o2).heap.size ((a.alloc o1).alloc o2) w) : a.heap.size < w.heap.size ∧ a.heap.size + 1 < w.heap.size := by
  have := h.size
  simp at this
  omega
theorem bz3 {a w : World} {o1 o2 o3 : Obj} (h : Below (((a.alloc o1).alloc o2).alloc o3).heap.size (((a.alloc o1).alloc o2).alloc o3) w) : a.heap.size < w.heap.size ∧ a.heap.size + 1 < w.heap.size ∧ a.heap.size + 1 + 1 < w.heap.size := by
  have := h.size
  simp at this
  omega

def btw (n lo hi : Int) : Bool := decide (lo ≤ n) && decide (n ≤ hi)

def inB (n m : Int) : Bool := decide (n ≤ m) && decide (-m ≤ n)

theorem in_any (n m : Int) (w : World) (h0 : 0 ≤ m) (h1 : m ≤ 4611686018427387904) :
    Calls Tryd.prog 27 #[.int .i64 n, .int .i64 m] w fun e w' => e = .returned (.bool (inB n m)) ∧ w = w' := by
  go_enter Tryd.func27, Tryd.ntmps27
  go_wp2
  all_goals (go_ret; exact ⟨ret_bool (by simp [inB, *] <;> omega), rfl⟩)

def bothB (x y lo hi : Int) : Bool := btw x lo hi && btw y lo hi

def reachB (x y : Int) : Bool := bothB x y (-4194304) 4194304

def rreachB (x y : Int) : Bool := inB x 4194304 && inB y 4194304

def rightB (a b c d : Int) : Bool := reachB a b && (reachB c d && (decide (a ≤ c) && decide (b ≤ d)))

def rrightB (a b c d : Int) : Bool := inB a 4194304 && (inB c 4194304 && (inB b 4194304 && (inB d 4194304 && (decide (a ≤ c) && decide (b ≤ d)))))

def rmeetsB (a b c d p q r s : Int) : Bool := !(decide (c < p) || (decide (r < a) || (decide (d < q) || decide (s < b))))

end Go.Proofs.YtklpemcchfmdjaaDoor
