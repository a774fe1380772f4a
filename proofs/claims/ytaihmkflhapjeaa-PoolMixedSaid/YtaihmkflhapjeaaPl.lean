/-
  A pool's box; the small functions that read it.
-/
import Derived.Test.YtaihmkflhapjeaaOpsB
import Derived.Test.YtaihmkflhapjeaaPack
namespace Go.Proofs.Ytaihmkflhapjeaa
open Go.RowKit
set_option linter.unusedVariables false
/-- a pool's box: the memory, the first cell, the slots, the marks, the workers' own -/
def PB (p gm : Nat) (base : Int) (bn bh bo n k : Nat) (w : World) : Prop := w.heap[p]? = some (.cells #[.pointer (some ⟨gm, 0, none⟩), .int .i64 base, .slice (some ⟨bn, 0, none⟩) n n, .slice (some ⟨bh, 0, none⟩) n n, .slice (some ⟨bo, 0, none⟩) k k] 80 (0, 0))
theorem slots_any (p gm : Nat) (base : Int) (bn bh bo n k : Nat) (w : World) (h : PB p gm base bn bh bo n k w) :
    Calls Try.prog 11 #[.pointer (some ⟨p, 0, none⟩)] w fun e w' => e = .returned (.int .i64 n) ∧ w = w' := by
  have c1 := (cell_of_row w p 1 _ 80 _ h).trans rfl
  have c2 := (cell_of_row w p 2 _ 80 _ h).trans rfl
  have c4 := (cell_of_row w p 4 _ 80 _ h).trans rfl
  clear h
  go_enter Try.func11, Try.ntmps11
  go_wp2
  go_ret
  exact ⟨rfl, rfl⟩
theorem slots_nil (w : World) : Calls Try.prog 11 #[.pointer none] w fun e w' => e = .returned (.int .i64 0) ∧ w = w' := by
  go_enter Try.func11, Try.ntmps11
  go_wp2
  go_ret
  exact ⟨rfl, rfl⟩
theorem phas_in (s : Int) (n : Nat) (h0 : 0 ≤ s) (h1 : s < n) (P : Value) (w : World) (hS : Calls Try.prog 11 #[P] w fun e w' => e = .returned (.int .i64 n) ∧ w = w') :
    Calls Try.prog 34 #[P, .int .i64 s] w fun e w' => e = .returned (.bool true) ∧ w = w' := by
  have H := Lib.hid hS
  have d0 : decide (0 ≤ s) = true := decide_eq_true h0
  have d1 : decide (s < (n : Int)) = true := decide_eq_true h1
  clear hS
  go_enter Try.func34, Try.ntmps34
  go_wp2_with fail
  refine H.out.mono ?_; rintro e w1 ⟨rfl, rfl⟩
  go_wp2
  go_ret
  exact ⟨rfl, rfl⟩
theorem phas_out (s : Int) (n : Nat) (h : s < 0 ∨ (n : Int) ≤ s) (P : Value) (w : World) (hS : Calls Try.prog 11 #[P] w fun e w' => e = .returned (.int .i64 n) ∧ w = w') :
    Calls Try.prog 34 #[P, .int .i64 s] w fun e w' => e = .returned (.bool false) ∧ w = w' := by
  have H := Lib.hid hS
  clear hS
  by_cases h0 : s < 0
  · have d0 : decide (0 ≤ s) = false := decide_eq_false (by omega)
    clear h
    go_enter Try.func34, Try.ntmps34
    go_wp2
    go_ret
    exact ⟨rfl, rfl⟩
  · have d0 : decide (0 ≤ s) = true := decide_eq_true (by omega)
    have d1 : decide (s < (n : Int)) = false := decide_eq_false (by omega)
    clear h
    go_enter Try.func34, Try.ntmps34
    go_wp2_with fail
    refine H.out.mono ?_; rintro e w1 ⟨rfl, rfl⟩
    go_wp2
    go_ret
    exact ⟨rfl, rfl⟩
theorem emp_in (x : Int) (h0 : 0 ≤ x) (p gm : Nat) (base : Int) (bn bh bo n k : Nat) (w : World) (h : PB p gm base bn bh bo n k w) (h1 : x < k) :
    Calls Try.prog 33 #[.pointer (some ⟨p, 0, none⟩), .int .i64 x] w fun e w' => e = .returned (.bool true) ∧ w = w' := by
  have c1 := (cell_of_row w p 1 _ 80 _ h).trans rfl
  have c2 := (cell_of_row w p 2 _ 80 _ h).trans rfl
  have c4 := (cell_of_row w p 4 _ 80 _ h).trans rfl
  clear h
  have d0 : decide (0 ≤ x) = true := decide_eq_true h0
  have d1 : decide (x < (k : Int)) = true := decide_eq_true h1
  go_enter Try.func33, Try.ntmps33
  go_wp2
  go_ret
  exact ⟨rfl, rfl⟩
theorem emp_out (x : Int) (p gm : Nat) (base : Int) (bn bh bo n k : Nat) (w : World) (h : PB p gm base bn bh bo n k w) (h1 : x < 0 ∨ (k : Int) ≤ x) :
    Calls Try.prog 33 #[.pointer (some ⟨p, 0, none⟩), .int .i64 x] w fun e w' => e = .returned (.bool false) ∧ w = w' := by
  have c1 := (cell_of_row w p 1 _ 80 _ h).trans rfl
  have c2 := (cell_of_row w p 2 _ 80 _ h).trans rfl
  have c4 := (cell_of_row w p 4 _ 80 _ h).trans rfl
  clear h
  by_cases h0 : x < 0
  · have d0 : decide (0 ≤ x) = false := decide_eq_false (by omega)
    clear h1
    go_enter Try.func33, Try.ntmps33
    go_wp2
    go_ret
    exact ⟨rfl, rfl⟩
  · have d0 : decide (0 ≤ x) = true := decide_eq_true (by omega)
    have d1 : decide (x < (k : Int)) = false := decide_eq_false (by omega)
    clear h1
    go_enter Try.func33, Try.ntmps33
    go_wp2
    go_ret
    exact ⟨rfl, rfl⟩
theorem emp_nil (x : Int) (w : World) : Calls Try.prog 33 #[.pointer none, .int .i64 x] w fun e w' => e = .returned (.bool false) ∧ w = w' := by
  go_enter Try.func33, Try.ntmps33
  go_wp2
  go_ret
  exact ⟨rfl, rfl⟩
theorem link_any (s : Int) (p gm : Nat) (base : Int) (bn bh bo n k : Nat) (w : World) (h : PB p gm base bn bh bo n k w) (b0 : 0 ≤ base) (b1 : base ≤ 1048576) (s0 : 0 ≤ s) (s1 : s ≤ 4096) :
    Calls Try.prog 31 #[.pointer (some ⟨p, 0, none⟩), .int .i64 s] w fun e w' => e = .returned (.int .i64 (base + 1 + s)) ∧ w = w' := by
  have c1 := (cell_of_row w p 1 _ 80 _ h).trans rfl
  have c2 := (cell_of_row w p 2 _ 80 _ h).trans rfl
  have c4 := (cell_of_row w p 4 _ 80 _ h).trans rfl
  clear h
  go_enter Try.func31, Try.ntmps31
  go_wp2
  go_ret
  exact ⟨rfl, rfl⟩
theorem pcells_ok (s : Int) (h0 : 1 ≤ s) (h1 : s ≤ 4096) (w : World) : Calls Try.prog 19 #[.int .i64 s] w fun e w' => e = .returned (.int .i64 (s + 1)) ∧ w = w' := by
  have d0 : decide (s < 1) = false := decide_eq_false (by omega)
  have d1 : decide (4096 < s) = false := decide_eq_false (by omega)
  go_enter Try.func19, Try.ntmps19
  go_wp2
  go_ret
  exact ⟨rfl, rfl⟩
theorem pcells_no (s : Int) (h : s < 1 ∨ 4096 < s) (w : World) : Calls Try.prog 19 #[.int .i64 s] w fun e w' => e = .returned (.int .i64 0) ∧ w = w' := by
  by_cases h0 : s < 1
  · clear h
    go_enter Try.func19, Try.ntmps19
    go_wp2
    go_ret
    exact ⟨rfl, rfl⟩
  · have h1 : 4096 < s := by omega
    have d0 : decide (s < 1) = false := decide_eq_false h0
    clear h
    go_enter Try.func19, Try.ntmps19
    go_wp2
    go_ret
    exact ⟨rfl, rfl⟩
end Go.Proofs.Ytaihmkflhapjeaa
