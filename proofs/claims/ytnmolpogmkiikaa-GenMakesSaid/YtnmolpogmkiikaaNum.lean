/-
  What gen.Draw and the reference's Draw answer, in every world. No condition.
-/
import Derived.Test.YtnmolpogmkiikaaRows
import Derived.WalkKit
import Derived.ProofKit
import Derived.OpenShut
import Derived.Laws.Bits64
import Derived.Lib.Hide
namespace Go.Proofs.Ytnmolpogmkiikaa
open Go.ChangeShapes Go.WideShapes Go.ChangeAt Go.RowKit
set_option linter.unusedVariables false

theorem entry_yes (n : Int) (h0 : 0 ≤ n) (h1 : n ≤ 2147483647) (w : World) : Calls Try.prog 11 #[.int .i64 n] w fun e w' => e = .returned (.bool true) ∧ w = w' := by
  go_enter Try.func11, Try.ntmps11
  go_wp2
  go_ret
  exact ⟨rfl, rfl⟩
theorem entry_no (n : Int) (h : n < 0 ∨ 2147483647 < n) (w : World) : Calls Try.prog 11 #[.int .i64 n] w fun e w' => e = .returned (.bool false) ∧ w = w' := by
  by_cases h0 : n < 0
  · clear h
    go_enter Try.func11, Try.ntmps11
    go_wp2
    go_ret
    exact ⟨rfl, rfl⟩
  · have h1 : 2147483647 < n := by omega
    clear h
    have h2 : decide (n ≤ 2147483647) = false := decide_eq_false (by omega)
    go_enter Try.func11, Try.ntmps11
    go_wp2
    go_ret
    exact ⟨rfl, rfl⟩
theorem draw_no (s n : Int) (h : n < 0 ∨ 2147483647 < n) (w : World) : Calls Try.prog 5 #[.int .u64 s, .int .i64 n] w fun e w' => e = .returned (.tuple #[.int .i64 0, .int .u64 s]) ∧ w = w' := by
  have H := Lib.hid (fun W => entry_no n h W)
  clear h
  go_enter Try.func5, Try.ntmps5
  go_wp2_with fail
  refine (H.out _).mono ?_; rintro e w1 ⟨rfl, rfl⟩
  go_wp2
  go_ret2
  exact ⟨rfl, rfl⟩
theorem refdraw_no (s n : Int) (h : n < 0 ∨ 2147483647 < n) (w : World) : Calls Try.prog 6 #[.int .u64 s, .int .i64 n] w fun e w' => e = .returned (.tuple #[.int .i64 0, .int .u64 s]) ∧ w = w' := by
  by_cases h0 : n < 0
  · clear h
    go_enter Try.func6, Try.ntmps6
    go_wp2
    go_ret2
    exact ⟨rfl, rfl⟩
  · have h1 : 2147483647 < n := by omega
    clear h
    go_enter Try.func6, Try.ntmps6
    go_wp2
    go_ret2
    exact ⟨rfl, rfl⟩
set_option maxRecDepth 100000 in
theorem draw_yes (s n t q r : Int) (h0 : 0 ≤ n) (h1 : n ≤ 2147483647)
    (ht : IntKind.u64.wrap (IntKind.u64.wrap (s * 6364136223846793005) + 1442695040888963407) = t) (t0 : 0 ≤ t) (t1 : t ≤ 18446744073709551615) (hq : t / 8589934592 = q) (q0 : 0 ≤ q) (q1 : q ≤ 2147483647) (hr : q % (n + 1) = r)
    (w : World) : Calls Try.prog 5 #[.int .u64 s, .int .i64 n] w fun e w' => e = .returned (.tuple #[.int .i64 r, .int .u64 t]) ∧ w = w' := by
  have H := Lib.hid (fun W => entry_yes n h0 h1 W)
  go_enter Try.func5, Try.ntmps5
  go_wp2_with fail
  refine (H.out _).mono ?_; rintro e w1 ⟨rfl, rfl⟩
  go_wp2
  go_ret2
  exact ⟨congrArg (fun b => Ending.returned (.tuple #[.int .i64 b, .int .u64 t])) hr, rfl⟩
set_option maxRecDepth 100000 in
theorem refdraw_yes (s n t q r : Int) (h0 : 0 ≤ n) (h1 : n ≤ 2147483647)
    (ht : IntKind.u64.wrap (IntKind.u64.wrap (s * 6364136223846793005) + 1442695040888963407) = t) (t0 : 0 ≤ t) (t1 : t ≤ 18446744073709551615) (hq : t / 8589934592 = q) (q0 : 0 ≤ q) (q1 : q ≤ 2147483647) (hr : q % (n + 1) = r)
    (w : World) : Calls Try.prog 6 #[.int .u64 s, .int .i64 n] w fun e w' => e = .returned (.tuple #[.int .i64 r, .int .u64 t]) ∧ w = w' := by
  go_enter Try.func6, Try.ntmps6
  go_wp2
  go_ret2
  exact ⟨congrArg (fun b => Ending.returned (.tuple #[.int .i64 b, .int .u64 t])) hr, rfl⟩
theorem gens_any (w : World) : Calls Try.prog 7 #[] w fun e w' => e = .returned (.bool true) ∧ w = w' := by
  have H := Lib.hid (fun W => draw_yes 0 9 1442695040888963407 167951807 7 (by decide) (by decide) (by rw [IntKind.wrap_u64, IntKind.wrap_u64]; decide) (by decide) (by decide) (by decide) (by decide) (by decide) (by decide) W)
  go_enter Try.func7, Try.ntmps7
  go_wp2_with fail
  refine (H.out _).mono ?_; rintro e w1 ⟨rfl, rfl⟩
  go_wp2
  go_ret
  exact ⟨rfl, rfl⟩
end Go.Proofs.Ytnmolpogmkiikaa
