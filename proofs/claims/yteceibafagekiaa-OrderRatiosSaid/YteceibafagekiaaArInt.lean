/-
  What the reference's Int answers.
-/
import Derived.Test.YteceibafagekiaaArEq
import Derived.Laws.Bits64b
namespace Go.Proofs.Yteceibafagekiaa.ar
open Go.RowKit
set_option linter.unusedVariables false


theorem or_parts (x : Nat) (h : x < 18446744073709551616) :
    bits .or .u64 (bits .or .u64 (dg x 0) (dg x 1 * 2147483648)) (IntKind.u64.wrap (dg x 2 * 4611686018427387904)) = (x : Int) := by
  have e0 : dg x 0 = ((x % 2147483648 : Nat) : Int) := by unfold dg dgn; rw [Nat.pow_zero, Nat.div_one, BB_eq]
  have e1 : dg x 1 = ((x / 2147483648 % 2147483648 : Nat) : Int) := by unfold dg dgn; rw [Nat.pow_one, BB_eq]
  have e2 : dg x 2 = ((x / 4611686018427387904 : Nat) : Int) := by
    unfold dg dgn; rw [show BB ^ 2 = 4611686018427387904 from by decide, BB_eq]; omega
  have c : x / 4611686018427387904 < 4 := by omega
  have w2 : IntKind.u64.wrap (dg x 2 * 4611686018427387904) = ((x / 4611686018427387904 * 4611686018427387904 : Nat) : Int) := by
    rw [e2, IntKind.wrap_u64]; omega
  have m1 : dg x 1 * 2147483648 = ((x / 2147483648 % 2147483648 * 2147483648 : Nat) : Int) := by rw [e1]; omega
  rw [w2, m1, e0, bits_or_u64_nat _ _ (by omega) (by omega)]
  have o1 : x % 2147483648 ||| x / 2147483648 % 2147483648 * 2147483648 = x % 4611686018427387904 := by
    rw [Nat.or_comm, show (2147483648 : Nat) = 2 ^ 31 from rfl, ← Nat.shiftLeft_eq, ← Nat.shiftLeft_add_eq_or_of_lt (by omega), Nat.shiftLeft_eq]; omega
  rw [o1, bits_or_u64_nat _ _ (by omega) (by omega)]
  have o2 : x % 4611686018427387904 ||| x / 4611686018427387904 * 4611686018427387904 = x := by
    rw [Nat.or_comm, show (4611686018427387904 : Nat) = 2 ^ 62 from rfl, ← Nat.shiftLeft_eq, ← Nat.shiftLeft_add_eq_or_of_lt (by omega), Nat.shiftLeft_eq]; omega
  rw [o2]
theorem ret_two {a b : Int} {t : Bool} (h : a = b) : Ending.returned (.tuple #[.int .i64 a, .bool t]) = .returned (.tuple #[.int .i64 b, .bool t]) := by rw [h]
def sv (m : Bool) (x : Nat) : Int := if m then -(x : Int) else x
attribute [irreducible] sv
end Go.Proofs.Yteceibafagekiaa.ar
