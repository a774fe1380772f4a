/-
  What the reference's Add and Cmp answer, for numbers told by sign and size.
-/
import Derived.Test.YtdeggnefbkcegaaArCmp
import Derived.Test.YtdeggnefbkcegaaArSgM
namespace Go.Proofs.Ytdeggnefbkcegaa.ar
open Go.RowKit
set_option linter.unusedVariables false


/-- of a sum told by sign and size -/
def addk (m n : Bool) (x y : Nat) : Bool := if m = n then m else if x < y then n else m
def addz (m n : Bool) (x y : Nat) : Nat := if m = n then x + y else if x < y then y - x else x - y
theorem add_sv (m n : Bool) (x y : Nat) : sv (addk m n x y) (addz m n x y) = sv m x + sv n y := by
  unfold addk addz sv
  cases m <;> cases n
  all_goals
    simp
    try (by_cases h : x < y <;> simp [h] <;> omega)
    try omega
theorem addz_le (m n : Bool) (x y : Nat) : addz m n x y ≤ x + y := by
  unfold addz; split
  · omega
  · split <;> omega
theorem add_any (m n : Bool) (x y : Nat) (hx : x < BB ^ 9) (hy : y < BB ^ 9) (w : World) :
    Calls Try.prog 36 #[.agg #[.bool m, .int .i64 (dg x 0), .int .i64 (dg x 1), .int .i64 (dg x 2), .int .i64 (dg x 3), .int .i64 (dg x 4), .int .i64 (dg x 5), .int .i64 (dg x 6), .int .i64 (dg x 7), .int .i64 (dg x 8)], .agg #[.bool n, .int .i64 (dg y 0), .int .i64 (dg y 1), .int .i64 (dg y 2), .int .i64 (dg y 3), .int .i64 (dg y 4), .int .i64 (dg y 5), .int .i64 (dg y 6), .int .i64 (dg y 7), .int .i64 (dg y 8)]] w fun e w' => e = .returned (.agg #[.bool (addk m n x y), .int .i64 (dg (addz m n x y) 0), .int .i64 (dg (addz m n x y) 1), .int .i64 (dg (addz m n x y) 2), .int .i64 (dg (addz m n x y) 3), .int .i64 (dg (addz m n x y) 4), .int .i64 (dg (addz m n x y) 5), .int .i64 (dg (addz m n x y) 6), .int .i64 (dg (addz m n x y) 7), .int .i64 (dg (addz m n x y) 8)]) ∧ Below w.heap.size w w' := by
  by_cases hmn : m = n
  · have e1 : addk m n x y = m := by unfold addk; rw [if_pos hmn]
    have e2 : addz m n x y = x + y := by unfold addz; rw [if_pos hmn]
    rw [e1, e2]; exact add_same m n hmn x y w
  · by_cases h : x < y
    · have e1 : addk m n x y = n := by unfold addk; rw [if_neg hmn, if_pos h]
      have e2 : addz m n x y = y - x := by unfold addz; rw [if_neg hmn, if_pos h]
      rw [e1, e2]; exact add_lt m n hmn x y h hx hy w
    · have e1 : addk m n x y = m := by unfold addk; rw [if_neg hmn, if_neg h]
      have e2 : addz m n x y = x - y := by unfold addz; rw [if_neg hmn, if_neg h]
      rw [e1, e2]; exact add_ge m n hmn x y (by omega) hx hy w
def cmpv (a b : Int) : Int := if a < b then -1 else if a = b then 0 else 1
theorem cmp_of (m n : Bool) (x y : Nat) : cmpv (sv m x) (sv n y) = if decide (addz m (!n) x y = 0) then 0 else if addk m (!n) x y then -1 else 1 := by
  have h := add_sv m (!n) x y
  have e : sv (!n) y = - sv n y := by unfold sv; cases n <;> simp
  rw [e] at h
  generalize sv m x = A at *
  generalize sv n y = B at *
  generalize addz m (!n) x y = z at *
  generalize addk m (!n) x y = k at *
  unfold sv at h
  unfold cmpv
  by_cases hz : z = 0
  · subst hz
    have : A = B := by cases k <;> simp at h <;> omega
    rw [if_neg (by omega), if_pos this]; simp
  · cases k
    · simp at h
      rw [if_neg (by omega), if_neg (by omega)]; simp [hz]
    · simp at h
      rw [if_pos (by omega)]; simp [hz]
theorem sv_num (a : Int) : sv (decide (a < 0)) a.natAbs = a := by
  unfold sv
  by_cases h : a < 0
  · rw [decide_eq_true h, if_pos rfl]; omega
  · rw [decide_eq_false h, if_neg (by simp)]; omega
theorem sv_mul (m n : Bool) (x y : Nat) : sv (m != n) (x * y) = sv m x * sv n y := by
  unfold sv; cases m <;> cases n <;> simp [Int.natCast_mul, Int.neg_mul, Int.mul_neg]
theorem sv_neg (m : Bool) (x : Nat) : sv (!m) x = -(sv m x) := by unfold sv; cases m <;> simp
theorem abs_b (a : Int) (a1 : -9223372036854775808 ≤ a) (a2 : a ≤ 9223372036854775807) : a.natAbs ≤ 9223372036854775808 := by omega
theorem B3 : 9223372036854775808 < BB ^ 3 := by decide
theorem B4 : 9223372036854775808 < BB ^ 4 := by decide
theorem B8 : 9223372036854775808 < BB ^ 8 := by decide
theorem B9 : 9223372036854775808 < BB ^ 9 := by decide
theorem B5 : 9223372036854775808 * 9223372036854775808 * 4 < BB ^ 8 := by decide
theorem mul_bound {a b : Nat} (ha : a ≤ 9223372036854775808) (hb : b ≤ 9223372036854775808) : a * b ≤ 9223372036854775808 * 9223372036854775808 := Nat.mul_le_mul ha hb
attribute [irreducible] addk addz cmpv
end Go.Proofs.Ytdeggnefbkcegaa.ar
