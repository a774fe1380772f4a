/-
  What the functions minus, product, compare, Sub, Mul, Neg and Cross of the package arith answer, and what Mul64 and Compare of the library answer, function by function, for every number within its bounds.
-/
import Derived.Test.YteoionlnnjcggaaArTwo
import Derived.Test.YteoionlnnjcggaaArShelf
import Derived.IntWalk
namespace Go.Proofs.Yteoionlnnjcggaa.ar
open Go.RowKit
set_option linter.unusedVariables false

theorem hi_sub (x y : Int) : (hi64 x - hi64 y - bor (lo64 x) (lo64 y)) % 18446744073709551616 = hi64 (x - y) := by
  unfold bor hi64 lo64
  split <;> omega
theorem lo_sub (x y : Int) : (lo64 x - lo64 y) % 18446744073709551616 = lo64 (x - y) := by unfold lo64; omega
theorem mul64 (X Y : Int) (hx : 0 ≤ X) (hx2 : X < 18446744073709551616) (hy : 0 ≤ Y) (hy2 : Y < 18446744073709551616) (w : World) :
    Calls Try.prog 54 #[.int .u64 X, .int .u64 Y] w fun e w' => e = .returned (.tuple #[.int .u64 (X * Y / 18446744073709551616), .int .u64 (X * Y % 18446744073709551616)]) ∧ w = w' := by
  obtain ⟨x, rfl⟩ := Int.eq_ofNat_of_zero_le hx
  obtain ⟨y, rfl⟩ := Int.eq_ofNat_of_zero_le hy
  have e : (x : Int) * (y : Int) = ((x * y : Nat) : Int) := (Int.natCast_mul x y).symm
  rw [e]
  refine (Try.bits_Mul64 x y (by omega) (by omega) w).mono fun _ _ ⟨h1, h2⟩ => ⟨?_, h2.symm⟩
  rw [h1]
  generalize x * y = p
  congr 4 <;> omega
def u64of (a : Int) : Int := a % 18446744073709551616
theorem u64of_wrap (a : Int) : IntKind.u64.wrap a = u64of a := IntKind.wrap_u64 a
theorem u64of_b (a : Int) : 0 ≤ u64of a ∧ u64of a < 18446744073709551616 := by unfold u64of; omega
theorem prod_eq (a b X Y : Int) : (a + 18446744073709551616) * (b + 18446744073709551616) = a * b + 18446744073709551616 * (a + b) + 340282366920938463463374607431768211456 := by
  rw [Int.add_mul, Int.mul_add, Int.mul_add]; omega
theorem prod_lo (a b : Int) (a1 : -9223372036854775808 ≤ a) (a2 : a ≤ 9223372036854775807) (b1 : -9223372036854775808 ≤ b) (b2 : b ≤ 9223372036854775807) : u64of a * u64of b % 18446744073709551616 = lo64 (a * b) := by
  unfold u64of lo64; rw [← Int.mul_emod]
theorem prod_pp (a b : Int) (a1 : 0 ≤ a) (a2 : a ≤ 9223372036854775807) (b1 : 0 ≤ b) (b2 : b ≤ 9223372036854775807) : u64of a * u64of b / 18446744073709551616 = hi64 (a * b) := by
  have e1 : u64of a = a := by unfold u64of; omega
  have e2 : u64of b = b := by unfold u64of; omega
  have h1 := Int.mul_le_mul a2 b2 b1 (by omega)
  have h2 := Int.mul_nonneg a1 b1
  rw [e1, e2]; unfold hi64
  generalize a * b = p at *
  omega
theorem prod_np (a b : Int) (a1 : -9223372036854775808 ≤ a) (a2 : a < 0) (b1 : 0 ≤ b) (b2 : b ≤ 9223372036854775807) : IntKind.u64.wrap (u64of a * u64of b / 18446744073709551616 - u64of b) = hi64 (a * b) := by
  have e1 : u64of a = a + 18446744073709551616 := by unfold u64of; omega
  have e2 : u64of b = b := by unfold u64of; omega
  rw [e1, e2, Int.add_mul, IntKind.wrap_u64]; unfold hi64
  generalize a * b = p at *
  omega
theorem prod_pn (a b : Int) (a1 : 0 ≤ a) (a2 : a ≤ 9223372036854775807) (b1 : -9223372036854775808 ≤ b) (b2 : b < 0) : IntKind.u64.wrap (u64of a * u64of b / 18446744073709551616 - u64of a) = hi64 (a * b) := by
  rw [Int.mul_comm (u64of a), Int.mul_comm a]; exact prod_np b a b1 b2 a1 a2
theorem prod_nn (a b : Int) (a1 : -9223372036854775808 ≤ a) (a2 : a < 0) (b1 : -9223372036854775808 ≤ b) (b2 : b < 0) : IntKind.u64.wrap (IntKind.u64.wrap (u64of a * u64of b / 18446744073709551616 - u64of b) - u64of a) = hi64 (a * b) := by
  have e1 : u64of a = a + 18446744073709551616 := by unfold u64of; omega
  have e2 : u64of b = b + 18446744073709551616 := by unfold u64of; omega
  rw [e1, e2, prod_eq a b 0 0, IntKind.wrap_u64, IntKind.wrap_u64]; unfold hi64
  generalize a * b = p at *
  omega
attribute [irreducible] u64of
theorem product_any (a b : Int) (a1 : -9223372036854775808 ≤ a) (a2 : a ≤ 9223372036854775807) (b1 : -9223372036854775808 ≤ b) (b2 : b ≤ 9223372036854775807) (w : World) :
    Calls Try.prog 52 #[.int .i64 a, .int .i64 b] w fun e w' => e = .returned (.agg #[.int .u64 (hi64 (a * b)), .int .u64 (lo64 (a * b))]) ∧ ∃ c, w' = w.alloc (.cells c 67) := by
  obtain ⟨x1, x2⟩ := u64of_b a
  obtain ⟨y1, y2⟩ := u64of_b b
  have L := Lib.hid (prod_lo a b a1 a2 b1 b2)
  have ea := u64of_wrap a
  have eb := u64of_wrap b
  by_cases ha : a < 0 <;> by_cases hb : b < 0
  · have H := Lib.hid (prod_nn a b a1 ha b1 hb)
    go_enter Try.func52, Try.ntmps52
    go_wp2_with fail
    refine (mul64 _ _ x1 x2 y1 y2 _).mono ?_; rintro e w' ⟨rfl, rfl⟩
    go_wp2_with fail
    simp [bodyPost, results, Try.results52, go_sem]
    exact ⟨⟨H.out, L.out⟩, _, rfl⟩
  · have H := Lib.hid (prod_np a b a1 ha (by omega) b2)
    go_enter Try.func52, Try.ntmps52
    go_wp2_with fail
    refine (mul64 _ _ x1 x2 y1 y2 _).mono ?_; rintro e w' ⟨rfl, rfl⟩
    go_wp2_with fail
    simp [bodyPost, results, Try.results52, go_sem]
    exact ⟨⟨H.out, L.out⟩, _, rfl⟩
  · have H := Lib.hid (prod_pn a b (by omega) a2 b1 hb)
    go_enter Try.func52, Try.ntmps52
    go_wp2_with fail
    refine (mul64 _ _ x1 x2 y1 y2 _).mono ?_; rintro e w' ⟨rfl, rfl⟩
    go_wp2_with fail
    simp [bodyPost, results, Try.results52, go_sem]
    exact ⟨⟨H.out, L.out⟩, _, rfl⟩
  · have H := Lib.hid (prod_pp a b (by omega) a2 (by omega) b2)
    go_enter Try.func52, Try.ntmps52
    go_wp2_with fail
    refine (mul64 _ _ x1 x2 y1 y2 _).mono ?_; rintro e w' ⟨rfl, rfl⟩
    go_wp2_with fail
    simp [bodyPost, results, Try.results52, go_sem]
    exact ⟨⟨H.out, L.out⟩, _, rfl⟩
end Go.Proofs.Yteoionlnnjcggaa.ar
