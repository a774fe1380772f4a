/-
  What the functions Add, Sub, Mul, Neg, compare and Cross of the package arith answer, for every int.
-/
import Derived.Test.YteoionlnnjcggaaArFar
namespace Go.Proofs.Yteoionlnnjcggaa.ar
open Go.RowKit
set_option linter.unusedVariables false

theorem mul_b (a b : Int) (a1 : -9223372036854775808 ≤ a) (a2 : a ≤ 9223372036854775807) (b1 : -9223372036854775808 ≤ b) (b2 : b ≤ 9223372036854775807) :
    -85070591730234615865843651857942052864 ≤ a * b ∧ a * b ≤ 85070591730234615865843651857942052864 := by
  have h : (a * b).natAbs = a.natAbs * b.natAbs := Int.natAbs_mul a b
  have h2 : a.natAbs * b.natAbs ≤ 9223372036854775808 * 9223372036854775808 := Nat.mul_le_mul (by omega) (by omega)
  rw [← h] at h2
  generalize a * b = p at *
  omega
theorem cmp_i64 (a b : Int) (w : World) :
    Calls Try.prog 59 #[.int .i64 a, .int .i64 b] w fun e w' => e = .returned (.int .i64 (cmpv a b)) ∧ w = w' := by
  rcases Int.lt_trichotomy a b with h | h | h
  · have e : cmpv a b = -1 := by unfold cmpv; rw [if_pos h]
    rw [e]
    go_enter Try.func59, Try.ntmps59
    go_wp2
    go_ret
    exact ⟨rfl, rfl⟩
  · have e : cmpv a b = 0 := by unfold cmpv; rw [if_neg (by omega), if_pos h]
    rw [e]
    subst h
    go_enter Try.func59, Try.ntmps59
    go_wp2
    go_ret
    exact ⟨rfl, rfl⟩
  · have e : cmpv a b = 1 := by unfold cmpv; rw [if_neg (by omega), if_neg (by omega)]
    rw [e]
    go_enter Try.func59, Try.ntmps59
    go_wp2
    go_ret
    exact ⟨rfl, rfl⟩
theorem cmp_u64 (a b : Int) (w : World) :
    Calls Try.prog 60 #[.int .u64 a, .int .u64 b] w fun e w' => e = .returned (.int .i64 (cmpv a b)) ∧ w = w' := by
  rcases Int.lt_trichotomy a b with h | h | h
  · have e : cmpv a b = -1 := by unfold cmpv; rw [if_pos h]
    rw [e]
    go_enter Try.func60, Try.ntmps60
    go_wp2
    go_ret
    exact ⟨rfl, rfl⟩
  · have e : cmpv a b = 0 := by unfold cmpv; rw [if_neg (by omega), if_pos h]
    rw [e]
    subst h
    go_enter Try.func60, Try.ntmps60
    go_wp2
    go_ret
    exact ⟨rfl, rfl⟩
  · have e : cmpv a b = 1 := by unfold cmpv; rw [if_neg (by omega), if_neg (by omega)]
    rw [e]
    go_enter Try.func60, Try.ntmps60
    go_wp2
    go_ret
    exact ⟨rfl, rfl⟩
theorem hi_signed (x : Int) (b1 : -170141183460469231731687303715884105728 ≤ x) (b2 : x < 170141183460469231731687303715884105728) : wrap64 (hi64 x) = x / 18446744073709551616 := by unfold wrap64 hi64; omega
theorem cmp_parts (x y : Int) : cmpv x y = if cmpv (x / 18446744073709551616) (y / 18446744073709551616) = 0 then cmpv (lo64 x) (lo64 y) else cmpv (x / 18446744073709551616) (y / 18446744073709551616) := by
  have e1 : x = 18446744073709551616 * (x / 18446744073709551616) + lo64 x := by unfold lo64; omega
  have e2 : y = 18446744073709551616 * (y / 18446744073709551616) + lo64 y := by unfold lo64; omega
  obtain ⟨l1, l2⟩ := lo64_b x; obtain ⟨m1, m2⟩ := lo64_b y
  generalize x / 18446744073709551616 = p at *
  generalize y / 18446744073709551616 = q at *
  generalize lo64 x = l at *; generalize lo64 y = m at *
  subst e1 e2
  unfold cmpv
  rcases Int.lt_trichotomy p q with h | h | h
  · have t : 18446744073709551616 * p + l < 18446744073709551616 * q + m := by omega
    simp [t, h]
  · subst h
    rw [if_neg (Int.lt_irrefl p), if_pos rfl, if_pos rfl]
    rcases Int.lt_trichotomy l m with k | k | k
    · rw [if_pos (by omega), if_pos k]
    · rw [if_neg (by omega), if_pos (by omega), if_neg (by omega), if_pos k]
    · rw [if_neg (by omega), if_neg (by omega), if_neg (by omega), if_neg (by omega)]
  · have t1 : ¬ 18446744073709551616 * p + l < 18446744073709551616 * q + m := by omega
    have t2 : ¬ 18446744073709551616 * p + l = 18446744073709551616 * q + m := by omega
    have t3 : ¬ p < q := by omega
    have t4 : ¬ p = q := by omega
    simp [t1, t2, t3, t4]
theorem compare_any (x y : Int) (b1 : -170141183460469231731687303715884105728 ≤ x) (b2 : x < 170141183460469231731687303715884105728) (c1 : -170141183460469231731687303715884105728 ≤ y) (c2 : y < 170141183460469231731687303715884105728) (w : World) :
    Calls Try.prog 53 #[.agg #[.int .u64 (hi64 x), .int .u64 (lo64 x)], .agg #[.int .u64 (hi64 y), .int .u64 (lo64 y)]] w fun e w' => e = .returned (.int .i64 (cmpv x y)) ∧ Below w.heap.size w w' := by
  have E := cmp_parts x y
  have ex := hi_signed x b1 b2
  have ey := hi_signed y c1 c2
  have H1 := fun W => cmp_i64 (x / 18446744073709551616) (y / 18446744073709551616) W
  have H2 := fun W => cmp_u64 (lo64 x) (lo64 y) W
  rw [← ex, ← ey] at H1 E
  clear b1 b2 c1 c2 ex ey
  generalize cmpv x y = r at *
  have I1 := Lib.hid H1; have I2 := Lib.hid H2
  clear H1 H2
  by_cases h : cmpv (wrap64 (hi64 x)) (wrap64 (hi64 y)) = 0
  · rw [if_pos h] at E
    have HE := Lib.hid E
    have Hh := Lib.hid h
    clear E h
    go_enter Try.func53, Try.ntmps53
    go_wp2_with fail
    refine (I1.out _).mono ?_; rintro e w1 ⟨rfl, rfl⟩
    rw [Hh.out]
    go_wp2_with fail
    refine (I2.out _).mono ?_; rintro e w2 ⟨rfl, rfl⟩
    go_wp2_with fail
    go_ret
    exact ⟨ret_int HE.out.symm, bl_al (bl_al (Below.refl _ _) _) _⟩
  · rw [if_neg h] at E
    have HE := Lib.hid E
    have h1 : (cmpv (wrap64 (hi64 x)) (wrap64 (hi64 y)) != 0) = true := by simpa using h
    clear E h
    generalize cmpv (wrap64 (hi64 x)) (wrap64 (hi64 y)) = c at *
    go_enter Try.func53, Try.ntmps53
    go_wp2_with fail
    refine (I1.out _).mono ?_; rintro e w1 ⟨rfl, rfl⟩
    go_wp2_with fail
    go_ret
    exact ⟨ret_int HE.out.symm, bl_al (bl_al (Below.refl _ _) _) _⟩
theorem cross_any (a b c d : Int) (a1 : -9223372036854775808 ≤ a) (a2 : a ≤ 9223372036854775807) (b1 : -9223372036854775808 ≤ b) (b2 : b ≤ 9223372036854775807) (c1 : -9223372036854775808 ≤ c) (c2 : c ≤ 9223372036854775807) (d1 : -9223372036854775808 ≤ d) (d2 : d ≤ 9223372036854775807) (w : World) :
    Calls Try.prog 43 #[.int .i64 a, .int .i64 b, .int .i64 c, .int .i64 d] w fun e w' => e = .returned (.int .i64 (cmpv (a * b) (c * d))) ∧ Below w.heap.size w w' := by
  have hp := mul_b a b a1 a2 b1 b2
  have hq := mul_b c d c1 c2 d1 d2
  have HP := fun W => product_any a b a1 a2 b1 b2 W
  have HQ := fun W => product_any c d c1 c2 d1 d2 W
  generalize a * b = p at *
  generalize c * d = q at *
  have HC := fun W => compare_any p q (by omega) (by omega) (by omega) (by omega) W
  generalize cmpv p q = r at *
  have H1 := Lib.hid HP; have H2 := Lib.hid HQ; have H3 := Lib.hid HC
  clear HP HQ HC hp hq
  go_enter Try.func43, Try.ntmps43
  go_wp2_with fail
  refine (H1.out _).mono ?_; rintro e w' ⟨rfl, o1, rfl⟩
  go_wp2_with fail
  refine (H2.out _).mono ?_; rintro e w' ⟨rfl, o2, rfl⟩
  go_wp2_with fail
  refine (H3.out _).mono ?_; rintro e w2 ⟨rfl, hb2⟩
  go_wp2_with fail
  go_ret
  exact ⟨rfl, bl_tr (bl_al (bl_al (Below.refl _ _) _) _) hb2⟩
end Go.Proofs.Yteoionlnnjcggaa.ar
