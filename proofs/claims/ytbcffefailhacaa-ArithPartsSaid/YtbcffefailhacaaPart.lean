/-
  What arith.Part answers: the whole part of a product divided, or that there is none.
-/
import Derived.Test.YtbcffefailhacaaDiv
import Derived.Test.YtbcffefailhacaaRefZ
namespace Go.Proofs.Ytbcffefailhacaa
open Go.RowKit
set_option linter.unusedVariables false

theorem div_facts (hi lo y : Nat) (h1 : hi < y) (h2 : y < 9223372036854775808) (h3 : lo < 18446744073709551616) (hz : hi ≠ 0) (w : World) :
    Calls Try.prog 40 #[.int .u64 hi, .int .u64 lo, .int .u64 y] w fun e w' => (∃ r : Int, e = .returned (.tuple #[.int .u64 (((hi * 18446744073709551616 + lo) / y : Nat) : Int), .int .u64 r])) ∧ w = w' := by
  obtain ⟨L, hL⟩ : ∃ L, Lib.bitLen y = L := ⟨_, rfl⟩
  have B := Lib.bitLenAux_bounds 64 y (by omega) (by omega)
  rw [show Lib.bitLenAux 64 y = L from hL] at B
  obtain ⟨L1, L2, L3⟩ := B
  have L63 : L ≤ 63 := by rw [← hL]; exact Lib.bitLen_le y 63 (by omega) (by omega)
  obtain ⟨s, hs⟩ : ∃ s, 64 - L = s := ⟨_, rfl⟩
  have s1 : 1 ≤ s := by omega
  have s63 : s ≤ 63 := by omega
  have p64 : 2 ^ L * 2 ^ s = 18446744073709551616 := by rw [← Nat.pow_add, show L + s = 64 by omega]
  have p63 : 2 ^ (L - 1) * 2 ^ s = 9223372036854775808 := by rw [← Nat.pow_add, show L - 1 + s = 63 by omega]
  have p64' : 2 ^ (64 - s) * 2 ^ s = 18446744073709551616 := by rw [← Nat.pow_add, show 64 - s + s = 64 by omega]
  have ps := Nat.two_pow_pos s
  have y_hi : y * 2 ^ s < 18446744073709551616 := by rw [← p64]; exact Nat.mul_lt_mul_of_pos_right L3 ps
  have y_lo : 9223372036854775808 ≤ y * 2 ^ s := by rw [← p63]; exact Nat.mul_le_mul_right _ L2
  have hh : hi * 2 ^ s + 2 ^ s ≤ y * 2 ^ s := by rw [← Nat.succ_mul]; exact Nat.mul_le_mul_right _ h1
  have l1s : lo / 2 ^ (64 - s) < 2 ^ s := by
    refine Nat.div_lt_of_lt_mul ?_
    rw [p64']; exact h3
  have elo : lo * 2 ^ s = lo / 2 ^ (64 - s) * 18446744073709551616 + lo * 2 ^ s % 18446744073709551616 := by
    have e := Nat.div_add_mod (lo * 2 ^ s) 18446744073709551616
    have e2 : lo * 2 ^ s / 18446744073709551616 = lo / 2 ^ (64 - s) := by rw [← p64']; exact Nat.mul_div_mul_right _ _ ps
    rw [e2, Nat.mul_comm] at e
    exact e.symm
  have orr : hi * 2 ^ s ||| lo / 2 ^ (64 - s) = hi * 2 ^ s + lo / 2 ^ (64 - s) := by
    rw [← Nat.shiftLeft_eq]
    exact (Nat.shiftLeft_add_eq_or_of_lt l1s hi).symm
  have cY : ((y * 2 ^ s : Nat) : Int) = (y : Int) * 2 ^ s := by simp
  have cH : ((hi * 2 ^ s : Nat) : Int) = (hi : Int) * 2 ^ s := by simp
  have cL : ((lo * 2 ^ s : Nat) : Int) = (lo : Int) * 2 ^ s := by simp
  have c1 : ((lo / 2 ^ (64 - s) : Nat) : Int) = (lo : Int) / 2 ^ (64 - s) := by simp
  have hN : (hi * 18446744073709551616 + lo) * 2 ^ s = (hi * 2 ^ s + lo / 2 ^ (64 - s)) * 18446744073709551616 + lo * 2 ^ s % 18446744073709551616 := by
    rw [Nat.add_mul, Nat.add_mul, Nat.add_assoc, ← elo]
    rw [Nat.mul_assoc, Nat.mul_comm 18446744073709551616, ← Nat.mul_assoc]
  have W := Dv.whole (N := hi * 18446744073709551616 + lo) (s := s) (y := y) (u := hi * 2 ^ s + lo / 2 ^ (64 - s)) (ln := lo * 2 ^ s % 18446744073709551616) (d1 := lo * 2 ^ s % 18446744073709551616 / 4294967296) (d0 := lo * 2 ^ s % 18446744073709551616 % 4294967296)
    (by omega) hN (by omega) rfl rfl
  rw [W]
  have ey := Nat.div_add_mod (y * 2 ^ s) 4294967296
  generalize hyn : y * 2 ^ s = yn at *
  generalize hhs : hi * 2 ^ s = hsn at *
  generalize hl1 : lo / 2 ^ (64 - s) = l1 at *
  generalize hls : lo * 2 ^ s = ls at *
  refine div64_core hi lo y s yn (yn / 4294967296) (yn % 4294967296) hsn l1 (hsn + l1) (ls % 18446744073709551616) (ls % 18446744073709551616 / 4294967296) (ls % 18446744073709551616 % 4294967296) h1 h2 h3 s1 s63
    (by rw [hL]; omega) (by simp; exact hz) ?_ ?_ ?_ c1.symm ?_ ?_ ?_ ?_ ?_ (Lib.hid (by omega)) (by omega) (by omega) (by omega) (Lib.hid (by omega)) (by omega) (by omega) w
  · rw [← cY, IntKind.wrap_u64]; omega
  · have h := bits_and_u64_nat yn 4294967295 (by omega) (by omega)
    rw [Nat.and_two_pow_sub_one_eq_mod yn 32] at h
    exact h
  · rw [← cH, IntKind.wrap_u64]; omega
  · have h := bits_or_u64_nat hsn l1 (by omega) (by omega)
    rw [orr] at h
    exact h
  · rw [← cL, IntKind.wrap_u64]; omega
  · omega
  · have h := bits_and_u64_nat (ls % 18446744073709551616) 4294967295 (by omega) (by omega)
    rw [Nat.and_two_pow_sub_one_eq_mod (ls % 18446744073709551616) 32] at h
    exact h
  · omega
theorem div_nought (lo y : Nat) (h1 : 0 < y) (h2 : y < 9223372036854775808) (h3 : lo < 18446744073709551616) (w : World) :
    Calls Try.prog 40 #[.int .u64 0, .int .u64 lo, .int .u64 y] w fun e w' => (∃ r : Int, e = .returned (.tuple #[.int .u64 ((lo / y : Nat) : Int), .int .u64 r])) ∧ Below w.heap.size w w' := by
  have hy0 : ((y : Int) == 0) = false := by simp; omega
  have hq : (lo : Int) / (y : Int) = ((lo / y : Nat) : Int) := (Int.natCast_ediv lo y).symm
  have hq2 : lo / y < 18446744073709551616 := Nat.lt_of_le_of_lt (Nat.div_le_self lo y) h3
  generalize lo / y = q at *
  go_enter Try.func40, Try.ntmps40
  go_wp2
  go_region
  all_goals
    go_wp2
    go_ret2
    exact ⟨⟨_, retq rfl⟩, Below.drew (Below.refl _ _)⟩
theorem div64_any (hi lo y : Nat) (h1 : hi < y) (h2 : y < 9223372036854775808) (h3 : lo < 18446744073709551616) (w : World) :
    Calls Try.prog 40 #[.int .u64 hi, .int .u64 lo, .int .u64 y] w fun e w' => (∃ r : Int, e = .returned (.tuple #[.int .u64 (((hi * 18446744073709551616 + lo) / y : Nat) : Int), .int .u64 r])) ∧ Below w.heap.size w w' := by
  by_cases hz : hi = 0
  · subst hz
    rw [Nat.zero_mul, Nat.zero_add]
    exact div_nought lo y h1 h2 h3 w
  · refine (div_facts hi lo y h1 h2 h3 hz w).mono fun e w' ⟨h, k⟩ => ⟨h, ?_⟩
    subst k
    exact Below.refl _ _

def partv (a b c : Int) : Int × Bool := if a < 0 ∨ b < 0 ∨ c ≤ 0 then (0, false) else if a * b / c ≤ 9223372036854775807 then (a * b / c, true) else (0, false)
theorem part_none (a b c : Int) (h : a < 0 ∨ b < 0 ∨ c ≤ 0) (w : World) : Calls Try.prog 24 #[.int .i64 a, .int .i64 b, .int .i64 c] w fun e w' => e = .returned (.tuple #[.int .i64 0, .bool false]) ∧ Below w.heap.size w w' := by
  rcases Int.lt_or_le a 0 with h1 | h1
  · clear h
    go_enter Try.func24, Try.ntmps24
    go_wp2
    go_ret2
    exact ⟨rfl, Below.refl _ _⟩
  · rcases Int.lt_or_le b 0 with h2 | h2
    · clear h
      go_enter Try.func24, Try.ntmps24
      go_wp2
      go_ret2
      exact ⟨rfl, Below.refl _ _⟩
    · have h3 : c ≤ 0 := by omega
      clear h
      go_enter Try.func24, Try.ntmps24
      go_wp2
      go_ret2
      exact ⟨rfl, Below.refl _ _⟩
theorem part_some (a b c : Nat) (ha : a < 9223372036854775808) (hb : b < 9223372036854775808) (hc : c < 9223372036854775808) (hc0 : 0 < c) (w : World) :
    Calls Try.prog 24 #[.int .i64 a, .int .i64 b, .int .i64 c] w fun e w' => (e = if a * b / c < 9223372036854775808 then .returned (.tuple #[.int .i64 ((a * b / c : Nat) : Int), .bool true]) else .returned (.tuple #[.int .i64 0, .bool false])) ∧ Below w.heap.size w w' := by
  have HM := Lib.hid (fun W => Try.bits_Mul64 a b (by omega) (by omega) W)
  have hN := Nat.div_add_mod (a * b) 18446744073709551616
  have hlo : a * b % 18446744073709551616 < 18446744073709551616 := Nat.mod_lt _ (by omega)
  rw [Nat.mul_comm] at hN
  have hab : a * b ≤ 9223372036854775808 * 9223372036854775808 := Nat.mul_le_mul (by omega) (by omega)
  generalize a * b = N at *
  generalize hhi : N / 18446744073709551616 = hi at *
  generalize N % 18446744073709551616 = lo at *
  by_cases hge : c ≤ hi
  · have E : ¬ N / c < 9223372036854775808 := by
      intro hlt
      have := (Nat.div_lt_iff_lt_mul hc0).1 hlt
      omega
    rw [if_neg E]
    have hhb : hi < 18446744073709551616 := by omega
    clear hN hhi E hab
    go_enter Try.func24, Try.ntmps24
    go_wp2_with fail
    refine (HM.out _).mono ?_; rintro e w1 ⟨rfl, rfl⟩
    go_wp2
    go_ret2
    exact ⟨rfl, Below.refl _ _⟩
  · have HD := fun W => div64_any hi lo c (by omega) hc hlo W
    rw [hN] at HD
    have HDh := Lib.hid HD
    have hqb : N / c < 18446744073709551616 := by
      refine (Nat.div_lt_iff_lt_mul hc0).2 ?_
      have : (hi + 1) * 18446744073709551616 ≤ c * 18446744073709551616 := Nat.mul_le_mul_right _ (by omega)
      omega
    generalize N / c = q at *
    clear HD hN hhi hab
    by_cases hq : q < 9223372036854775808
    · rw [if_pos hq]
      go_enter Try.func24, Try.ntmps24
      go_wp2_with fail
      refine (HM.out _).mono ?_; rintro e w1 ⟨rfl, rfl⟩
      go_wp2_with fail
      refine (HDh.out _).mono ?_; rintro e w2 ⟨⟨r, rfl⟩, hb1⟩
      go_wp2
      go_ret2
      exact ⟨rfl, hb1⟩
    · rw [if_neg hq]
      go_enter Try.func24, Try.ntmps24
      go_wp2_with fail
      refine (HM.out _).mono ?_; rintro e w1 ⟨rfl, rfl⟩
      go_wp2_with fail
      refine (HDh.out _).mono ?_; rintro e w2 ⟨⟨r, rfl⟩, hb1⟩
      go_wp2
      go_ret2
      exact ⟨rfl, hb1⟩
end Go.Proofs.Ytbcffefailhacaa
