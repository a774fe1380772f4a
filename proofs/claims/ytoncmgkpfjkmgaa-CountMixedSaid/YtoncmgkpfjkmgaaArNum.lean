/-
  Plain arithmetic for the layer arith: the two halves of a number of 128 bits, divisions, greatest divisors. No program in it. No condition.
-/
import Derived.Test.YtoncmgkpfjkmgaaProg
import Derived.WalkKit
namespace Go.Proofs.Ytoncmgkpfjkmgaa.ar
open Go.RowKit
set_option linter.unusedVariables false

/-! plain numbers -/
def hi64 (x : Int) : Int := x / 18446744073709551616 % 18446744073709551616
def lo64 (x : Int) : Int := x % 18446744073709551616
def fits (x : Int) : Bool := decide (-9223372036854775808 ≤ x ∧ x ≤ 9223372036854775807)
def fitv (x : Int) : Int := if fits x then x else 0
theorem hi64_b (x : Int) : 0 ≤ hi64 x ∧ hi64 x < 18446744073709551616 := by unfold hi64; omega
theorem lo64_b (x : Int) : 0 ≤ lo64 x ∧ lo64 x < 18446744073709551616 := by unfold lo64; omega
theorem fits_yes {x : Int} (h : -9223372036854775808 ≤ x ∧ x ≤ 9223372036854775807) : fits x = true := by unfold fits; exact decide_eq_true h
theorem fits_no {x : Int} (h : ¬ (-9223372036854775808 ≤ x ∧ x ≤ 9223372036854775807)) : fits x = false := by unfold fits; exact decide_eq_false h
theorem fitv_yes {x : Int} (h : -9223372036854775808 ≤ x ∧ x ≤ 9223372036854775807) : fitv x = x := by unfold fitv; rw [fits_yes h]; rfl
theorem fitv_no {x : Int} (h : ¬ (-9223372036854775808 ≤ x ∧ x ≤ 9223372036854775807)) : fitv x = 0 := by unfold fitv; rw [fits_no h]; rfl
theorem hi_add (x y : Int) : (hi64 x + hi64 y + (lo64 x + lo64 y) / 18446744073709551616) % 18446744073709551616 = hi64 (x + y) := by unfold hi64 lo64; omega
theorem lo_add (x y : Int) : (lo64 x + lo64 y) % 18446744073709551616 = lo64 (x + y) := by unfold lo64; omega
theorem wrap_lo (x : Int) (h : -9223372036854775808 ≤ x ∧ x ≤ 9223372036854775807) : wrap64 (lo64 x) = x := by unfold wrap64 lo64; omega
theorem lo_wrap (x : Int) : lo64 (wrap64 (lo64 x)) = lo64 x := by unfold wrap64 lo64; omega
theorem hi_wrap_no (x : Int) (h1 : -170141183460469231731687303715884105728 ≤ x) (h2 : x < 170141183460469231731687303715884105728) (h : ¬ (-9223372036854775808 ≤ x ∧ x ≤ 9223372036854775807)) : ¬ hi64 (wrap64 (lo64 x)) = hi64 x := by
  unfold wrap64 hi64 lo64; omega
theorem wrap64_bd (x : Int) : -9223372036854775808 ≤ wrap64 x ∧ wrap64 x ≤ 9223372036854775807 := by unfold wrap64; omega
theorem hi_shift (a : Int) (h1 : -9223372036854775808 ≤ a) (h2 : a ≤ 9223372036854775807) : IntKind.u64.wrap (a / 9223372036854775808) = hi64 a := by rw [IntKind.wrap_u64]; unfold hi64; omega
theorem lo_conv (a : Int) : IntKind.u64.wrap a = lo64 a := by rw [IntKind.wrap_u64]; rfl
theorem tdiv_up (a b : Int) (hb : 0 < b) (h : 0 ≤ a.tmod b) : a.tdiv b = a / b ∧ a.tmod b = a % b := by
  have e := Int.mul_tdiv_add_tmod a b
  have l : a.tmod b < b := Int.tmod_lt_of_pos a hb
  have u := (Int.ediv_emod_unique (a := a) (b := b) (r := a.tmod b) (q := a.tdiv b) hb).2 ⟨by omega, h, l⟩
  exact ⟨u.1.symm, u.2.symm⟩
theorem tdiv_down (a b : Int) (a1 : -9223372036854775808 ≤ a) (a2 : a ≤ 9223372036854775807) (hb : 0 < b) (h : a.tmod b < 0) : a.tdiv b - 1 = a / b ∧ a.tmod b + b = a % b ∧ -9223372036854775807 ≤ a.tdiv b ∧ -b < a.tmod b ∧ a.tdiv b ≤ 0 := by
  have e := Int.mul_tdiv_add_tmod a b
  have ha : a < 0 := by
    rcases Int.lt_or_le a 0 with h' | h'
    · exact h'
    · have := Int.tmod_nonneg (a := a) b h'; omega
  have l : -b < a.tmod b := by
    have e3 : a.tmod b = -((-a).tmod b) := by rw [Int.neg_tmod]; omega
    have := Int.tmod_lt_of_pos (-a) hb
    omega
  have u := (Int.ediv_emod_unique (a := a) (b := b) (r := a.tmod b + b) (q := a.tdiv b - 1) hb).2 ⟨by rw [Int.mul_sub]; omega, by omega, by omega⟩
  have hz : a / b < 0 := Int.ediv_neg_of_neg_of_pos ha hb
  refine ⟨u.1.symm, u.2.symm, ?_, l, by omega⟩
  have hq : a / b ≥ -9223372036854775808 := by
    have := Int.ediv_le_ediv (c := b) hb a1
    have h2 : (-9223372036854775808 : Int) ≤ -9223372036854775808 / b := by
      apply Int.le_ediv_of_mul_le hb
      omega
    omega
  omega
def gcdv (a b : Int) : Int := if 9223372036854775807 < Nat.gcd a.natAbs b.natAbs then 0 else (Nat.gcd a.natAbs b.natAbs : Int)
theorem size_neg (a : Int) (h : a < 0) (a1 : -9223372036854775808 ≤ a) : IntKind.u64.wrap (-IntKind.u64.wrap a) = a.natAbs := by rw [IntKind.wrap_u64, IntKind.wrap_u64]; omega
theorem size_pos (a : Int) (h : 0 ≤ a) (a2 : a ≤ 9223372036854775807) : a = a.natAbs := by omega
theorem gcdv_comm (a b : Int) : gcdv b a = gcdv a b := by unfold gcdv; rw [Nat.gcd_comm]
theorem gcdv_neg (a b : Int) : gcdv (-a) b = gcdv a b := by unfold gcdv; rw [Int.natAbs_neg]
theorem gcdv_facts (a b : Int) (a1 : -9223372036854775808 ≤ a) (a2 : a ≤ 9223372036854775807) (b1 : -9223372036854775808 ≤ b) (b2 : b ≤ 9223372036854775807)
    (h : ¬ ((a = -9223372036854775808 ∨ a = 0) ∧ (b = -9223372036854775808 ∨ b = 0))) :
    ∃ g : Int, gcdv a b = g ∧ 0 < g ∧ g ≤ 9223372036854775807 ∧ a.tmod g = 0 ∧ b.tmod g = 0 ∧ gcdv (a.tdiv g) (b.tdiv g) = 1 ∧ -9223372036854775808 ≤ a.tdiv g ∧ a.tdiv g ≤ 9223372036854775807 ∧ -9223372036854775808 ≤ b.tdiv g ∧ b.tdiv g ≤ 9223372036854775807 := by
  obtain ⟨G, hG⟩ : ∃ G, G = Nat.gcd a.natAbs b.natAbs := ⟨_, rfl⟩
  have d1 : G ∣ a.natAbs := by rw [hG]; exact Nat.gcd_dvd_left _ _
  have d2 : G ∣ b.natAbs := by rw [hG]; exact Nat.gcd_dvd_right _ _
  have hp : 0 < G := by
    rw [hG]; apply Nat.pos_of_ne_zero; intro h0
    have := Nat.gcd_eq_zero_iff.1 h0
    apply h; omega
  have hle : G ≤ 9223372036854775807 := by
    by_cases ha : a = 0
    · have : G ≤ b.natAbs := Nat.le_of_dvd (by omega) d2
      omega
    · have l1 : G ≤ a.natAbs := Nat.le_of_dvd (by omega) d1
      by_cases hb : b = 0
      · omega
      · have l2 : G ≤ b.natAbs := Nat.le_of_dvd (by omega) d2
        omega
  have hv : gcdv a b = G := by unfold gcdv; rw [← hG, if_neg (by omega)]
  have i1 : (G : Int) ∣ a := Int.ofNat_dvd_left.2 d1
  have i2 : (G : Int) ∣ b := Int.ofNat_dvd_left.2 d2
  have n1 : (a.tdiv G).natAbs = a.natAbs / G := by rw [Int.natAbs_tdiv]; rfl
  have n2 : (b.tdiv G).natAbs = b.natAbs / G := by rw [Int.natAbs_tdiv]; rfl
  have l1 : a.natAbs / G ≤ a.natAbs := Nat.div_le_self _ _
  have l2 : b.natAbs / G ≤ b.natAbs := Nat.div_le_self _ _
  have one : Nat.gcd (a.natAbs / G) (b.natAbs / G) = 1 := by
    rw [hG]; exact Nat.coprime_div_gcd_div_gcd (by rw [← hG]; exact hp)
  have top1 : a.tdiv G ≤ 9223372036854775807 := by
    rcases Int.lt_or_le a 0 with h' | h'
    · have t := Int.tdiv_nonneg (a := -a) (b := G) (by omega) (by omega)
      rw [Int.neg_tdiv] at t
      omega
    · omega
  have top2 : b.tdiv G ≤ 9223372036854775807 := by
    rcases Int.lt_or_le b 0 with h' | h'
    · have t := Int.tdiv_nonneg (a := -b) (b := G) (by omega) (by omega)
      rw [Int.neg_tdiv] at t
      omega
    · omega
  refine ⟨G, hv, by omega, by omega, Int.tmod_eq_zero_of_dvd i1, Int.tmod_eq_zero_of_dvd i2, ?_, by omega, top1, by omega, top2⟩
  unfold gcdv; rw [n1, n2, one]; decide
end Go.Proofs.Ytoncmgkpfjkmgaa.ar
