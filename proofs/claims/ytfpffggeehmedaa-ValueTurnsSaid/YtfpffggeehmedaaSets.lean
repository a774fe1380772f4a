/-
  What the functions of the package set answer that value calls: Of, Full, With, Or.
-/
import Derived.Test.YtfpffggeehmedaaBase
import Derived.Test.YtfpffggeehmedaaMath
import Derived.IntWalk
import Derived.Deep.RegionWith
namespace Go.Proofs.Ytfpffggeehmedaa
open Go.RowKit
set_option linter.unusedVariables false

theorem wrap_pow (k : Nat) (h : k < 64) : IntKind.u64.wrap (2 ^ k) = 2 ^ k := by
  have h1 : 2 ^ k ≤ 2 ^ 63 := Nat.pow_le_pow_right (by decide) (by omega)
  have e : (2 : Int) ^ k = ((2 ^ k : Nat) : Int) := by simp
  rw [e]
  generalize 2 ^ k = m at *
  exact IntWalk.u64_in _ (by omega)
theorem wrap_pow1 (k : Nat) (h : k < 64) : IntKind.u64.wrap (2 ^ k - 1) = 2 ^ k - 1 := by
  have h1 : 2 ^ k ≤ 2 ^ 63 := Nat.pow_le_pow_right (by decide) (by omega)
  have h2 : 0 < 2 ^ k := Nat.two_pow_pos k
  have e : (2 : Int) ^ k = ((2 ^ k : Nat) : Int) := by simp
  rw [e]
  generalize 2 ^ k = m at *
  exact IntWalk.u64_in _ (by omega)
theorem bits_or (x y : Nat) (hx : x < 18446744073709551616) (hy : y < 18446744073709551616) : bits BinOp.or IntKind.u64 x y = ((x ||| y : Nat) : Int) := by
  have h : x ||| y < 2 ^ 64 := Nat.or_lt_two_pow (by simpa using hx) (by simpa using hy)
  show IntKind.u64.wrap (((BitVec.ofInt 64 (x : Int) ||| BitVec.ofInt 64 (y : Int)).toNat : Nat) : Int) = _
  have e : (BitVec.ofInt 64 (x : Int) ||| BitVec.ofInt 64 (y : Int)).toNat = x ||| y := by
    rw [BitVec.toNat_or, BitVec.ofInt_natCast, BitVec.ofInt_natCast, BitVec.toNat_ofNat, BitVec.toNat_ofNat, Nat.mod_eq_of_lt (by simpa using hx), Nat.mod_eq_of_lt (by simpa using hy)]
  rw [e]
  exact IntWalk.u64_in _ (by omega)
/-- the two parts of a set -/
def lo (n : Nat) : Nat := n % 18446744073709551616
def hi (n : Nat) : Nat := n / 18446744073709551616
theorem lo_or (a b : Nat) : lo (a ||| b) = lo a ||| lo b := by
  unfold lo
  have := Nat.or_mod_two_pow (a := a) (b := b) (n := 64)
  simpa using this
theorem hi_or (a b : Nat) : hi (a ||| b) = hi a ||| hi b := by
  unfold hi
  have := Nat.or_div_two_pow (a := a) (b := b) (n := 64)
  simpa using this
theorem lo_lt (a : Nat) : lo a < 18446744073709551616 := Nat.mod_lt _ (by decide)
theorem hi_lt (a : Nat) (h : a < 2 ^ 128) : hi a < 18446744073709551616 := by
  unfold hi
  rw [Nat.div_lt_iff_lt_mul (by decide)]
  simpa using h
theorem lo_hi (a b : Nat) (h1 : lo a = lo b) (h2 : hi a = hi b) : a = b := by
  unfold lo hi at *
  omega
theorem bit_lo (i : Int) (h0 : 0 ≤ i) (h1 : i < 64) : ((lo (bit i) : Nat) : Int) = 2 ^ i.toNat ∧ hi (bit i) = 0 := by
  have h2 : 2 ^ i.toNat ≤ 2 ^ 63 := Nat.pow_le_pow_right (by decide) (by omega)
  have hb : bit i = 2 ^ i.toNat := by unfold bit; rw [if_pos ⟨h0, by omega⟩]
  unfold lo hi
  rw [hb]
  have e : (2 : Int) ^ i.toNat = ((2 ^ i.toNat : Nat) : Int) := by simp
  rw [e]
  constructor
  · rw [Nat.mod_eq_of_lt (by omega)]
  · omega
theorem bit_hi (i : Int) (h0 : 64 ≤ i) (h1 : i < 128) : lo (bit i) = 0 ∧ ((hi (bit i) : Nat) : Int) = 2 ^ (i % 64).toNat := by
  have hb : bit i = 2 ^ i.toNat := by unfold bit; rw [if_pos ⟨by omega, by omega⟩]
  have e2 : i.toNat = 64 + (i % 64).toNat := by omega
  have e3 : 2 ^ (64 + (i % 64).toNat) = 18446744073709551616 * 2 ^ (i % 64).toNat := by rw [Nat.pow_add]
  unfold lo hi
  rw [hb, e2, e3]
  constructor
  · omega
  · rw [Nat.mul_div_cancel_left _ (by decide)]; simp
theorem bit_no (i : Int) (h : i < 0 ∨ 128 ≤ i) : lo (bit i) = 0 ∧ hi (bit i) = 0 := by
  have hb : bit i = 0 := by unfold bit; rw [if_neg (by omega)]
  rw [hb]; exact ⟨rfl, rfl⟩
theorem full_lo (n : Nat) (h : n < 64) : ((lo (2 ^ n - 1) : Nat) : Int) = 2 ^ n - 1 ∧ hi (2 ^ n - 1) = 0 := by
  have h2 : 2 ^ n ≤ 2 ^ 63 := Nat.pow_le_pow_right (by decide) (by omega)
  have h3 : 0 < 2 ^ n := Nat.two_pow_pos n
  have e : (2 : Int) ^ n = ((2 ^ n : Nat) : Int) := by simp
  unfold lo hi
  rw [e]
  omega
attribute [irreducible] lo hi
theorem single_any (i : Int) (w : World) :
    Calls Try.prog 40 #[.int .i64 i] w fun e w' => e = .returned (.agg #[.int .u64 (lo (bit i)), .int .u64 (hi (bit i))]) ∧ Below w.heap.size w w' := by
  by_cases hn : i < 0 ∨ 128 ≤ i
  · obtain ⟨e1, e2⟩ := bit_no i hn
    rw [e1, e2]
    clear e1 e2
    rcases hn with h0 | h0
    · go_enter Try.func40, Try.ntmps40
      go_wp2
      exact bodyPost_ret (v := .agg #[.int .u64 0, .int .u64 0]) (by simp [results, Try.results40, go_sem]) rfl ⟨rfl, bl_al (bl_al (Below.refl _ _) _) _⟩
    · have h3 : 0 ≤ i := by omega
      go_enter Try.func40, Try.ntmps40
      go_wp2
      exact bodyPost_ret (v := .agg #[.int .u64 0, .int .u64 0]) (by simp [results, Try.results40, go_sem]) rfl ⟨rfl, bl_al (bl_al (Below.refl _ _) _) _⟩
  · by_cases h6 : i < 64
    · have h0 : 0 ≤ i := by omega
      obtain ⟨e1, e2⟩ := bit_lo i h0 h6
      rw [e1, e2]
      clear e1 e2 hn
      have hq : i / 64 = 0 := by omega
      have hr : i % 64 = i := by omega
      have hw := wrap_pow i.toNat (by omega)
      go_enter Try.func40, Try.ntmps40
      go_wp2
      exact bodyPost_ret (v := .agg #[.int .u64 (2 ^ i.toNat), .int .u64 0]) (by simp [results, Try.results40, go_sem]) rfl ⟨rfl, bl_al (bl_al (Below.refl _ _) _) _⟩
    · have h0 : 64 ≤ i := by omega
      have h1 : i < 128 := by omega
      obtain ⟨e1, e2⟩ := bit_hi i h0 h1
      rw [e1, e2]
      clear e1 e2 hn h6
      have hq : i / 64 = 1 := by omega
      have hw := wrap_pow (i % 64).toNat (by omega)
      have h3 : 0 ≤ i := by omega
      go_enter Try.func40, Try.ntmps40
      go_wp2
      exact bodyPost_ret (v := .agg #[.int .u64 0, .int .u64 (2 ^ (i % 64).toNat)]) (by simp [results, Try.results40, go_sem]) rfl ⟨rfl, bl_al (bl_al (Below.refl _ _) _) _⟩
theorem or_any (a b : Nat) (ha : a < 2 ^ 128) (hb : b < 2 ^ 128) (w : World) :
    Calls Try.prog 39 #[.agg #[.int .u64 (lo a), .int .u64 (hi a)], .agg #[.int .u64 (lo b), .int .u64 (hi b)]] w fun e w' => e = .returned (.agg #[.int .u64 (lo (a ||| b)), .int .u64 (hi (a ||| b))]) ∧ Below w.heap.size w w' := by
  have e1 := bits_or (lo a) (lo b) (lo_lt a) (lo_lt b)
  have e2 := bits_or (hi a) (hi b) (hi_lt a ha) (hi_lt b hb)
  rw [← lo_or] at e1
  rw [← hi_or] at e2
  generalize lo (a ||| b) = r0 at *
  generalize hi (a ||| b) = r1 at *
  clear ha hb
  go_enter Try.func39, Try.ntmps39
  go_wp2
  exact bodyPost_ret (v := .agg #[.int .u64 r0, .int .u64 r1]) (by simp [results, Try.results39, go_sem]) rfl ⟨rfl, bl_al (bl_al (bl_al (Below.refl _ _) _) _) _⟩
theorem lowest_neg (i : Int) (hi : i ≤ 0) (w : World) :
    Calls Try.prog 38 #[.int .i64 i] w fun e w' => e = .returned (.int .u64 0) ∧ w = w' := by
  have hm : max i 0 = 0 := by omega
  go_enter Try.func38, Try.ntmps38
  go_wp2
  all_goals
    go_ret
    exact ⟨by first | rfl | (rw [show i = 0 by omega]; rfl), rfl⟩
theorem lowest_pos (n : Nat) (hn : n < 64) (w : World) :
    Calls Try.prog 38 #[.int .i64 n] w fun e w' => e = .returned (.int .u64 (2 ^ n - 1)) ∧ w = w' := by
  have e1 := wrap_pow n hn
  have e2 := wrap_pow1 n hn
  have h4 : (0 : Int) ≤ n := by omega
  go_enter Try.func38, Try.ntmps38
  go_wp2
  go_ret
  exact ⟨rfl, rfl⟩
theorem full_any (n : Nat) (hn : n < 64) (w : World) :
    Calls Try.prog 34 #[.int .i64 n] w fun e w' => e = .returned (.agg #[.int .u64 (lo (2 ^ n - 1)), .int .u64 (hi (2 ^ n - 1))]) ∧ Below w.heap.size w w' := by
  obtain ⟨e1, e2⟩ := full_lo n hn
  rw [e1, e2]
  clear e1 e2
  have L1 := Lib.hid (fun W => lowest_pos n hn W)
  have L2 := Lib.hid (fun W => lowest_neg ((n : Int) - 64) (by omega) W)
  have m1 : max (n : Int) 0 = n := by omega
  have m2 : min (n : Int) 128 = n := by omega
  go_enter Try.func34, Try.ntmps34
  go_wp2_with fail
  refine (L1.out _).mono ?_; rintro e w1 ⟨rfl, rfl⟩
  go_wp2_with fail
  refine (L2.out _).mono ?_; rintro e w1 ⟨rfl, rfl⟩
  go_wp2
  exact bodyPost_ret (v := .agg #[.int .u64 (2 ^ n - 1), .int .u64 0]) (by simp [results, Try.results34, go_sem]) rfl ⟨rfl, bl_al (Below.refl _ _) _⟩
end Go.Proofs.Ytfpffggeehmedaa
