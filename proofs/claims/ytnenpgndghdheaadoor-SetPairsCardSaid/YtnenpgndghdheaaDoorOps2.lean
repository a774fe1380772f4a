/-
  What Full, Next, Rank and Has answer.
-/
import Derived.Test.YtnenpgndghdheaaDoorOps
import Derived.Laws.ShiftsVar
namespace Go.Proofs.YtnenpgndghdheaaDoor
open Go.RowKit
set_option linter.unusedVariables false
/-- the lowest bits of a part, so many -/
def lowv (n : Int) : Nat := if n ≤ 0 then 0 else if n < 64 then 2 ^ n.toNat - 1 else 18446744073709551615
theorem lowv_lt (n : Int) : lowv n < 18446744073709551616 := by
  unfold lowv
  split
  · decide
  · split
    · have : 2 ^ n.toNat ≤ 2 ^ 63 := Nat.pow_le_pow_right (by decide) (by omega)
      omega
    · decide
theorem lowv_bit (n : Int) (i : Nat) (hi : i < 64) : (lowv n).testBit i = decide ((i : Int) < n) := by
  unfold lowv
  split
  · rename_i h; rw [Nat.zero_testBit]; simp; omega
  · split
    · rename_i h1 h2
      rw [Nat.testBit_two_pow_sub_one]
      congr 1
      simp only [eq_iff_iff]; omega
    · rename_i h1 h2
      have := Nat.testBit_two_pow_sub_one 64 i
      rw [show (2 : Nat) ^ 64 - 1 = 18446744073709551615 by decide] at this
      rw [this]
      congr 1
      simp only [eq_iff_iff]; omega
theorem low_great (n : Int) (h : 64 ≤ n) (h2 : n ≤ 128) (w : World) :
    Calls Tryd.prog 30 #[.int .i64 n] w fun e w' => e = .returned (.int .u64 18446744073709551615) ∧ w = w' := by
  have hm : max n 0 = n := by omega
  have h4 : ¬ n < 0 := by omega
  have h5 : ¬ n < 64 := by omega
  go_enter Tryd.func30, Tryd.ntmps30
  go_wp2
  all_goals go_ret
  all_goals exact ⟨rfl, rfl⟩
theorem low_all (n : Int) (h2 : n ≤ 128) (w : World) : Calls Tryd.prog 30 #[.int .i64 n] w fun e w' => e = .returned (.int .u64 (lowv n)) ∧ w = w' := by
  by_cases h : n ≤ 0
  · have e : lowv n = 0 := by unfold lowv; rw [if_pos h]
    rw [e]
    exact lowest_neg n h w
  · by_cases h3 : n < 64
    · obtain ⟨m, rfl⟩ : ∃ m : Nat, n = m := ⟨n.toNat, by omega⟩
      have hp : 0 < 2 ^ m := Nat.two_pow_pos m
      have e : ((lowv (m : Int) : Nat) : Int) = 2 ^ m - 1 := by
        unfold lowv
        rw [if_neg h, if_pos h3, Int.toNat_natCast]
        have : (2 : Int) ^ m = ((2 ^ m : Nat) : Int) := by simp
        rw [this]; omega
      rw [e]
      exact lowest_pos m (by omega) w
    · have e : ((lowv n : Nat) : Int) = 18446744073709551615 := by unfold lowv; rw [if_neg h, if_neg h3]; rfl
      rw [e]
      exact low_great n (by omega) h2 w
attribute [irreducible] lowv
end Go.Proofs.YtnenpgndghdheaaDoor
