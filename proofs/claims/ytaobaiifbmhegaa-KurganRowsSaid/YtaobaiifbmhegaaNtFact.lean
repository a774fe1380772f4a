/-
  The reference's factorial.
-/
import Derived.Test.YtaobaiifbmhegaaNtRank
namespace Go.Proofs.Ytaobaiifbmhegaa.nt
open Go.RowKit
set_option linter.unusedVariables false
def fct : Nat → Int
  | 0 => 1
  | k + 1 => fct k * ((k : Int) + 1)
theorem fct_succ (k : Nat) : fct (k + 1) = fct k * ((k : Int) + 1) := rfl
theorem fct_bd : ∀ k, k < 21 → 1 ≤ fct k ∧ fct k ≤ 2432902008176640000 := by decide +kernel
theorem fct_one : fct 1 = 1 := rfl
theorem fct_zero : fct 0 = 1 := rfl
theorem ff_succ (n k : Nat) : ff n (k + 1) = ff n k * ((n : Int) - k) := by with_unfolding_all rfl
theorem ff_0 (n : Nat) : ff n 0 = 1 := by with_unfolding_all rfl
theorem ff_fct (n : Nat) : ∀ k, k ≤ n → ff n k * fct (n - k) = fct n
  | 0, _ => by rw [ff_0, Nat.sub_zero, Int.one_mul]
  | k + 1, h => by
    rw [← ff_fct n k (by omega), ff_succ, show n - k = (n - (k + 1)) + 1 by omega, fct_succ, show ((n - (k + 1) : Nat) : Int) + 1 = (n : Int) - k by omega, Int.mul_assoc, Int.mul_comm (fct (n - (k + 1)))]
theorem rk_fct (p : List Int) (n a : Nat) (h : a < n) : rk p n (a + 1) * fct (n - (a + 1)) = rk p n a * fct (n - a) + lsc p a (n - (a + 1)) * fct (n - (a + 1)) := by
  rw [rk_succ, Int.add_mul, show n - a = (n - (a + 1)) + 1 by omega, fct_succ, show ((n - (a + 1) : Nat) : Int) + 1 = (n : Int) - a by omega, Int.mul_assoc, Int.mul_comm (fct (n - (a + 1)))]
theorem rk_fct_bd (p : List Int) (n a : Nat) (h : a ≤ n) (hn : n ≤ 20) : 0 ≤ rk p n a * fct (n - a) ∧ rk p n a * fct (n - a) ≤ 2432902008176640000 := by
  have h1 := rk_bd p n a h
  have h2 := fct_bd (n - a) (by omega)
  have h3 := (fct_bd n (by omega)).2
  rw [← ff_fct n a h] at h3
  have m1 := Int.mul_nonneg h1.1 (show 0 ≤ fct (n - a) by omega)
  have m2 := Int.mul_le_mul_of_nonneg_right (show rk p n a ≤ ff n a by omega) (show 0 ≤ fct (n - a) by omega)
  exact ⟨m1, by omega⟩
attribute [irreducible] fct
end Go.Proofs.Ytaobaiifbmhegaa.nt
