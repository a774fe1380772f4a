/-
  What order.Rank answers.
-/
import Derived.Test.YtaobaiifbmhegaaNtIs2
namespace Go.Proofs.Ytaobaiifbmhegaa.nt
open Go.RowKit
set_option linter.unusedVariables false

/-- how many of the m numbers behind place k are less than that at k -/
def lsc (p : List Int) (k : Nat) : Nat → Int
  | 0 => 0
  | m + 1 => lsc p k m + (if nth p (k + 1 + m) < nth p k then 1 else 0)
def rk (p : List Int) (n : Nat) : Nat → Int
  | 0 => 0
  | k + 1 => rk p n k * ((n : Int) - k) + lsc p k (n - (k + 1))
def ff (n : Nat) : Nat → Int
  | 0 => 1
  | k + 1 => ff n k * ((n : Int) - k)
theorem lsc_zero (p : List Int) (k : Nat) : lsc p k 0 = 0 := rfl
theorem lsc_yes (p : List Int) (k m : Nat) (h : nth p (k + 1 + m) < nth p k) : lsc p k (m + 1) = lsc p k m + 1 := by simp only [lsc]; rw [if_pos h]
theorem lsc_no (p : List Int) (k m : Nat) (h : ¬ nth p (k + 1 + m) < nth p k) : lsc p k (m + 1) = lsc p k m := by simp only [lsc]; rw [if_neg h, Int.add_zero]
theorem lsc_bd (p : List Int) (k : Nat) : ∀ m, 0 ≤ lsc p k m ∧ lsc p k m ≤ m
  | 0 => by rw [lsc_zero]; omega
  | m + 1 => by
    have := lsc_bd p k m
    by_cases h : nth p (k + 1 + m) < nth p k
    · rw [lsc_yes p k m h]; omega
    · rw [lsc_no p k m h]; omega
theorem rk_zero (p : List Int) (n : Nat) : rk p n 0 = 0 := rfl
theorem rk_succ (p : List Int) (n k : Nat) : rk p n (k + 1) = rk p n k * ((n : Int) - k) + lsc p k (n - (k + 1)) := rfl
theorem rk_bd (p : List Int) (n : Nat) : ∀ k, k ≤ n → 0 ≤ rk p n k ∧ rk p n k + 1 ≤ ff n k
  | 0, _ => by rw [rk_zero]; exact ⟨by omega, by show (0 : Int) + 1 ≤ 1; omega⟩
  | k + 1, hk => by
    obtain ⟨h1, h2⟩ := rk_bd p n k (by omega)
    have l := lsc_bd p k (n - (k + 1))
    have m1 := Int.mul_nonneg h1 (show 0 ≤ (n : Int) - k by omega)
    have m2 := Int.mul_le_mul_of_nonneg_right h2 (show 0 ≤ (n : Int) - k by omega)
    rw [Int.add_mul, Int.one_mul] at m2
    rw [rk_succ]
    refine ⟨by omega, ?_⟩
    show _ ≤ ff n k * ((n : Int) - k)
    omega
theorem ff_le : ∀ n, n < 21 → ∀ k, k < 21 → k ≤ n → ff n k ≤ 2432902008176640000 := by decide +kernel
theorem rk_all (p : List Int) (n k : Nat) (hn : n ≤ 20) (hk : k < n) : 0 ≤ rk p n k * ((n : Int) - k) ∧ rk p n k * ((n : Int) - k) ≤ 2432902008176640000 ∧ 0 ≤ rk p n k ∧ rk p n k ≤ 2432902008176640000 := by
  have a := rk_bd p n k (by omega)
  have b := rk_bd p n (k + 1) (by omega)
  have c := ff_le n (by omega) (k + 1) (by omega) (by omega)
  have d := ff_le n (by omega) k (by omega) (by omega)
  have l := lsc_bd p k (n - (k + 1))
  have m1 := Int.mul_nonneg a.1 (show 0 ≤ (n : Int) - k by omega)
  rw [rk_succ] at b
  exact ⟨m1, by omega, a.1, by omega⟩
attribute [irreducible] lsc rk ff
open Classical in
/-- what Rank answers -/
noncomputable def rankR (p : List Int) : Int × Int := if ¬ isP p then (0, 1) else if 20 < p.length then (0, 5) else (rk p p.length p.length, 0)
theorem rank_bad {p : List Int} (h : ¬ isP p) : rankR p = (0, 1) := by unfold rankR; rw [if_pos h]
theorem rank_big {p : List Int} (h : isP p) (h2 : 20 < p.length) : rankR p = (0, 5) := by unfold rankR; rw [if_neg (by simp [h]), if_pos h2]
theorem rank_ok {p : List Int} (h : isP p) (h2 : ¬ 20 < p.length) : rankR p = (rk p p.length p.length, 0) := by unfold rankR; rw [if_neg (by simp [h]), if_neg h2]
attribute [irreducible] rankR
end Go.Proofs.Ytaobaiifbmhegaa.nt
