/-
  An error's number is not below nought.
-/
import Derived.Test.YtfpffggeehmedaaBd
namespace Go.Proofs.Ytfpffggeehmedaa
set_option linter.unusedVariables false

theorem num_nn (n : Int) : 0 ≤ num n := by
  unfold num
  split
  · omega
  · split <;> omega
theorem itemsE_nn : ∀ wl vl : List Int, 0 ≤ itemsE wl vl
  | [], _ => by unfold itemsE; omega
  | _ :: _, [] => by unfold itemsE; omega
  | a :: wl, b :: vl => by
    unfold itemsE
    have := itemsE_nn wl vl
    have := num_nn a
    have := num_nn b
    split
    · split <;> assumption
    · assumption
theorem rowE_nn (K : Int) (a : Nat) : ∀ (r : List Int) (b : Nat), 0 ≤ rowE K a b r
  | [], b => by unfold rowE; omega
  | x :: r, b => by
    unfold rowE
    have := rowE_nn K a r (b + 1)
    have := num_nn x
    split
    · split
      · omega
      · assumption
    · assumption
theorem costE_nn (K : Int) : ∀ (cl : List (List Int)) (a : Nat), 0 ≤ costE K a cl
  | [], a => by unfold costE; omega
  | r :: cl, a => by
    unfold costE
    have := costE_nn K cl (a + 1)
    have := rowE_nn K a r 0
    split <;> assumption
theorem chk_nn (K N C : Int) (wl vl : List Int) (cl : List (List Int)) : 0 ≤ chk K N C wl vl cl := by
  by_cases hK : K < 1 ∨ 3 < K
  · rw [chk_kind hK]; decide
  · by_cases h1 : N < 1
    · rw [chk_arg hK h1]; decide
    · by_cases h2 : (K = 1 ∧ 64 < N) ∨ (K ≠ 1 ∧ 24 < N)
      · rw [chk_big hK h1 h2]; decide
      · by_cases h3 : formP K N C wl.length vl.length cl
        · by_cases h4 : K = 1
          · rw [chk_items hK h1 h2 h3 h4]
            have := num_nn C
            have := itemsE_nn wl vl
            split <;> assumption
          · rw [chk_costs hK h1 h2 h3 h4]; exact costE_nn K cl 0
        · rw [chk_form hK h1 h2 h3]; decide
theorem err_nn (K N C : Int) (wl vl : List Int) (cl : List (List Int)) (x : List Int) : 0 ≤ (costR K N C wl vl cl x).2 := by
  by_cases hc : chk K N C wl vl cl = 0
  · by_cases ho : okx K N x
    · rcases (show K = 1 ∨ K = 2 ∨ K = 3 by rcases (chk_zero hc).2 with z | z <;> omega) with rfl | rfl | rfl
      · rw [cost_items hc ho]; unfold itemsR; split <;> simp
      · rw [cost_rows hc ho]; simp
      · rw [cost_ways hc ho]; simp
    · rw [cost_arg hc ho]; simp
  · rw [cost_bad hc]; exact chk_nn _ _ _ _ _ _
end Go.Proofs.Ytfpffggeehmedaa
