/-
  What a problem in form is: plain mathematics.
-/
import Derived.Test.YteoionlnnjcggaaChk4
namespace Go.Proofs.Yteoionlnnjcggaa
set_option linter.unusedVariables false
/-- a number of a list -/
def nth (l : List Int) (j : Nat) : Int := l[j]?.getD 0
/-! what a valid problem's numbers are -/
theorem num_zero {n : Int} : num n = 0 ↔ 0 ≤ n ∧ n ≤ 2147483647 := by
  unfold num
  constructor
  · intro h
    split at h
    · omega
    · split at h
      · omega
      · omega
  · rintro ⟨h1, h2⟩
    rw [if_neg (by omega), if_neg (by omega)]
theorem items_ok : ∀ (wl vl : List Int), wl.length = vl.length → itemsE wl vl = 0 → ∀ j, j < wl.length → (0 ≤ nth wl j ∧ nth wl j ≤ 2147483647) ∧ (0 ≤ nth vl j ∧ nth vl j ≤ 2147483647)
  | [], _, _, _, j, hj => absurd hj (by simp)
  | a :: wl, [], h, _, j, hj => by simp at h
  | a :: wl, b :: vl, h, he, j, hj => by
    unfold itemsE at he
    split at he
    · rename_i h1
      split at he
      · rename_i h2
        cases j with
        | zero => exact ⟨num_zero.1 h1, num_zero.1 h2⟩
        | succ j =>
          have := items_ok wl vl (by simpa using h) he j (by simpa using hj)
          simpa [nth] using this
      · exact absurd he (by assumption)
    · exact absurd he (by assumption)
theorem row_ok (K : Int) (a : Nat) : ∀ (r : List Int) (b : Nat), rowE K a b r = 0 → ∀ j, j < r.length → (0 ≤ nth r j ∧ nth r j ≤ 2147483647) ∧ (K = 3 → a = b + j → nth r j = 0)
  | [], b, _, j, hj => absurd hj (by simp)
  | x :: r, b, he, j, hj => by
    unfold rowE at he
    split at he
    · rename_i h1
      split at he
      · cases he
      · rename_i h2
        cases j with
        | zero =>
          refine ⟨num_zero.1 h1, fun hk ha => ?_⟩
          exact Classical.byContradiction fun hx => h2 ⟨hk, by omega, hx⟩
        | succ j =>
          have := row_ok K a r (b + 1) he j (by simpa using hj)
          refine ⟨by simpa [nth] using this.1, fun hk ha => ?_⟩
          have := this.2 hk (by omega)
          simpa [nth] using this
    · exact absurd he (by assumption)
theorem cost_ok (K : Int) : ∀ (cl : List (List Int)) (a : Nat), costE K a cl = 0 → ∀ j, j < cl.length → rowE K (a + j) 0 (cl[j]?.getD []) = 0
  | [], a, _, j, hj => absurd hj (by simp)
  | r :: cl, a, he, j, hj => by
    unfold costE at he
    split at he
    · rename_i h1
      cases j with
      | zero => simpa using h1
      | succ j =>
        have := cost_ok K cl (a + 1) he j (by simpa using hj)
        have e : a + 1 + j = a + (j + 1) := by omega
        rw [e] at this
        simpa using this
    · exact absurd he (by assumption)
/-- a valid problem -/
theorem chk_zero {K N C : Int} {wl vl : List Int} {cl : List (List Int)} (h : chk K N C wl vl cl = 0) :
    1 ≤ N ∧ ((K = 1 ∧ N ≤ 64 ∧ (wl.length : Int) = N ∧ (vl.length : Int) = N ∧ cl.length = 0 ∧ (0 ≤ C ∧ C ≤ 2147483647) ∧ itemsE wl vl = 0) ∨
      ((K = 2 ∨ K = 3) ∧ N ≤ 24 ∧ (cl.length : Int) = N ∧ C = 0 ∧ wl.length = 0 ∧ vl.length = 0 ∧ rowsP cl ∧ costE K 0 cl = 0)) := by
  by_cases hK : K < 1 ∨ 3 < K
  · rw [chk_kind hK] at h; cases h
  · by_cases h1 : N < 1
    · rw [chk_arg hK h1] at h; cases h
    · by_cases h2 : (K = 1 ∧ 64 < N) ∨ (K ≠ 1 ∧ 24 < N)
      · rw [chk_big hK h1 h2] at h; cases h
      · by_cases h3 : formP K N C wl.length vl.length cl
        · by_cases h4 : K = 1
          · rw [chk_items hK h1 h2 h3 h4] at h
            obtain ⟨f1, f2, f3⟩ := form_items h3 h4
            split at h
            · rename_i hC
              exact ⟨by omega, Or.inl ⟨h4, by omega, f1, f2, f3, num_zero.1 hC, h⟩⟩
            · exact absurd h (by assumption)
          · rw [chk_costs hK h1 h2 h3 h4] at h
            obtain ⟨f1, f2, f3, f4, f5⟩ := form_costs h3 h4
            exact ⟨by omega, Or.inr ⟨by omega, by omega, f1, f2, f3, f4, f5, h⟩⟩
        · rw [chk_form hK h1 h2 h3] at h; cases h
end Go.Proofs.Yteoionlnnjcggaa
