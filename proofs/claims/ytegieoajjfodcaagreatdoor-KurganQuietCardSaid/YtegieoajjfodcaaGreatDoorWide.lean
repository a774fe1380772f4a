/-
  The bytes of a rune.
-/
import Derived.Test.YtegieoajjfodcaaGreatDoorStep
namespace Go.Proofs.YtegieoajjfodcaaGreatDoor
open Go.RowKit
set_option linter.unusedVariables false
theorem get_out (s : ByteArray) (k : Nat) (h : s.size ≤ k) : s.get! k = 0 := by
  have : ¬ k < s.data.size := by have : s.data.size = s.size := rfl; omega
  show s.data[k]! = 0
  rw [getElem!_def, Array.getElem?_eq_none (by omega)]
  rfl
set_option maxHeartbeats 2000000 in
theorem decode_bytes (s : ByteArray) (p : Nat) (h : p < s.size) (ha : 128 ≤ (s[p]'h).toNat) : ∀ j, j < (Utf8.decode s p).2 → 128 ≤ (s.get! (p + j)).toNat := by
  have hn : ¬ (s[p]'h).toNat < 128 := by omega
  have h0 : 128 ≤ (s.get! (p + 0)).toNat := by rw [Nat.add_zero, get_of s p h]; exact ha
  intro j hj
  by_cases j0 : j = 0
  · subst j0; exact h0
  · simp only [Utf8.decode, get_at s p h, hn, if_false] at hj
    repeat' split at hj
    all_goals simp_all
    all_goals (try omega)
    all_goals
      have hj3 : j = 1 ∨ j = 2 ∨ j = 3 := by omega
      rcases hj3 with rfl | rfl | rfl <;> omega
theorem wide_le (s : ByteArray) (p : Nat) (h : p < s.size) : p + (Utf8.decode s p).2 ≤ s.size ∧ 1 ≤ (Utf8.decode s p).2 := by
  rcases Nat.lt_or_ge (s[p]'h).toNat 128 with q | q
  · rw [decode_ascii s p h q]; exact ⟨by simp; omega, Nat.le_refl _⟩
  · have h1 := (decode_high s p h q).2
    refine ⟨?_, h1⟩
    have hb := decode_bytes s p h q ((Utf8.decode s p).2 - 1) (by omega)
    rcases Nat.lt_or_ge (p + ((Utf8.decode s p).2 - 1)) s.size with g | g
    · omega
    · have hx : s.get! (p + ((Utf8.decode s p).2 - 1)) = 0 := get_out s _ g
      rw [hx] at hb
      simp at hb
theorem nl_steps {s : ByteArray} {p : Nat} : ∀ k, p + k ≤ s.size → (∀ j, j < k → (s.get! (p + j)).toNat ≠ 10) → nl s p = nl s (p + k)
  | 0, _, _ => rfl
  | k + 1, h1, h2 => by
    rw [nl_steps k (by omega) (fun j hj => h2 j (by omega)), nl_in (p := p + k) (by omega) (h2 k (by omega))]; rfl
/-- a rune that is no new line keeps the line -/
theorem nl_rune {s : ByteArray} {p : Nat} (h : p < s.size) (hr : (Utf8.decode s p).1 ≠ 10) : nl s p = nl s (p + (Utf8.decode s p).2) := by
  refine nl_steps _ (wide_le s p h).1 (fun j hj => ?_)
  rcases Nat.lt_or_ge (s[p]'h).toNat 128 with q | q
  · rw [decode_ascii s p h q] at hj hr
    obtain rfl : j = 0 := by simp at hj; exact hj
    rw [Nat.add_zero, get_of s p h]; exact hr
  · have := decode_bytes s p h q j hj; omega
theorem rune_ten {s : ByteArray} {p : Nat} (h : p < s.size) (hr : (Utf8.decode s p).1 = 10) : (s.get! p).toNat = 10 := by
  rcases Nat.lt_or_ge (s[p]'h).toNat 128 with q | q
  · rw [decode_ascii s p h q] at hr; rw [get_of s p h]; exact hr
  · have := (decode_high s p h q).1; omega
end Go.Proofs.YtegieoajjfodcaaGreatDoor
