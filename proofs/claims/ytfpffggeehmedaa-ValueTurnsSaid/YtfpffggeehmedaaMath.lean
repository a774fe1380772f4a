/-
  Numbers of 128 bits as sets, and orders: plain mathematics.
-/
import Derived.WalkKit
namespace Go.Proofs.Ytfpffggeehmedaa
set_option linter.unusedVariables false

/-- the one number's set -/
def bit (i : Int) : Nat := if 0 ≤ i ∧ i < 128 then 2 ^ i.toNat else 0
def ofS (s : Nat) (l : List Int) : Nat := l.foldl (fun s i => s ||| bit i) s
theorem ofS_nil (s : Nat) : ofS s [] = s := rfl
theorem ofS_cons (s : Nat) (x : Int) (l : List Int) : ofS s (x :: l) = ofS (s ||| bit x) l := rfl
theorem bit_lt (i : Int) : bit i < 2 ^ 128 := by
  unfold bit
  split
  · exact Nat.pow_lt_pow_right (by decide) (by omega)
  · exact Nat.two_pow_pos _
theorem ofS_lt : ∀ (l : List Int) (s : Nat), s < 2 ^ 128 → ofS s l < 2 ^ 128
  | [], s, h => h
  | x :: l, s, h => ofS_lt l _ (Nat.or_lt_two_pow h (bit_lt x))
theorem bit_test (i : Int) (j : Nat) (hj : j < 128) : (bit i).testBit j = decide (i = (j : Int)) := by
  unfold bit
  split
  · rename_i h
    rw [Nat.testBit_two_pow]
    congr 1
    simp only [eq_iff_iff]; omega
  · rename_i h
    rw [Nat.zero_testBit]
    symm; simp; omega
theorem ofS_test : ∀ (l : List Int) (s : Nat) (j : Nat), j < 128 → (ofS s l).testBit j = (s.testBit j || decide ((j : Int) ∈ l))
  | [], s, j, hj => by simp [ofS_nil]
  | x :: l, s, j, hj => by
    rw [ofS_cons, ofS_test l _ j hj, Nat.testBit_or, bit_test x j hj]
    by_cases h : x = (j : Int)
    · subst h; simp
    · have h' : ¬ (j : Int) = x := fun e => h e.symm
      simp [h, h']
theorem full_test (n j : Nat) : (2 ^ n - 1).testBit j = decide (j < n) := Nat.testBit_two_pow_sub_one n j
/-- an order of 0 to n - 1 -/
def permP (l : List Int) (n : Nat) : Prop := l.length = n ∧ ∀ j, j < n → (j : Int) ∈ l
theorem perm_pig : ∀ (n : Nat) (l : List Int), (∀ j, j < n → (j : Int) ∈ l) → n ≤ l.length ∧ (l.length = n → (∀ j, j < n → l.count (j : Int) = 1) ∧ ∀ x ∈ l, 0 ≤ x ∧ x < n)
  | 0, l, _ => ⟨Nat.zero_le _, fun h => by
      have := List.eq_nil_of_length_eq_zero h
      subst this
      exact ⟨fun j hj => absurd hj (by omega), fun x hx => absurd hx (by simp)⟩⟩
  | n + 1, l, h => by
    have hn : (n : Int) ∈ l := h n (by omega)
    have hl := List.length_erase_of_mem hn
    have hpos : 0 < l.length := List.length_pos_of_mem hn
    obtain ⟨p1, p2⟩ := perm_pig n (l.erase (n : Int)) (fun j hj => (List.mem_erase_of_ne (by omega)).2 (h j (by omega)))
    refine ⟨by omega, fun hlen => ?_⟩
    obtain ⟨q1, q2⟩ := p2 (by omega)
    refine ⟨fun j hj => ?_, fun x hx => ?_⟩
    · by_cases e : j = n
      · subst e
        have c0 : (l.erase (j : Int)).count (j : Int) = 0 := List.count_eq_zero.2 (fun hm => by have := q2 _ hm; omega)
        have c1 := List.count_erase_self (a := (j : Int)) (l := l)
        have c2 : 0 < l.count (j : Int) := List.count_pos_iff.2 hn
        omega
      · have := q1 j (by omega)
        rwa [List.count_erase_of_ne (by omega)] at this
    · by_cases e : x = (n : Int)
      · omega
      · have := q2 x ((List.mem_erase_of_ne e).2 hx)
        omega
theorem full_iff (l : List Int) (n : Nat) (hn : n ≤ 128) (hl : l.length = n) : ofS 0 l = 2 ^ n - 1 ↔ permP l n := by
  constructor
  · intro h
    refine ⟨hl, fun j hj => ?_⟩
    have := ofS_test l 0 j (by omega)
    rw [h, full_test] at this
    simpa [hj] using this
  · rintro ⟨_, h⟩
    have P := ((perm_pig n l h).2 hl).2
    apply Nat.eq_of_testBit_eq
    intro j
    rcases Nat.lt_or_ge j 128 with hj | hj
    · rw [ofS_test l 0 j hj, full_test, Nat.zero_testBit, Bool.false_or]
      congr 1
      simp only [eq_iff_iff]
      exact ⟨fun hm => by have := P _ hm; omega, fun hlt => h j hlt⟩
    · rw [full_test, Nat.testBit_lt_two_pow (Nat.lt_of_lt_of_le (ofS_lt l 0 (by decide)) (Nat.pow_le_pow_right (by decide) hj))]
      symm; simp; omega
theorem perm_count (l : List Int) (n : Nat) (hl : l.length = n) : (∀ k, k < n → l.count (k : Int) = 1) ↔ permP l n :=
  ⟨fun h => ⟨hl, fun j hj => List.count_pos_iff.1 (by rw [h j hj]; decide)⟩, fun h => ((perm_pig n l h.2).2 hl).1⟩
end Go.Proofs.Ytfpffggeehmedaa
