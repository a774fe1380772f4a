/-
  The numbers of a set, one by one: plain mathematics.
-/
import Derived.WalkKit
import Derived.Lib.TrailingZeros
namespace Go.Proofs.YtnenpgndghdheaaDoor
set_option linter.unusedVariables false
/-- the numbers from k on, n of them, that f tells yes of -/
def lst (f : Nat → Bool) : Nat → Nat → List Nat
  | _, 0 => []
  | k, n + 1 => if f k = true then k :: lst f (k + 1) n else lst f (k + 1) n
theorem lst_yes {f : Nat → Bool} {k n : Nat} (h : f k = true) : lst f k (n + 1) = k :: lst f (k + 1) n := by simp only [lst]; rw [if_pos h]
theorem lst_no {f : Nat → Bool} {k n : Nat} (h : ¬ f k = true) : lst f k (n + 1) = lst f (k + 1) n := by simp only [lst]; rw [if_neg h]
theorem lst_congr {f g : Nat → Bool} : ∀ (n k : Nat), (∀ i, k ≤ i → i < k + n → f i = g i) → lst f k n = lst g k n
  | 0, _, _ => rfl
  | n + 1, k, h => by
    have ih := lst_congr n (k + 1) (fun i h1 h2 => h i (by omega) (by omega))
    by_cases hk : f k = true
    · rw [lst_yes hk, lst_yes (by rw [← h k (by omega) (by omega)]; exact hk), ih]
    · rw [lst_no hk, lst_no (by rw [← h k (by omega) (by omega)]; exact hk), ih]
theorem lst_none {f : Nat → Bool} : ∀ (n k : Nat), (∀ i, k ≤ i → i < k + n → f i = false) → lst f k n = []
  | 0, _, _ => rfl
  | n + 1, k, h => by rw [lst_no (by simp [h k (by omega) (by omega)])]; exact lst_none n (k + 1) (fun i h1 h2 => h i (by omega) (by omega))
theorem lst_first {f g : Nat → Bool} {c : Nat} : ∀ (n k : Nat), k ≤ c → c < k + n → (∀ i, k ≤ i → i < c → f i = false) → f c = true → (∀ i, c < i → i < k + n → g i = f i) → (∀ i, k ≤ i → i ≤ c → g i = false) → lst f k n = c :: lst g k n
  | 0, k, h1, h2, _, _, _, _ => by omega
  | n + 1, k, h1, h2, h3, h4, h5, h6 => by
    by_cases e : k = c
    · subst e
      rw [lst_yes h4, lst_no (by simp [h6 k (by omega) (by omega)])]
      congr 1
      exact lst_congr n (k + 1) (fun i q1 q2 => (h5 i (by omega) (by omega)).symm)
    · rw [lst_no (by simp [h3 k (by omega) (by omega)]), lst_no (by simp [h6 k (by omega) (by omega)])]
      exact lst_first n (k + 1) (by omega) (by omega) (fun i q1 q2 => h3 i (by omega) q2) h4 (fun i q1 q2 => h5 i q1 (by omega)) (fun i q1 q2 => h6 i (by omega) q2)
theorem lst_len (f : Nat → Bool) : ∀ (n k : Nat), (lst f k n).length ≤ n
  | 0, _ => Nat.le_refl _
  | n + 1, k => by
    have := lst_len f n (k + 1)
    by_cases hk : f k = true
    · rw [lst_yes hk]; simp; omega
    · rw [lst_no hk]; omega
theorem lst_app (f : Nat → Bool) : ∀ (n m k : Nat), lst f k (n + m) = lst f k n ++ lst f (k + n) m
  | 0, m, k => by simp [lst]
  | n + 1, m, k => by
    rw [show n + 1 + m = n + m + 1 by omega]
    have ih := lst_app f n m (k + 1)
    rw [show k + 1 + n = k + (n + 1) by omega] at ih
    by_cases hk : f k = true
    · rw [lst_yes hk, lst_yes hk, ih]; rfl
    · rw [lst_no hk, lst_no hk, ih]
theorem lst_shift (f : Nat → Bool) (d : Nat) : ∀ (n k : Nat), lst f (k + d) n = (lst (fun i => f (i + d)) k n).map (· + d)
  | 0, _ => rfl
  | n + 1, k => by
    have ih := lst_shift f d n (k + 1)
    rw [show k + 1 + d = k + d + 1 by omega] at ih
    by_cases hk : f (k + d) = true
    · rw [lst_yes hk, lst_yes (f := fun i => f (i + d)) hk, ih]; rfl
    · rw [lst_no hk, lst_no (f := fun i => f (i + d)) hk, ih]
attribute [irreducible] lst
/-- the places of a number's bits -/
def els (x : Nat) : List Nat := lst x.testBit 0 64
/-- without its lowest bit -/
theorem low_clear (x : Nat) (h0 : x ≠ 0) (h : x < 18446744073709551616) : Lib.ctz 64 x < 64 ∧ x.testBit (Lib.ctz 64 x) = true ∧ (∀ i, i < Lib.ctz 64 x → x.testBit i = false) ∧ (∀ i, Lib.ctz 64 x < i → (x &&& (x - 1)).testBit i = x.testBit i) ∧ (∀ i, i ≤ Lib.ctz 64 x → (x &&& (x - 1)).testBit i = false) := by
  have e : Lib.ctz 64 x = Lib.ctzFrom 64 x := by unfold Lib.ctz; rw [if_neg h0]
  obtain ⟨m, hm, hc⟩ := Lib.ctzFrom_spec 64 x (by omega) (by simpa using h)
  rw [e]
  generalize Lib.ctzFrom 64 x = c at *
  have h1 : x = 2 ^ (c + 1) * m + 2 ^ c := by rw [hm, Nat.mul_add, Nat.mul_one, Nat.pow_succ, Nat.mul_assoc]
  have hp : 0 < 2 ^ c := Nat.two_pow_pos c
  have hp2 : 2 ^ (c + 1) = 2 * 2 ^ c := by rw [Nat.pow_succ, Nat.mul_comm]
  have h2 : x - 1 = 2 ^ (c + 1) * m + (2 ^ c - 1) := by omega
  have t1 : ∀ i, x.testBit i = if i < c + 1 then (2 ^ c).testBit i else m.testBit (i - (c + 1)) := fun i => by rw [h1]; exact Nat.testBit_two_pow_mul_add m (by omega) i
  have t2 : ∀ i, (x - 1).testBit i = if i < c + 1 then (2 ^ c - 1).testBit i else m.testBit (i - (c + 1)) := fun i => by rw [h2]; exact Nat.testBit_two_pow_mul_add m (by omega) i
  refine ⟨hc, ?_, fun i hi => ?_, fun i hi => ?_, fun i hi => ?_⟩
  · rw [t1, if_pos (by omega), Nat.testBit_two_pow]; simp
  · rw [t1, if_pos (by omega), Nat.testBit_two_pow]; simp; omega
  · rw [Nat.testBit_and, t2, t1, if_neg (by omega)]; simp [show ¬ i < c + 1 by omega]
  · rw [Nat.testBit_and, t2, t1, if_pos (by omega), if_pos (by omega), Nat.testBit_two_pow, Nat.testBit_two_pow_sub_one]
    by_cases q : c = i
    · subst q; simp
    · simp [q]
theorem els_step (x : Nat) (h0 : x ≠ 0) (h : x < 18446744073709551616) : els x = Lib.ctz 64 x :: els (x &&& (x - 1)) := by
  obtain ⟨h1, h2, h3, h4, h5⟩ := low_clear x h0 h
  exact lst_first 64 0 (by omega) (by omega) (fun i _ hi => h3 i hi) h2 (fun i hi _ => h4 i hi) (fun i _ hi => h5 i hi)
theorem els_zero : els 0 = [] := lst_none 64 0 (fun i _ _ => Nat.zero_testBit i)
theorem els_len (x : Nat) : (els x).length ≤ 64 := lst_len _ _ _
theorem and_lt (x : Nat) (h : x < 18446744073709551616) : x &&& (x - 1) < 18446744073709551616 := Nat.lt_of_le_of_lt Nat.and_le_left h
attribute [irreducible] els
/-- all numbers of a set of two parts -/
def both (x y : Nat) : List Int := (els x).map (fun (i : Nat) => (i : Int)) ++ (els y).map (fun (i : Nat) => (64 + i : Int))
theorem both_len (x y : Nat) : (both x y).length ≤ 128 := by
  unfold both
  have := els_len x
  have := els_len y
  simp; omega
end Go.Proofs.YtnenpgndghdheaaDoor
