/-
  Sets as the places that a function tells yes of: plain mathematics.
-/
import Derived.Test.YtnenpgndghdheaaDoorBitsM
import Derived.Test.YtnenpgndghdheaaDoorPop
namespace Go.Proofs.YtnenpgndghdheaaDoor
set_option linter.unusedVariables false
/-- is a number in the set of two parts? -/
def mem (x y i : Nat) : Bool := if i < 64 then x.testBit i else y.testBit (i - 64)
theorem mem_lo {x y i : Nat} (h : i < 64) : mem x y i = x.testBit i := by unfold mem; rw [if_pos h]
theorem mem_hi {x y i : Nat} (h : ¬ i < 64) : mem x y i = y.testBit (i - 64) := by unfold mem; rw [if_neg h]
/-- all numbers of a set -/
def nums (f : Nat → Bool) : List Nat := lst f 0 128
theorem lst_two (x y : Nat) : nums (mem x y) = els x ++ (els y).map (· + 64) := by
  unfold nums els
  rw [lst_app (mem x y) 64 64 0]
  congr 1
  · exact lst_congr 64 0 (fun i _ h => mem_lo (by omega))
  · have := lst_shift (mem x y) 64 64 0
    rw [this, lst_congr (f := fun i => mem x y (i + 64)) (g := y.testBit) 64 0 (fun i _ h => by show mem x y (i + 64) = _; rw [mem_hi (by omega)]; congr 1)]
theorem both_nums (x y : Nat) : both x y = (nums (mem x y)).map (fun (i : Nat) => (i : Int)) := by
  unfold both
  rw [lst_two, List.map_append, List.map_map]
  congr 1
  apply List.map_congr_left
  intro i _
  show (64 + i : Int) = ((i + 64 : Nat) : Int)
  omega
theorem pc_lst : ∀ (n x : Nat), pc n x = (lst x.testBit 0 n).length
  | 0, x => by rw [pc_zero, lst_none 0 0 (fun i _ h => by omega)]; rfl
  | n + 1, x => by
    have e : lst x.testBit 1 n = (lst (x / 2).testBit 0 n).map (· + 1) := by
      have := lst_shift x.testBit 1 n 0
      rw [Nat.zero_add] at this
      rw [this]
      congr 1
      exact lst_congr n 0 (fun i _ _ => by rw [Nat.testBit_succ])
    rw [pc_succ, pc_lst n (x / 2)]
    by_cases h : x.testBit 0 = true
    · rw [lst_yes h, e]
      have : x % 2 = 1 := by simpa [Nat.testBit_zero] using h
      simp; omega
    · rw [lst_no h, e]
      have : x % 2 = 0 := by
        have : ¬ x % 2 = 1 := by simpa [Nat.testBit_zero] using h
        omega
      simp; omega
theorem pc_els (x : Nat) : pc 64 x = (els x).length := by unfold els; exact pc_lst 64 x
theorem count_nums (x y : Nat) : pc 64 x + pc 64 y = (nums (mem x y)).length := by rw [lst_two, pc_els, pc_els]; simp
theorem lst_head {f : Nat → Bool} : ∀ (n k : Nat) {i : Nat} {t : List Nat}, lst f k n = i :: t → k ≤ i ∧ i < k + n ∧ f i = true ∧ (∀ j, k ≤ j → j < i → f j = false) ∧ t = lst f (i + 1) (k + n - (i + 1))
  | 0, k, i, t, h => by rw [lst_none 0 k (fun i _ h => by omega)] at h; cases h
  | n + 1, k, i, t, h => by
    by_cases hk : f k = true
    · rw [lst_yes hk] at h
      injection h with h1 h2
      subst h1
      exact ⟨Nat.le_refl _, by omega, hk, fun j h1 h2 => by omega, by rw [← h2]; congr 1; omega⟩
    · rw [lst_no hk] at h
      obtain ⟨a, b, c, d, e⟩ := lst_head n (k + 1) h
      refine ⟨by omega, by omega, c, fun j h1 h2 => ?_, by rw [e]; congr 1; omega⟩
      by_cases e : j = k
      · subst e; simpa using hk
      · exact d j (by omega) h2
theorem lst_nil {f : Nat → Bool} : ∀ (n k : Nat), lst f k n = [] → ∀ i, k ≤ i → i < k + n → f i = false
  | 0, k, _, i, h1, h2 => by omega
  | n + 1, k, h, i, h1, h2 => by
    by_cases hk : f k = true
    · rw [lst_yes hk] at h; cases h
    · rw [lst_no hk] at h
      by_cases e : i = k
      · subst e; simpa using hk
      · exact lst_nil n (k + 1) h i (by omega) (by omega)
/-- the first number of a list, or -1 -/
def fst (l : List Nat) : Int := match l with
  | [] => -1
  | i :: _ => (i : Int)
theorem fst_nil : fst [] = -1 := rfl
theorem fst_cons (i : Nat) (t : List Nat) : fst (i :: t) = (i : Int) := rfl
theorem nums_cut (f : Nat → Bool) (k : Nat) (hk : k ≤ 128) : nums f = lst f 0 k ++ lst f k (128 - k) := by
  unfold nums
  have := lst_app f k (128 - k) 0
  rw [show k + (128 - k) = 128 by omega, Nat.zero_add] at this
  exact this
theorem nums_below {f g : Nat → Bool} (k : Nat) (hk : k ≤ 128) (h : ∀ i, i < 128 → g i = (f i && decide (i < k))) : nums g = lst f 0 k := by
  rw [nums_cut g k hk, lst_congr (f := g) (g := f) k 0 (fun i _ h2 => by rw [h i (by omega)]; simp [show i < k by omega]), lst_none (f := g) (128 - k) k (fun i h1 h2 => by rw [h i (by omega)]; simp [show ¬ i < k by omega]), List.append_nil]
theorem nums_above {f g : Nat → Bool} (k : Nat) (hk : k ≤ 128) (h : ∀ i, i < 128 → g i = (f i && !decide (i < k))) : nums g = lst f k (128 - k) := by
  rw [nums_cut g k hk, lst_none (f := g) k 0 (fun i h1 h2 => by rw [h i (by omega)]; simp [show i < k by omega]), lst_congr (f := g) (g := f) (128 - k) k (fun i h1 h2 => by rw [h i (by omega)]; simp [show ¬ i < k by omega]), List.nil_append]
/-- where a walk through a set stands: what lies below k is behind it -/
theorem walk_step {f : Nat → Bool} {k i : Nat} {t : List Nat} (hk : k ≤ 128) (h : lst f k (128 - k) = i :: t) : i < 128 ∧ f i = true ∧ lst f 0 i = lst f 0 k ∧ lst f 0 (i + 1) = lst f 0 k ++ [i] ∧ t = lst f (i + 1) (128 - (i + 1)) := by
  obtain ⟨a, b, c, d, e⟩ := lst_head _ _ h
  have h1 : lst f 0 i = lst f 0 k := by
    obtain ⟨m, rfl⟩ : ∃ m, i = k + m := ⟨i - k, by omega⟩
    rw [lst_app f k m 0, Nat.zero_add, lst_none m k (fun j h1 h2 => d j h1 h2), List.append_nil]
  refine ⟨by omega, c, h1, ?_, by rw [e]; congr 1; omega⟩
  rw [lst_app f i 1 0, h1, Nat.zero_add, lst_yes c, lst_none 0 (i + 1) (fun j h1 h2 => by omega)]
attribute [irreducible] mem nums fst
end Go.Proofs.YtnenpgndghdheaaDoor
