/-
  What cut and the reference's Is answer.
-/
import Derived.Test.YtaobaiifbmhegaaNtClone
namespace Go.Proofs.Ytaobaiifbmhegaa.nt
open Go.RowKit
set_option linter.unusedVariables false

def cnt (x : List Int) (k i : Nat) : Nat := (x.take i).count (k : Int)
theorem cnt_zero (x : List Int) (k : Nat) : cnt x k 0 = 0 := by unfold cnt; simp
theorem cnt_hit (x : List Int) (k i : Nat) (hi : i < x.length) (h : nth x i = (k : Int)) : cnt x k (i + 1) = cnt x k i + 1 := by
  unfold cnt
  rw [List.take_succ_eq_append_getElem hi, List.count_append, ← nth_at x i hi, h]
  simp
theorem cnt_miss (x : List Int) (k i : Nat) (hi : i < x.length) (h : ¬ nth x i = (k : Int)) : cnt x k (i + 1) = cnt x k i := by
  unfold cnt
  rw [List.take_succ_eq_append_getElem hi, List.count_append, ← nth_at x i hi]
  rw [List.count_singleton]
  simp [h]
theorem cnt_all (x : List Int) (k : Nat) : cnt x k x.length = x.count (k : Int) := by unfold cnt; rw [List.take_length]
theorem cnt_le (x : List Int) (k i : Nat) (hi : i ≤ x.length) : cnt x k i ≤ i := by
  unfold cnt
  have := List.count_le_length (a := (k : Int)) (l := x.take i)
  simp at this
  omega
attribute [irreducible] cnt
/-- a list that came in: its first K numbers -/
def Arg (K : Nat) (W : World) (a : Option Addr) (n c : Nat) (l : List Int) : Prop :=
  (a = none ∧ n = 0 ∧ c = 0 ∧ l = []) ∨ (∃ ad, a = some ad ∧ n = 0 ∧ c ≤ 9223372036854775807 ∧ l = []) ∨
  ∃ b o, a = some ⟨b, o, none⟩ ∧ n ≤ c ∧ c ≤ 9223372036854775807 ∧ b < W.heap.size ∧ (∀ j, j < l.length → W.cell? ⟨b, o + j, none⟩ = some (.int .i64 (nth l j))) ∧ ((n ≤ K ∧ l.length = n) ∨ (K < n ∧ l.length = K))
theorem Arg.keep {K : Nat} {W W1 : World} {a : Option Addr} {n c : Nat} {l : List Int} (h : Arg K W a n c l) (hb : Below W.heap.size W W1) : Arg K W1 a n c l := by
  rcases h with h | h | ⟨b, o, e, h1, h2, h3, h4, h5⟩
  · exact Or.inl h
  · exact Or.inr (Or.inl h)
  · exact Or.inr (Or.inr ⟨b, o, e, h1, h2, Nat.lt_of_lt_of_le h3 hb.size, fun j hj => (hb.cell (p := ⟨b, o + j, none⟩) h3).trans (h4 j hj), h5⟩)
theorem Arg.len {K : Nat} {W : World} {a : Option Addr} {n c : Nat} {l : List Int} (h : Arg K W a n c l) : l.length ≤ K := by
  rcases h with ⟨_, _, _, rfl⟩ | ⟨_, _, _, _, rfl⟩ | ⟨b, o, e, h1, h2, h3, h4, h5⟩
  · simp
  · simp
  · omega
end Go.Proofs.Ytaobaiifbmhegaa.nt
