/-
  What order.Next answers.
-/
import Derived.Test.YtaobaiifbmhegaaNtClone
namespace Go.Proofs.Ytaobaiifbmhegaa.nt
open Go.RowKit
set_option linter.unusedVariables false

/-- one more than the last place from m - 1 down that isn't greater than the one behind it -/
def dn (p : List Int) : Nat → Nat
  | 0 => 0
  | m + 1 => if nth p (m + 1) < nth p m then dn p m else m + 1
theorem dn_zero (p : List Int) : dn p 0 = 0 := rfl
theorem dn_yes (p : List Int) (m : Nat) (h : nth p (m + 1) < nth p m) : dn p (m + 1) = dn p m := by simp only [dn]; rw [if_pos h]
theorem dn_no (p : List Int) (m : Nat) (h : ¬ nth p (m + 1) < nth p m) : dn p (m + 1) = m + 1 := by simp only [dn]; rw [if_neg h]
theorem dn_le (p : List Int) : ∀ m, dn p m ≤ m
  | 0 => Nat.le_refl _
  | m + 1 => by
    by_cases h : nth p (m + 1) < nth p m
    · rw [dn_yes p m h]; have := dn_le p m; omega
    · rw [dn_no p m h]; omega
/-- the first place from j on, behind k, that is greater than x -/
def fj (l : List Int) (k : Nat) (x : Int) : Nat → Nat → Nat
  | 0, j => j
  | f + 1, j => if x < nth l (k + j) then j else fj l k x f (j + 1)
theorem fj_zero (l : List Int) (k : Nat) (x : Int) (j : Nat) : fj l k x 0 j = j := rfl
theorem fj_yes (l : List Int) (k : Nat) (x : Int) (f j : Nat) (h : x < nth l (k + j)) : fj l k x (f + 1) j = j := by simp only [fj]; rw [if_pos h]
theorem fj_no (l : List Int) (k : Nat) (x : Int) (f j : Nat) (h : ¬ x < nth l (k + j)) : fj l k x (f + 1) j = fj l k x f (j + 1) := by simp only [fj]; rw [if_neg h]
attribute [irreducible] dn fj
/-- the order that comes next: k is one more than the place that grows -/
def nextA (p : List Int) (k : Nat) : List Int := rv p k (p.length - k) ((p.length - k) / 2)
def nextJ (p : List Int) (k : Nat) : Nat := fj (nextA p k) k (nth (nextA p k) (k - 1)) (p.length - k) 0
def nextB (p : List Int) (k : Nat) : List Int := if nextJ p k < p.length - k then sw (nextA p k) (k - 1) (k + nextJ p k) else nextA p k
def NextP (p : List Int) (k : Nat) (w : World) (e : Ending) (w' : World) : Prop := ∃ g cap, e = .returned (.tuple #[.slice (some ⟨g, 0, none⟩) p.length cap, .int .i64 0]) ∧ Below w.heap.size w w' ∧ Ints w' (some ⟨g, 0, none⟩) (nextB p k) ∧ (nextB p k).length = p.length
theorem nextA_len (p : List Int) (k : Nat) : (nextA p k).length = p.length := by unfold nextA; rw [rv_len]
theorem next_done {p : List Int} {k B g cap : Nat} {w W w1 w2 : World} {l : List Int} (h : Own B g p.length cap l W w2) (hl : l = nextB p k) (hb : Below w.heap.size w w2) : NextP p k w (.returned (.tuple #[.slice (some ⟨g, 0, none⟩) p.length cap, .int .i64 0])) w2 := by
  subst hl
  exact ⟨g, cap, rfl, hb, h.ints, h.1⟩
end Go.Proofs.Ytaobaiifbmhegaa.nt
