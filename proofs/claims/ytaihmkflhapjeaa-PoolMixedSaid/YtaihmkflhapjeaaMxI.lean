/-
  PoolMixed: a list that was put together, as the law keeps it.
-/
import Derived.Test.YtaihmkflhapjeaaHl
namespace Go.Proofs.Ytaihmkflhapjeaa
open Go.RowKit Go.MuLone
set_option linter.unusedVariables false
theorem ints_app (a b : List Nat) : ints (a ++ b) = ints a ++ ints b := by unfold ints; simp
theorem oh_of {B n : Nat} {v : Value} {L : List Nat} {l : List Int} {w : World} (h : w.ownsRow B 3 1 v n (l.map (Value.int .i64))) (hl : l = ints L) : Oh B v L w := by
  subst hl
  have e : n = L.length := by
    have := h.1
    simp [ints] at this
    omega
  subst e
  rw [ints_map] at h
  exact h
end Go.Proofs.Ytaihmkflhapjeaa
