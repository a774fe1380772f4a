/-
  PoolKeeps: the walk, every slot.
-/
import Derived.Test.YtaihmkflhapjeaaKeepY
namespace Go.Proofs.Ytaihmkflhapjeaa
open Go.RowKit Go.MuLone
set_option linter.unusedVariables false
theorem keeps_walk (x bb : Int) (a : Option Addr) (n c : Nat) (l : List Int) (w : World) (hA : Arg 70 w a n c l) :
    Calls Try.prog 6 #[.int .i64 x, .slice a n c, .int .i64 bb] w fun e w' => e = .returned (.bool true) ∧ Below w.heap.size w w' := by
  by_cases h1 : x < 0
  · exact keeps_no x bb a n c l w hA (.inl (decide_eq_true h1))
  · by_cases h2 : 5 ≤ x
    · exact keeps_no x bb a n c l w hA (.inr ⟨decide_eq_false h1, decide_eq_true h2⟩)
    · have h : x = 0 ∨ x = 1 ∨ x = 2 ∨ x = 3 ∨ x = 4 := by omega
      rcases h with rfl | rfl | rfl | rfl | rfl
      · exact keeps_yes 0 1 bb a n c l w hA (by omega) (by omega) (by omega) (by decide)
      · exact keeps_yes 1 2 bb a n c l w hA (by omega) (by omega) (by omega) (by decide)
      · exact keeps_yes 2 3 bb a n c l w hA (by omega) (by omega) (by omega) (by decide)
      · exact keeps_yes 3 4 bb a n c l w hA (by omega) (by omega) (by omega) (by decide)
      · exact keeps_yes 4 0 bb a n c l w hA (by omega) (by omega) (by omega) (by decide)
end Go.Proofs.Ytaihmkflhapjeaa
