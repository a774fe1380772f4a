/-
  A list of numbers in memory.
-/
import Derived.Test.YtnenpgndghdheaaDoorBase
import Derived.Laws.Rows
namespace Go.Proofs.YtnenpgndghdheaaDoor
open Go.RowKit
set_option linter.unusedVariables false
def Ints (W : World) (a : Option Addr) (l : List Int) : Prop := ∀ j, j < l.length → ∃ b o, a = some ⟨b, o, none⟩ ∧ b < W.heap.size ∧ W.cell? ⟨b, o + j, none⟩ = some (.int .i64 (l[j]?.getD 0))
theorem drop_get {l : List Int} {k : Nat} (h : k < l.length) : l.drop k = (l[k]?.getD 0) :: l.drop (k + 1) := by
  rw [List.getElem?_eq_getElem h, Option.getD_some]
  exact (List.getElem_cons_drop h).symm
end Go.Proofs.YtnenpgndghdheaaDoor
