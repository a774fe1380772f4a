/-
  The table of the powers of ten out of the rows' list, and a world for the witnesses that holds the list's tables.
-/
import Derived.Test.YtjlaankgfpjeeaaDoorInTxt
import Derived.Test.YtjlaankgfpjeeaaDoorRows
import Derived.Lib.LaidTab
import Derived.LaidSub
import Derived.LaidLaws
namespace Go.Proofs.YtjlaankgfpjeeaaDoor
open Go.RowKit
open ip (Tab gPow)
set_option linter.unusedVariables false

theorem gPowType : (Tryd.prog.globals[0]?).map (·.type) = some 114 := by kernel_rfl
theorem table {W : World} (h : laidMetH Tryd.prog Rows.parseBackRow.laid W) : Tab W := by
  have h' : laidMet Tryd.prog Rows.parseBackRow.laid W := h
  have hf := laidMet.filter (fun x => x.1 == "internal/strconv.uint64pow10") h'
  have e : Rows.parseBackRow.laid.filter (fun x => x.1 == "internal/strconv.uint64pow10") = [("internal/strconv.uint64pow10", Lib.tabData .u64 Lib.pow10Tab)] := by kernel_rfl
  rw [e] at hf
  exact Lib.tabIs_of_head (rest := []) (n := 20) gPow gPowType Tryd.underlying114 (by kernel_rfl) (by kernel_rfl) (by kernel_rfl) hf
def tabVals (d : DataW Unit) : Array Value := match d with
  | .agg l => (l.map fun x => match x with | .lit (.int k z) => Value.int k z | _ => Value.bool false).toArray
  | _ => #[]
def lay (d : DataW Unit) : Obj → Obj
  | .cells _ t frozen => .cells (tabVals d) t frozen
  | o => o
noncomputable def laidWorld (os : Os) : World :=
  { World.holding Tryd.prog os ⟨#[], #[], []⟩ with
    heap := (((World.holding Tryd.prog os ⟨#[], #[], []⟩).heap.modify 0 (lay Rows.laid_internal_strconv_uint64pow10)).modify 2 (lay Rows.laid_math_bits_deBruijn32tab)).modify 3 (lay Rows.laid_math_bits_deBruijn64tab) }
theorem laid_met (os : Os) (args : Array Value) : laidMet Tryd.prog Rows.parseBackRow.laid ((laidWorld os).forCall (fun _ _ => 0) ⟨#[], args, []⟩).memory :=
  laidMet_of_run' 8 (by kernel_rfl) (by kernel_rfl)
end Go.Proofs.YtjlaankgfpjeeaaDoor
