/-
  The table of the powers of ten out of the rows' list, and a world for the witness that holds the list's tables.
-/
import Derived.Test.YtegieoajjfodcaaGreatDoorWi
import Derived.Test.YtegieoajjfodcaaGreatDoorRows
import Derived.Lib.LaidTab
import Derived.LaidSub
import Derived.LaidLaws
namespace Go.Proofs.YtegieoajjfodcaaGreatDoor
open Go.RowKit
set_option linter.unusedVariables false

theorem gPowType : (Tryz.prog.globals[1]?).map (·.type) = some 332 := by kernel_rfl
theorem table {W : World} (h : laidMetH Tryz.prog Rows.kurganQuietRow.laid W) : Tab W := by
  have h' : laidMet Tryz.prog Rows.kurganQuietRow.laid W := h
  have hf := laidMet.filter (fun x => x.1 == "internal/strconv.uint64pow10") h'
  have e : Rows.kurganQuietRow.laid.filter (fun x => x.1 == "internal/strconv.uint64pow10") = [("internal/strconv.uint64pow10", Lib.tabData .u64 Lib.pow10Tab)] := by kernel_rfl
  rw [e] at hf
  exact Lib.tabIs_of_head (rest := []) (n := 20) gPow gPowType Tryz.underlying332 (by kernel_rfl) (by kernel_rfl) (by kernel_rfl) hf
def v1 (d : DataW Unit) : Value := match d with
  | .lit (.int k z) => Value.int k z
  | _ => Value.bool false
def tabVals (d : DataW Unit) : Array Value := match d with
  | .agg l => (l.flatMap fun x => match x with | .agg l2 => l2.map v1 | y => [v1 y]).toArray
  | _ => #[]
def lay (d : DataW Unit) : Obj → Obj
  | .cells _ t frozen => .cells (tabVals d) t frozen
  | o => o
noncomputable def laidWorld (os : Os) : World :=
  { World.holding Tryz.prog os ⟨#[], #[], []⟩ with
    heap := (((((World.holding Tryz.prog os ⟨#[], #[], []⟩).heap.modify 1 (lay Rows.laid_internal_strconv_uint64pow10)).modify 2 (lay Rows.laid_unicode_utf8_first)).modify 3 (lay Rows.laid_unicode_utf8_acceptRanges)).modify 4 (lay Rows.laid_math_bits_deBruijn32tab)).modify 5 (lay Rows.laid_math_bits_deBruijn64tab) }
theorem laid_met (os : Os) (args : Array Value) : laidMet Tryz.prog Rows.kurganQuietRow.laid ((laidWorld os).forCall (fun _ _ => 0) ⟨#[], args, []⟩).memory :=
  laidMet_of_run' 8 (by kernel_rfl) (by kernel_rfl)
end Go.Proofs.YtegieoajjfodcaaGreatDoor
