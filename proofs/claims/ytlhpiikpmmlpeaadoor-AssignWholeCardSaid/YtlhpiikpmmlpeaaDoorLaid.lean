/-
  The library's table out of the rows' list, and a world for the witnesses that holds it.
-/
import Derived.Test.YtlhpiikpmmlpeaaDoorSeOne
import Derived.Test.YtlhpiikpmmlpeaaDoorRows
import Derived.Lib.LaidTab
import Derived.LaidSub
import Derived.LaidLaws
namespace Go.Proofs.YtlhpiikpmmlpeaaDoor
open Go.RowKit
set_option linter.unusedVariables false
theorem gTab : Tryd.prog.globalNamed "math/bits.deBruijn64tab" = some 0 := by kernel_rfl
theorem gTabType : (Tryd.prog.globals[0]?).map (·.type) = some 98 := by kernel_rfl
theorem table {W : World} (h : laidMetH Tryd.prog Rows.assignNewsRow.laid W) : st.T64 W := by
  have h' : laidMet Tryd.prog Rows.assignNewsRow.laid W := h
  have e : Rows.assignNewsRow.laid = [("math/bits.deBruijn64tab", Lib.tabData .u8 (Lib.deBruijn64tab.map (fun (n : Nat) => (n : Int))))] := by kernel_rfl
  rw [e] at h'
  have ht := Lib.tabIs_of_head (rest := []) (n := 64) gTab gTabType Tryd.underlying98 (by kernel_rfl) (by kernel_rfl) (by kernel_rfl) h'
  have hc : ∀ j, j < 64 → W.cell? ⟨0, j, none⟩ = some (.int .u8 (Lib.deBruijn64tab.getD j 0)) := fun j hj => by
    have hl : Lib.deBruijn64tab.length = 64 := by decide
    have := Lib.TabIs.cell ht gTab j (by simpa [hl] using hj)
    rw [this]
    simp only [List.getD_eq_getElem?_getD, List.getElem?_map]
    rw [List.getElem?_eq_getElem (by omega)]
    rfl
  refine ⟨?_, hc⟩
  have h0 := hc 0 (by decide)
  rcases Nat.lt_or_ge 0 W.heap.size with q | q
  · exact q
  · unfold World.cell? at h0
    rw [Array.getElem?_eq_none q] at h0
    simp at h0
def tabVals (d : DataW Unit) : Array Value := match d with
  | .agg l => (l.map fun x => match x with | .lit (.int k z) => Value.int k z | _ => Value.bool false).toArray
  | _ => #[]
def lay (d : DataW Unit) : Obj → Obj
  | .cells _ t frozen => .cells (tabVals d) t frozen
  | o => o
noncomputable def laidWorld (os : Os) : World :=
  { World.holding Tryd.prog os ⟨#[], #[], []⟩ with
    heap := ((World.holding Tryd.prog os ⟨#[], #[], []⟩).heap.modify 0 (lay Rows.laid_math_bits_deBruijn64tab)) }
theorem laid_met (os : Os) (args : Array Value) : laidMet Tryd.prog Rows.assignNewsRow.laid ((laidWorld os).forCall (fun _ _ => 0) ⟨#[], args, []⟩).memory :=
  laidMet_of_run' 8 (by kernel_rfl) (by kernel_rfl)
end Go.Proofs.YtlhpiikpmmlpeaaDoor
