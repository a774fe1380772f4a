/-
  cert: a number as text, in every world that holds the table of the powers of ten.
-/
import Derived.Test.YtjajpmbmkagcaaaDoorShelf
import Derived.Test.YtjajpmbmkagcaaaDoorMc
namespace Go.Proofs.YtjajpmbmkagcaaaDoor
open Go.RowKit
set_option linter.unusedVariables false
def Tab (w : World) : Prop := Lib.TabIs Tryd.prog w "internal/strconv.uint64pow10" .u64 Lib.pow10Tab
theorem gPow : Tryd.prog.globalNamed "internal/strconv.uint64pow10" = some 1 := by kernel_rfl
theorem tab_keep {w w' : World} (h : Tab w) (hb : Below w.heap.size w w') : Tab w' := by
  have hv : w.var? Tryd.prog "internal/strconv.uint64pow10" = _ := h
  show w'.var? Tryd.prog "internal/strconv.uint64pow10" = _
  rw [← hv]
  unfold World.var?
  rw [gPow]
  simp only [Option.bind_some]
  rcases Nat.lt_or_ge 1 w.heap.size with h' | h'
  · rw [hb.block 1 h']
  · exfalso
    unfold World.var? at hv
    rw [gPow, Option.bind_some, Array.getElem?_eq_none h'] at hv
    cases hv
theorem bl_grow (w : World) (k : Nat) (os : Array Obj) : Below w.heap.size w (Go.Sort.grow (w.drewN k) os) := by
  refine ⟨rfl, rfl, rfl, ?_, fun i hi => ?_⟩
  · show w.heap.size ≤ (w.heap ++ os).size
    simp
  · show (w.heap ++ os)[i]? = w.heap[i]?
    rw [Array.getElem?_append_left hi]
theorem write_any (n : Int) (h0 : -9223372036854775808 ≤ n) (h1 : n ≤ 9223372036854775807) (w : World) (ht : Tab w) :
    Calls Tryd.prog 17 #[.int .i64 n] w fun e w' => e = .returned (.string ⟨(Lib.itoa n).toArray⟩) ∧ Below w.heap.size w w' := by
  have HI := Lib.hid (Tryd.strconv_Itoa n h0 h1 w ht)
  go_enter Tryd.func17, Tryd.ntmps17
  go_wp2_with fail
  refine HI.out.mono ?_; rintro e w1 ⟨rfl, k, os, rfl⟩
  go_wp2
  go_ret
  exact ⟨rfl, bl_grow w k os⟩


end Go.Proofs.YtjajpmbmkagcaaaDoor
