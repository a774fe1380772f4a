/-
  What digit.Write answers, in every world that holds the table of the powers of ten.
-/
import Derived.Test.YtegieoajjfodcaaGreatDoorShelf
import Derived.Test.YtegieoajjfodcaaGreatDoorKind
import Derived.Deep.RegionHeld3
import Derived.Lib.ItoaNum
namespace Go.Proofs.YtegieoajjfodcaaGreatDoor
open Go.RowKit
set_option linter.unusedVariables false

def Tab (w : World) : Prop := Lib.TabIs Tryz.prog w "internal/strconv.uint64pow10" .u64 Lib.pow10Tab
theorem gPow : Tryz.prog.globalNamed "internal/strconv.uint64pow10" = some 1 := by kernel_rfl
theorem tab_b {w w' : World} {B : Nat} (h : Tab w) (hb : Below B w w') (h0 : 1 < B) : Tab w' := by
  have hv : w.var? Tryz.prog "internal/strconv.uint64pow10" = _ := h
  show w'.var? Tryz.prog "internal/strconv.uint64pow10" = _
  rw [← hv]
  unfold World.var?
  rw [gPow]
  simp only [Option.bind_some]
  rw [hb.block 1 h0]
theorem tab_pos {w : World} (h : Tab w) : 1 < w.heap.size := by
  rcases Nat.lt_or_ge 1 w.heap.size with h' | h'
  · exact h'
  · exfalso
    have hv : w.var? Tryz.prog "internal/strconv.uint64pow10" = _ := h
    unfold World.var? at hv
    rw [gPow, Option.bind_some, Array.getElem?_eq_none h'] at hv
    cases hv
theorem tab_keep (w w' : World) (h : Tab w) (hb : Below w.heap.size w w') : Tab w' := tab_b h hb (tab_pos h)
theorem bl_grow (w : World) (k : Nat) (os : Array Obj) : Below w.heap.size w (Go.Sort.grow (w.drewN k) os) := by
  refine ⟨rfl, rfl, rfl, ?_, fun i hi => ?_⟩
  · show w.heap.size ≤ (w.heap ++ os).size
    simp
  · show (w.heap ++ os)[i]? = w.heap[i]?
    rw [Array.getElem?_append_left hi]
def sIt (n : Int) : ByteArray := ⟨(Lib.itoa n).toArray⟩
attribute [irreducible] sIt
theorem sIt_eq (n : Int) : sIt n = ⟨(Lib.itoa n).toArray⟩ := by unfold sIt; rfl
theorem write_any (n : Int) (w : World) (h0 : -9223372036854775808 ≤ n) (h1 : n ≤ 9223372036854775807) (ht : Tab w) :
    Calls Tryz.prog 11 #[.int .i64 n] w fun e w' => e = .returned (.string (sIt n)) ∧ Below w.heap.size w w' := by
  have HI := Lib.hid (Tryz.strconv_Itoa n h0 h1 w ht)
  rw [sIt_eq]
  go_enter Tryz.func11, Tryz.ntmps11
  go_wp2_with fail
  refine HI.out.mono ?_; rintro e w1 ⟨rfl, k, os, rfl⟩
  go_wp2
  go_ret
  exact ⟨rfl, bl_grow w k os⟩
end Go.Proofs.YtegieoajjfodcaaGreatDoor
