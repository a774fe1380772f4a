/-
  What the function digits of the laws answers, in every world that holds the table of the powers of ten; the table out of the row's list; a world for the witness.
-/
import Derived.Test.YtecejlpokmfjcaaDoorShelf
import Derived.Test.YtecejlpokmfjcaaDoorRead
import Derived.Lib.LaidTab
import Derived.LaidSub
import Derived.LaidLaws
namespace Go.Proofs.YtecejlpokmfjcaaDoor
open Go.RowKit
set_option linter.unusedVariables false

def Tab (w : World) : Prop := Lib.TabIs Tryd.prog w "internal/strconv.uint64pow10" .u64 Lib.pow10Tab
theorem gPow : Tryd.prog.globalNamed "internal/strconv.uint64pow10" = some 0 := by kernel_rfl
theorem tab_keep {w w' : World} (h : Tab w) (hb : Below w.heap.size w w') : Tab w' := by
  have hv : w.var? Tryd.prog "internal/strconv.uint64pow10" = _ := h
  show w'.var? Tryd.prog "internal/strconv.uint64pow10" = _
  rw [← hv]
  unfold World.var?
  rw [gPow]
  simp only [Option.bind_some]
  rcases Nat.lt_or_ge 0 w.heap.size with h' | h'
  · rw [hb.block 0 h']
  · exfalso
    unfold World.var? at hv
    rw [gPow, Option.bind_some, Array.getElem?_eq_none h'] at hv
    cases hv
theorem bl_grow (w : World) (k : Nat) (os : Array Obj) : Below w.heap.size w (Go.Sort.grow (w.drewN k) os) := by
  refine ⟨rfl, rfl, rfl, ?_, fun i hi => ?_⟩
  · show w.heap.size ≤ (w.heap ++ os).size
    simp
  · show (w.heap ++ os)[i]? = w.heap[i]?
    rw [Array.getElem?_append_left hi]
theorem write_any (n : Int) (h0 : -9223372036854775808 ≤ n) (h1 : n ≤ 9223372036854775807) (w : World) (ht : Tab w) :
    Calls Tryd.prog 11 #[.int .i64 n] w fun e w' => e = .returned (.string ⟨(Lib.itoa n).toArray⟩) ∧ Below w.heap.size w w' := by
  have HI := Lib.hid (Tryd.strconv_Itoa n h0 h1 w ht)
  go_enter Tryd.func11, Tryd.ntmps11
  go_wp2_with fail
  refine HI.out.mono ?_; rintro e w1 ⟨rfl, k, os, rfl⟩
  go_wp2
  go_ret
  exact ⟨rfl, bl_grow w k os⟩

theorem digits_any (w : World) (ht : Tab w) :
    Calls Tryd.prog 8 #[] w fun e w' => e = .returned (.bool true) ∧ Below w.heap.size w w' := by
  have HR := Lib.hid (show ∀ W, Calls Tryd.prog 9 #[.string ⟨#[97, 49, 50, 32]⟩, .int .i64 1] W fun e w' => e = .returned (.tuple #[.int .i64 12, .int .i64 3, .int .i64 0]) ∧ Below W.heap.size W w' from
    fun W => (read_in ⟨#[97, 49, 50, 32]⟩ ⟨#[49, 50, 32]⟩ 1 (by decide) (by kernel_rfl) (by decide) W).mono fun e w' ⟨h, b⟩ => ⟨h.trans (by kernel_rfl), b⟩)
  have HP := Lib.hid (show ∀ W, Calls Tryd.prog 13 #[.string ⟨#[97, 10, 195, 188, 98]⟩, .int .i64 4] W fun e w' => e = .returned (.tuple #[.int .i64 2, .int .i64 2]) ∧ Below W.heap.size W w' from
    fun W => (place_any ⟨#[97, 10, 195, 188, 98]⟩ 4 (by decide) W).mono fun e w' ⟨h, b⟩ => ⟨h.trans (by kernel_rfl), b⟩)
  have HW := Lib.hid (show ∀ W, Tab W → Calls Tryd.prog 11 #[.int .i64 (-9223372036854775808)] W fun e w' => e = .returned (.string ⟨#[45, 57, 50, 50, 51, 51, 55, 50, 48, 51, 54, 56, 53, 52, 55, 55, 53, 56, 48, 56]⟩) ∧ Below W.heap.size W w' from
    fun W h => (write_any (-9223372036854775808) (by decide) (by decide) W h).mono fun e w' ⟨h, b⟩ => ⟨h.trans (by kernel_rfl), b⟩)
  go_enter Tryd.func8, Tryd.ntmps8
  go_wp2_with fail
  refine (HR.out _).mono ?_; rintro e w1 ⟨rfl, hb1⟩
  have ht1 := tab_keep ht hb1
  go_wp2_with fail
  refine (HP.out _).mono ?_; rintro e w2 ⟨rfl, hb2⟩
  have ht2 := tab_keep ht1 hb2
  have HT := Lib.hid ht2
  clear ht ht1 ht2
  go_wp2_with fail
  refine (HW.out _ HT.out).mono ?_; rintro e w3 ⟨rfl, hb3⟩
  go_wp2
  go_ret
  exact ⟨rfl, bl_tr (bl_tr hb1 hb2) hb3⟩

/-! the table out of the row's list, and a world that holds the list's tables -/
theorem gPowType : (Tryd.prog.globals[0]?).map (·.type) = some 49 := by kernel_rfl
theorem table {W : World} (h : laidMetH Tryd.prog Rows.digitKindsRow.laid W) : Tab W := by
  have h' : laidMet Tryd.prog Rows.digitKindsRow.laid W := h
  have hf := laidMet.filter (fun x => x.1 == "internal/strconv.uint64pow10") h'
  have e : Rows.digitKindsRow.laid.filter (fun x => x.1 == "internal/strconv.uint64pow10") = [("internal/strconv.uint64pow10", Lib.tabData .u64 Lib.pow10Tab)] := by kernel_rfl
  rw [e] at hf
  exact Lib.tabIs_of_head (rest := []) (n := 20) gPow gPowType Tryd.underlying49 (by kernel_rfl) (by kernel_rfl) (by kernel_rfl) hf
def tabVals (d : DataW Unit) : Array Value := match d with
  | .agg l => (l.map fun x => match x with | .lit (.int k z) => Value.int k z | _ => Value.bool false).toArray
  | _ => #[]
def lay (d : DataW Unit) : Obj → Obj
  | .cells _ t frozen => .cells (tabVals d) t frozen
  | o => o
noncomputable def laidWorld (os : Os) : World :=
  { World.holding Tryd.prog os ⟨#[], #[], []⟩ with
    heap := (((World.holding Tryd.prog os ⟨#[], #[], []⟩).heap.modify 0 (lay Rows.laid_internal_strconv_uint64pow10)).modify 1 (lay Rows.laid_math_bits_deBruijn32tab)).modify 2 (lay Rows.laid_math_bits_deBruijn64tab) }
theorem laid_met (os : Os) (args : Array Value) : laidMet Tryd.prog Rows.digitKindsRow.laid ((laidWorld os).forCall (fun _ _ => 0) ⟨#[], args, []⟩).memory :=
  laidMet_of_run' 8 (by kernel_rfl) (by kernel_rfl)
end Go.Proofs.YtecejlpokmfjcaaDoor
