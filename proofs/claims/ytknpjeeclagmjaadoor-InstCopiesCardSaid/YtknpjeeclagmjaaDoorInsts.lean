/-
  What the function insts of the laws answers, in every world that holds the table of the powers of ten: true.
-/
import Derived.Test.YtknpjeeclagmjaaDoorWr
namespace Go.Proofs.YtknpjeeclagmjaaDoor
open Go.RowKit
set_option linter.unusedVariables false

theorem insts_any (w : World) (ht : Tab w) : Calls Tryd.prog 9 #[] w fun e w' => e = .returned (.bool true) ∧ Below w.heap.size w w' := by
  have bA : Below w.heap.size w ((w.alloc (.cells #[.int .i64 3] 3)).alloc (.cells #[.int .i64 4] 3)) := bl_al (bl_al (Below.refl _ _) _) _
  have W1 := Lib.hid (show Calls Tryd.prog 12 #[.agg #[.int .i64 1, .int .i64 1, .int .i64 5, .slice (some ⟨w.heap.size, 0, none⟩) 1 1, .slice (some ⟨w.heap.size + 1, 0, none⟩) 1 1, .slice none 0 0]] ((w.alloc (.cells #[.int .i64 3] 3)).alloc (.cells #[.int .i64 4] 3))
      fun e w' => e = .returned (.tuple #[.string ⟨#[75, 78, 65, 80, 83, 65, 67, 75, 32, 49, 32, 53, 10, 51, 32, 52, 10]⟩, .int .i64 0]) ∧ Below w.heap.size w w' from
    (write_one w.heap.size (w.heap.size + 1) _ (tab_keep _ _ ht bA) (cell_of_row _ _ 0 _ _ _ (heap_alloc2_old w _ _)) (cell_of_row _ _ 0 _ _ _ (heap_alloc2_new w _ _)) (by simp; omega) (by simp)).mono
      fun e w' ⟨h, b⟩ => ⟨h.trans (by unfold tx3; rfl), bl_tr bA b⟩)
  have N3 := Lib.hid (show ∀ W, Calls Tryd.prog 18 #[.int .i64 3] W fun e w' => e = .returned (.string ⟨#[84, 83, 80]⟩) ∧ W = w' from fun W => name_any 3 W)
  have N0 := Lib.hid (show ∀ W, Calls Tryd.prog 18 #[.int .i64 0] W fun e w' => e = .returned (.string ⟨#[]⟩) ∧ W = w' from fun W => name_any 0 W)
  clear bA ht
  go_enter Tryd.func9, Tryd.ntmps9
  go_wp2_with fail
  refine W1.out.mono ?_; rintro e w1 ⟨rfl, hb1⟩
  clear W1
  go_wp2_with fail
  refine (N3.out _).mono ?_; rintro e w2 ⟨rfl, rfl⟩
  go_wp2_with fail
  refine (N0.out _).mono ?_; rintro e w2 ⟨rfl, rfl⟩
  go_wp2
  go_ret
  exact ⟨rfl, hb1⟩
end Go.Proofs.YtknpjeeclagmjaaDoor
