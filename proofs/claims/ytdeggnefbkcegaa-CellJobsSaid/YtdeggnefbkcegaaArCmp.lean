/-
  What the reference's Cmp answers.
-/
import Derived.Test.YtdeggnefbkcegaaArSame
import Derived.Test.YtdeggnefbkcegaaArSgA
import Derived.Test.YtdeggnefbkcegaaArSgB
namespace Go.Proofs.Ytdeggnefbkcegaa.ar
open Go.RowKit
set_option linter.unusedVariables false


theorem info28 : (Try.prog.info? 78).map (·.size) = some 10 := by kernel_rfl
theorem sg_whole {w : World} {g : Nat} {m : Bool} {x : Nat} (h : w.heap[g]? = some (.cells #[.bool m, .int .i64 (dg x 0), .int .i64 (dg x 1), .int .i64 (dg x 2), .int .i64 (dg x 3), .int .i64 (dg x 4), .int .i64 (dg x 5), .int .i64 (dg x 6), .int .i64 (dg x 7), .int .i64 (dg x 8)] 78 (0, 0))) : w.rangeAt g 0 [.bool m, .int .i64 (dg x 0), .int .i64 (dg x 1), .int .i64 (dg x 2), .int .i64 (dg x 3), .int .i64 (dg x 4), .int .i64 (dg x 5), .int .i64 (dg x 6), .int .i64 (dg x 7), .int .i64 (dg x 8)] := by
  intro j v hj
  rw [cell_of_row _ _ _ _ _ _ h]
  rcases j with _ | _ | _ | _ | _ | _ | _ | _ | _ | _ | j
  all_goals first | (simp at hj; done) | (simp at hj; subst hj; rfl)
theorem sg_two {w V w1 : World} {a b : Nat} {o1 o2 : Obj} (q1 : V.heap[a]? = some o1) (q2 : V.heap[b]? = some o2) (q4 : Below w.heap.size w V) (hb : Below V.heap.size V w1) :
    w1.heap[a]? = some o1 ∧ w1.heap[b]? = some o2 ∧ Below w.heap.size w w1 :=
  ⟨(hb.block _ (lt_heap q1)).trans q1, (hb.block _ (lt_heap q2)).trans q2, bl_tr q4 hb⟩
theorem sgcells {w : World} {g : Nat} {m : Bool} {x : Nat} (h : w.heap[g]? = some (.cells #[.bool m, .int .i64 (dg x 0), .int .i64 (dg x 1), .int .i64 (dg x 2), .int .i64 (dg x 3), .int .i64 (dg x 4), .int .i64 (dg x 5), .int .i64 (dg x 6), .int .i64 (dg x 7), .int .i64 (dg x 8)] 78 (0, 0))) : w.cell? ⟨g, 0, none⟩ = some (.bool m) ∧ w.cell? ⟨g, 1, none⟩ = some (.int .i64 (dg x 0)) ∧ w.cell? ⟨g, 2, none⟩ = some (.int .i64 (dg x 1)) ∧ w.cell? ⟨g, 3, none⟩ = some (.int .i64 (dg x 2)) ∧ w.cell? ⟨g, 4, none⟩ = some (.int .i64 (dg x 3)) ∧ w.cell? ⟨g, 5, none⟩ = some (.int .i64 (dg x 4)) ∧ w.cell? ⟨g, 6, none⟩ = some (.int .i64 (dg x 5)) ∧ w.cell? ⟨g, 7, none⟩ = some (.int .i64 (dg x 6)) ∧ w.cell? ⟨g, 8, none⟩ = some (.int .i64 (dg x 7)) ∧ w.cell? ⟨g, 9, none⟩ = some (.int .i64 (dg x 8)) :=
  ⟨cell_of_row _ _ 0 _ _ _ h, cell_of_row _ _ 1 _ _ _ h, cell_of_row _ _ 2 _ _ _ h, cell_of_row _ _ 3 _ _ _ h, cell_of_row _ _ 4 _ _ _ h, cell_of_row _ _ 5 _ _ _ h, cell_of_row _ _ 6 _ _ _ h, cell_of_row _ _ 7 _ _ _ h, cell_of_row _ _ 8 _ _ _ h, cell_of_row _ _ 9 _ _ _ h⟩

end Go.Proofs.Ytdeggnefbkcegaa.ar
