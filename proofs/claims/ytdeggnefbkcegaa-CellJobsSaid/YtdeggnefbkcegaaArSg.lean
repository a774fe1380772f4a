/-
  What the reference's Num and Neg answer.
-/
import Derived.Test.YtdeggnefbkcegaaArRefA
import Derived.Test.YtdeggnefbkcegaaArRefB
import Derived.Test.YtdeggnefbkcegaaArRefC
import Derived.Test.YtdeggnefbkcegaaArRefO
import Derived.Deep.MidRow
namespace Go.Proofs.Ytdeggnefbkcegaa.ar
open Go.RowKit
set_option linter.unusedVariables false


theorem ten (w : World) (g : Nat) (h : w.heap[g]? = some (.cells #[.bool false, .int .i64 0, .int .i64 0, .int .i64 0, .int .i64 0, .int .i64 0, .int .i64 0, .int .i64 0, .int .i64 0, .int .i64 0] 78 (0, 0))) (v0 v1 v2 v3 v4 v5 v6 v7 v8 v9 : Value) :
    ((((((((((w.setCell ⟨g, 0, none⟩ v0).setCell ⟨g, 1, none⟩ v1).setCell ⟨g, 2, none⟩ v2).setCell ⟨g, 3, none⟩ v3).setCell ⟨g, 4, none⟩ v4).setCell ⟨g, 5, none⟩ v5).setCell ⟨g, 6, none⟩ v6).setCell ⟨g, 7, none⟩ v7).setCell ⟨g, 8, none⟩ v8).setCell ⟨g, 9, none⟩ v9).heap[g]? = some (.cells #[v0, v1, v2, v3, v4, v5, v6, v7, v8, v9] 78 (0, 0)) := by
  have h0 := heap_setCell_same w g 0 _ 78 v0 h
  have h1 := heap_setCell_same _ g 1 _ 78 v1 h0
  have h2 := heap_setCell_same _ g 2 _ 78 v2 h1
  have h3 := heap_setCell_same _ g 3 _ 78 v3 h2
  have h4 := heap_setCell_same _ g 4 _ 78 v4 h3
  have h5 := heap_setCell_same _ g 5 _ 78 v5 h4
  have h6 := heap_setCell_same _ g 6 _ 78 v6 h5
  have h7 := heap_setCell_same _ g 7 _ 78 v7 h6
  have h8 := heap_setCell_same _ g 8 _ 78 v8 h7
  have h9 := heap_setCell_same _ g 9 _ 78 v9 h8
  simpa using h9
theorem ten_below {B : Nat} {a w : World} (h : Below B a w) (g : Nat) (hg : B ≤ g) (v0 v1 v2 v3 v4 v5 v6 v7 v8 v9 : Value) : Below B a ((((((((((w.setCell ⟨g, 0, none⟩ v0).setCell ⟨g, 1, none⟩ v1).setCell ⟨g, 2, none⟩ v2).setCell ⟨g, 3, none⟩ v3).setCell ⟨g, 4, none⟩ v4).setCell ⟨g, 5, none⟩ v5).setCell ⟨g, 6, none⟩ v6).setCell ⟨g, 7, none⟩ v7).setCell ⟨g, 8, none⟩ v8).setCell ⟨g, 9, none⟩ v9) := by
  exact Below.setCell (p := ⟨g, 9, none⟩) (Below.setCell (p := ⟨g, 8, none⟩) (Below.setCell (p := ⟨g, 7, none⟩) (Below.setCell (p := ⟨g, 6, none⟩) (Below.setCell (p := ⟨g, 5, none⟩) (Below.setCell (p := ⟨g, 4, none⟩) (Below.setCell (p := ⟨g, 3, none⟩) (Below.setCell (p := ⟨g, 2, none⟩) (Below.setCell (p := ⟨g, 1, none⟩) (Below.setCell (p := ⟨g, 0, none⟩) (h) hg v0) hg v1) hg v2) hg v3) hg v4) hg v5) hg v6) hg v7) hg v8) hg v9
theorem zcells {w : World} {g : Nat} (h : w.heap[g]? = some (.cells #[.bool false, .int .i64 0, .int .i64 0, .int .i64 0, .int .i64 0, .int .i64 0, .int .i64 0, .int .i64 0, .int .i64 0, .int .i64 0] 78 (0, 0))) : w.cell? ⟨g, 0, none⟩ = some (.bool false) ∧ w.cell? ⟨g, 1, none⟩ = some (.int .i64 0) ∧ w.cell? ⟨g, 2, none⟩ = some (.int .i64 0) ∧ w.cell? ⟨g, 3, none⟩ = some (.int .i64 0) ∧ w.cell? ⟨g, 4, none⟩ = some (.int .i64 0) ∧ w.cell? ⟨g, 5, none⟩ = some (.int .i64 0) ∧ w.cell? ⟨g, 6, none⟩ = some (.int .i64 0) ∧ w.cell? ⟨g, 7, none⟩ = some (.int .i64 0) ∧ w.cell? ⟨g, 8, none⟩ = some (.int .i64 0) ∧ w.cell? ⟨g, 9, none⟩ = some (.int .i64 0) ∧ (∀ j, w.frozen? ⟨g, j, none⟩ = false) :=
  ⟨cell_of_row _ _ 0 _ _ _ h, cell_of_row _ _ 1 _ _ _ h, cell_of_row _ _ 2 _ _ _ h, cell_of_row _ _ 3 _ _ _ h, cell_of_row _ _ 4 _ _ _ h, cell_of_row _ _ 5 _ _ _ h, cell_of_row _ _ 6 _ _ _ h, cell_of_row _ _ 7 _ _ _ h, cell_of_row _ _ 8 _ _ _ h, cell_of_row _ _ 9 _ _ _ h, fun j => frozen_of_row _ _ _ _ _ h⟩
theorem new_keep {w w1 : World} {o : Obj} (h : Below (w.alloc o).heap.size (w.alloc o) w1) : w1.heap[w.heap.size]? = some o :=
  (h.block _ (by simp)).trans (heap_alloc_new w o)
theorem num_any (a : Int) (a1 : -9223372036854775808 ≤ a) (a2 : a ≤ 9223372036854775807) (w : World) :
    Calls Try.prog 37 #[.int .i64 a] w fun e w' => e = .returned (.agg #[.bool (decide (a < 0)), .int .i64 (dg a.natAbs 0), .int .i64 (dg a.natAbs 1), .int .i64 (dg a.natAbs 2), .int .i64 (dg a.natAbs 3), .int .i64 (dg a.natAbs 4), .int .i64 (dg a.natAbs 5), .int .i64 (dg a.natAbs 6), .int .i64 (dg a.natAbs 7), .int .i64 (dg a.natAbs 8)]) ∧ Below w.heap.size w w' := by
  go_enter Try.func37, Try.ntmps37
  go_wp2_with fail
  refine (of_any a a1 a2 _).mono ?_; rintro e w1 ⟨rfl, hb⟩
  have h0 := new_keep hb
  have H0 := Lib.hid h0
  obtain ⟨c0, c1, c2, c3, c4, c5, c6, c7, c8, c9, ff⟩ := zcells h0
  have bl : Below w.heap.size w w1 := bl_tr (bl_al (Below.refl _ _) _) hb
  clear hb h0
  go_wp2_with fail
  exact bodyPost_ret (results_cell_row Try.results37 _ _ w.heap.size 78 _ (0, 0) _ rfl (ten _ _ H0.out _ _ _ _ _ _ _ _ _ _) Try.underlying78 rfl (by kernel_rfl)) rfl ⟨rfl, ten_below bl _ (by omega) _ _ _ _ _ _ _ _ _ _⟩
theorem heap3 (w : World) (o1 o2 o3 : Obj) : (((w.alloc o1).alloc o2).alloc o3).heap[w.heap.size]? = some o1 ∧ (((w.alloc o1).alloc o2).alloc o3).heap[w.heap.size + 1]? = some o2 ∧
    (((w.alloc o1).alloc o2).alloc o3).heap[w.heap.size + 1 + 1]? = some o3 := by
  refine ⟨?_, ?_, ?_⟩
  all_goals
    show (((w.heap.push o1).push o2).push o3)[_]? = _
    simp only [Array.getElem?_push, Array.size_push]
    repeat (first | rw [if_pos rfl] | rw [if_neg (by omega)])
    try simp
theorem sg_range {w : World} {g : Nat} {m : Bool} {x : Nat} (h : w.heap[g]? = some (.cells #[.bool m, .int .i64 (dg x 0), .int .i64 (dg x 1), .int .i64 (dg x 2), .int .i64 (dg x 3), .int .i64 (dg x 4), .int .i64 (dg x 5), .int .i64 (dg x 6), .int .i64 (dg x 7), .int .i64 (dg x 8)] 78 (0, 0))) : w.rangeAt g 1 [.int .i64 (dg x 0), .int .i64 (dg x 1), .int .i64 (dg x 2), .int .i64 (dg x 3), .int .i64 (dg x 4), .int .i64 (dg x 5), .int .i64 (dg x 6), .int .i64 (dg x 7), .int .i64 (dg x 8)] := by
  intro j v hj
  rw [cell_of_row _ _ _ _ _ _ h]
  rcases j with _ | _ | _ | _ | _ | _ | _ | _ | _ | j
  all_goals first | (simp at hj; done) | (simp at hj; subst hj; rfl)
theorem ten_other (w : World) (g k : Nat) (hk : k ≠ g) (v0 v1 v2 v3 v4 v5 v6 v7 v8 v9 : Value) : ((((((((((w.setCell ⟨g, 0, none⟩ v0).setCell ⟨g, 1, none⟩ v1).setCell ⟨g, 2, none⟩ v2).setCell ⟨g, 3, none⟩ v3).setCell ⟨g, 4, none⟩ v4).setCell ⟨g, 5, none⟩ v5).setCell ⟨g, 6, none⟩ v6).setCell ⟨g, 7, none⟩ v7).setCell ⟨g, 8, none⟩ v8).setCell ⟨g, 9, none⟩ v9).heap[k]? = w.heap[k]? := by
  exact ((heap_setCell_other _ ⟨g, 9, none⟩ k _ hk).trans ((heap_setCell_other _ ⟨g, 8, none⟩ k _ hk).trans ((heap_setCell_other _ ⟨g, 7, none⟩ k _ hk).trans ((heap_setCell_other _ ⟨g, 6, none⟩ k _ hk).trans ((heap_setCell_other _ ⟨g, 5, none⟩ k _ hk).trans ((heap_setCell_other _ ⟨g, 4, none⟩ k _ hk).trans ((heap_setCell_other _ ⟨g, 3, none⟩ k _ hk).trans ((heap_setCell_other _ ⟨g, 2, none⟩ k _ hk).trans ((heap_setCell_other _ ⟨g, 1, none⟩ k _ hk).trans (heap_setCell_other _ ⟨g, 0, none⟩ k _ hk))))))))))
/-- behind a callee that only makes memory: the two that were read, and the one to be written -/
theorem lt_heap {w : World} {k : Nat} {o : Obj} (h : w.heap[k]? = some o) : k < w.heap.size := by
  rcases Nat.lt_or_ge k w.heap.size with hlt | hge
  · exact hlt
  · rw [Array.getElem?_eq_none hge] at h; cases h
theorem sg_call {w V w1 : World} {a b c : Nat} {o1 o2 o3 : Obj} (q1 : V.heap[a]? = some o1) (q2 : V.heap[b]? = some o2) (q3 : V.heap[c]? = some o3) (q4 : Below w.heap.size w V) (hb : Below V.heap.size V w1) :
    w1.heap[a]? = some o1 ∧ w1.heap[b]? = some o2 ∧ w1.heap[c]? = some o3 ∧ Below w.heap.size w w1 :=
  ⟨(hb.block _ (lt_heap q1)).trans q1, (hb.block _ (lt_heap q2)).trans q2, (hb.block _ (lt_heap q3)).trans q3, bl_tr q4 hb⟩
theorem info26 : (Try.prog.info? 76).map (·.size) = some 9 := by kernel_rfl
end Go.Proofs.Ytdeggnefbkcegaa.ar
