import Derived.Test.YteoionlnnjcggaaArOne
import Derived.Deep.MidRow
import Derived.ChangeKeysEq
import Derived.Laws.Bits64b

/-
  What the reference's Num and Neg answer.
-/
namespace Go.Proofs.Yteoionlnnjcggaa.ar
open Go.RowKit
set_option linter.unusedVariables false


theorem ten (w : World) (g : Nat) (h : w.heap[g]? = some (.cells #[.bool false, .int .i64 0, .int .i64 0, .int .i64 0, .int .i64 0, .int .i64 0, .int .i64 0, .int .i64 0, .int .i64 0, .int .i64 0] 86 (0, 0))) (v0 v1 v2 v3 v4 v5 v6 v7 v8 v9 : Value) :
    ((((((((((w.setCell ⟨g, 0, none⟩ v0).setCell ⟨g, 1, none⟩ v1).setCell ⟨g, 2, none⟩ v2).setCell ⟨g, 3, none⟩ v3).setCell ⟨g, 4, none⟩ v4).setCell ⟨g, 5, none⟩ v5).setCell ⟨g, 6, none⟩ v6).setCell ⟨g, 7, none⟩ v7).setCell ⟨g, 8, none⟩ v8).setCell ⟨g, 9, none⟩ v9).heap[g]? = some (.cells #[v0, v1, v2, v3, v4, v5, v6, v7, v8, v9] 86 (0, 0)) := by
  have h0 := heap_setCell_same w g 0 _ 86 v0 h
  have h1 := heap_setCell_same _ g 1 _ 86 v1 h0
  have h2 := heap_setCell_same _ g 2 _ 86 v2 h1
  have h3 := heap_setCell_same _ g 3 _ 86 v3 h2
  have h4 := heap_setCell_same _ g 4 _ 86 v4 h3
  have h5 := heap_setCell_same _ g 5 _ 86 v5 h4
  have h6 := heap_setCell_same _ g 6 _ 86 v6 h5
  have h7 := heap_setCell_same _ g 7 _ 86 v7 h6
  have h8 := heap_setCell_same _ g 8 _ 86 v8 h7
  have h9 := heap_setCell_same _ g 9 _ 86 v9 h8
  simpa using h9
theorem ten_below {B : Nat} {a w : World} (h : Below B a w) (g : Nat) (hg : B ≤ g) (v0 v1 v2 v3 v4 v5 v6 v7 v8 v9 : Value) : Below B a ((((((((((w.setCell ⟨g, 0, none⟩ v0).setCell ⟨g, 1, none⟩ v1).setCell ⟨g, 2, none⟩ v2).setCell ⟨g, 3, none⟩ v3).setCell ⟨g, 4, none⟩ v4).setCell ⟨g, 5, none⟩ v5).setCell ⟨g, 6, none⟩ v6).setCell ⟨g, 7, none⟩ v7).setCell ⟨g, 8, none⟩ v8).setCell ⟨g, 9, none⟩ v9) := by
  exact Below.setCell (p := ⟨g, 9, none⟩) (Below.setCell (p := ⟨g, 8, none⟩) (Below.setCell (p := ⟨g, 7, none⟩) (Below.setCell (p := ⟨g, 6, none⟩) (Below.setCell (p := ⟨g, 5, none⟩) (Below.setCell (p := ⟨g, 4, none⟩) (Below.setCell (p := ⟨g, 3, none⟩) (Below.setCell (p := ⟨g, 2, none⟩) (Below.setCell (p := ⟨g, 1, none⟩) (Below.setCell (p := ⟨g, 0, none⟩) (h) hg v0) hg v1) hg v2) hg v3) hg v4) hg v5) hg v6) hg v7) hg v8) hg v9
theorem zcells {w : World} {g : Nat} (h : w.heap[g]? = some (.cells #[.bool false, .int .i64 0, .int .i64 0, .int .i64 0, .int .i64 0, .int .i64 0, .int .i64 0, .int .i64 0, .int .i64 0, .int .i64 0] 86 (0, 0))) : w.cell? ⟨g, 0, none⟩ = some (.bool false) ∧ w.cell? ⟨g, 1, none⟩ = some (.int .i64 0) ∧ w.cell? ⟨g, 2, none⟩ = some (.int .i64 0) ∧ w.cell? ⟨g, 3, none⟩ = some (.int .i64 0) ∧ w.cell? ⟨g, 4, none⟩ = some (.int .i64 0) ∧ w.cell? ⟨g, 5, none⟩ = some (.int .i64 0) ∧ w.cell? ⟨g, 6, none⟩ = some (.int .i64 0) ∧ w.cell? ⟨g, 7, none⟩ = some (.int .i64 0) ∧ w.cell? ⟨g, 8, none⟩ = some (.int .i64 0) ∧ w.cell? ⟨g, 9, none⟩ = some (.int .i64 0) ∧ (∀ j, w.frozen? ⟨g, j, none⟩ = false) :=
  ⟨cell_of_row _ _ 0 _ _ _ h, cell_of_row _ _ 1 _ _ _ h, cell_of_row _ _ 2 _ _ _ h, cell_of_row _ _ 3 _ _ _ h, cell_of_row _ _ 4 _ _ _ h, cell_of_row _ _ 5 _ _ _ h, cell_of_row _ _ 6 _ _ _ h, cell_of_row _ _ 7 _ _ _ h, cell_of_row _ _ 8 _ _ _ h, cell_of_row _ _ 9 _ _ _ h, fun j => frozen_of_row _ _ _ _ _ h⟩
theorem new_keep {w w1 : World} {o : Obj} (h : Below (w.alloc o).heap.size (w.alloc o) w1) : w1.heap[w.heap.size]? = some o :=
  (h.block _ (by simp)).trans (heap_alloc_new w o)
theorem num_any (a : Int) (a1 : -9223372036854775808 ≤ a) (a2 : a ≤ 9223372036854775807) (w : World) :
    Calls Try.prog 64 #[.int .i64 a] w fun e w' => e = .returned (.agg #[.bool (decide (a < 0)), .int .i64 (dg a.natAbs 0), .int .i64 (dg a.natAbs 1), .int .i64 (dg a.natAbs 2), .int .i64 (dg a.natAbs 3), .int .i64 (dg a.natAbs 4), .int .i64 (dg a.natAbs 5), .int .i64 (dg a.natAbs 6), .int .i64 (dg a.natAbs 7), .int .i64 (dg a.natAbs 8)]) ∧ Below w.heap.size w w' := by
  go_enter Try.func64, Try.ntmps64
  go_wp2_with fail
  refine (of_any a a1 a2 _).mono ?_; rintro e w1 ⟨rfl, hb⟩
  have h0 := new_keep hb
  have H0 := Lib.hid h0
  obtain ⟨c0, c1, c2, c3, c4, c5, c6, c7, c8, c9, ff⟩ := zcells h0
  have bl : Below w.heap.size w w1 := bl_tr (bl_al (Below.refl _ _) _) hb
  clear hb h0
  go_wp2_with fail
  exact bodyPost_ret (results_cell_row Try.results64 _ _ w.heap.size 86 _ (0, 0) _ rfl (ten _ _ H0.out _ _ _ _ _ _ _ _ _ _) Try.underlying86 rfl (by kernel_rfl)) rfl ⟨rfl, ten_below bl _ (by omega) _ _ _ _ _ _ _ _ _ _⟩
theorem neg_any (m : Bool) (x : Nat) (w : World) :
    Calls Try.prog 71 #[.agg #[.bool m, .int .i64 (dg x 0), .int .i64 (dg x 1), .int .i64 (dg x 2), .int .i64 (dg x 3), .int .i64 (dg x 4), .int .i64 (dg x 5), .int .i64 (dg x 6), .int .i64 (dg x 7), .int .i64 (dg x 8)]] w fun e w' => e = .returned (.agg #[.bool (!m), .int .i64 (dg x 0), .int .i64 (dg x 1), .int .i64 (dg x 2), .int .i64 (dg x 3), .int .i64 (dg x 4), .int .i64 (dg x 5), .int .i64 (dg x 6), .int .i64 (dg x 7), .int .i64 (dg x 8)]) ∧ Below w.heap.size w w' := by
  go_enter Try.func71, Try.ntmps71
  go_wp2_with fail
  exact bodyPost_ret (results_cell_row Try.results71 _ _ (w.heap.size + 1) 86 _ (0, 0) _ rfl (heap_alloc2_new w _ _) Try.underlying86 rfl (by kernel_rfl)) rfl ⟨rfl, bl_al (bl_al (Below.refl _ _) _) _⟩

theorem heap3 (w : World) (o1 o2 o3 : Obj) : (((w.alloc o1).alloc o2).alloc o3).heap[w.heap.size]? = some o1 ∧ (((w.alloc o1).alloc o2).alloc o3).heap[w.heap.size + 1]? = some o2 ∧
    (((w.alloc o1).alloc o2).alloc o3).heap[w.heap.size + 1 + 1]? = some o3 := by
  refine ⟨?_, ?_, ?_⟩
  all_goals
    show (((w.heap.push o1).push o2).push o3)[_]? = _
    simp only [Array.getElem?_push, Array.size_push]
    repeat (first | rw [if_pos rfl] | rw [if_neg (by omega)])
    try simp
theorem sg_range {w : World} {g : Nat} {m : Bool} {x : Nat} (h : w.heap[g]? = some (.cells #[.bool m, .int .i64 (dg x 0), .int .i64 (dg x 1), .int .i64 (dg x 2), .int .i64 (dg x 3), .int .i64 (dg x 4), .int .i64 (dg x 5), .int .i64 (dg x 6), .int .i64 (dg x 7), .int .i64 (dg x 8)] 86 (0, 0))) : w.rangeAt g 1 [.int .i64 (dg x 0), .int .i64 (dg x 1), .int .i64 (dg x 2), .int .i64 (dg x 3), .int .i64 (dg x 4), .int .i64 (dg x 5), .int .i64 (dg x 6), .int .i64 (dg x 7), .int .i64 (dg x 8)] := by
  intro j v hj
  rw [cell_of_row _ _ _ _ _ _ h]
  rcases j with _ | _ | _ | _ | _ | _ | _ | _ | _ | j
  all_goals first | (simp at hj; done) | (simp at hj; subst hj; rfl)
theorem ten_other (w : World) (g k : Nat) (hk : k ≠ g) (v0 v1 v2 v3 v4 v5 v6 v7 v8 v9 : Value) : ((((((((((w.setCell ⟨g, 0, none⟩ v0).setCell ⟨g, 1, none⟩ v1).setCell ⟨g, 2, none⟩ v2).setCell ⟨g, 3, none⟩ v3).setCell ⟨g, 4, none⟩ v4).setCell ⟨g, 5, none⟩ v5).setCell ⟨g, 6, none⟩ v6).setCell ⟨g, 7, none⟩ v7).setCell ⟨g, 8, none⟩ v8).setCell ⟨g, 9, none⟩ v9).heap[k]? = w.heap[k]? := by
  exact ((heap_setCell_other _ ⟨g, 9, none⟩ k _ hk).trans ((heap_setCell_other _ ⟨g, 8, none⟩ k _ hk).trans ((heap_setCell_other _ ⟨g, 7, none⟩ k _ hk).trans ((heap_setCell_other _ ⟨g, 6, none⟩ k _ hk).trans ((heap_setCell_other _ ⟨g, 5, none⟩ k _ hk).trans ((heap_setCell_other _ ⟨g, 4, none⟩ k _ hk).trans ((heap_setCell_other _ ⟨g, 3, none⟩ k _ hk).trans ((heap_setCell_other _ ⟨g, 2, none⟩ k _ hk).trans ((heap_setCell_other _ ⟨g, 1, none⟩ k _ hk).trans (heap_setCell_other _ ⟨g, 0, none⟩ k _ hk))))))))))
/-- behind a callee that only makes memory: the two that were read, and the one to be written -/
theorem lt_heap {w : World} {k : Nat} {o : Obj} (h : w.heap[k]? = some o) : k < w.heap.size := by
  rcases Nat.lt_or_ge k w.heap.size with hlt | hge
  · exact hlt
  · rw [Array.getElem?_eq_none hge] at h; cases h
theorem sg_call {w V w1 : World} {a b c : Nat} {o1 o2 o3 : Obj} (q1 : V.heap[a]? = some o1) (q2 : V.heap[b]? = some o2) (q3 : V.heap[c]? = some o3) (q4 : Below w.heap.size w V) (hb : Below V.heap.size V w1) :
    w1.heap[a]? = some o1 ∧ w1.heap[b]? = some o2 ∧ w1.heap[c]? = some o3 ∧ Below w.heap.size w w1 :=
  ⟨(hb.block _ (lt_heap q1)).trans q1, (hb.block _ (lt_heap q2)).trans q2, (hb.block _ (lt_heap q3)).trans q3, bl_tr q4 hb⟩
theorem info26 : (Try.prog.info? 84).map (·.size) = some 9 := by kernel_rfl
end Go.Proofs.Yteoionlnnjcggaa.ar

/-
  Two numbers in parts are compared part by part.
-/
namespace Go.Proofs.Yteoionlnnjcggaa.ar
open Go.RowKit
set_option linter.unusedVariables false


theorem eq_big (a0 a1 a2 a3 a4 a5 a6 a7 a8 b0 b1 b2 b3 b4 b5 b6 b7 b8 : Int) (w : World) :
    (Op.equalIn 10000 84 (.agg #[.int .i64 a0, .int .i64 a1, .int .i64 a2, .int .i64 a3, .int .i64 a4, .int .i64 a5, .int .i64 a6, .int .i64 a7, .int .i64 a8]) (.agg #[.int .i64 b0, .int .i64 b1, .int .i64 b2, .int .i64 b3, .int .i64 b4, .int .i64 b5, .int .i64 b6, .int .i64 b7, .int .i64 b8])).run Try.prog w = .ok ((a0 == b0) && (a1 == b1) && (a2 == b2) && (a3 == b3) && (a4 == b4) && (a5 == b5) && (a6 == b6) && (a7 == b7) && (a8 == b8)) w := by
  have h3 : ∀ (a b : Int) (w : World), (Op.equalIn 9999 3 (.int .i64 a) (.int .i64 b)).run Try.prog w = .ok (a == b) w := fun a b w => run_equalIn_int w 9998 3 .i64 .i64 a b Try.underlying3
  rw [run_equalIn_array w 9999 (n := 9) (e := 3) (i := (Try.prog.info? 3).get (by kernel_rfl)) _ _ Try.underlying84 (by kernel_rfl)]
  have hc : Try.prog.cellsOf 3 = 1 := by kernel_rfl
  rw [hc]
  simp [List.range_succ, Op.eqItems, part, go_sem, h3]
  by_cases e0 : a0 = b0
  rotate_left
  · simp [e0]
  rw [if_pos e0]
  by_cases e1 : a1 = b1
  rotate_left
  · simp [e1]
  rw [if_pos e1]
  by_cases e2 : a2 = b2
  rotate_left
  · simp [e2]
  rw [if_pos e2]
  by_cases e3 : a3 = b3
  rotate_left
  · simp [e3]
  rw [if_pos e3]
  by_cases e4 : a4 = b4
  rotate_left
  · simp [e4]
  rw [if_pos e4]
  by_cases e5 : a5 = b5
  rotate_left
  · simp [e5]
  rw [if_pos e5]
  by_cases e6 : a6 = b6
  rotate_left
  · simp [e6]
  rw [if_pos e6]
  by_cases e7 : a7 = b7
  rotate_left
  · simp [e7]
  rw [if_pos e7]
  by_cases e8 : a8 = b8
  rotate_left
  · simp [e8]
  rw [if_pos e8]
  simp [*]
theorem all_zero (x : Nat) (hx : x < BB ^ 9) (h : ∀ j, dgn x j = 0) : x = 0 := by
  have T := eqAbove_top (x := x) (y := 0) hx (BBp 9)
  have z : ∀ j, dgn 0 j = 0 := fun j => by unfold dgn; simp
  have st : ∀ j, eqAbove x 0 (j + 1) → eqAbove x 0 j := fun j hj => eqAbove_step hj (by rw [h, z])
  exact eqAbove_zero (st 0 (st 1 (st 2 (st 3 (st 4 (st 5 (st 6 (st 7 (st 8 T)))))))))
theorem eq_of_dg (x y : Nat) (hx : x < BB ^ 9) (hy : y < BB ^ 9) (h : dg x 0 = dg y 0 ∧ dg x 1 = dg y 1 ∧ dg x 2 = dg y 2 ∧ dg x 3 = dg y 3 ∧ dg x 4 = dg y 4 ∧ dg x 5 = dg y 5 ∧ dg x 6 = dg y 6 ∧ dg x 7 = dg y 7 ∧ dg x 8 = dg y 8) : x = y := by
  have T := eqAbove_top hx hy
  obtain ⟨h0, h1, h2, h3, h4, h5, h6, h7, h8⟩ := h
  have st : ∀ j, dg x j = dg y j → eqAbove x y (j + 1) → eqAbove x y j := fun j h hj => eqAbove_step hj (by unfold dg at h; omega)
  exact eqAbove_zero (st 0 h0 (st 1 h1 (st 2 h2 (st 3 h3 (st 4 h4 (st 5 h5 (st 6 h6 (st 7 h7 (st 8 h8 T)))))))))
theorem big_same (x y : Nat) (h : x = y) (w : World) : (Op.equalIn 10000 84 (.agg #[.int .i64 (dg x 0), .int .i64 (dg x 1), .int .i64 (dg x 2), .int .i64 (dg x 3), .int .i64 (dg x 4), .int .i64 (dg x 5), .int .i64 (dg x 6), .int .i64 (dg x 7), .int .i64 (dg x 8)]) (.agg #[.int .i64 (dg y 0), .int .i64 (dg y 1), .int .i64 (dg y 2), .int .i64 (dg y 3), .int .i64 (dg y 4), .int .i64 (dg y 5), .int .i64 (dg y 6), .int .i64 (dg y 7), .int .i64 (dg y 8)])).run Try.prog w = .ok true w := by
  rw [eq_big]; subst h; simp
theorem big_other (x y : Nat) (hx : x < BB ^ 9) (hy : y < BB ^ 9) (h : ¬ x = y) (w : World) : (Op.equalIn 10000 84 (.agg #[.int .i64 (dg x 0), .int .i64 (dg x 1), .int .i64 (dg x 2), .int .i64 (dg x 3), .int .i64 (dg x 4), .int .i64 (dg x 5), .int .i64 (dg x 6), .int .i64 (dg x 7), .int .i64 (dg x 8)]) (.agg #[.int .i64 (dg y 0), .int .i64 (dg y 1), .int .i64 (dg y 2), .int .i64 (dg y 3), .int .i64 (dg y 4), .int .i64 (dg y 5), .int .i64 (dg y 6), .int .i64 (dg y 7), .int .i64 (dg y 8)])).run Try.prog w = .ok false w := by
  rw [eq_big]
  refine congrArg (fun b => Result.ok b w) ?_
  apply Bool.eq_false_iff.2
  intro hc
  apply h
  apply eq_of_dg x y hx hy
  simpa [and_assoc] using hc
theorem zero_lit : (#[.int .i64 (dg 0 0), .int .i64 (dg 0 1), .int .i64 (dg 0 2), .int .i64 (dg 0 3), .int .i64 (dg 0 4), .int .i64 (dg 0 5), .int .i64 (dg 0 6), .int .i64 (dg 0 7), .int .i64 (dg 0 8)] : Array Value) = #[.int .i64 0, .int .i64 0, .int .i64 0, .int .i64 0, .int .i64 0, .int .i64 0, .int .i64 0, .int .i64 0, .int .i64 0] := by simp [dg_zero]
theorem top_lit : (#[.int .i64 (dg 9223372036854775808 0), .int .i64 (dg 9223372036854775808 1), .int .i64 (dg 9223372036854775808 2), .int .i64 (dg 9223372036854775808 3), .int .i64 (dg 9223372036854775808 4), .int .i64 (dg 9223372036854775808 5), .int .i64 (dg 9223372036854775808 6), .int .i64 (dg 9223372036854775808 7), .int .i64 (dg 9223372036854775808 8)] : Array Value) = #[.int .i64 0, .int .i64 0, .int .i64 2, .int .i64 0, .int .i64 0, .int .i64 0, .int .i64 0, .int .i64 0, .int .i64 0] := by
  have d : dg 9223372036854775808 0 = 0 ∧ dg 9223372036854775808 1 = 0 ∧ dg 9223372036854775808 2 = 2 ∧ dg 9223372036854775808 3 = 0 ∧ dg 9223372036854775808 4 = 0 ∧ dg 9223372036854775808 5 = 0 ∧ dg 9223372036854775808 6 = 0 ∧ dg 9223372036854775808 7 = 0 ∧ dg 9223372036854775808 8 = 0 := by unfold dg; decide
  obtain ⟨d0, d1, d2, d3, d4, d5, d6, d7, d8⟩ := d
  rw [d0, d1, d2, d3, d4, d5, d6, d7, d8]
end Go.Proofs.Yteoionlnnjcggaa.ar

/-
  What the reference's Int answers.
-/
namespace Go.Proofs.Yteoionlnnjcggaa.ar
open Go.RowKit
set_option linter.unusedVariables false


theorem or_parts (x : Nat) (h : x < 18446744073709551616) :
    bits .or .u64 (bits .or .u64 (dg x 0) (dg x 1 * 2147483648)) (IntKind.u64.wrap (dg x 2 * 4611686018427387904)) = (x : Int) := by
  have e0 : dg x 0 = ((x % 2147483648 : Nat) : Int) := by unfold dg dgn; rw [Nat.pow_zero, Nat.div_one, BB_eq]
  have e1 : dg x 1 = ((x / 2147483648 % 2147483648 : Nat) : Int) := by unfold dg dgn; rw [Nat.pow_one, BB_eq]
  have e2 : dg x 2 = ((x / 4611686018427387904 : Nat) : Int) := by
    unfold dg dgn; rw [show BB ^ 2 = 4611686018427387904 from by decide, BB_eq]; omega
  have c : x / 4611686018427387904 < 4 := by omega
  have w2 : IntKind.u64.wrap (dg x 2 * 4611686018427387904) = ((x / 4611686018427387904 * 4611686018427387904 : Nat) : Int) := by
    rw [e2, IntKind.wrap_u64]; omega
  have m1 : dg x 1 * 2147483648 = ((x / 2147483648 % 2147483648 * 2147483648 : Nat) : Int) := by rw [e1]; omega
  rw [w2, m1, e0, bits_or_u64_nat _ _ (by omega) (by omega)]
  have o1 : x % 2147483648 ||| x / 2147483648 % 2147483648 * 2147483648 = x % 4611686018427387904 := by
    rw [Nat.or_comm, show (2147483648 : Nat) = 2 ^ 31 from rfl, ← Nat.shiftLeft_eq, ← Nat.shiftLeft_add_eq_or_of_lt (by omega), Nat.shiftLeft_eq]; omega
  rw [o1, bits_or_u64_nat _ _ (by omega) (by omega)]
  have o2 : x % 4611686018427387904 ||| x / 4611686018427387904 * 4611686018427387904 = x := by
    rw [Nat.or_comm, show (4611686018427387904 : Nat) = 2 ^ 62 from rfl, ← Nat.shiftLeft_eq, ← Nat.shiftLeft_add_eq_or_of_lt (by omega), Nat.shiftLeft_eq]; omega
  rw [o2]
theorem ret_two {a b : Int} {t : Bool} (h : a = b) : Ending.returned (.tuple #[.int .i64 a, .bool t]) = .returned (.tuple #[.int .i64 b, .bool t]) := by rw [h]
def sv (m : Bool) (x : Nat) : Int := if m then -(x : Int) else x
attribute [irreducible] sv
end Go.Proofs.Yteoionlnnjcggaa.ar

/-
  What the law package's same answers: true where the answer is that of the number.
-/
namespace Go.Proofs.Yteoionlnnjcggaa.ar
open Go.RowKit
set_option linter.unusedVariables false


end Go.Proofs.Yteoionlnnjcggaa.ar

/-
  What the reference's Add answers, the two of one sign.
-/
namespace Go.Proofs.Yteoionlnnjcggaa.ar
open Go.RowKit
set_option linter.unusedVariables false


set_option maxRecDepth 100000 in
theorem add_same (m n : Bool) (hmn : m = n) (x y : Nat) (w : World) :
    Calls Try.prog 70 #[.agg #[.bool m, .int .i64 (dg x 0), .int .i64 (dg x 1), .int .i64 (dg x 2), .int .i64 (dg x 3), .int .i64 (dg x 4), .int .i64 (dg x 5), .int .i64 (dg x 6), .int .i64 (dg x 7), .int .i64 (dg x 8)], .agg #[.bool n, .int .i64 (dg y 0), .int .i64 (dg y 1), .int .i64 (dg y 2), .int .i64 (dg y 3), .int .i64 (dg y 4), .int .i64 (dg y 5), .int .i64 (dg y 6), .int .i64 (dg y 7), .int .i64 (dg y 8)]] w fun e w' => e = .returned (.agg #[.bool m, .int .i64 (dg (x + y) 0), .int .i64 (dg (x + y) 1), .int .i64 (dg (x + y) 2), .int .i64 (dg (x + y) 3), .int .i64 (dg (x + y) 4), .int .i64 (dg (x + y) 5), .int .i64 (dg (x + y) 6), .int .i64 (dg (x + y) 7), .int .i64 (dg (x + y) 8)]) ∧ Below w.heap.size w w' := by
  have HT := fun W => plus_loop x y W
  have e1 : (m == n) = true := by simpa using hmn
  have Q1 : Hid ((((w.alloc (.cells #[.bool m, .int .i64 (dg x 0), .int .i64 (dg x 1), .int .i64 (dg x 2), .int .i64 (dg x 3), .int .i64 (dg x 4), .int .i64 (dg x 5), .int .i64 (dg x 6), .int .i64 (dg x 7), .int .i64 (dg x 8)] 86)).alloc (.cells #[.bool n, .int .i64 (dg y 0), .int .i64 (dg y 1), .int .i64 (dg y 2), .int .i64 (dg y 3), .int .i64 (dg y 4), .int .i64 (dg y 5), .int .i64 (dg y 6), .int .i64 (dg y 7), .int .i64 (dg y 8)] 86)).alloc (.cells #[.bool false, .int .i64 0, .int .i64 0, .int .i64 0, .int .i64 0, .int .i64 0, .int .i64 0, .int .i64 0, .int .i64 0, .int .i64 0] 86)).drew.heap[w.heap.size]? = some (.cells #[.bool m, .int .i64 (dg x 0), .int .i64 (dg x 1), .int .i64 (dg x 2), .int .i64 (dg x 3), .int .i64 (dg x 4), .int .i64 (dg x 5), .int .i64 (dg x 6), .int .i64 (dg x 7), .int .i64 (dg x 8)] 86 (0, 0))) := (heap3 w _ _ _).1
  have Q2 : Hid ((((w.alloc (.cells #[.bool m, .int .i64 (dg x 0), .int .i64 (dg x 1), .int .i64 (dg x 2), .int .i64 (dg x 3), .int .i64 (dg x 4), .int .i64 (dg x 5), .int .i64 (dg x 6), .int .i64 (dg x 7), .int .i64 (dg x 8)] 86)).alloc (.cells #[.bool n, .int .i64 (dg y 0), .int .i64 (dg y 1), .int .i64 (dg y 2), .int .i64 (dg y 3), .int .i64 (dg y 4), .int .i64 (dg y 5), .int .i64 (dg y 6), .int .i64 (dg y 7), .int .i64 (dg y 8)] 86)).alloc (.cells #[.bool false, .int .i64 0, .int .i64 0, .int .i64 0, .int .i64 0, .int .i64 0, .int .i64 0, .int .i64 0, .int .i64 0, .int .i64 0] 86)).drew.heap[w.heap.size + 1]? = some (.cells #[.bool n, .int .i64 (dg y 0), .int .i64 (dg y 1), .int .i64 (dg y 2), .int .i64 (dg y 3), .int .i64 (dg y 4), .int .i64 (dg y 5), .int .i64 (dg y 6), .int .i64 (dg y 7), .int .i64 (dg y 8)] 86 (0, 0))) := (heap3 w _ _ _).2.1
  have Q3 : Hid ((((w.alloc (.cells #[.bool m, .int .i64 (dg x 0), .int .i64 (dg x 1), .int .i64 (dg x 2), .int .i64 (dg x 3), .int .i64 (dg x 4), .int .i64 (dg x 5), .int .i64 (dg x 6), .int .i64 (dg x 7), .int .i64 (dg x 8)] 86)).alloc (.cells #[.bool n, .int .i64 (dg y 0), .int .i64 (dg y 1), .int .i64 (dg y 2), .int .i64 (dg y 3), .int .i64 (dg y 4), .int .i64 (dg y 5), .int .i64 (dg y 6), .int .i64 (dg y 7), .int .i64 (dg y 8)] 86)).alloc (.cells #[.bool false, .int .i64 0, .int .i64 0, .int .i64 0, .int .i64 0, .int .i64 0, .int .i64 0, .int .i64 0, .int .i64 0, .int .i64 0] 86)).drew.heap[w.heap.size + 1 + 1]? = some (.cells #[.bool false, .int .i64 0, .int .i64 0, .int .i64 0, .int .i64 0, .int .i64 0, .int .i64 0, .int .i64 0, .int .i64 0, .int .i64 0] 86 (0, 0))) := (heap3 w _ _ _).2.2
  have Q4 : Hid (Below w.heap.size w (((w.alloc (.cells #[.bool m, .int .i64 (dg x 0), .int .i64 (dg x 1), .int .i64 (dg x 2), .int .i64 (dg x 3), .int .i64 (dg x 4), .int .i64 (dg x 5), .int .i64 (dg x 6), .int .i64 (dg x 7), .int .i64 (dg x 8)] 86)).alloc (.cells #[.bool n, .int .i64 (dg y 0), .int .i64 (dg y 1), .int .i64 (dg y 2), .int .i64 (dg y 3), .int .i64 (dg y 4), .int .i64 (dg y 5), .int .i64 (dg y 6), .int .i64 (dg y 7), .int .i64 (dg y 8)] 86)).alloc (.cells #[.bool false, .int .i64 0, .int .i64 0, .int .i64 0, .int .i64 0, .int .i64 0, .int .i64 0, .int .i64 0, .int .i64 0, .int .i64 0] 86)).drew) := (bl_al (bl_al (bl_al (Below.refl _ _) _) _) _).drew
  clear hmn
  go_enter Try.func70, Try.ntmps70
  go_wp2
  refine wp_region_held_drew (S := fun w' => w'.heap[w.heap.size]? = some (.cells #[.bool m, .int .i64 (dg x 0), .int .i64 (dg x 1), .int .i64 (dg x 2), .int .i64 (dg x 3), .int .i64 (dg x 4), .int .i64 (dg x 5), .int .i64 (dg x 6), .int .i64 (dg x 7), .int .i64 (dg x 8)] 86 (0, 0)) ∧ w'.heap[w.heap.size + 1]? = some (.cells #[.bool n, .int .i64 (dg y 0), .int .i64 (dg y 1), .int .i64 (dg y 2), .int .i64 (dg y 3), .int .i64 (dg y 4), .int .i64 (dg y 5), .int .i64 (dg y 6), .int .i64 (dg y 7), .int .i64 (dg y 8)] 86 (0, 0))) (by kernel_rfl) ⟨Q1.out, Q2.out⟩ (fun hHeld => ?_)
  refine wpAnyH_take (i := 0) (v := ?vax0) (by rw [List.getElem?_toArray]; rfl) (by kernel_rfl) (by kernel_rfl) (by kernel_rfl) ?qax0 (Or.inl ⟨by rfl, ?yax0⟩) (by assumption) ?rax0
  case qax0 => exact fun _ _ _ h => h
  case yax0 => (intro wz hSw; go_simp; try (with_reducible rfl))
  simp only [Act.put, List.setIfInBounds_toArray, List.set_cons_zero, List.set_cons_succ]
  refine wpAnyH_take (i := 1) (v := ?vax1) (by rw [List.getElem?_toArray]; rfl) (by kernel_rfl) (by kernel_rfl) (by kernel_rfl) ?qax1 (Or.inl ⟨by rfl, ?yax1⟩) (by assumption) ?rax1
  case qax1 => exact fun _ _ _ h => h
  case yax1 => (intro wz hSw; have cc := cell_of_row wz _ 0 _ _ _ hSw.1; simp at cc; go_simp; try (with_reducible rfl))
  simp only [Act.put, List.setIfInBounds_toArray, List.set_cons_zero, List.set_cons_succ]
  refine wpAnyH_take (i := 2) (v := ?vax2) (by rw [List.getElem?_toArray]; rfl) (by kernel_rfl) (by kernel_rfl) (by kernel_rfl) ?qax2 (Or.inl ⟨by rfl, ?yax2⟩) (by assumption) ?rax2
  case qax2 => exact fun _ _ _ h => h
  case yax2 => (intro wz hSw; go_simp; try (with_reducible rfl))
  simp only [Act.put, List.setIfInBounds_toArray, List.set_cons_zero, List.set_cons_succ]
  refine' wpAnyH_take (i := 3) (v := _) (by rw [List.getElem?_toArray]; rfl) (by kernel_rfl) (by kernel_rfl) (by kernel_rfl) ?qax3 (yieldsIf_load_mid (by rfl) _ _ rfl _ _ rfl [.int .i64 (dg x 0), .int .i64 (dg x 1), .int .i64 (dg x 2), .int .i64 (dg x 3), .int .i64 (dg x 4), .int .i64 (dg x 5), .int .i64 (dg x 6), .int .i64 (dg x 7), .int .i64 (dg x 8)] _ ?hSax3 ?huax3 ?hdax3 ?hiax3) (by assumption) ?restax3
  case qax3 => exact fun _ _ _ h => h
  case hSax3 => exact fun wz hSw => sg_range hSw.1
  case huax3 => exact Try.underlying84
  case hdax3 => rfl
  case hiax3 => exact info26
  simp only [Act.put, List.setIfInBounds_toArray, List.set_cons_zero, List.set_cons_succ]
  refine wpAnyH_take (i := 4) (v := ?vax4) (by rw [List.getElem?_toArray]; rfl) (by kernel_rfl) (by kernel_rfl) (by kernel_rfl) ?qax4 (Or.inl ⟨by rfl, ?yax4⟩) (by assumption) ?rax4
  case qax4 => exact fun _ _ _ h => h
  case yax4 => (intro wz hSw; go_simp; try (with_reducible rfl))
  simp only [Act.put, List.setIfInBounds_toArray, List.set_cons_zero, List.set_cons_succ]
  refine' wpAnyH_take (i := 5) (v := _) (by rw [List.getElem?_toArray]; rfl) (by kernel_rfl) (by kernel_rfl) (by kernel_rfl) ?qax5 (yieldsIf_load_mid (by rfl) _ _ rfl _ _ rfl [.int .i64 (dg y 0), .int .i64 (dg y 1), .int .i64 (dg y 2), .int .i64 (dg y 3), .int .i64 (dg y 4), .int .i64 (dg y 5), .int .i64 (dg y 6), .int .i64 (dg y 7), .int .i64 (dg y 8)] _ ?hSax5 ?huax5 ?hdax5 ?hiax5) (by assumption) ?restax5
  case qax5 => exact fun _ _ _ h => h
  case hSax5 => exact fun wz hSw => sg_range hSw.2
  case huax5 => exact Try.underlying84
  case hdax5 => rfl
  case hiax5 => exact info26
  simp only [Act.put, List.setIfInBounds_toArray, List.set_cons_zero, List.set_cons_succ]
  refine wpAnyH_ready (rs := [6]) (by kernel_rfl) (by simp) ?_
  refine AllReadyH.cons (by rw [List.getElem?_toArray]; rfl) (fun K hK => ?_) AllReadyH.nil
  clear hHeld
  go_simp
  go_at_call 75; refine (HT _).mono ?_; rintro e w1 ⟨rfl, hb⟩
  obtain ⟨p1, p2, p3, bl⟩ := sg_call (w := w) Q1.out Q2.out Q3.out Q4.out hb
  obtain ⟨c0, c1, c2, c3, c4, c5, c6, c7, c8, c9, ff⟩ := zcells p3
  have P3 := Lib.hid p3
  clear hb p3
  go_wp2_with fail
  refine hK.out _ _ ⟨p1, p2⟩ (fun hHeld => ?_)
  refine wpAnyH_take (i := 7) (v := ?vax7) (by rw [List.getElem?_toArray]; rfl) (by kernel_rfl) (by kernel_rfl) (by kernel_rfl) ?qax7 (Or.inl ⟨by rfl, ?yax7⟩) (by assumption) ?rax7
  case qax7 => exact fun _ _ _ h => h
  case yax7 => (intro wz hSw; go_simp; try (with_reducible rfl))
  simp only [Act.put, List.setIfInBounds_toArray, List.set_cons_zero, List.set_cons_succ]
  refine wpAnyH_ready (rs := [8]) (by kernel_rfl) (by simp) ?_
  refine AllReadyH.cons (by rw [List.getElem?_toArray]; rfl) (fun K2 hK2 => ?_) AllReadyH.nil
  clear hHeld
  go_simp
  refine hK2.out _ _ ⟨(ten_other _ _ _ (by omega) _ _ _ _ _ _ _ _ _ _).trans p1, (ten_other _ _ _ (by omega) _ _ _ _ _ _ _ _ _ _).trans p2⟩ (fun hHeld => ?_)
  refine wpAnyH_done (by kernel_rfl) ?_ _
  clear hHeld c0 c1 c2 c3 c4 c5 c6 c7 c8 c9 ff p1 p2
  go_wp2
  exact bodyPost_ret (results_cell_row Try.results70 _ _ (w.heap.size + 1 + 1) 86 _ (0, 0) _ rfl (ten _ _ P3.out _ _ _ _ _ _ _ _ _ _) Try.underlying86 rfl (by kernel_rfl)) rfl ⟨rfl, ten_below bl _ (by omega) _ _ _ _ _ _ _ _ _ _⟩

end Go.Proofs.Yteoionlnnjcggaa.ar

/-
  What the reference's Add answers, the two of different signs.
-/
namespace Go.Proofs.Yteoionlnnjcggaa.ar
open Go.RowKit
set_option linter.unusedVariables false


set_option maxRecDepth 100000 in
theorem add_lt (m n : Bool) (hmn : ¬ m = n) (x y : Nat) (hxy : x < y) (hx : x < BB ^ 9) (hy : y < BB ^ 9) (w : World) :
    Calls Try.prog 70 #[.agg #[.bool m, .int .i64 (dg x 0), .int .i64 (dg x 1), .int .i64 (dg x 2), .int .i64 (dg x 3), .int .i64 (dg x 4), .int .i64 (dg x 5), .int .i64 (dg x 6), .int .i64 (dg x 7), .int .i64 (dg x 8)], .agg #[.bool n, .int .i64 (dg y 0), .int .i64 (dg y 1), .int .i64 (dg y 2), .int .i64 (dg y 3), .int .i64 (dg y 4), .int .i64 (dg y 5), .int .i64 (dg y 6), .int .i64 (dg y 7), .int .i64 (dg y 8)]] w fun e w' => e = .returned (.agg #[.bool n, .int .i64 (dg (y - x) 0), .int .i64 (dg (y - x) 1), .int .i64 (dg (y - x) 2), .int .i64 (dg (y - x) 3), .int .i64 (dg (y - x) 4), .int .i64 (dg (y - x) 5), .int .i64 (dg (y - x) 6), .int .i64 (dg (y - x) 7), .int .i64 (dg (y - x) 8)]) ∧ Below w.heap.size w w' := by
  have HT := fun W => minus_loop y x (by omega) W
  have e1 : (m == n) = false := by simpa using hmn
  have HL : Hid (ltb x y = true) := by show ltb x y = true; unfold ltb; exact decide_eq_true hxy
  clear hmn hxy
  go_enter Try.func70, Try.ntmps70
  go_wp2_with fail
  refine (less_any x y hx hy _).mono ?_; rintro e w0 ⟨rfl, hb0⟩
  obtain ⟨h1, h2, h3⟩ := heap3 w (.cells #[.bool m, .int .i64 (dg x 0), .int .i64 (dg x 1), .int .i64 (dg x 2), .int .i64 (dg x 3), .int .i64 (dg x 4), .int .i64 (dg x 5), .int .i64 (dg x 6), .int .i64 (dg x 7), .int .i64 (dg x 8)] 86) (.cells #[.bool n, .int .i64 (dg y 0), .int .i64 (dg y 1), .int .i64 (dg y 2), .int .i64 (dg y 3), .int .i64 (dg y 4), .int .i64 (dg y 5), .int .i64 (dg y 6), .int .i64 (dg y 7), .int .i64 (dg y 8)] 86) (.cells #[.bool false, .int .i64 0, .int .i64 0, .int .i64 0, .int .i64 0, .int .i64 0, .int .i64 0, .int .i64 0, .int .i64 0, .int .i64 0] 86)
  obtain ⟨q1, q2, q3, q4⟩ := sg_call (w := w) h1 h2 h3 (bl_al (bl_al (bl_al (Below.refl _ _) _) _) _) hb0
  have Q1 : Hid (w0.drew.heap[w.heap.size]? = some (.cells #[.bool m, .int .i64 (dg x 0), .int .i64 (dg x 1), .int .i64 (dg x 2), .int .i64 (dg x 3), .int .i64 (dg x 4), .int .i64 (dg x 5), .int .i64 (dg x 6), .int .i64 (dg x 7), .int .i64 (dg x 8)] 86 (0, 0))) := q1
  have Q2 : Hid (w0.drew.heap[w.heap.size + 1]? = some (.cells #[.bool n, .int .i64 (dg y 0), .int .i64 (dg y 1), .int .i64 (dg y 2), .int .i64 (dg y 3), .int .i64 (dg y 4), .int .i64 (dg y 5), .int .i64 (dg y 6), .int .i64 (dg y 7), .int .i64 (dg y 8)] 86 (0, 0))) := q2
  have Q3 : Hid (w0.drew.heap[w.heap.size + 1 + 1]? = some (.cells #[.bool false, .int .i64 0, .int .i64 0, .int .i64 0, .int .i64 0, .int .i64 0, .int .i64 0, .int .i64 0, .int .i64 0, .int .i64 0] 86 (0, 0))) := q3
  have Q4 : Hid (Below w.heap.size w w0.drew) := q4.drew
  clear hb0 h1 h2 h3 q1 q2 q3 q4
  rw [HL.out]
  go_wp2
  refine wp_region_held_drew (S := fun w' => w'.heap[w.heap.size]? = some (.cells #[.bool m, .int .i64 (dg x 0), .int .i64 (dg x 1), .int .i64 (dg x 2), .int .i64 (dg x 3), .int .i64 (dg x 4), .int .i64 (dg x 5), .int .i64 (dg x 6), .int .i64 (dg x 7), .int .i64 (dg x 8)] 86 (0, 0)) ∧ w'.heap[w.heap.size + 1]? = some (.cells #[.bool n, .int .i64 (dg y 0), .int .i64 (dg y 1), .int .i64 (dg y 2), .int .i64 (dg y 3), .int .i64 (dg y 4), .int .i64 (dg y 5), .int .i64 (dg y 6), .int .i64 (dg y 7), .int .i64 (dg y 8)] 86 (0, 0))) (by kernel_rfl) ⟨Q1.out, Q2.out⟩ (fun hHeld => ?_)
  refine wpAnyH_take (i := 0) (v := ?vax0) (by rw [List.getElem?_toArray]; rfl) (by kernel_rfl) (by kernel_rfl) (by kernel_rfl) ?qax0 (Or.inl ⟨by rfl, ?yax0⟩) (by assumption) ?rax0
  case qax0 => exact fun _ _ _ h => h
  case yax0 => (intro wz hSw; go_simp; try (with_reducible rfl))
  simp only [Act.put, List.setIfInBounds_toArray, List.set_cons_zero, List.set_cons_succ]
  refine wpAnyH_take (i := 1) (v := ?vax1) (by rw [List.getElem?_toArray]; rfl) (by kernel_rfl) (by kernel_rfl) (by kernel_rfl) ?qax1 (Or.inl ⟨by rfl, ?yax1⟩) (by assumption) ?rax1
  case qax1 => exact fun _ _ _ h => h
  case yax1 => (intro wz hSw; have cc := cell_of_row wz _ 0 _ _ _ hSw.2; simp at cc; go_simp; try (with_reducible rfl))
  simp only [Act.put, List.setIfInBounds_toArray, List.set_cons_zero, List.set_cons_succ]
  refine wpAnyH_take (i := 2) (v := ?vax2) (by rw [List.getElem?_toArray]; rfl) (by kernel_rfl) (by kernel_rfl) (by kernel_rfl) ?qax2 (Or.inl ⟨by rfl, ?yax2⟩) (by assumption) ?rax2
  case qax2 => exact fun _ _ _ h => h
  case yax2 => (intro wz hSw; go_simp; try (with_reducible rfl))
  simp only [Act.put, List.setIfInBounds_toArray, List.set_cons_zero, List.set_cons_succ]
  refine' wpAnyH_take (i := 3) (v := _) (by rw [List.getElem?_toArray]; rfl) (by kernel_rfl) (by kernel_rfl) (by kernel_rfl) ?qax3 (yieldsIf_load_mid (by rfl) _ _ rfl _ _ rfl [.int .i64 (dg y 0), .int .i64 (dg y 1), .int .i64 (dg y 2), .int .i64 (dg y 3), .int .i64 (dg y 4), .int .i64 (dg y 5), .int .i64 (dg y 6), .int .i64 (dg y 7), .int .i64 (dg y 8)] _ ?hSax3 ?huax3 ?hdax3 ?hiax3) (by assumption) ?restax3
  case qax3 => exact fun _ _ _ h => h
  case hSax3 => exact fun wz hSw => sg_range hSw.2
  case huax3 => exact Try.underlying84
  case hdax3 => rfl
  case hiax3 => exact info26
  simp only [Act.put, List.setIfInBounds_toArray, List.set_cons_zero, List.set_cons_succ]
  refine wpAnyH_take (i := 4) (v := ?vax4) (by rw [List.getElem?_toArray]; rfl) (by kernel_rfl) (by kernel_rfl) (by kernel_rfl) ?qax4 (Or.inl ⟨by rfl, ?yax4⟩) (by assumption) ?rax4
  case qax4 => exact fun _ _ _ h => h
  case yax4 => (intro wz hSw; go_simp; try (with_reducible rfl))
  simp only [Act.put, List.setIfInBounds_toArray, List.set_cons_zero, List.set_cons_succ]
  refine' wpAnyH_take (i := 5) (v := _) (by rw [List.getElem?_toArray]; rfl) (by kernel_rfl) (by kernel_rfl) (by kernel_rfl) ?qax5 (yieldsIf_load_mid (by rfl) _ _ rfl _ _ rfl [.int .i64 (dg x 0), .int .i64 (dg x 1), .int .i64 (dg x 2), .int .i64 (dg x 3), .int .i64 (dg x 4), .int .i64 (dg x 5), .int .i64 (dg x 6), .int .i64 (dg x 7), .int .i64 (dg x 8)] _ ?hSax5 ?huax5 ?hdax5 ?hiax5) (by assumption) ?restax5
  case qax5 => exact fun _ _ _ h => h
  case hSax5 => exact fun wz hSw => sg_range hSw.1
  case huax5 => exact Try.underlying84
  case hdax5 => rfl
  case hiax5 => exact info26
  simp only [Act.put, List.setIfInBounds_toArray, List.set_cons_zero, List.set_cons_succ]
  refine wpAnyH_ready (rs := [6]) (by kernel_rfl) (by simp) ?_
  refine AllReadyH.cons (by rw [List.getElem?_toArray]; rfl) (fun K hK => ?_) AllReadyH.nil
  clear hHeld
  go_simp
  go_at_call 77; refine (HT _).mono ?_; rintro e w1 ⟨rfl, hb⟩
  obtain ⟨p1, p2, p3, bl⟩ := sg_call (w := w) Q1.out Q2.out Q3.out Q4.out hb
  obtain ⟨c0, c1, c2, c3, c4, c5, c6, c7, c8, c9, ff⟩ := zcells p3
  have P3 := Lib.hid p3
  clear hb p3
  go_wp2_with fail
  refine hK.out _ _ ⟨p1, p2⟩ (fun hHeld => ?_)
  refine wpAnyH_take (i := 7) (v := ?vax7) (by rw [List.getElem?_toArray]; rfl) (by kernel_rfl) (by kernel_rfl) (by kernel_rfl) ?qax7 (Or.inl ⟨by rfl, ?yax7⟩) (by assumption) ?rax7
  case qax7 => exact fun _ _ _ h => h
  case yax7 => (intro wz hSw; go_simp; try (with_reducible rfl))
  simp only [Act.put, List.setIfInBounds_toArray, List.set_cons_zero, List.set_cons_succ]
  refine wpAnyH_ready (rs := [8]) (by kernel_rfl) (by simp) ?_
  refine AllReadyH.cons (by rw [List.getElem?_toArray]; rfl) (fun K2 hK2 => ?_) AllReadyH.nil
  clear hHeld
  go_simp
  refine hK2.out _ _ ⟨(ten_other _ _ _ (by omega) _ _ _ _ _ _ _ _ _ _).trans p1, (ten_other _ _ _ (by omega) _ _ _ _ _ _ _ _ _ _).trans p2⟩ (fun hHeld => ?_)
  refine wpAnyH_done (by kernel_rfl) ?_ _
  clear hHeld c0 c1 c2 c3 c4 c5 c6 c7 c8 c9 ff p1 p2
  go_wp2
  exact bodyPost_ret (results_cell_row Try.results70 _ _ (w.heap.size + 1 + 1) 86 _ (0, 0) _ rfl (ten _ _ P3.out _ _ _ _ _ _ _ _ _ _) Try.underlying86 rfl (by kernel_rfl)) rfl ⟨rfl, ten_below bl _ (by omega) _ _ _ _ _ _ _ _ _ _⟩


set_option maxRecDepth 100000 in
theorem add_ge (m n : Bool) (hmn : ¬ m = n) (x y : Nat) (hxy : y ≤ x) (hx : x < BB ^ 9) (hy : y < BB ^ 9) (w : World) :
    Calls Try.prog 70 #[.agg #[.bool m, .int .i64 (dg x 0), .int .i64 (dg x 1), .int .i64 (dg x 2), .int .i64 (dg x 3), .int .i64 (dg x 4), .int .i64 (dg x 5), .int .i64 (dg x 6), .int .i64 (dg x 7), .int .i64 (dg x 8)], .agg #[.bool n, .int .i64 (dg y 0), .int .i64 (dg y 1), .int .i64 (dg y 2), .int .i64 (dg y 3), .int .i64 (dg y 4), .int .i64 (dg y 5), .int .i64 (dg y 6), .int .i64 (dg y 7), .int .i64 (dg y 8)]] w fun e w' => e = .returned (.agg #[.bool m, .int .i64 (dg (x - y) 0), .int .i64 (dg (x - y) 1), .int .i64 (dg (x - y) 2), .int .i64 (dg (x - y) 3), .int .i64 (dg (x - y) 4), .int .i64 (dg (x - y) 5), .int .i64 (dg (x - y) 6), .int .i64 (dg (x - y) 7), .int .i64 (dg (x - y) 8)]) ∧ Below w.heap.size w w' := by
  have HT := fun W => minus_loop x y (by omega) W
  have e1 : (m == n) = false := by simpa using hmn
  have HL : Hid (ltb x y = false) := by show ltb x y = false; unfold ltb; exact decide_eq_false (by omega)
  clear hmn hxy
  go_enter Try.func70, Try.ntmps70
  go_wp2_with fail
  refine (less_any x y hx hy _).mono ?_; rintro e w0 ⟨rfl, hb0⟩
  obtain ⟨h1, h2, h3⟩ := heap3 w (.cells #[.bool m, .int .i64 (dg x 0), .int .i64 (dg x 1), .int .i64 (dg x 2), .int .i64 (dg x 3), .int .i64 (dg x 4), .int .i64 (dg x 5), .int .i64 (dg x 6), .int .i64 (dg x 7), .int .i64 (dg x 8)] 86) (.cells #[.bool n, .int .i64 (dg y 0), .int .i64 (dg y 1), .int .i64 (dg y 2), .int .i64 (dg y 3), .int .i64 (dg y 4), .int .i64 (dg y 5), .int .i64 (dg y 6), .int .i64 (dg y 7), .int .i64 (dg y 8)] 86) (.cells #[.bool false, .int .i64 0, .int .i64 0, .int .i64 0, .int .i64 0, .int .i64 0, .int .i64 0, .int .i64 0, .int .i64 0, .int .i64 0] 86)
  obtain ⟨q1, q2, q3, q4⟩ := sg_call (w := w) h1 h2 h3 (bl_al (bl_al (bl_al (Below.refl _ _) _) _) _) hb0
  have Q1 : Hid (w0.drew.heap[w.heap.size]? = some (.cells #[.bool m, .int .i64 (dg x 0), .int .i64 (dg x 1), .int .i64 (dg x 2), .int .i64 (dg x 3), .int .i64 (dg x 4), .int .i64 (dg x 5), .int .i64 (dg x 6), .int .i64 (dg x 7), .int .i64 (dg x 8)] 86 (0, 0))) := q1
  have Q2 : Hid (w0.drew.heap[w.heap.size + 1]? = some (.cells #[.bool n, .int .i64 (dg y 0), .int .i64 (dg y 1), .int .i64 (dg y 2), .int .i64 (dg y 3), .int .i64 (dg y 4), .int .i64 (dg y 5), .int .i64 (dg y 6), .int .i64 (dg y 7), .int .i64 (dg y 8)] 86 (0, 0))) := q2
  have Q3 : Hid (w0.drew.heap[w.heap.size + 1 + 1]? = some (.cells #[.bool false, .int .i64 0, .int .i64 0, .int .i64 0, .int .i64 0, .int .i64 0, .int .i64 0, .int .i64 0, .int .i64 0, .int .i64 0] 86 (0, 0))) := q3
  have Q4 : Hid (Below w.heap.size w w0.drew) := q4.drew
  clear hb0 h1 h2 h3 q1 q2 q3 q4
  rw [HL.out]
  go_wp2
  refine wp_region_held_drew (S := fun w' => w'.heap[w.heap.size]? = some (.cells #[.bool m, .int .i64 (dg x 0), .int .i64 (dg x 1), .int .i64 (dg x 2), .int .i64 (dg x 3), .int .i64 (dg x 4), .int .i64 (dg x 5), .int .i64 (dg x 6), .int .i64 (dg x 7), .int .i64 (dg x 8)] 86 (0, 0)) ∧ w'.heap[w.heap.size + 1]? = some (.cells #[.bool n, .int .i64 (dg y 0), .int .i64 (dg y 1), .int .i64 (dg y 2), .int .i64 (dg y 3), .int .i64 (dg y 4), .int .i64 (dg y 5), .int .i64 (dg y 6), .int .i64 (dg y 7), .int .i64 (dg y 8)] 86 (0, 0))) (by kernel_rfl) ⟨Q1.out, Q2.out⟩ (fun hHeld => ?_)
  refine wpAnyH_take (i := 0) (v := ?vax0) (by rw [List.getElem?_toArray]; rfl) (by kernel_rfl) (by kernel_rfl) (by kernel_rfl) ?qax0 (Or.inl ⟨by rfl, ?yax0⟩) (by assumption) ?rax0
  case qax0 => exact fun _ _ _ h => h
  case yax0 => (intro wz hSw; go_simp; try (with_reducible rfl))
  simp only [Act.put, List.setIfInBounds_toArray, List.set_cons_zero, List.set_cons_succ]
  refine wpAnyH_take (i := 1) (v := ?vax1) (by rw [List.getElem?_toArray]; rfl) (by kernel_rfl) (by kernel_rfl) (by kernel_rfl) ?qax1 (Or.inl ⟨by rfl, ?yax1⟩) (by assumption) ?rax1
  case qax1 => exact fun _ _ _ h => h
  case yax1 => (intro wz hSw; have cc := cell_of_row wz _ 0 _ _ _ hSw.1; simp at cc; go_simp; try (with_reducible rfl))
  simp only [Act.put, List.setIfInBounds_toArray, List.set_cons_zero, List.set_cons_succ]
  refine wpAnyH_take (i := 2) (v := ?vax2) (by rw [List.getElem?_toArray]; rfl) (by kernel_rfl) (by kernel_rfl) (by kernel_rfl) ?qax2 (Or.inl ⟨by rfl, ?yax2⟩) (by assumption) ?rax2
  case qax2 => exact fun _ _ _ h => h
  case yax2 => (intro wz hSw; go_simp; try (with_reducible rfl))
  simp only [Act.put, List.setIfInBounds_toArray, List.set_cons_zero, List.set_cons_succ]
  refine' wpAnyH_take (i := 3) (v := _) (by rw [List.getElem?_toArray]; rfl) (by kernel_rfl) (by kernel_rfl) (by kernel_rfl) ?qax3 (yieldsIf_load_mid (by rfl) _ _ rfl _ _ rfl [.int .i64 (dg x 0), .int .i64 (dg x 1), .int .i64 (dg x 2), .int .i64 (dg x 3), .int .i64 (dg x 4), .int .i64 (dg x 5), .int .i64 (dg x 6), .int .i64 (dg x 7), .int .i64 (dg x 8)] _ ?hSax3 ?huax3 ?hdax3 ?hiax3) (by assumption) ?restax3
  case qax3 => exact fun _ _ _ h => h
  case hSax3 => exact fun wz hSw => sg_range hSw.1
  case huax3 => exact Try.underlying84
  case hdax3 => rfl
  case hiax3 => exact info26
  simp only [Act.put, List.setIfInBounds_toArray, List.set_cons_zero, List.set_cons_succ]
  refine wpAnyH_take (i := 4) (v := ?vax4) (by rw [List.getElem?_toArray]; rfl) (by kernel_rfl) (by kernel_rfl) (by kernel_rfl) ?qax4 (Or.inl ⟨by rfl, ?yax4⟩) (by assumption) ?rax4
  case qax4 => exact fun _ _ _ h => h
  case yax4 => (intro wz hSw; go_simp; try (with_reducible rfl))
  simp only [Act.put, List.setIfInBounds_toArray, List.set_cons_zero, List.set_cons_succ]
  refine' wpAnyH_take (i := 5) (v := _) (by rw [List.getElem?_toArray]; rfl) (by kernel_rfl) (by kernel_rfl) (by kernel_rfl) ?qax5 (yieldsIf_load_mid (by rfl) _ _ rfl _ _ rfl [.int .i64 (dg y 0), .int .i64 (dg y 1), .int .i64 (dg y 2), .int .i64 (dg y 3), .int .i64 (dg y 4), .int .i64 (dg y 5), .int .i64 (dg y 6), .int .i64 (dg y 7), .int .i64 (dg y 8)] _ ?hSax5 ?huax5 ?hdax5 ?hiax5) (by assumption) ?restax5
  case qax5 => exact fun _ _ _ h => h
  case hSax5 => exact fun wz hSw => sg_range hSw.2
  case huax5 => exact Try.underlying84
  case hdax5 => rfl
  case hiax5 => exact info26
  simp only [Act.put, List.setIfInBounds_toArray, List.set_cons_zero, List.set_cons_succ]
  refine wpAnyH_ready (rs := [6]) (by kernel_rfl) (by simp) ?_
  refine AllReadyH.cons (by rw [List.getElem?_toArray]; rfl) (fun K hK => ?_) AllReadyH.nil
  clear hHeld
  go_simp
  go_at_call 77; refine (HT _).mono ?_; rintro e w1 ⟨rfl, hb⟩
  obtain ⟨p1, p2, p3, bl⟩ := sg_call (w := w) Q1.out Q2.out Q3.out Q4.out hb
  obtain ⟨c0, c1, c2, c3, c4, c5, c6, c7, c8, c9, ff⟩ := zcells p3
  have P3 := Lib.hid p3
  clear hb p3
  go_wp2_with fail
  refine hK.out _ _ ⟨p1, p2⟩ (fun hHeld => ?_)
  refine wpAnyH_take (i := 7) (v := ?vax7) (by rw [List.getElem?_toArray]; rfl) (by kernel_rfl) (by kernel_rfl) (by kernel_rfl) ?qax7 (Or.inl ⟨by rfl, ?yax7⟩) (by assumption) ?rax7
  case qax7 => exact fun _ _ _ h => h
  case yax7 => (intro wz hSw; go_simp; try (with_reducible rfl))
  simp only [Act.put, List.setIfInBounds_toArray, List.set_cons_zero, List.set_cons_succ]
  refine wpAnyH_ready (rs := [8]) (by kernel_rfl) (by simp) ?_
  refine AllReadyH.cons (by rw [List.getElem?_toArray]; rfl) (fun K2 hK2 => ?_) AllReadyH.nil
  clear hHeld
  go_simp
  refine hK2.out _ _ ⟨(ten_other _ _ _ (by omega) _ _ _ _ _ _ _ _ _ _).trans p1, (ten_other _ _ _ (by omega) _ _ _ _ _ _ _ _ _ _).trans p2⟩ (fun hHeld => ?_)
  refine wpAnyH_done (by kernel_rfl) ?_ _
  clear hHeld c0 c1 c2 c3 c4 c5 c6 c7 c8 c9 ff p1 p2
  go_wp2
  exact bodyPost_ret (results_cell_row Try.results70 _ _ (w.heap.size + 1 + 1) 86 _ (0, 0) _ rfl (ten _ _ P3.out _ _ _ _ _ _ _ _ _ _) Try.underlying86 rfl (by kernel_rfl)) rfl ⟨rfl, ten_below bl _ (by omega) _ _ _ _ _ _ _ _ _ _⟩

end Go.Proofs.Yteoionlnnjcggaa.ar

/-
  What the reference's Cmp answers.
-/
namespace Go.Proofs.Yteoionlnnjcggaa.ar
open Go.RowKit
set_option linter.unusedVariables false


theorem info28 : (Try.prog.info? 86).map (·.size) = some 10 := by kernel_rfl
theorem sg_whole {w : World} {g : Nat} {m : Bool} {x : Nat} (h : w.heap[g]? = some (.cells #[.bool m, .int .i64 (dg x 0), .int .i64 (dg x 1), .int .i64 (dg x 2), .int .i64 (dg x 3), .int .i64 (dg x 4), .int .i64 (dg x 5), .int .i64 (dg x 6), .int .i64 (dg x 7), .int .i64 (dg x 8)] 86 (0, 0))) : w.rangeAt g 0 [.bool m, .int .i64 (dg x 0), .int .i64 (dg x 1), .int .i64 (dg x 2), .int .i64 (dg x 3), .int .i64 (dg x 4), .int .i64 (dg x 5), .int .i64 (dg x 6), .int .i64 (dg x 7), .int .i64 (dg x 8)] := by
  intro j v hj
  rw [cell_of_row _ _ _ _ _ _ h]
  rcases j with _ | _ | _ | _ | _ | _ | _ | _ | _ | _ | j
  all_goals first | (simp at hj; done) | (simp at hj; subst hj; rfl)
theorem sg_two {w V w1 : World} {a b : Nat} {o1 o2 : Obj} (q1 : V.heap[a]? = some o1) (q2 : V.heap[b]? = some o2) (q4 : Below w.heap.size w V) (hb : Below V.heap.size V w1) :
    w1.heap[a]? = some o1 ∧ w1.heap[b]? = some o2 ∧ Below w.heap.size w w1 :=
  ⟨(hb.block _ (lt_heap q1)).trans q1, (hb.block _ (lt_heap q2)).trans q2, bl_tr q4 hb⟩
theorem sgcells {w : World} {g : Nat} {m : Bool} {x : Nat} (h : w.heap[g]? = some (.cells #[.bool m, .int .i64 (dg x 0), .int .i64 (dg x 1), .int .i64 (dg x 2), .int .i64 (dg x 3), .int .i64 (dg x 4), .int .i64 (dg x 5), .int .i64 (dg x 6), .int .i64 (dg x 7), .int .i64 (dg x 8)] 86 (0, 0))) : w.cell? ⟨g, 0, none⟩ = some (.bool m) ∧ w.cell? ⟨g, 1, none⟩ = some (.int .i64 (dg x 0)) ∧ w.cell? ⟨g, 2, none⟩ = some (.int .i64 (dg x 1)) ∧ w.cell? ⟨g, 3, none⟩ = some (.int .i64 (dg x 2)) ∧ w.cell? ⟨g, 4, none⟩ = some (.int .i64 (dg x 3)) ∧ w.cell? ⟨g, 5, none⟩ = some (.int .i64 (dg x 4)) ∧ w.cell? ⟨g, 6, none⟩ = some (.int .i64 (dg x 5)) ∧ w.cell? ⟨g, 7, none⟩ = some (.int .i64 (dg x 6)) ∧ w.cell? ⟨g, 8, none⟩ = some (.int .i64 (dg x 7)) ∧ w.cell? ⟨g, 9, none⟩ = some (.int .i64 (dg x 8)) :=
  ⟨cell_of_row _ _ 0 _ _ _ h, cell_of_row _ _ 1 _ _ _ h, cell_of_row _ _ 2 _ _ _ h, cell_of_row _ _ 3 _ _ _ h, cell_of_row _ _ 4 _ _ _ h, cell_of_row _ _ 5 _ _ _ h, cell_of_row _ _ 6 _ _ _ h, cell_of_row _ _ 7 _ _ _ h, cell_of_row _ _ 8 _ _ _ h, cell_of_row _ _ 9 _ _ _ h⟩

set_option maxRecDepth 100000 in
theorem cmp_core (m n k : Bool) (x y z : Nat) (w : World)
    (HA : ∀ W, Calls Try.prog 70 #[.agg #[.bool m, .int .i64 (dg x 0), .int .i64 (dg x 1), .int .i64 (dg x 2), .int .i64 (dg x 3), .int .i64 (dg x 4), .int .i64 (dg x 5), .int .i64 (dg x 6), .int .i64 (dg x 7), .int .i64 (dg x 8)], .agg #[.bool (!n), .int .i64 (dg y 0), .int .i64 (dg y 1), .int .i64 (dg y 2), .int .i64 (dg y 3), .int .i64 (dg y 4), .int .i64 (dg y 5), .int .i64 (dg y 6), .int .i64 (dg y 7), .int .i64 (dg y 8)]] W fun e w' => e = .returned (.agg #[.bool k, .int .i64 (dg z 0), .int .i64 (dg z 1), .int .i64 (dg z 2), .int .i64 (dg z 3), .int .i64 (dg z 4), .int .i64 (dg z 5), .int .i64 (dg z 6), .int .i64 (dg z 7), .int .i64 (dg z 8)]) ∧ Below W.heap.size W w')
    (e : Bool) (EQ : ∀ W, (Op.equalIn 10000 84 (.agg #[.int .i64 (dg z 0), .int .i64 (dg z 1), .int .i64 (dg z 2), .int .i64 (dg z 3), .int .i64 (dg z 4), .int .i64 (dg z 5), .int .i64 (dg z 6), .int .i64 (dg z 7), .int .i64 (dg z 8)]) (.agg #[.int .i64 0, .int .i64 0, .int .i64 0, .int .i64 0, .int .i64 0, .int .i64 0, .int .i64 0, .int .i64 0, .int .i64 0])).run Try.prog W = .ok e W) (r : Int) (hr : r = if e then 0 else if k then -1 else 1) :
    Calls Try.prog 62 #[.agg #[.bool m, .int .i64 (dg x 0), .int .i64 (dg x 1), .int .i64 (dg x 2), .int .i64 (dg x 3), .int .i64 (dg x 4), .int .i64 (dg x 5), .int .i64 (dg x 6), .int .i64 (dg x 7), .int .i64 (dg x 8)], .agg #[.bool n, .int .i64 (dg y 0), .int .i64 (dg y 1), .int .i64 (dg y 2), .int .i64 (dg y 3), .int .i64 (dg y 4), .int .i64 (dg y 5), .int .i64 (dg y 6), .int .i64 (dg y 7), .int .i64 (dg y 8)]] w fun e w' => e = .returned (.int .i64 r) ∧ Below w.heap.size w w' := by
  have HN := fun W => neg_any n y W
  have Q1 : Hid (((w.alloc (.cells #[.bool m, .int .i64 (dg x 0), .int .i64 (dg x 1), .int .i64 (dg x 2), .int .i64 (dg x 3), .int .i64 (dg x 4), .int .i64 (dg x 5), .int .i64 (dg x 6), .int .i64 (dg x 7), .int .i64 (dg x 8)] 86)).alloc (.cells #[.bool n, .int .i64 (dg y 0), .int .i64 (dg y 1), .int .i64 (dg y 2), .int .i64 (dg y 3), .int .i64 (dg y 4), .int .i64 (dg y 5), .int .i64 (dg y 6), .int .i64 (dg y 7), .int .i64 (dg y 8)] 86)).drew.heap[w.heap.size]? = some (.cells #[.bool m, .int .i64 (dg x 0), .int .i64 (dg x 1), .int .i64 (dg x 2), .int .i64 (dg x 3), .int .i64 (dg x 4), .int .i64 (dg x 5), .int .i64 (dg x 6), .int .i64 (dg x 7), .int .i64 (dg x 8)] 86 (0, 0))) := heap_alloc2_old w _ _
  have Q2 : Hid (((w.alloc (.cells #[.bool m, .int .i64 (dg x 0), .int .i64 (dg x 1), .int .i64 (dg x 2), .int .i64 (dg x 3), .int .i64 (dg x 4), .int .i64 (dg x 5), .int .i64 (dg x 6), .int .i64 (dg x 7), .int .i64 (dg x 8)] 86)).alloc (.cells #[.bool n, .int .i64 (dg y 0), .int .i64 (dg y 1), .int .i64 (dg y 2), .int .i64 (dg y 3), .int .i64 (dg y 4), .int .i64 (dg y 5), .int .i64 (dg y 6), .int .i64 (dg y 7), .int .i64 (dg y 8)] 86)).drew.heap[w.heap.size + 1]? = some (.cells #[.bool n, .int .i64 (dg y 0), .int .i64 (dg y 1), .int .i64 (dg y 2), .int .i64 (dg y 3), .int .i64 (dg y 4), .int .i64 (dg y 5), .int .i64 (dg y 6), .int .i64 (dg y 7), .int .i64 (dg y 8)] 86 (0, 0))) := heap_alloc2_new w _ _
  have Q4 : Hid (Below w.heap.size w ((w.alloc (.cells #[.bool m, .int .i64 (dg x 0), .int .i64 (dg x 1), .int .i64 (dg x 2), .int .i64 (dg x 3), .int .i64 (dg x 4), .int .i64 (dg x 5), .int .i64 (dg x 6), .int .i64 (dg x 7), .int .i64 (dg x 8)] 86)).alloc (.cells #[.bool n, .int .i64 (dg y 0), .int .i64 (dg y 1), .int .i64 (dg y 2), .int .i64 (dg y 3), .int .i64 (dg y 4), .int .i64 (dg y 5), .int .i64 (dg y 6), .int .i64 (dg y 7), .int .i64 (dg y 8)] 86)).drew) := (bl_al (bl_al (Below.refl _ _) _) _).drew
  have HR := Lib.hid hr
  have HE := Lib.hid EQ
  have HAA := Lib.hid HA
  clear hr EQ HA
  go_enter Try.func62, Try.ntmps62
  go_wp2
  refine wp_region_held_drew (S := fun w' => w'.heap[w.heap.size]? = some (.cells #[.bool m, .int .i64 (dg x 0), .int .i64 (dg x 1), .int .i64 (dg x 2), .int .i64 (dg x 3), .int .i64 (dg x 4), .int .i64 (dg x 5), .int .i64 (dg x 6), .int .i64 (dg x 7), .int .i64 (dg x 8)] 86 (0, 0)) ∧ w'.heap[w.heap.size + 1]? = some (.cells #[.bool n, .int .i64 (dg y 0), .int .i64 (dg y 1), .int .i64 (dg y 2), .int .i64 (dg y 3), .int .i64 (dg y 4), .int .i64 (dg y 5), .int .i64 (dg y 6), .int .i64 (dg y 7), .int .i64 (dg y 8)] 86 (0, 0))) (by kernel_rfl) ⟨Q1.out, Q2.out⟩ (fun hHeld => ?_)
  refine' wpAnyH_take (i := 0) (v := _) (by rw [List.getElem?_toArray]; rfl) (by kernel_rfl) (by kernel_rfl) (by kernel_rfl) ?qax0 (yieldsIf_load_mid (by rfl) _ _ rfl _ _ rfl [.bool m, .int .i64 (dg x 0), .int .i64 (dg x 1), .int .i64 (dg x 2), .int .i64 (dg x 3), .int .i64 (dg x 4), .int .i64 (dg x 5), .int .i64 (dg x 6), .int .i64 (dg x 7), .int .i64 (dg x 8)] _ ?hSax0 ?huax0 ?hdax0 ?hiax0) (by assumption) ?restax0
  case qax0 => exact fun _ _ _ h => h
  case hSax0 => exact fun wz hSw => sg_whole hSw.1
  case huax0 => exact Try.underlying86
  case hdax0 => rfl
  case hiax0 => exact info28
  simp only [Act.put, List.setIfInBounds_toArray, List.set_cons_zero, List.set_cons_succ]
  refine' wpAnyH_take (i := 1) (v := _) (by rw [List.getElem?_toArray]; rfl) (by kernel_rfl) (by kernel_rfl) (by kernel_rfl) ?qax1 (yieldsIf_load_mid (by rfl) _ _ rfl _ _ rfl [.bool n, .int .i64 (dg y 0), .int .i64 (dg y 1), .int .i64 (dg y 2), .int .i64 (dg y 3), .int .i64 (dg y 4), .int .i64 (dg y 5), .int .i64 (dg y 6), .int .i64 (dg y 7), .int .i64 (dg y 8)] _ ?hSax1 ?huax1 ?hdax1 ?hiax1) (by assumption) ?restax1
  case qax1 => exact fun _ _ _ h => h
  case hSax1 => exact fun wz hSw => sg_whole hSw.2
  case huax1 => exact Try.underlying86
  case hdax1 => rfl
  case hiax1 => exact info28
  simp only [Act.put, List.setIfInBounds_toArray, List.set_cons_zero, List.set_cons_succ]
  refine wpAnyH_ready (rs := [2, 4]) (by kernel_rfl) (by simp) ?_
  refine AllReadyH.cons (by rw [List.getElem?_toArray]; rfl) (fun K hK => ?_) ?_
  · clear hHeld
    go_simp
    go_at_call 71; refine (HN _).mono ?_; rintro ee w1 ⟨rfl, hb⟩
    obtain ⟨p1, p2, b1⟩ := sg_two (w := w) Q1.out Q2.out Q4.out hb
    clear hb
    go_wp2_with fail
    refine hK.out _ _ ⟨p1, p2⟩ (fun hHeld => ?_)
    clear hK K
    refine wpAnyH_ready (rs := [3, 4]) (by kernel_rfl) (by simp) ?_
    refine AllReadyH.cons (by rw [List.getElem?_toArray]; rfl) (fun K hK => ?_) ?_
    · clear hHeld
      go_simp
      go_at_call 70; refine (HAA.out _).mono ?_; rintro ee w2 ⟨rfl, hb⟩
      obtain ⟨p3, p4, b2⟩ := sg_two (w := w) p1 p2 b1 hb
      clear hb
      go_wp2_with fail
      refine hK.out _ _ ⟨p3, p4⟩ (fun hHeld => ?_)
      clear hK K
      refine wpAnyH_ready (rs := [4]) (by kernel_rfl) (by simp) ?_
      refine AllReadyH.cons (by rw [List.getElem?_toArray]; rfl) (fun K hK => ?_) AllReadyH.nil
      clear hHeld
      go_simp
      refine hK.out _ _ ⟨(heap_alloc_old _ _ (lt_heap p3)).trans p3, (heap_alloc_old _ _ (lt_heap p4)).trans p4⟩ (fun hHeld => ?_)
      clear hK K
      refine wpAnyH_ready (rs := [5]) (by kernel_rfl) (by simp) ?_
      refine AllReadyH.cons (by rw [List.getElem?_toArray]; rfl) (fun K hK => ?_) AllReadyH.nil
      clear hHeld
      go_simp
      have key := heap_alloc_new w2 (.cells #[.bool k, .int .i64 (dg z 0), .int .i64 (dg z 1), .int .i64 (dg z 2), .int .i64 (dg z 3), .int .i64 (dg z 4), .int .i64 (dg z 5), .int .i64 (dg z 6), .int .i64 (dg z 7), .int .i64 (dg z 8)] 86)
      have kb := bl_al b2 (.cells #[.bool k, .int .i64 (dg z 0), .int .i64 (dg z 1), .int .i64 (dg z 2), .int .i64 (dg z 3), .int .i64 (dg z 4), .int .i64 (dg z 5), .int .i64 (dg z 6), .int .i64 (dg z 7), .int .i64 (dg z 8)] 86)
      refine hK.out _ _ ⟨(heap_alloc_old _ _ (lt_heap p3)).trans p3, (heap_alloc_old _ _ (lt_heap p4)).trans p4⟩ (fun hHeld => ?_)
      clear hK K
      revert key kb
      generalize w2.alloc (.cells #[.bool k, .int .i64 (dg z 0), .int .i64 (dg z 1), .int .i64 (dg z 2), .int .i64 (dg z 3), .int .i64 (dg z 4), .int .i64 (dg z 5), .int .i64 (dg z 6), .int .i64 (dg z 7), .int .i64 (dg z 8)] 86) = w3
      intro key kb
      have EQ := HE.out
      obtain ⟨c0, c1, c2, c3, c4, c5, c6, c7, c8, c9⟩ := sgcells key
      refine wpAnyH_done (by kernel_rfl) ?_ _
      clear key hHeld
      go_wp2
      all_goals (go_ret; exact ⟨ret_int (by rw [HR.out]; simp [*]), kb⟩)
    · refine AllReadyH.cons (by rw [List.getElem?_toArray]; rfl) (fun K hK => ?_) AllReadyH.nil
      clear hHeld
      go_simp
      refine hK.out _ _ ⟨(heap_alloc_old _ _ (lt_heap p1)).trans p1, (heap_alloc_old _ _ (lt_heap p2)).trans p2⟩ (fun hHeld => ?_)
      clear hK K
      refine wpAnyH_ready (rs := [3]) (by kernel_rfl) (by simp) ?_
      refine AllReadyH.cons (by rw [List.getElem?_toArray]; rfl) (fun K hK => ?_) AllReadyH.nil
      clear hHeld
      go_simp
      go_at_call 70; refine (HAA.out _).mono ?_; rintro ee w2 ⟨rfl, hb⟩
      obtain ⟨p3, p4, b2⟩ := sg_two (w := w) ((heap_alloc_old _ _ (lt_heap p1)).trans p1) ((heap_alloc_old _ _ (lt_heap p2)).trans p2) (bl_al b1 _) hb
      have pz := new_keep hb
      clear hb
      go_wp2_with fail
      refine hK.out _ _ ⟨p3, p4⟩ (fun hHeld => ?_)
      clear hK K
      refine wpAnyH_ready (rs := [5]) (by kernel_rfl) (by simp) ?_
      refine AllReadyH.cons (by rw [List.getElem?_toArray]; rfl) (fun K hK => ?_) AllReadyH.nil
      clear hHeld
      obtain ⟨z0, z1, z2, z3, z4, z5, z6, z7, z8, z9, ff⟩ := zcells pz
      have key := ten w2 (w1.heap.size) pz (.bool k) (.int .i64 (dg z 0)) (.int .i64 (dg z 1)) (.int .i64 (dg z 2)) (.int .i64 (dg z 3)) (.int .i64 (dg z 4)) (.int .i64 (dg z 5)) (.int .i64 (dg z 6)) (.int .i64 (dg z 7)) (.int .i64 (dg z 8))
      have kb := ten_below b2 (w1.heap.size) (b1.size) (.bool k) (.int .i64 (dg z 0)) (.int .i64 (dg z 1)) (.int .i64 (dg z 2)) (.int .i64 (dg z 3)) (.int .i64 (dg z 4)) (.int .i64 (dg z 5)) (.int .i64 (dg z 6)) (.int .i64 (dg z 7)) (.int .i64 (dg z 8))
      have k1 := (ten_other w2 (w1.heap.size) _ (by have := lt_heap p1; omega) (.bool k) (.int .i64 (dg z 0)) (.int .i64 (dg z 1)) (.int .i64 (dg z 2)) (.int .i64 (dg z 3)) (.int .i64 (dg z 4)) (.int .i64 (dg z 5)) (.int .i64 (dg z 6)) (.int .i64 (dg z 7)) (.int .i64 (dg z 8))).trans p3
      have k2 := (ten_other w2 (w1.heap.size) _ (by have := lt_heap p2; omega) (.bool k) (.int .i64 (dg z 0)) (.int .i64 (dg z 1)) (.int .i64 (dg z 2)) (.int .i64 (dg z 3)) (.int .i64 (dg z 4)) (.int .i64 (dg z 5)) (.int .i64 (dg z 6)) (.int .i64 (dg z 7)) (.int .i64 (dg z 8))).trans p4
      have H1 := Lib.hid key
      have H2 := Lib.hid kb
      have H3 := Lib.hid k1
      have H4 := Lib.hid k2
      clear key kb k1 k2
      go_simp
      have key := H1.out
      have kb := H2.out
      have k1 := H3.out
      have k2 := H4.out
      clear H1 H2 H3 H4
      revert key kb k1 k2
      generalize ((((((((((w2.setCell ⟨w1.heap.size, 0, none⟩ (.bool k)).setCell ⟨w1.heap.size, 1, none⟩ (.int .i64 (dg z 0))).setCell ⟨w1.heap.size, 2, none⟩ (.int .i64 (dg z 1))).setCell ⟨w1.heap.size, 3, none⟩ (.int .i64 (dg z 2))).setCell ⟨w1.heap.size, 4, none⟩ (.int .i64 (dg z 3))).setCell ⟨w1.heap.size, 5, none⟩ (.int .i64 (dg z 4))).setCell ⟨w1.heap.size, 6, none⟩ (.int .i64 (dg z 5))).setCell ⟨w1.heap.size, 7, none⟩ (.int .i64 (dg z 6))).setCell ⟨w1.heap.size, 8, none⟩ (.int .i64 (dg z 7))).setCell ⟨w1.heap.size, 9, none⟩ (.int .i64 (dg z 8))) = w3
      intro key kb k1 k2
      refine hK.out _ _ ⟨k1, k2⟩ (fun hHeld => ?_)
      clear hK K k1 k2 z0 z1 z2 z3 z4 z5 z6 z7 z8 z9 ff
      have EQ := HE.out
      obtain ⟨c0, c1, c2, c3, c4, c5, c6, c7, c8, c9⟩ := sgcells key
      refine wpAnyH_done (by kernel_rfl) ?_ _
      clear key hHeld
      go_wp2
      all_goals (go_ret; exact ⟨ret_int (by rw [HR.out]; simp [*]), kb⟩)
  · refine AllReadyH.cons (by rw [List.getElem?_toArray]; rfl) (fun K hK => ?_) AllReadyH.nil
    clear hHeld
    go_simp
    refine hK.out _ _ ⟨(heap_alloc_old _ _ (lt_heap Q1.out)).trans Q1.out, (heap_alloc_old _ _ (lt_heap Q2.out)).trans Q2.out⟩ (fun hHeld => ?_)
    clear hK K
    refine wpAnyH_ready (rs := [2]) (by kernel_rfl) (by simp) ?_
    refine AllReadyH.cons (by rw [List.getElem?_toArray]; rfl) (fun K hK => ?_) AllReadyH.nil
    clear hHeld
    go_simp
    go_at_call 71; refine (HN _).mono ?_; rintro ee w1 ⟨rfl, hb⟩
    obtain ⟨p1, p2, b1⟩ := sg_two (w := w) ((heap_alloc_old _ _ (lt_heap Q1.out)).trans Q1.out) ((heap_alloc_old _ _ (lt_heap Q2.out)).trans Q2.out) (bl_al Q4.out _) hb
    have pz0 : w1.heap[w.heap.size + 1 + 1]? = some (.cells #[.bool false, .int .i64 0, .int .i64 0, .int .i64 0, .int .i64 0, .int .i64 0, .int .i64 0, .int .i64 0, .int .i64 0, .int .i64 0] 86) := (hb.block (w.heap.size + 1 + 1) (by simp)).trans (heap3 w _ _ _).2.2
    clear hb
    go_wp2_with fail
    refine hK.out _ _ ⟨p1, p2⟩ (fun hHeld => ?_)
    clear hK K
    refine wpAnyH_ready (rs := [3]) (by kernel_rfl) (by simp) ?_
    refine AllReadyH.cons (by rw [List.getElem?_toArray]; rfl) (fun K hK => ?_) AllReadyH.nil
    clear hHeld
    go_simp
    go_at_call 70; refine (HAA.out _).mono ?_; rintro ee w2 ⟨rfl, hb⟩
    obtain ⟨p3, p4, b2⟩ := sg_two (w := w) p1 p2 b1 hb
    have pz := (hb.block _ (lt_heap pz0)).trans pz0
    clear hb
    go_wp2_with fail
    refine hK.out _ _ ⟨p3, p4⟩ (fun hHeld => ?_)
    clear hK K
    refine wpAnyH_ready (rs := [5]) (by kernel_rfl) (by simp) ?_
    refine AllReadyH.cons (by rw [List.getElem?_toArray]; rfl) (fun K hK => ?_) AllReadyH.nil
    clear hHeld
    obtain ⟨z0, z1, z2, z3, z4, z5, z6, z7, z8, z9, ff⟩ := zcells pz
    have key := ten w2 (w.heap.size + 1 + 1) pz (.bool k) (.int .i64 (dg z 0)) (.int .i64 (dg z 1)) (.int .i64 (dg z 2)) (.int .i64 (dg z 3)) (.int .i64 (dg z 4)) (.int .i64 (dg z 5)) (.int .i64 (dg z 6)) (.int .i64 (dg z 7)) (.int .i64 (dg z 8))
    have kb := ten_below b2 (w.heap.size + 1 + 1) (by omega) (.bool k) (.int .i64 (dg z 0)) (.int .i64 (dg z 1)) (.int .i64 (dg z 2)) (.int .i64 (dg z 3)) (.int .i64 (dg z 4)) (.int .i64 (dg z 5)) (.int .i64 (dg z 6)) (.int .i64 (dg z 7)) (.int .i64 (dg z 8))
    have k1 := (ten_other w2 (w.heap.size + 1 + 1) _ (by omega) (.bool k) (.int .i64 (dg z 0)) (.int .i64 (dg z 1)) (.int .i64 (dg z 2)) (.int .i64 (dg z 3)) (.int .i64 (dg z 4)) (.int .i64 (dg z 5)) (.int .i64 (dg z 6)) (.int .i64 (dg z 7)) (.int .i64 (dg z 8))).trans p3
    have k2 := (ten_other w2 (w.heap.size + 1 + 1) _ (by omega) (.bool k) (.int .i64 (dg z 0)) (.int .i64 (dg z 1)) (.int .i64 (dg z 2)) (.int .i64 (dg z 3)) (.int .i64 (dg z 4)) (.int .i64 (dg z 5)) (.int .i64 (dg z 6)) (.int .i64 (dg z 7)) (.int .i64 (dg z 8))).trans p4
    have H1 := Lib.hid key
    have H2 := Lib.hid kb
    have H3 := Lib.hid k1
    have H4 := Lib.hid k2
    clear key kb k1 k2
    go_simp
    have key := H1.out
    have kb := H2.out
    have k1 := H3.out
    have k2 := H4.out
    clear H1 H2 H3 H4
    revert key kb k1 k2
    generalize ((((((((((w2.setCell ⟨w.heap.size + 1 + 1, 0, none⟩ (.bool k)).setCell ⟨w.heap.size + 1 + 1, 1, none⟩ (.int .i64 (dg z 0))).setCell ⟨w.heap.size + 1 + 1, 2, none⟩ (.int .i64 (dg z 1))).setCell ⟨w.heap.size + 1 + 1, 3, none⟩ (.int .i64 (dg z 2))).setCell ⟨w.heap.size + 1 + 1, 4, none⟩ (.int .i64 (dg z 3))).setCell ⟨w.heap.size + 1 + 1, 5, none⟩ (.int .i64 (dg z 4))).setCell ⟨w.heap.size + 1 + 1, 6, none⟩ (.int .i64 (dg z 5))).setCell ⟨w.heap.size + 1 + 1, 7, none⟩ (.int .i64 (dg z 6))).setCell ⟨w.heap.size + 1 + 1, 8, none⟩ (.int .i64 (dg z 7))).setCell ⟨w.heap.size + 1 + 1, 9, none⟩ (.int .i64 (dg z 8))) = w3
    intro key kb k1 k2
    refine hK.out _ _ ⟨k1, k2⟩ (fun hHeld => ?_)
    clear hK K k1 k2 z0 z1 z2 z3 z4 z5 z6 z7 z8 z9 ff
    have EQ := HE.out
    obtain ⟨c0, c1, c2, c3, c4, c5, c6, c7, c8, c9⟩ := sgcells key
    refine wpAnyH_done (by kernel_rfl) ?_ _
    clear key hHeld
    go_wp2
    all_goals (go_ret; exact ⟨ret_int (by rw [HR.out]; simp [*]), kb⟩)
end Go.Proofs.Yteoionlnnjcggaa.ar

/-
  What the reference's Mul answers.
-/
namespace Go.Proofs.Yteoionlnnjcggaa.ar
open Go.RowKit
set_option linter.unusedVariables false


set_option maxRecDepth 100000 in
theorem mul_any (m n : Bool) (x y : Nat) (hx : x < BB ^ 4) (hy : y < BB ^ 4) (w : World) :
    Calls Try.prog 63 #[.agg #[.bool m, .int .i64 (dg x 0), .int .i64 (dg x 1), .int .i64 (dg x 2), .int .i64 (dg x 3), .int .i64 (dg x 4), .int .i64 (dg x 5), .int .i64 (dg x 6), .int .i64 (dg x 7), .int .i64 (dg x 8)], .agg #[.bool n, .int .i64 (dg y 0), .int .i64 (dg y 1), .int .i64 (dg y 2), .int .i64 (dg y 3), .int .i64 (dg y 4), .int .i64 (dg y 5), .int .i64 (dg y 6), .int .i64 (dg y 7), .int .i64 (dg y 8)]] w fun e w' => e = .returned (.agg #[.bool (m != n), .int .i64 (dg (x * y) 0), .int .i64 (dg (x * y) 1), .int .i64 (dg (x * y) 2), .int .i64 (dg (x * y) 3), .int .i64 (dg (x * y) 4), .int .i64 (dg (x * y) 5), .int .i64 (dg (x * y) 6), .int .i64 (dg (x * y) 7), .int .i64 (dg (x * y) 8)]) ∧ Below w.heap.size w w' := by
  have HT := fun W => times_any x y hx hy W
  have Q1 : Hid ((((w.alloc (.cells #[.bool m, .int .i64 (dg x 0), .int .i64 (dg x 1), .int .i64 (dg x 2), .int .i64 (dg x 3), .int .i64 (dg x 4), .int .i64 (dg x 5), .int .i64 (dg x 6), .int .i64 (dg x 7), .int .i64 (dg x 8)] 86)).alloc (.cells #[.bool n, .int .i64 (dg y 0), .int .i64 (dg y 1), .int .i64 (dg y 2), .int .i64 (dg y 3), .int .i64 (dg y 4), .int .i64 (dg y 5), .int .i64 (dg y 6), .int .i64 (dg y 7), .int .i64 (dg y 8)] 86)).alloc (.cells #[.bool false, .int .i64 0, .int .i64 0, .int .i64 0, .int .i64 0, .int .i64 0, .int .i64 0, .int .i64 0, .int .i64 0, .int .i64 0] 86)).drew.heap[w.heap.size]? = some (.cells #[.bool m, .int .i64 (dg x 0), .int .i64 (dg x 1), .int .i64 (dg x 2), .int .i64 (dg x 3), .int .i64 (dg x 4), .int .i64 (dg x 5), .int .i64 (dg x 6), .int .i64 (dg x 7), .int .i64 (dg x 8)] 86 (0, 0))) := (heap3 w _ _ _).1
  have Q2 : Hid ((((w.alloc (.cells #[.bool m, .int .i64 (dg x 0), .int .i64 (dg x 1), .int .i64 (dg x 2), .int .i64 (dg x 3), .int .i64 (dg x 4), .int .i64 (dg x 5), .int .i64 (dg x 6), .int .i64 (dg x 7), .int .i64 (dg x 8)] 86)).alloc (.cells #[.bool n, .int .i64 (dg y 0), .int .i64 (dg y 1), .int .i64 (dg y 2), .int .i64 (dg y 3), .int .i64 (dg y 4), .int .i64 (dg y 5), .int .i64 (dg y 6), .int .i64 (dg y 7), .int .i64 (dg y 8)] 86)).alloc (.cells #[.bool false, .int .i64 0, .int .i64 0, .int .i64 0, .int .i64 0, .int .i64 0, .int .i64 0, .int .i64 0, .int .i64 0, .int .i64 0] 86)).drew.heap[w.heap.size + 1]? = some (.cells #[.bool n, .int .i64 (dg y 0), .int .i64 (dg y 1), .int .i64 (dg y 2), .int .i64 (dg y 3), .int .i64 (dg y 4), .int .i64 (dg y 5), .int .i64 (dg y 6), .int .i64 (dg y 7), .int .i64 (dg y 8)] 86 (0, 0))) := (heap3 w _ _ _).2.1
  have Q3 : Hid ((((w.alloc (.cells #[.bool m, .int .i64 (dg x 0), .int .i64 (dg x 1), .int .i64 (dg x 2), .int .i64 (dg x 3), .int .i64 (dg x 4), .int .i64 (dg x 5), .int .i64 (dg x 6), .int .i64 (dg x 7), .int .i64 (dg x 8)] 86)).alloc (.cells #[.bool n, .int .i64 (dg y 0), .int .i64 (dg y 1), .int .i64 (dg y 2), .int .i64 (dg y 3), .int .i64 (dg y 4), .int .i64 (dg y 5), .int .i64 (dg y 6), .int .i64 (dg y 7), .int .i64 (dg y 8)] 86)).alloc (.cells #[.bool false, .int .i64 0, .int .i64 0, .int .i64 0, .int .i64 0, .int .i64 0, .int .i64 0, .int .i64 0, .int .i64 0, .int .i64 0] 86)).drew.heap[w.heap.size + 1 + 1]? = some (.cells #[.bool false, .int .i64 0, .int .i64 0, .int .i64 0, .int .i64 0, .int .i64 0, .int .i64 0, .int .i64 0, .int .i64 0, .int .i64 0] 86 (0, 0))) := (heap3 w _ _ _).2.2
  have Q4 : Hid (Below w.heap.size w (((w.alloc (.cells #[.bool m, .int .i64 (dg x 0), .int .i64 (dg x 1), .int .i64 (dg x 2), .int .i64 (dg x 3), .int .i64 (dg x 4), .int .i64 (dg x 5), .int .i64 (dg x 6), .int .i64 (dg x 7), .int .i64 (dg x 8)] 86)).alloc (.cells #[.bool n, .int .i64 (dg y 0), .int .i64 (dg y 1), .int .i64 (dg y 2), .int .i64 (dg y 3), .int .i64 (dg y 4), .int .i64 (dg y 5), .int .i64 (dg y 6), .int .i64 (dg y 7), .int .i64 (dg y 8)] 86)).alloc (.cells #[.bool false, .int .i64 0, .int .i64 0, .int .i64 0, .int .i64 0, .int .i64 0, .int .i64 0, .int .i64 0, .int .i64 0, .int .i64 0] 86)).drew) := (bl_al (bl_al (bl_al (Below.refl _ _) _) _) _).drew
  clear hx hy
  go_enter Try.func63, Try.ntmps63
  go_wp2
  refine wp_region_held_drew (S := fun w' => w'.heap[w.heap.size]? = some (.cells #[.bool m, .int .i64 (dg x 0), .int .i64 (dg x 1), .int .i64 (dg x 2), .int .i64 (dg x 3), .int .i64 (dg x 4), .int .i64 (dg x 5), .int .i64 (dg x 6), .int .i64 (dg x 7), .int .i64 (dg x 8)] 86 (0, 0)) ∧ w'.heap[w.heap.size + 1]? = some (.cells #[.bool n, .int .i64 (dg y 0), .int .i64 (dg y 1), .int .i64 (dg y 2), .int .i64 (dg y 3), .int .i64 (dg y 4), .int .i64 (dg y 5), .int .i64 (dg y 6), .int .i64 (dg y 7), .int .i64 (dg y 8)] 86 (0, 0))) (by kernel_rfl) ⟨Q1.out, Q2.out⟩ (fun hHeld => ?_)
  refine wpAnyH_take (i := 0) (v := ?vax0) (by rw [List.getElem?_toArray]; rfl) (by kernel_rfl) (by kernel_rfl) (by kernel_rfl) ?qax0 (Or.inl ⟨by rfl, ?yax0⟩) (by assumption) ?rax0
  case qax0 => exact fun _ _ _ h => h
  case yax0 => (intro wz hSw; go_simp; try (with_reducible rfl))
  simp only [Act.put, List.setIfInBounds_toArray, List.set_cons_zero, List.set_cons_succ]
  refine wpAnyH_take (i := 1) (v := ?vax1) (by rw [List.getElem?_toArray]; rfl) (by kernel_rfl) (by kernel_rfl) (by kernel_rfl) ?qax1 (Or.inl ⟨by rfl, ?yax1⟩) (by assumption) ?rax1
  case qax1 => exact fun _ _ _ h => h
  case yax1 => (intro wz hSw; have cc := cell_of_row wz _ 0 _ _ _ hSw.1; simp at cc; go_simp; try (with_reducible rfl))
  simp only [Act.put, List.setIfInBounds_toArray, List.set_cons_zero, List.set_cons_succ]
  refine wpAnyH_take (i := 2) (v := ?vax2) (by rw [List.getElem?_toArray]; rfl) (by kernel_rfl) (by kernel_rfl) (by kernel_rfl) ?qax2 (Or.inl ⟨by rfl, ?yax2⟩) (by assumption) ?rax2
  case qax2 => exact fun _ _ _ h => h
  case yax2 => (intro wz hSw; go_simp; try (with_reducible rfl))
  simp only [Act.put, List.setIfInBounds_toArray, List.set_cons_zero, List.set_cons_succ]
  refine wpAnyH_take (i := 3) (v := ?vax3) (by rw [List.getElem?_toArray]; rfl) (by kernel_rfl) (by kernel_rfl) (by kernel_rfl) ?qax3 (Or.inl ⟨by rfl, ?yax3⟩) (by assumption) ?rax3
  case qax3 => exact fun _ _ _ h => h
  case yax3 => (intro wz hSw; have cc := cell_of_row wz _ 0 _ _ _ hSw.2; simp at cc; go_simp; try (with_reducible rfl))
  simp only [Act.put, List.setIfInBounds_toArray, List.set_cons_zero, List.set_cons_succ]
  refine wpAnyH_take (i := 4) (v := ?vax4) (by rw [List.getElem?_toArray]; rfl) (by kernel_rfl) (by kernel_rfl) (by kernel_rfl) ?qax4 (Or.inl ⟨by rfl, ?yax4⟩) (by assumption) ?rax4
  case qax4 => exact fun _ _ _ h => h
  case yax4 => (intro wz hSw; go_simp; try (with_reducible rfl))
  simp only [Act.put, List.setIfInBounds_toArray, List.set_cons_zero, List.set_cons_succ]
  refine wpAnyH_take (i := 5) (v := ?vax5) (by rw [List.getElem?_toArray]; rfl) (by kernel_rfl) (by kernel_rfl) (by kernel_rfl) ?qax5 (Or.inl ⟨by rfl, ?yax5⟩) (by assumption) ?rax5
  case qax5 => exact fun _ _ _ h => h
  case yax5 => (intro wz hSw; go_simp; try (with_reducible rfl))
  simp only [Act.put, List.setIfInBounds_toArray, List.set_cons_zero, List.set_cons_succ]
  refine' wpAnyH_take (i := 6) (v := _) (by rw [List.getElem?_toArray]; rfl) (by kernel_rfl) (by kernel_rfl) (by kernel_rfl) ?qax6 (yieldsIf_load_mid (by rfl) _ _ rfl _ _ rfl [.int .i64 (dg x 0), .int .i64 (dg x 1), .int .i64 (dg x 2), .int .i64 (dg x 3), .int .i64 (dg x 4), .int .i64 (dg x 5), .int .i64 (dg x 6), .int .i64 (dg x 7), .int .i64 (dg x 8)] _ ?hSax6 ?huax6 ?hdax6 ?hiax6) (by assumption) ?restax6
  case qax6 => exact fun _ _ _ h => h
  case hSax6 => exact fun wz hSw => sg_range hSw.1
  case huax6 => exact Try.underlying84
  case hdax6 => rfl
  case hiax6 => exact info26
  simp only [Act.put, List.setIfInBounds_toArray, List.set_cons_zero, List.set_cons_succ]
  refine wpAnyH_take (i := 7) (v := ?vax7) (by rw [List.getElem?_toArray]; rfl) (by kernel_rfl) (by kernel_rfl) (by kernel_rfl) ?qax7 (Or.inl ⟨by rfl, ?yax7⟩) (by assumption) ?rax7
  case qax7 => exact fun _ _ _ h => h
  case yax7 => (intro wz hSw; go_simp; try (with_reducible rfl))
  simp only [Act.put, List.setIfInBounds_toArray, List.set_cons_zero, List.set_cons_succ]
  refine' wpAnyH_take (i := 8) (v := _) (by rw [List.getElem?_toArray]; rfl) (by kernel_rfl) (by kernel_rfl) (by kernel_rfl) ?qax8 (yieldsIf_load_mid (by rfl) _ _ rfl _ _ rfl [.int .i64 (dg y 0), .int .i64 (dg y 1), .int .i64 (dg y 2), .int .i64 (dg y 3), .int .i64 (dg y 4), .int .i64 (dg y 5), .int .i64 (dg y 6), .int .i64 (dg y 7), .int .i64 (dg y 8)] _ ?hSax8 ?huax8 ?hdax8 ?hiax8) (by assumption) ?restax8
  case qax8 => exact fun _ _ _ h => h
  case hSax8 => exact fun wz hSw => sg_range hSw.2
  case huax8 => exact Try.underlying84
  case hdax8 => rfl
  case hiax8 => exact info26
  simp only [Act.put, List.setIfInBounds_toArray, List.set_cons_zero, List.set_cons_succ]
  refine wpAnyH_ready (rs := [9]) (by kernel_rfl) (by simp) ?_
  refine AllReadyH.cons (by rw [List.getElem?_toArray]; rfl) (fun K hK => ?_) AllReadyH.nil
  clear hHeld
  go_simp
  go_at_call 72; refine (HT _).mono ?_; rintro e w1 ⟨rfl, hb⟩
  obtain ⟨p1, p2, p3, bl⟩ := sg_call (w := w) Q1.out Q2.out Q3.out Q4.out hb
  obtain ⟨c0, c1, c2, c3, c4, c5, c6, c7, c8, c9, ff⟩ := zcells p3
  have P3 := Lib.hid p3
  clear hb p3
  go_wp2_with fail
  refine hK.out _ _ ⟨p1, p2⟩ (fun hHeld => ?_)
  refine wpAnyH_take (i := 10) (v := ?vax10) (by rw [List.getElem?_toArray]; rfl) (by kernel_rfl) (by kernel_rfl) (by kernel_rfl) ?qax10 (Or.inl ⟨by rfl, ?yax10⟩) (by assumption) ?rax10
  case qax10 => exact fun _ _ _ h => h
  case yax10 => (intro wz hSw; go_simp; try (with_reducible rfl))
  simp only [Act.put, List.setIfInBounds_toArray, List.set_cons_zero, List.set_cons_succ]
  refine wpAnyH_ready (rs := [11]) (by kernel_rfl) (by simp) ?_
  refine AllReadyH.cons (by rw [List.getElem?_toArray]; rfl) (fun K2 hK2 => ?_) AllReadyH.nil
  clear hHeld
  go_simp
  refine hK2.out _ _ ⟨(ten_other _ _ _ (by omega) _ _ _ _ _ _ _ _ _ _).trans p1, (ten_other _ _ _ (by omega) _ _ _ _ _ _ _ _ _ _).trans p2⟩ (fun hHeld => ?_)
  refine wpAnyH_done (by kernel_rfl) ?_ _
  clear hHeld c0 c1 c2 c3 c4 c5 c6 c7 c8 c9 ff p1 p2
  go_wp2
  exact bodyPost_ret (results_cell_row Try.results63 _ _ (w.heap.size + 1 + 1) 86 _ (0, 0) _ rfl (ten _ _ P3.out _ _ _ _ _ _ _ _ _ _) Try.underlying86 rfl (by kernel_rfl)) rfl ⟨rfl, ten_below bl _ (by omega) _ _ _ _ _ _ _ _ _ _⟩
end Go.Proofs.Yteoionlnnjcggaa.ar

/-
  What the reference's Add and Cmp answer, for numbers told by sign and size.
-/
namespace Go.Proofs.Yteoionlnnjcggaa.ar
open Go.RowKit
set_option linter.unusedVariables false


/-- of a sum told by sign and size -/
def addk (m n : Bool) (x y : Nat) : Bool := if m = n then m else if x < y then n else m
def addz (m n : Bool) (x y : Nat) : Nat := if m = n then x + y else if x < y then y - x else x - y
theorem add_sv (m n : Bool) (x y : Nat) : sv (addk m n x y) (addz m n x y) = sv m x + sv n y := by
  unfold addk addz sv
  cases m <;> cases n
  all_goals
    simp
    try (by_cases h : x < y <;> simp [h] <;> omega)
    try omega
theorem addz_le (m n : Bool) (x y : Nat) : addz m n x y ≤ x + y := by
  unfold addz; split
  · omega
  · split <;> omega
theorem add_any (m n : Bool) (x y : Nat) (hx : x < BB ^ 9) (hy : y < BB ^ 9) (w : World) :
    Calls Try.prog 70 #[.agg #[.bool m, .int .i64 (dg x 0), .int .i64 (dg x 1), .int .i64 (dg x 2), .int .i64 (dg x 3), .int .i64 (dg x 4), .int .i64 (dg x 5), .int .i64 (dg x 6), .int .i64 (dg x 7), .int .i64 (dg x 8)], .agg #[.bool n, .int .i64 (dg y 0), .int .i64 (dg y 1), .int .i64 (dg y 2), .int .i64 (dg y 3), .int .i64 (dg y 4), .int .i64 (dg y 5), .int .i64 (dg y 6), .int .i64 (dg y 7), .int .i64 (dg y 8)]] w fun e w' => e = .returned (.agg #[.bool (addk m n x y), .int .i64 (dg (addz m n x y) 0), .int .i64 (dg (addz m n x y) 1), .int .i64 (dg (addz m n x y) 2), .int .i64 (dg (addz m n x y) 3), .int .i64 (dg (addz m n x y) 4), .int .i64 (dg (addz m n x y) 5), .int .i64 (dg (addz m n x y) 6), .int .i64 (dg (addz m n x y) 7), .int .i64 (dg (addz m n x y) 8)]) ∧ Below w.heap.size w w' := by
  by_cases hmn : m = n
  · have e1 : addk m n x y = m := by unfold addk; rw [if_pos hmn]
    have e2 : addz m n x y = x + y := by unfold addz; rw [if_pos hmn]
    rw [e1, e2]; exact add_same m n hmn x y w
  · by_cases h : x < y
    · have e1 : addk m n x y = n := by unfold addk; rw [if_neg hmn, if_pos h]
      have e2 : addz m n x y = y - x := by unfold addz; rw [if_neg hmn, if_pos h]
      rw [e1, e2]; exact add_lt m n hmn x y h hx hy w
    · have e1 : addk m n x y = m := by unfold addk; rw [if_neg hmn, if_neg h]
      have e2 : addz m n x y = x - y := by unfold addz; rw [if_neg hmn, if_neg h]
      rw [e1, e2]; exact add_ge m n hmn x y (by omega) hx hy w
def cmpv (a b : Int) : Int := if a < b then -1 else if a = b then 0 else 1
theorem cmp_of (m n : Bool) (x y : Nat) : cmpv (sv m x) (sv n y) = if decide (addz m (!n) x y = 0) then 0 else if addk m (!n) x y then -1 else 1 := by
  have h := add_sv m (!n) x y
  have e : sv (!n) y = - sv n y := by unfold sv; cases n <;> simp
  rw [e] at h
  generalize sv m x = A at *
  generalize sv n y = B at *
  generalize addz m (!n) x y = z at *
  generalize addk m (!n) x y = k at *
  unfold sv at h
  unfold cmpv
  by_cases hz : z = 0
  · subst hz
    have : A = B := by cases k <;> simp at h <;> omega
    rw [if_neg (by omega), if_pos this]; simp
  · cases k
    · simp at h
      rw [if_neg (by omega), if_neg (by omega)]; simp [hz]
    · simp at h
      rw [if_pos (by omega)]; simp [hz]
theorem cmp_any (m n : Bool) (x y : Nat) (hx : x < BB ^ 8) (hy : y < BB ^ 8) (w : World) :
    Calls Try.prog 62 #[.agg #[.bool m, .int .i64 (dg x 0), .int .i64 (dg x 1), .int .i64 (dg x 2), .int .i64 (dg x 3), .int .i64 (dg x 4), .int .i64 (dg x 5), .int .i64 (dg x 6), .int .i64 (dg x 7), .int .i64 (dg x 8)], .agg #[.bool n, .int .i64 (dg y 0), .int .i64 (dg y 1), .int .i64 (dg y 2), .int .i64 (dg y 3), .int .i64 (dg y 4), .int .i64 (dg y 5), .int .i64 (dg y 6), .int .i64 (dg y 7), .int .i64 (dg y 8)]] w fun e w' => e = .returned (.int .i64 (cmpv (sv m x) (sv n y))) ∧ Below w.heap.size w w' := by
  have b9 : BB ^ 8 + BB ^ 8 < BB ^ 9 := by decide
  have hz := addz_le m (!n) x y
  refine cmp_core m n (addk m (!n) x y) x y (addz m (!n) x y) w (fun W => add_any m (!n) x y (by omega) (by omega) W) (decide (addz m (!n) x y = 0)) (fun W => ?_) _ (cmp_of m n x y)
  by_cases h : addz m (!n) x y = 0
  · have := big_same (addz m (!n) x y) 0 h W
    rw [zero_lit] at this
    rw [decide_eq_true h]; exact this
  · have := big_other (addz m (!n) x y) 0 (by omega) (BBp 9) h W
    rw [zero_lit] at this
    rw [decide_eq_false h]; exact this
theorem sv_num (a : Int) : sv (decide (a < 0)) a.natAbs = a := by
  unfold sv
  by_cases h : a < 0
  · rw [decide_eq_true h, if_pos rfl]; omega
  · rw [decide_eq_false h, if_neg (by simp)]; omega
theorem sv_mul (m n : Bool) (x y : Nat) : sv (m != n) (x * y) = sv m x * sv n y := by
  unfold sv; cases m <;> cases n <;> simp [Int.natCast_mul, Int.neg_mul, Int.mul_neg]
theorem sv_neg (m : Bool) (x : Nat) : sv (!m) x = -(sv m x) := by unfold sv; cases m <;> simp
theorem abs_b (a : Int) (a1 : -9223372036854775808 ≤ a) (a2 : a ≤ 9223372036854775807) : a.natAbs ≤ 9223372036854775808 := by omega
theorem B3 : 9223372036854775808 < BB ^ 3 := by decide
theorem B4 : 9223372036854775808 < BB ^ 4 := by decide
theorem B8 : 9223372036854775808 < BB ^ 8 := by decide
theorem B9 : 9223372036854775808 < BB ^ 9 := by decide
theorem B5 : 9223372036854775808 * 9223372036854775808 * 4 < BB ^ 8 := by decide
theorem mul_bound {a b : Nat} (ha : a ≤ 9223372036854775808) (hb : b ≤ 9223372036854775808) : a * b ≤ 9223372036854775808 * 9223372036854775808 := Nat.mul_le_mul ha hb
attribute [irreducible] addk addz cmpv
end Go.Proofs.Yteoionlnnjcggaa.ar
