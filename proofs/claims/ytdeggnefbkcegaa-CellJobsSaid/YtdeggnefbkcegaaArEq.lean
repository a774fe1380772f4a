/-
  Two numbers in parts are compared part by part.
-/
import Derived.Test.YtdeggnefbkcegaaArSg
import Derived.ChangeKeysEq
namespace Go.Proofs.Ytdeggnefbkcegaa.ar
open Go.RowKit
set_option linter.unusedVariables false


theorem eq_big (a0 a1 a2 a3 a4 a5 a6 a7 a8 b0 b1 b2 b3 b4 b5 b6 b7 b8 : Int) (w : World) :
    (Op.equalIn 10000 76 (.agg #[.int .i64 a0, .int .i64 a1, .int .i64 a2, .int .i64 a3, .int .i64 a4, .int .i64 a5, .int .i64 a6, .int .i64 a7, .int .i64 a8]) (.agg #[.int .i64 b0, .int .i64 b1, .int .i64 b2, .int .i64 b3, .int .i64 b4, .int .i64 b5, .int .i64 b6, .int .i64 b7, .int .i64 b8])).run Try.prog w = .ok ((a0 == b0) && (a1 == b1) && (a2 == b2) && (a3 == b3) && (a4 == b4) && (a5 == b5) && (a6 == b6) && (a7 == b7) && (a8 == b8)) w := by
  have h3 : ∀ (a b : Int) (w : World), (Op.equalIn 9999 3 (.int .i64 a) (.int .i64 b)).run Try.prog w = .ok (a == b) w := fun a b w => run_equalIn_int w 9998 3 .i64 .i64 a b Try.underlying3
  rw [run_equalIn_array w 9999 (n := 9) (e := 3) (i := (Try.prog.info? 3).get (by kernel_rfl)) _ _ Try.underlying76 (by kernel_rfl)]
  have hc : Try.prog.cellsOf 3 = 1 := by kernel_rfl
  rw [hc]
  simp [List.range_succ, Op.eqItems, part, go_sem, h3]
  by_cases e0 : a0 = b0
  rotate_left
  · simp [e0]
  rw [if_pos e0]
  by_cases e1 : a1 = b1
  rotate_left
  · simp [e1]
  rw [if_pos e1]
  by_cases e2 : a2 = b2
  rotate_left
  · simp [e2]
  rw [if_pos e2]
  by_cases e3 : a3 = b3
  rotate_left
  · simp [e3]
  rw [if_pos e3]
  by_cases e4 : a4 = b4
  rotate_left
  · simp [e4]
  rw [if_pos e4]
  by_cases e5 : a5 = b5
  rotate_left
  · simp [e5]
  rw [if_pos e5]
  by_cases e6 : a6 = b6
  rotate_left
  · simp [e6]
  rw [if_pos e6]
  by_cases e7 : a7 = b7
  rotate_left
  · simp [e7]
  rw [if_pos e7]
  by_cases e8 : a8 = b8
  rotate_left
  · simp [e8]
  rw [if_pos e8]
  simp [*]
theorem all_zero (x : Nat) (hx : x < BB ^ 9) (h : ∀ j, dgn x j = 0) : x = 0 := by
  have T := eqAbove_top (x := x) (y := 0) hx (BBp 9)
  have z : ∀ j, dgn 0 j = 0 := fun j => by unfold dgn; simp
  have st : ∀ j, eqAbove x 0 (j + 1) → eqAbove x 0 j := fun j hj => eqAbove_step hj (by rw [h, z])
  exact eqAbove_zero (st 0 (st 1 (st 2 (st 3 (st 4 (st 5 (st 6 (st 7 (st 8 T)))))))))
theorem eq_of_dg (x y : Nat) (hx : x < BB ^ 9) (hy : y < BB ^ 9) (h : dg x 0 = dg y 0 ∧ dg x 1 = dg y 1 ∧ dg x 2 = dg y 2 ∧ dg x 3 = dg y 3 ∧ dg x 4 = dg y 4 ∧ dg x 5 = dg y 5 ∧ dg x 6 = dg y 6 ∧ dg x 7 = dg y 7 ∧ dg x 8 = dg y 8) : x = y := by
  have T := eqAbove_top hx hy
  obtain ⟨h0, h1, h2, h3, h4, h5, h6, h7, h8⟩ := h
  have st : ∀ j, dg x j = dg y j → eqAbove x y (j + 1) → eqAbove x y j := fun j h hj => eqAbove_step hj (by unfold dg at h; omega)
  exact eqAbove_zero (st 0 h0 (st 1 h1 (st 2 h2 (st 3 h3 (st 4 h4 (st 5 h5 (st 6 h6 (st 7 h7 (st 8 h8 T)))))))))
theorem big_same (x y : Nat) (h : x = y) (w : World) : (Op.equalIn 10000 76 (.agg #[.int .i64 (dg x 0), .int .i64 (dg x 1), .int .i64 (dg x 2), .int .i64 (dg x 3), .int .i64 (dg x 4), .int .i64 (dg x 5), .int .i64 (dg x 6), .int .i64 (dg x 7), .int .i64 (dg x 8)]) (.agg #[.int .i64 (dg y 0), .int .i64 (dg y 1), .int .i64 (dg y 2), .int .i64 (dg y 3), .int .i64 (dg y 4), .int .i64 (dg y 5), .int .i64 (dg y 6), .int .i64 (dg y 7), .int .i64 (dg y 8)])).run Try.prog w = .ok true w := by
  rw [eq_big]; subst h; simp
theorem big_other (x y : Nat) (hx : x < BB ^ 9) (hy : y < BB ^ 9) (h : ¬ x = y) (w : World) : (Op.equalIn 10000 76 (.agg #[.int .i64 (dg x 0), .int .i64 (dg x 1), .int .i64 (dg x 2), .int .i64 (dg x 3), .int .i64 (dg x 4), .int .i64 (dg x 5), .int .i64 (dg x 6), .int .i64 (dg x 7), .int .i64 (dg x 8)]) (.agg #[.int .i64 (dg y 0), .int .i64 (dg y 1), .int .i64 (dg y 2), .int .i64 (dg y 3), .int .i64 (dg y 4), .int .i64 (dg y 5), .int .i64 (dg y 6), .int .i64 (dg y 7), .int .i64 (dg y 8)])).run Try.prog w = .ok false w := by
  rw [eq_big]
  refine congrArg (fun b => Result.ok b w) ?_
  apply Bool.eq_false_iff.2
  intro hc
  apply h
  apply eq_of_dg x y hx hy
  simpa [and_assoc] using hc
theorem zero_lit : (#[.int .i64 (dg 0 0), .int .i64 (dg 0 1), .int .i64 (dg 0 2), .int .i64 (dg 0 3), .int .i64 (dg 0 4), .int .i64 (dg 0 5), .int .i64 (dg 0 6), .int .i64 (dg 0 7), .int .i64 (dg 0 8)] : Array Value) = #[.int .i64 0, .int .i64 0, .int .i64 0, .int .i64 0, .int .i64 0, .int .i64 0, .int .i64 0, .int .i64 0, .int .i64 0] := by simp [dg_zero]
theorem top_lit : (#[.int .i64 (dg 9223372036854775808 0), .int .i64 (dg 9223372036854775808 1), .int .i64 (dg 9223372036854775808 2), .int .i64 (dg 9223372036854775808 3), .int .i64 (dg 9223372036854775808 4), .int .i64 (dg 9223372036854775808 5), .int .i64 (dg 9223372036854775808 6), .int .i64 (dg 9223372036854775808 7), .int .i64 (dg 9223372036854775808 8)] : Array Value) = #[.int .i64 0, .int .i64 0, .int .i64 2, .int .i64 0, .int .i64 0, .int .i64 0, .int .i64 0, .int .i64 0, .int .i64 0] := by
  have d : dg 9223372036854775808 0 = 0 ∧ dg 9223372036854775808 1 = 0 ∧ dg 9223372036854775808 2 = 2 ∧ dg 9223372036854775808 3 = 0 ∧ dg 9223372036854775808 4 = 0 ∧ dg 9223372036854775808 5 = 0 ∧ dg 9223372036854775808 6 = 0 ∧ dg 9223372036854775808 7 = 0 ∧ dg 9223372036854775808 8 = 0 := by unfold dg; decide
  obtain ⟨d0, d1, d2, d3, d4, d5, d6, d7, d8⟩ := d
  rw [d0, d1, d2, d3, d4, d5, d6, d7, d8]
end Go.Proofs.Ytdeggnefbkcegaa.ar
