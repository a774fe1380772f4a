/-
  What the law package's same answers: true where the answer is that of the number.
-/
import Derived.Test.YtbcffefailhacaaInt
namespace Go.Proofs.Ytbcffefailhacaa
open Go.RowKit
set_option linter.unusedVariables false


theorem same_any (n : Int) (ok : Bool) (m : Bool) (x : Nat) (hx : x < BB ^ 9) (hn : n = fitv (sv m x)) (ho : ok = fits (sv m x)) (w : World) :
    Calls Try.prog 16 #[.int .i64 n, .bool ok, .agg #[.bool m, .int .i64 (dg x 0), .int .i64 (dg x 1), .int .i64 (dg x 2), .int .i64 (dg x 3), .int .i64 (dg x 4), .int .i64 (dg x 5), .int .i64 (dg x 6), .int .i64 (dg x 7), .int .i64 (dg x 8)]] w fun e w' => e = .returned (.bool true) ∧ Below w.heap.size w w' := by
  subst hn; subst ho
  have H := fun W => int_any m x hx W
  generalize fitv (sv m x) = n at *
  generalize fits (sv m x) = b at *
  go_enter Try.func16, Try.ntmps16
  go_wp2_with fail
  refine (H _).mono ?_; rintro e w1 ⟨rfl, hb⟩
  go_wp2_with fail
  go_ret
  exact ⟨by simp, bl_tr (bl_al (Below.refl _ _) _) hb⟩
end Go.Proofs.Ytbcffefailhacaa
