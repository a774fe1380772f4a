/-
  kurganlaw08.ValueTurns, walked.
-/
import Derived.Test.YtfpffggeehmedaaTu0
import Derived.Test.YtfpffggeehmedaaTu2w
import Derived.Test.YtfpffggeehmedaaTu3
namespace Go.Proofs.Ytfpffggeehmedaa
open Go.RowKit
open kc (IO RwsC)
set_option linter.unusedVariables false
theorem turn_walk (kd N C : Int) (wl vl : List Int) (cl : List (List Int)) (wa va ca : Option Addr) (wn vn cn wc vc cc : Nat) (x : List Int) (xa : Option Addr) (xn xc : Nat) (w : World) (h1 : Src w wa wn wc wl) (h2 : Src w va vn vc vl) (h3 : RSrc w ca cn cc cl) (h4 : Src w xa xn xc x) :
    Calls Try.prog 6 #[.agg #[.int .i64 kd, .int .i64 N, .int .i64 C, .slice wa wn wc, .slice va vn vc, .slice ca cn cc], .slice xa xn xc] w fun e w' => e = .returned (.bool true) ∧ Below w.heap.size w w' := by
  by_cases hz : chk kd N C wl vl cl = 0
  · by_cases hx : okx kd N x
    · rcases (show kd = 1 ∨ kd = 2 ∨ kd = 3 by rcases (chk_zero hz).2 with z | z <;> omega) with rfl | rfl | rfl
      · refine turn_none 1 N C wl vl cl wa va ca wn vn cn wc vc cc x xa xn xc w h1 h2 h3 h4 ?_
        by_cases h : (costR 1 N C wl vl cl x).2 = 0
        · exact .inr ⟨h, rfl⟩
        · exact .inl h
      · obtain ⟨hN, hF⟩ := fm_of hz
        rw [hN] at hx ⊢
        exact turn_rows _ C wl vl cl wa va ca wn vn cn wc vc cc x xa xn xc w h1 h2 h3 h4 hF hx
      · obtain ⟨hN, hF⟩ := fm_of hz
        rw [hN] at hx ⊢
        exact turn_tour _ C wl vl cl wa va ca wn vn cn wc vc cc x xa xn xc w h1 h2 h3 h4 hF hx
    · exact turn_none kd N C wl vl cl wa va ca wn vn cn wc vc cc x xa xn xc w h1 h2 h3 h4 (.inl (by rw [cost_arg hz hx]; decide))
  · exact turn_none kd N C wl vl cl wa va ca wn vn cn wc vc cc x xa xn xc w h1 h2 h3 h4 (.inl (by rw [cost_bad hz]; exact hz))
end Go.Proofs.Ytfpffggeehmedaa
