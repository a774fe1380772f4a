/-
  How an argument that is an array of two numbers is opened, and shut again. No program in it.
-/
import Derived.Test.YtdeflnnbnabbgaaRows
import Derived.WalkKit
import Derived.ProofKit
import Derived.OpenShut
import Derived.Lib.SmallJoins
namespace Go.Proofs.Ytdeflnnbnabbgaa
open Go.ChangeShapes Go.WideShapes Go.ChangeAt Go.RowKit Go.Joins
set_option linter.unusedVariables false
theorem open_arr2 {H : Type} {enc : TypeId × Value → H} {P : Program} {w : World} {base b0 : Nat} {spare : Nat → Bool} {held : Bool} {r : Reach} {t e : TypeId} {k : IntKind} {v : Value} {d : DataW H} {p : List MemPlace}
    (ht : P.underlying t = some (.array 2 e)) (he : P.underlying e = some (.int k)) (hce : P.cellsOf e = 1) (hct : P.cellsOf t = 2)
    (hv : Value.okWide P w r b0 t v) (h : DataW.Trod enc P w base spare held t v d p) :
    ∃ x y : Int, v = .agg #[.int k x, .int k y] ∧ d = .agg [.lit (.int k x), .lit (.int k y)] ∧ p = [] ∧ (Lit.int k x).wf = true ∧ (Lit.int k y).wf = true := by
  unfold Value.okWide at hv
  rw [ht] at hv
  obtain ⟨cs, rfl, hsz, _⟩ := hv
  obtain ⟨c0, c1, rfl⟩ := array2 (hsz.trans hct)
  obtain ⟨fuel, hf⟩ := h
  obtain ⟨xs, m, _, hx, _, hl, hi⟩ := DataW.trod_array ht hf
  have h0 := hi 0 (by decide)
  have h1 := hi 1 (by decide)
  simp [hce, Value.cells] at h0 h1
  rcases xs with _ | ⟨y0, _ | ⟨y1, _ | ⟨y2, ys⟩⟩⟩
  · simp at hl
  · simp at hl
  · simp at h0 h1
    obtain ⟨a, e0, rfl, wa⟩ := DataW.trod_int he h0
    obtain ⟨b, e1, rfl, wb⟩ := DataW.trod_int he h1
    simp at e0 e1
    subst e0 e1
    simp at hx
    exact ⟨a, b, rfl, hx.1, hx.2, wa, wb⟩
  · simp at hl
theorem shut_arr2 {H : Type} {enc : TypeId × Value → H} {P : Program} {w : World} {base : Nat} {spare : Nat → Bool} {held : Bool} {t e : TypeId} {k : IntKind} {x y : Int}
    (ht : P.underlying t = some (.array 2 e)) (he : P.underlying e = some (.int k)) (hce : P.cellsOf e = 1) (hct : P.cellsOf t = 2) (wx : (Lit.int k x).wf = true) (wy : (Lit.int k y).wf = true) :
    DataW.Trod enc P w base spare held t (.agg #[.int k x, .int k y]) (.agg [.lit (.int k x), .lit (.int k y)]) [] := by
  refine ⟨2, ?_⟩
  unfold DataW.trod
  rw [ht]
  have r2 : List.range 2 = [0, 1] := rfl
  simp [r2, hce, hct, Value.cells, DataW.trod, he, wx, wy]
end Go.Proofs.Ytdeflnnbnabbgaa
