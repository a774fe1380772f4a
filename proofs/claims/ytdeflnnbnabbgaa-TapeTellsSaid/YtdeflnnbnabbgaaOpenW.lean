/-
  An argument that is a list of numbers, opened, with what its numbers may be.
-/
import Derived.Test.YtdeflnnbnabbgaaTellsL
namespace Go.Proofs.Ytdeflnnbnabbgaa
open Go.ChangeShapes Go.WideShapes Go.RowKit
set_option linter.unusedVariables false
theorem i64s_of {l : List Int} (h : ∀ x ∈ l, (Lit.int .i64 x).wf = true) : ∀ j, -9223372036854775808 ≤ nth l j ∧ nth l j ≤ 9223372036854775807 := fun j => by
  by_cases hj : j < l.length
  · have := h (l[j]) (List.getElem_mem hj)
    rw [nth_at l j hj]
    exact bounds_i64 this
  · unfold nth
    rw [List.getElem?_eq_none (by omega)]
    simp
theorem open_argW (K : Nat) {H : Type} {enc : TypeId × Value → H} {W : World} {n : Nat} {v : Value} {y : DataW H × List MemPlace} (h : DataW.trod enc Try.prog W 0 (fun _ => true) true n 22 [v] = some y) :
    ∃ (a : Option Addr) (m c : Nat) (l : List Int), v = .slice a m c ∧ ArgW K W a m c l := by
  rcases open_ints Try.underlying22 Try.underlying3 (by kernel_rfl) h with ⟨hcs, _⟩ | ⟨x, m, c, zs, hcs, _, hl, hm, hz, _, hcell, hwf⟩
  · have e : v = .slice none 0 0 := by simpa using hcs
    exact ⟨_, _, _, _, e, arg_of K (zs := []) rfl (Nat.le_refl _) (by unfold maxLen; omega) (fun _ => rfl) (fun a' h => by cases h), i64s_of (fun x hx => by simp at hx)⟩
  · have e : v = .slice (some x) m c := by simpa using hcs
    simp only [if_true] at hz
    exact ⟨_, _, _, _, e, arg_of K hz hl hm (fun h => by cases h) (fun a' e j hj => by cases e; exact hcell j (by omega)), i64s_of (fun y hy => hwf y (List.mem_of_mem_take hy))⟩
theorem tapeTells_walk (l0 : List Int) (a0 : Option Addr) (n0 c0 : Nat) (l1 : List Int) (a1 : Option Addr) (n1 c1 : Nat) (l2 : List Int) (a2 : Option Addr) (n2 c2 : Nat) (W : World) (s0 : Arg 50 W a0 n0 c0 l0) (s1 : Arg 50 W a1 n1 c1 l1) (s2 : ArgW 60 W a2 n2 c2 l2) :
    Calls Try.prog 3 #[.slice a0 n0 c0, .slice a1 n1 c1, .slice a2 n2 c2] W fun e w' => e = .returned (.bool true) ∧ Below W.heap.size W w' := tells_core l0 l1 l2 a0 a1 a2 n0 c0 n1 c1 n2 c2 W s0 s1 s2
end Go.Proofs.Ytdeflnnbnabbgaa
