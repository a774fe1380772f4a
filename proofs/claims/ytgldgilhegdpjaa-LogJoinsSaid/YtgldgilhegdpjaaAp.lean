/-
  An argument that is a list.
-/
import Derived.Test.YtgldgilhegdpjaaBase
import Derived.OpenShut
import Derived.Deep.RegionLaw
import Derived.Deep.DeepCutAuto
namespace Go.Proofs.Ytgldgilhegdpjaa
open Go.RowKit
set_option linter.unusedVariables false
section
open Go.ChangeShapes Go.WideShapes
theorem nth_take {zs : List Int} {m j : Nat} (hj : j < (zs.take m).length) : nth (zs.take m) j = zs.getD j 0 := by
  have h : j < m := by simp at hj; omega
  unfold nth
  rw [List.getElem?_take, if_pos h]
  simp
theorem arg_of (K : Nat) {W : World} {a : Option Addr} {n c : Nat} {zs : List Int} (hz : zs.length = c) (hn : n ≤ c) (hc : c ≤ maxLen) (ha : a = none → c = 0)
    (hcell : ∀ a', a = some a' → ∀ j, j < c → W.cell? (a'.add j) = some (.int .i64 (zs.getD j 0))) : Arg K W a n c (zs.take (min n K)) := by
  have hc' : c ≤ 9223372036854775807 := by unfold maxLen at hc; omega
  by_cases h0 : n = 0
  · subst h0
    cases a with
    | none => exact Or.inl ⟨rfl, rfl, ha rfl, by simp⟩
    | some ad => exact Or.inr (Or.inl ⟨ad, rfl, rfl, hc', by simp⟩)
  · cases a with
    | none => have := ha rfl; omega
    | some x =>
      obtain ⟨b, off, rfl, hb⟩ := ints_at (zs := zs) (fun i hi => hcell x rfl i (by omega)) (by omega)
      refine Or.inr (Or.inr ⟨b, off, rfl, hn, hc', block_lt_of_cell (hb 0 (by omega)), fun j hj => ?_, ?_⟩)
      · rw [nth_take hj]
        simp at hj
        exact hb j (by omega)
      · rw [List.length_take]; omega
theorem open_arg (K : Nat) {H : Type} {enc : TypeId × Value → H} {W : World} {n : Nat} {v : Value} {y : DataW H × List MemPlace} (h : DataW.trod enc Try.prog W 0 (fun _ => true) true n 34 [v] = some y) :
    ∃ (a : Option Addr) (m c : Nat) (l : List Int), v = .slice a m c ∧ Arg K W a m c l := by
  rcases open_ints Try.underlying34 Try.underlying3 (by kernel_rfl) h with ⟨hcs, _⟩ | ⟨x, m, c, zs, hcs, _, hl, hm, hz, _, hcell, _⟩
  · have e : v = .slice none 0 0 := by simpa using hcs
    exact ⟨_, _, _, _, e, arg_of K (zs := []) rfl (Nat.le_refl _) (by unfold maxLen; omega) (fun _ => rfl) (fun a' h => by cases h)⟩
  · have e : v = .slice (some x) m c := by simpa using hcs
    simp only [if_true] at hz
    exact ⟨_, _, _, _, e, arg_of K hz hl hm (fun h => by cases h) (fun a' e j hj => by cases e; exact hcell j (by omega))⟩
end
theorem sl_run (K : Nat) (w : World) (a : Option Addr) (n c : Nat) (l : List Int) (h : Arg K w a n c l) : ∀ W : World, (Instr.sliceAt 34 (.slice a n c) none (some (.int .i64 (l.length : Int))) none).run Try.prog W = .ok (.slice a l.length c) W := fun W => by
  rcases h with ⟨rfl, rfl, rfl, rfl⟩ | ⟨ad, rfl, rfl, q2, rfl⟩ | ⟨b, o, rfl, q1, q2, q3, q4, q5⟩
  · go_simp
  · go_simp
  · have h1 : (l.length : Int) ≤ (c : Int) := by omega
    go_simp
theorem sl_run2 (K : Nat) (w : World) (a : Option Addr) (n c : Nat) (l : List Int) (h : Arg K w a n c l) : ∀ W : World, (Instr.slice 34 (.slice a n c) none (some (.int .i64 (l.length : Int))) none).run Try.prog W = .ok (.slice a l.length c) W := fun W => by
  rcases h with ⟨rfl, rfl, rfl, rfl⟩ | ⟨ad, rfl, rfl, q2, rfl⟩ | ⟨b, o, rfl, q1, q2, q3, q4, q5⟩
  · go_simp
  · go_simp
  · have h1 : (l.length : Int) ≤ (c : Int) := by omega
    go_simp
end Go.Proofs.Ytgldgilhegdpjaa
