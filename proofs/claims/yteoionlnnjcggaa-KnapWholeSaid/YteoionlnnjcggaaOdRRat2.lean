/-
  What the reference's ByRatio answers: where there is no answer, and all together.
-/
import Derived.Test.YteoionlnnjcggaaOdRRat
namespace Go.Proofs.Yteoionlnnjcggaa.od
open Go.RowKit
set_option linter.unusedVariables false
theorem neg_first {n : Nat} {v w : List Int} (h : ¬ ∀ j, j < n → 0 ≤ nth v j ∧ 0 ≤ nth w j) : ∃ k, k < n ∧ (nth v k < 0 ∨ nth w k < 0) ∧ ∀ j, j < k → 0 ≤ nth v j ∧ 0 ≤ nth w j := by
  induction n with
  | zero => exact absurd (fun j hj => by omega) h
  | succ n ih =>
    by_cases h2 : ∀ j, j < n → 0 ≤ nth v j ∧ 0 ≤ nth w j
    · refine ⟨n, by omega, ?_, h2⟩
      apply Classical.byContradiction
      intro q
      exact h (fun j hj => by
        by_cases e : j = n
        · subst e; omega
        · exact h2 j (by omega))
    · obtain ⟨k, k1, k2, k3⟩ := ih h2
      exact ⟨k, by omega, k2, k3⟩
set_option maxRecDepth 100000 in
set_option maxHeartbeats 4000000 in
theorem rrat_no (v w : List Int) (hv : v.length ≤ 1000) (hw : w.length ≤ 1000) (ho : ¬ ratOk v w) (va wa : Option Addr) (vc wc : Nat) (W : World) (h1 : Ints W va v) (h2 : Ints W wa w) :
    Calls Try.prog 45 #[.slice va v.length vc, .slice wa w.length wc] W fun e w' => e = .returned (.tuple #[.slice none 0 0, .int .i64 1]) ∧ Below W.heap.size W w' := by
  by_cases c1 : v.length = w.length
  · by_cases c2 : v.length ≤ 64
    · obtain ⟨k, k1, k2, k3⟩ := neg_first (n := v.length) (v := v) (w := w) (fun h => ho ⟨c1, c2, fun j hj => (h j hj).1, fun j hj => (h j (by omega)).2⟩)
      have HV := Lib.hid (fun j (hj : j < v.length) => h1 j hj)
      have HW : Hid (∀ j, j < v.length → ∃ b o, wa = some ⟨b, o, none⟩ ∧ b < W.heap.size ∧ W.cell? ⟨b, o + j, none⟩ = some (.int .i64 (nth w j))) := fun j hj => h2 j (by omega)
      have H3 := Lib.hid k3
      clear h1 h2 ho k3
      have hl : w.length = v.length := c1.symm
      clear c1
      generalize w.length = m at *
      subst hl
      generalize v.length = n at *
      have n1 : ¬ (64 : Int) < (n : Int) := by omega
      go_enter Try.func45, Try.ntmps45
      go_wp2
      go_loop [6] (fun i => ∃ j : Nat, j ≤ k ∧ i = .int .i64 j) (fun i => n - (intOf i).toNat)
      case atStart => exact ⟨0, by omega, rfl⟩
      case round =>
        obtain ⟨j, hj, rfl⟩ := hrel
        obtain ⟨b, o, rfl, _, e1⟩ := HV.out j (by omega)
        obtain ⟨b', o', rfl, _, e2⟩ := HW.out j (by omega)
        have g1 : (j : Int) < (n : Int) := by omega
        by_cases hlt : j < k
        · obtain ⟨p1, p2⟩ := H3.out j hlt
          have q1 : ¬ nth v j < 0 := by omega
          have q2 : ¬ nth w j < 0 := by omega
          generalize nth v j = x at *
          generalize nth w j = y at *
          go_wp2
          go_round
          case rel => exact ⟨j + 1, by omega, by go_num⟩
          case measure => simp [intOf]; omega
        · obtain rfl : j = k := by omega
          by_cases q1 : nth v j < 0
          · generalize nth v j = x at *
            generalize nth w j = y at *
            clear k2
            go_wp2
            go_ret2
            exact ⟨rfl, Below.refl _ _⟩
          · have q2 : nth w j < 0 := by omega
            generalize nth v j = x at *
            generalize nth w j = y at *
            clear k2
            go_wp2
            go_ret2
            exact ⟨rfl, Below.refl _ _⟩
    · clear h1 h2 ho
      have hl : w.length = v.length := c1.symm
      clear c1
      generalize w.length = m at *
      subst hl
      generalize v.length = n at *
      have n1 : (64 : Int) < (n : Int) := by omega
      go_enter Try.func45, Try.ntmps45
      go_wp2
      go_ret2
      exact ⟨rfl, Below.refl _ _⟩
  · clear h1 h2 ho
    generalize v.length = n at *
    generalize w.length = m at *
    have n1 : ((n : Int) == (m : Int)) = false := by simp; omega
    have n2 : ((n : Int) != (m : Int)) = true := by simp; omega
    go_enter Try.func45, Try.ntmps45
    go_wp2
    go_ret2
    exact ⟨rfl, Below.refl _ _⟩
end Go.Proofs.Yteoionlnnjcggaa.od
