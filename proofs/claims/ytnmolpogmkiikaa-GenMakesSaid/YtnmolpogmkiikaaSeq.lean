/-
  The numbers that a seed draws, one behind the other; what Draw and next answer of them.
-/
import Derived.Test.YtnmolpogmkiikaaNum
import Derived.Below
import Derived.Deep.QuietTactic
import Derived.BigQuiet
namespace Go.Proofs.Ytnmolpogmkiikaa
open Go.RowKit
set_option linter.unusedVariables false
/-- the next seed -/
def nxt (s : Int) : Int := IntKind.u64.wrap (IntKind.u64.wrap (s * 6364136223846793005) + 1442695040888963407)
theorem nxt_bd (s : Int) : 0 ≤ nxt s ∧ nxt s ≤ 18446744073709551615 := by unfold nxt; rw [IntKind.wrap_u64]; omega
/-- the seed behind k draws -/
def sd (s : Int) : Nat → Int
  | 0 => s
  | k + 1 => nxt (sd s k)
theorem sd_zero (s : Int) : sd s 0 = s := rfl
theorem sd_succ (s : Int) (k : Nat) : sd s (k + 1) = nxt (sd s k) := rfl
/-- the number of draw k -/
def dr (m s : Int) (k : Nat) : Int := (sd s (k + 1) / 8589934592) % (m + 1)
theorem dr_bd (m s : Int) (k : Nat) (h0 : 0 ≤ m) : 0 ≤ dr m s k ∧ dr m s k ≤ m := by
  unfold dr
  have h1 := Int.emod_nonneg (sd s (k + 1) / 8589934592) (show m + 1 ≠ 0 by omega)
  have h2 := Int.emod_lt_of_pos (sd s (k + 1) / 8589934592) (show 0 < m + 1 by omega)
  omega
theorem draw_any (m s : Int) (h0 : 0 ≤ m) (h1 : m ≤ 2147483647) (k : Nat) (w : World) : Calls Try.prog 5 #[.int .u64 (sd s k), .int .i64 m] w fun e w' => e = .returned (.tuple #[.int .i64 (dr m s k), .int .u64 (sd s (k + 1))]) ∧ w' = w := by
  have hb := nxt_bd (sd s k)
  refine (draw_yes (sd s k) m (sd s (k + 1)) (sd s (k + 1) / 8589934592) (dr m s k) h0 h1 rfl hb.1 hb.2 rfl ?_ ?_ rfl w).mono fun e w' h => ⟨h.1, h.2.symm⟩
  · rw [sd_succ]; omega
  · rw [sd_succ]; omega
theorem refdraw_any (m s : Int) (h0 : 0 ≤ m) (h1 : m ≤ 2147483647) (k : Nat) (w : World) : Calls Try.prog 6 #[.int .u64 (sd s k), .int .i64 m] w fun e w' => e = .returned (.tuple #[.int .i64 (dr m s k), .int .u64 (sd s (k + 1))]) ∧ w' = w := by
  have hb := nxt_bd (sd s k)
  refine (refdraw_yes (sd s k) m (sd s (k + 1)) (sd s (k + 1) / 8589934592) (dr m s k) h0 h1 rfl hb.1 hb.2 rfl ?_ ?_ rfl w).mono fun e w' h => ⟨h.1, h.2.symm⟩
  · rw [sd_succ]; omega
  · rw [sd_succ]; omega
attribute [irreducible] nxt sd dr
theorem gx_setCell {X w : World} {g : Nat} (h : X.grownBy w (some g)) (j : Nat) (v : Value) : X.grownBy (w.setCell ⟨g, j, none⟩ v) (some g) :=
  ⟨h.os, h.tape, h.output, by simpa [World.setCell] using h.size, fun i hi hne => (Below.heap_setCell w ⟨g, j, none⟩ v i (by intro e; exact hne (by rw [e]))).trans (h.block i hi hne)⟩
theorem gx_drewN {X w : World} {row : Option Nat} (h : X.grownBy w row) (n : Nat) : X.grownBy (w.drewN n) row := ⟨h.os, h.tape, h.output, h.size, h.block⟩
theorem next_any (m s : Int) (h0 : 0 ≤ m) (h1 : m ≤ 2147483647) (k g : Nat) (w : World) (hd : w.heap[g]? = some (.cells #[.int .u64 (sd s k), .int .i64 m] 42 (0, 0))) :
    Calls Try.prog 16 #[.pointer (some ⟨g, 0, none⟩)] w fun e w' => e = .returned (.int .i64 (dr m s k)) ∧ w'.heap[g]? = some (.cells #[.int .u64 (sd s (k + 1)), .int .i64 m] 42 (0, 0)) ∧ w.grownBy w' (some g) := by
  have H := Lib.hid (fun W => draw_any m s h0 h1 k W)
  have c0 := cell_of_row w g 0 _ 42 _ hd
  have c1 := cell_of_row w g 1 _ 42 _ hd
  have f0 : w.frozen? ⟨g, 0, none⟩ = false := by simp [World.frozen?, hd]
  have E := Lib.hid (heap_setCell_same w g 0 _ 42 (.int .u64 (sd s (k + 1))) hd)
  have G := Lib.hid (gx_setCell (World.grownBy.refl w (some g)) 0 (.int .u64 (sd s (k + 1))))
  simp at c0 c1
  clear hd h0 h1
  generalize dr m s k = d at *
  generalize sd s (k + 1) = t at *
  generalize sd s k = u at *
  go_enter Try.func16, Try.ntmps16
  go_wp2
  go_quiet ((go_at_call 5; exact Calls.quiet_of_same (H.out _)))
  all_goals go_wp2
  all_goals
    go_ret
    exact ⟨rfl, E.out, gx_drewN G.out _⟩
end Go.Proofs.Ytnmolpogmkiikaa
