/-
  The reader's end.
-/
import Derived.Test.YtegieoajjfodcaaGreatDoorRd4
namespace Go.Proofs.YtegieoajjfodcaaGreatDoor
open Go.RowKit
set_option linter.unusedVariables false
set_option maxHeartbeats 4000000 in
/-- end, where the End is next -/
theorem end_stay (b g o m c : Nat) (f : Int) (t : Tok) (w : World) (h : RD b g o (m + 1) (c + 1) f w) (ht : Front g o t w) (hk : t.kind = 3) :
    Calls Tryz.prog 21 #[.pointer (some ⟨b, 0, none⟩)] w fun r w' => r = .returned (.tuple #[]) ∧ w = w' := by
  obtain ⟨c0, c1, fz⟩ := h.cells
  obtain ⟨t0, t1, t2, t3⟩ := ht
  rw [hk] at t0
  clear h hk t1 t2 t3
  go_enter Tryz.func21, Tryz.ntmps21
  go_wp2
  exact bodyPost_end (results_none rfl _ _ _) rfl ⟨rfl, rfl⟩
set_option maxHeartbeats 4000000 in
/-- end, where another token is next -/
theorem end_tail (b g o m c : Nat) (f : Int) (t : Tok) (hc : m ≤ c) (w : World) (h : RD b g o (m + 1) (c + 1) f w) (ht : Front g o t w) (hk : t.kind ≠ 3) :
    Calls Tryz.prog 21 #[.pointer (some ⟨b, 0, none⟩)] w fun r w' => r = .returned (.tuple #[]) ∧ Went b g o m c f 7 w' ∧ Ch1 b w w' := by
  obtain ⟨c0, c1, fz⟩ := h.cells
  obtain ⟨t0, t1, t2, t3⟩ := ht
  have d0 : (t.kind != 3) = true := by simpa using hk
  have HP := Lib.hid (pass_any b g o m c f 7 (by omega) hc w h)
  clear h hk t1 t2 t3
  go_enter Tryz.func21, Tryz.ntmps21
  go_wp2_with fail
  refine HP.out.mono ?_
  rintro e w3 ⟨rfl, hG⟩
  have FN := Lib.hid hG
  clear hG HP
  go_wp2
  exact bodyPost_end (results_none rfl _ _ _) rfl ⟨rfl, FN.out⟩
end Go.Proofs.YtegieoajjfodcaaGreatDoor
