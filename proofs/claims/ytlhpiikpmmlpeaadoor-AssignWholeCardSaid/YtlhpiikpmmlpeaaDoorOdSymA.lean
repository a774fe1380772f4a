/-
  slices.symMergeCmpFunc where one of the two halves has one number alone.
-/
import Derived.Test.YtlhpiikpmmlpeaaDoorOdOne
import Derived.BigRegion
import Derived.Laws.ShiftsVar
namespace Go.Proofs.YtlhpiikpmmlpeaaDoor.od
open Go.RowKit
set_option linter.unusedVariables false
variable {N : Nat}
theorem rot_start (l : List Int) (m i j : Nat) (h : i = 0 ∨ j = 0) : RotM l l m i j := rotM_of fun x => by
  repeat' split
  all_goals first | (exfalso; omega) | rfl | (congr 1; omega)
theorem rot_up {cur l : List Int} {a j : Nat} (h : RotM cur l (a + 1) 1 j) (hl : a + j + 1 < cur.length) : RotM (sw cur (a + j) (a + j + 1)) l (a + 1) 1 (j + 1) := rotM_of fun x => by
  rw [sw_nth _ _ _ _ (by omega) (by omega), rotM_at h, rotM_at h, rotM_at h]
  repeat' split
  all_goals first | (exfalso; omega) | rfl | (congr 1; omega)
theorem rot_dn {cur l : List Int} {k i : Nat} (h : RotM cur l (k + 1 + i) i 1) (hl : k + 1 < cur.length) : RotM (sw cur (k + 1) k) l (k + 1 + i) (i + 1) 1 := rotM_of fun x => by
  rw [sw_nth _ _ _ _ (by omega) (by omega), rotM_at h, rotM_at h, rotM_at h]
  repeat' split
  all_goals first | (exfalso; omega) | rfl | (congr 1; omega)
end Go.Proofs.YtlhpiikpmmlpeaaDoor.od
