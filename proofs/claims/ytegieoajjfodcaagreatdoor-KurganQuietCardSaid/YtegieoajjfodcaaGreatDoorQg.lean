/-
  The statement's closed facts about the program, put together.
-/
import Derived.Test.YtegieoajjfodcaaGreatDoorQf
import Derived.Test.YtegieoajjfodcaaGreatDoorQb3
namespace Go.Proofs.YtegieoajjfodcaaGreatDoor
set_option maxRecDepth 100000
theorem andt {a b : Bool} (ha : a = true) (hb : b = true) : (a && b) = true := by rw [ha, hb]; rfl
theorem qg1 : Rows.kurganQuietRow.wf (OpenSpec.ofChange (OpenSpec.ofChange Rows.kurganQuietSpec).bare) = true := by kernel_rfl
theorem qg17 : (Rows.kurganQuietRow.wideKeys == (Tryz.f3.params.toList ++ (OpenSpec.ofChange Rows.kurganQuietSpec).bare.plain.varTypes Tryz.prog ++ Tryz.f3.resultTypes.toList).any (Tryz.prog.wideKeysFrom ·)) = true := by kernel_rfl
theorem qg27 : (Rows.kurganQuietRow.veiled == (Tryz.f3.params.toList ++ (OpenSpec.ofChange Rows.kurganQuietSpec).bare.plain.varTypes Tryz.prog ++ Tryz.f3.resultTypes.toList).any (Tryz.prog.veiledRec ·)) = true := by kernel_rfl
theorem qg28 : Rows.kurganQuietRow.veiledFits Tryz.prog Tryz.f3.params.toList (Tryz.f3.params.toList ++ (OpenSpec.ofChange Rows.kurganQuietSpec).bare.plain.varTypes Tryz.prog ++ Tryz.f3.resultTypes.toList) = true := by kernel_rfl
theorem qg25 : (Rows.kurganQuietRow.pinned == Rows.kurganQuietRow.pinnedBy) = true := by kernel_rfl
theorem qgw : Rows.kurganQuietRow.wfByText (OpenSpec.ofChange Rows.kurganQuietSpec) = true := by kernel_rfl
theorem qgm : Tryz.prog.mainIs = some (true, "96861a798c438a2f497a7137e91a11312551d13bce25aab4cfc918cf5d18c724".toList) := by kernel_rfl
theorem qgl : true = Tryz.prog.looks [] := by kernel_rfl
theorem qgs : Tryz.prog.wantsStandIn 9 = false := by kernel_rfl
theorem qgi : Tryz.f3.isInstance Tryz.prog Rows.kurganQuietRow.origin Rows.kurganQuietRow.targs := of_decide_eq_true (by kernel_rfl)
theorem qgr : Tryz.f3.isWrapper Tryz.prog Rows.kurganQuietRow.wrapper Rows.kurganQuietRow.mainSum := by unfold Func.isWrapper; first | (rw [if_pos (by decide +kernel)]; kernel_rfl) | (rw [if_neg (by decide +kernel)]; exact ⟨rfl, rfl⟩)
theorem closed : joinedFacts Tryz.prog 3 Tryz.f3 (OpenSpec.ofChange Rows.kurganQuietSpec).bare Rows.kurganQuietRow = true :=
  (andt (andt (andt (andt (andt (andt (andt (andt (andt (andt (andt (andt (andt (andt (andt (andt (andt (andt (andt (andt (andt (andt (andt (andt (andt (andt (andt (andt (andt (andt (andt qg1 qf2) qf3) qf4) (by kernel_rfl)) (by kernel_rfl)) qf7) (by kernel_rfl)) qf9) qf10) qf11) qf12) qf13) (by kernel_rfl)) (by kernel_rfl)) (by kernel_rfl)) (by kernel_rfl)) qg17) (by kernel_rfl)) (by kernel_rfl)) (by kernel_rfl)) (by kernel_rfl)) qf22) (by kernel_rfl)) qf23) qf24) qf25) qf26) (by kernel_rfl)) qg25) qg27) qg28)
end Go.Proofs.YtegieoajjfodcaaGreatDoor
