/-
  The statement's closed facts about the program, one by one.
-/
import Derived.Test.YtegieoajjfodcaaGreatDoorCards
import Derived.Test.YtegieoajjfodcaaGreatDoorTie
import Derived.JoinedCond
namespace Go.Proofs.YtegieoajjfodcaaGreatDoor
set_option maxRecDepth 100000
theorem qf2 : laidOutB Tryz.prog = true := by kernel_rfl
theorem qf3 : mapsRowed Tryz.prog = true := by kernel_rfl
theorem qf4 : Tryz.f3.params.all (Tryz.prog.readableRec ·) = true := by kernel_rfl
theorem qf7 : (Tryz.prog.stops == []) = true := by kernel_rfl
theorem qf9 : (Tryz.prog.stopKnobs == []) = true := by kernel_rfl
theorem qf10 : (Rows.kurganQuietRow.inPlace == Tryz.prog.inPlace 3) = true := by kernel_rfl
theorem qf11 : (Rows.kurganQuietRow.unfollowed == Tryz.prog.unfollowed 3) = true := by kernel_rfl
theorem qf12 : (Rows.kurganQuietRow.recurses == Tryz.prog.recurses 3) = true := by kernel_rfl
theorem qf13 : (Rows.kurganQuietRow.named == Tryz.prog.varsNamed 3) = true := by kernel_rfl
theorem qf22 : (Rows.kurganQuietRow.plainKeys == Tryz.prog.plainKeys) = true := by kernel_rfl
theorem qf23 : Tryz.prog.stopsHeard = true := by kernel_rfl
theorem qf24 : Tryz.prog.mayEnter = true := by kernel_rfl
theorem qf25 : (Rows.kurganQuietRow.lifted == Tryz.prog.liftsFinal) = true := by kernel_rfl
theorem qf26 : (Tryz.prog.make == some Rows.kurganQuietRow.make) = true := by kernel_rfl
end Go.Proofs.YtegieoajjfodcaaGreatDoor
