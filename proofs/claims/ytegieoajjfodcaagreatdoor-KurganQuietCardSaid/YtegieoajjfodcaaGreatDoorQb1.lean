/-
  No function of the program starts a goroutine: part 1.
-/
import Derived.Test.YtegieoajjfodcaaGreatDoorCards
namespace Go.Proofs.YtegieoajjfodcaaGreatDoor
set_option maxRecDepth 100000
theorem qb0 : ((List.range' 0 14).all fun g => !((Tryz.prog.funcs[g]?).any Func.goes)) = true := by kernel_rfl
theorem qb1 : ((List.range' 14 14).all fun g => !((Tryz.prog.funcs[g]?).any Func.goes)) = true := by kernel_rfl
theorem qb2 : ((List.range' 28 14).all fun g => !((Tryz.prog.funcs[g]?).any Func.goes)) = true := by kernel_rfl
theorem qb3 : ((List.range' 42 14).all fun g => !((Tryz.prog.funcs[g]?).any Func.goes)) = true := by kernel_rfl
theorem qb4 : ((List.range' 56 14).all fun g => !((Tryz.prog.funcs[g]?).any Func.goes)) = true := by kernel_rfl
theorem qb5 : ((List.range' 70 14).all fun g => !((Tryz.prog.funcs[g]?).any Func.goes)) = true := by kernel_rfl
theorem qb6 : ((List.range' 84 14).all fun g => !((Tryz.prog.funcs[g]?).any Func.goes)) = true := by kernel_rfl
theorem qb7 : ((List.range' 98 14).all fun g => !((Tryz.prog.funcs[g]?).any Func.goes)) = true := by kernel_rfl
theorem qb8 : ((List.range' 112 14).all fun g => !((Tryz.prog.funcs[g]?).any Func.goes)) = true := by kernel_rfl
theorem qb9 : ((List.range' 126 14).all fun g => !((Tryz.prog.funcs[g]?).any Func.goes)) = true := by kernel_rfl
theorem qb10 : ((List.range' 140 14).all fun g => !((Tryz.prog.funcs[g]?).any Func.goes)) = true := by kernel_rfl
theorem qb11 : ((List.range' 154 14).all fun g => !((Tryz.prog.funcs[g]?).any Func.goes)) = true := by kernel_rfl
theorem qb12 : ((List.range' 168 14).all fun g => !((Tryz.prog.funcs[g]?).any Func.goes)) = true := by kernel_rfl
theorem qb13 : ((List.range' 182 14).all fun g => !((Tryz.prog.funcs[g]?).any Func.goes)) = true := by kernel_rfl
theorem qb14 : ((List.range' 196 14).all fun g => !((Tryz.prog.funcs[g]?).any Func.goes)) = true := by kernel_rfl
theorem qb15 : ((List.range' 210 14).all fun g => !((Tryz.prog.funcs[g]?).any Func.goes)) = true := by kernel_rfl
theorem qb16 : ((List.range' 224 14).all fun g => !((Tryz.prog.funcs[g]?).any Func.goes)) = true := by kernel_rfl
theorem qb17 : ((List.range' 238 14).all fun g => !((Tryz.prog.funcs[g]?).any Func.goes)) = true := by kernel_rfl
theorem qb18 : ((List.range' 252 14).all fun g => !((Tryz.prog.funcs[g]?).any Func.goes)) = true := by kernel_rfl
theorem qb19 : ((List.range' 266 14).all fun g => !((Tryz.prog.funcs[g]?).any Func.goes)) = true := by kernel_rfl
end Go.Proofs.YtegieoajjfodcaaGreatDoor
