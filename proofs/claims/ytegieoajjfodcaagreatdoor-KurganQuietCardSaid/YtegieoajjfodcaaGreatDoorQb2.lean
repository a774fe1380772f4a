/-
  No function of the program starts a goroutine: part 2.
-/
import Derived.Test.YtegieoajjfodcaaGreatDoorCards
namespace Go.Proofs.YtegieoajjfodcaaGreatDoor
set_option maxRecDepth 100000
theorem qb20 : ((List.range' 280 14).all fun g => !((Tryz.prog.funcs[g]?).any Func.goes)) = true := by kernel_rfl
theorem qb21 : ((List.range' 294 14).all fun g => !((Tryz.prog.funcs[g]?).any Func.goes)) = true := by kernel_rfl
theorem qb22 : ((List.range' 308 14).all fun g => !((Tryz.prog.funcs[g]?).any Func.goes)) = true := by kernel_rfl
theorem qb23 : ((List.range' 322 14).all fun g => !((Tryz.prog.funcs[g]?).any Func.goes)) = true := by kernel_rfl
theorem qb24 : ((List.range' 336 14).all fun g => !((Tryz.prog.funcs[g]?).any Func.goes)) = true := by kernel_rfl
theorem qb25 : ((List.range' 350 14).all fun g => !((Tryz.prog.funcs[g]?).any Func.goes)) = true := by kernel_rfl
theorem qb26 : ((List.range' 364 14).all fun g => !((Tryz.prog.funcs[g]?).any Func.goes)) = true := by kernel_rfl
theorem qb27 : ((List.range' 378 14).all fun g => !((Tryz.prog.funcs[g]?).any Func.goes)) = true := by kernel_rfl
theorem qb28 : ((List.range' 392 14).all fun g => !((Tryz.prog.funcs[g]?).any Func.goes)) = true := by kernel_rfl
theorem qb29 : ((List.range' 406 14).all fun g => !((Tryz.prog.funcs[g]?).any Func.goes)) = true := by kernel_rfl
theorem qb30 : ((List.range' 420 14).all fun g => !((Tryz.prog.funcs[g]?).any Func.goes)) = true := by kernel_rfl
theorem qb31 : ((List.range' 434 14).all fun g => !((Tryz.prog.funcs[g]?).any Func.goes)) = true := by kernel_rfl
theorem qb32 : ((List.range' 448 14).all fun g => !((Tryz.prog.funcs[g]?).any Func.goes)) = true := by kernel_rfl
theorem qb33 : ((List.range' 462 14).all fun g => !((Tryz.prog.funcs[g]?).any Func.goes)) = true := by kernel_rfl
theorem qb34 : ((List.range' 476 14).all fun g => !((Tryz.prog.funcs[g]?).any Func.goes)) = true := by kernel_rfl
theorem qb35 : ((List.range' 490 14).all fun g => !((Tryz.prog.funcs[g]?).any Func.goes)) = true := by kernel_rfl
theorem qb36 : ((List.range' 504 14).all fun g => !((Tryz.prog.funcs[g]?).any Func.goes)) = true := by kernel_rfl
theorem qb37 : ((List.range' 518 14).all fun g => !((Tryz.prog.funcs[g]?).any Func.goes)) = true := by kernel_rfl
theorem qb38 : ((List.range' 532 14).all fun g => !((Tryz.prog.funcs[g]?).any Func.goes)) = true := by kernel_rfl
theorem qb39 : ((List.range' 546 10).all fun g => !((Tryz.prog.funcs[g]?).any Func.goes)) = true := by kernel_rfl
end Go.Proofs.YtegieoajjfodcaaGreatDoor
