/-
  No function of the program starts a goroutine: put together.
-/
import Derived.Test.YtegieoajjfodcaaGreatDoorQb1
import Derived.Test.YtegieoajjfodcaaGreatDoorQb2
namespace Go.Proofs.YtegieoajjfodcaaGreatDoor
set_option maxRecDepth 100000
theorem chunk {P : Program} {a n : Nat} (h : ((List.range' a n).all fun g => !((P.funcs[g]?).any Func.goes)) = true) (g : Nat) (h1 : a ≤ g) (h2 : g < a + n) : (P.funcs[g]?).any Func.goes = false := by
  have := List.all_eq_true.1 h g (by rw [List.mem_range'_1]; exact ⟨h1, h2⟩)
  simpa using this
theorem goes_none (P : Program) (f : FuncId) (h : ∀ g : Nat, (P.funcs[g]?).any Func.goes = false) : P.goes f = false := by
  unfold Program.goes
  have h1 : ((P.closure f).any fun g => (P.funcs[g]?).any Func.goes) = false := by
    rw [List.any_eq_false]
    intro g _
    rw [h g]
    decide
  have h2 : P.funcs.any Func.goes = false := by
    rw [Array.any_eq_false]
    intro i hi
    have := h i
    rw [Array.getElem?_eq_getElem hi] at this
    simpa using this
  rw [h1, h2, Bool.and_false, Bool.or_false]
theorem qbs : Tryz.prog.funcs.size = 556 := by kernel_rfl
theorem qb_all (g : Nat) : (Tryz.prog.funcs[g]?).any Func.goes = false := by
  rcases Nat.lt_or_ge g 14 with h | h
  · exact chunk qb0 g (by omega) (by omega)
  rcases Nat.lt_or_ge g 28 with h | h
  · exact chunk qb1 g (by omega) (by omega)
  rcases Nat.lt_or_ge g 42 with h | h
  · exact chunk qb2 g (by omega) (by omega)
  rcases Nat.lt_or_ge g 56 with h | h
  · exact chunk qb3 g (by omega) (by omega)
  rcases Nat.lt_or_ge g 70 with h | h
  · exact chunk qb4 g (by omega) (by omega)
  rcases Nat.lt_or_ge g 84 with h | h
  · exact chunk qb5 g (by omega) (by omega)
  rcases Nat.lt_or_ge g 98 with h | h
  · exact chunk qb6 g (by omega) (by omega)
  rcases Nat.lt_or_ge g 112 with h | h
  · exact chunk qb7 g (by omega) (by omega)
  rcases Nat.lt_or_ge g 126 with h | h
  · exact chunk qb8 g (by omega) (by omega)
  rcases Nat.lt_or_ge g 140 with h | h
  · exact chunk qb9 g (by omega) (by omega)
  rcases Nat.lt_or_ge g 154 with h | h
  · exact chunk qb10 g (by omega) (by omega)
  rcases Nat.lt_or_ge g 168 with h | h
  · exact chunk qb11 g (by omega) (by omega)
  rcases Nat.lt_or_ge g 182 with h | h
  · exact chunk qb12 g (by omega) (by omega)
  rcases Nat.lt_or_ge g 196 with h | h
  · exact chunk qb13 g (by omega) (by omega)
  rcases Nat.lt_or_ge g 210 with h | h
  · exact chunk qb14 g (by omega) (by omega)
  rcases Nat.lt_or_ge g 224 with h | h
  · exact chunk qb15 g (by omega) (by omega)
  rcases Nat.lt_or_ge g 238 with h | h
  · exact chunk qb16 g (by omega) (by omega)
  rcases Nat.lt_or_ge g 252 with h | h
  · exact chunk qb17 g (by omega) (by omega)
  rcases Nat.lt_or_ge g 266 with h | h
  · exact chunk qb18 g (by omega) (by omega)
  rcases Nat.lt_or_ge g 280 with h | h
  · exact chunk qb19 g (by omega) (by omega)
  rcases Nat.lt_or_ge g 294 with h | h
  · exact chunk qb20 g (by omega) (by omega)
  rcases Nat.lt_or_ge g 308 with h | h
  · exact chunk qb21 g (by omega) (by omega)
  rcases Nat.lt_or_ge g 322 with h | h
  · exact chunk qb22 g (by omega) (by omega)
  rcases Nat.lt_or_ge g 336 with h | h
  · exact chunk qb23 g (by omega) (by omega)
  rcases Nat.lt_or_ge g 350 with h | h
  · exact chunk qb24 g (by omega) (by omega)
  rcases Nat.lt_or_ge g 364 with h | h
  · exact chunk qb25 g (by omega) (by omega)
  rcases Nat.lt_or_ge g 378 with h | h
  · exact chunk qb26 g (by omega) (by omega)
  rcases Nat.lt_or_ge g 392 with h | h
  · exact chunk qb27 g (by omega) (by omega)
  rcases Nat.lt_or_ge g 406 with h | h
  · exact chunk qb28 g (by omega) (by omega)
  rcases Nat.lt_or_ge g 420 with h | h
  · exact chunk qb29 g (by omega) (by omega)
  rcases Nat.lt_or_ge g 434 with h | h
  · exact chunk qb30 g (by omega) (by omega)
  rcases Nat.lt_or_ge g 448 with h | h
  · exact chunk qb31 g (by omega) (by omega)
  rcases Nat.lt_or_ge g 462 with h | h
  · exact chunk qb32 g (by omega) (by omega)
  rcases Nat.lt_or_ge g 476 with h | h
  · exact chunk qb33 g (by omega) (by omega)
  rcases Nat.lt_or_ge g 490 with h | h
  · exact chunk qb34 g (by omega) (by omega)
  rcases Nat.lt_or_ge g 504 with h | h
  · exact chunk qb35 g (by omega) (by omega)
  rcases Nat.lt_or_ge g 518 with h | h
  · exact chunk qb36 g (by omega) (by omega)
  rcases Nat.lt_or_ge g 532 with h | h
  · exact chunk qb37 g (by omega) (by omega)
  rcases Nat.lt_or_ge g 546 with h | h
  · exact chunk qb38 g (by omega) (by omega)
  rcases Nat.lt_or_ge g 556 with h | h
  · exact chunk qb39 g (by omega) (by omega)
  rw [Array.getElem?_eq_none (by rw [qbs]; exact h)]
  rfl
theorem goes_by (P : Program) (c : OpenClaim) (f : FuncId) (hf : P.funcNamed c.func = some f) (hs : c.start = .entering) (h : P.goes f = false) : false = c.goesBy P := by
  unfold OpenClaim.goesBy Program.goesAt Program.goesFrom
  rw [hf, hs]
  show false = (P.goes f || false)
  rw [h]
  rfl
theorem qgn : Tryz.prog.funcNamed Rows.kurganQuietRow.func = some 3 := by kernel_rfl
theorem qgb : false = Rows.kurganQuietRow.goesBy Tryz.prog := goes_by _ _ 3 qgn rfl (goes_none _ 3 qb_all)
end Go.Proofs.YtegieoajjfodcaaGreatDoor
