/-
  Tokens in memory; what the reference's kind and the package's follows answer.
-/
import Derived.Test.YtegieoajjfodcaaGreatDoorLexM
import Derived.OwnWalk
import Derived.Laws.AppendOwn
import Derived.Laws.OwnMore
import Derived.Deep.AppendLies
import Derived.Maps.AppendAt
namespace Go.Proofs.YtegieoajjfodcaaGreatDoor
open Go.RowKit
set_option linter.unusedVariables false
def encT (t : Tok) : List Value := [.int .i64 t.kind, .string t.text, .int .i64 t.num, .int .i64 t.at_]
def encL (l : List Tok) : List Value := l.flatMap encT
theorem encL_app (l : List Tok) (t : Tok) : encL (l ++ [t]) = encL l ++ encT t := by simp [encL]
theorem encL_nil : encL [] = [] := rfl
theorem infoL : (Tryz.prog.info? 65).map (fun i => (i.zero, i.size, i.bytes)) = some (some (.agg #[.int .i64 0, .string ⟨#[]⟩, .int .i64 0, .int .i64 0]), 4, 40) := by kernel_rfl
/-- may a sign of a kind stand behind one of another? -/
def fol (a k : Int) : Bool := if k = 0 then false else if k = 3 then decide (a ≠ 2) else if k = 2 then decide (a ≠ 3) else true
theorem follows_any (a k : Int) (ha : a = 1 ∨ a = 2 ∨ a = 3 ∨ a = 4) (hk : k = 0 ∨ k = 1 ∨ k = 2 ∨ k = 3 ∨ k = 4) (w : World) : Calls Tryz.prog 38 #[.int .i64 a, .int .i64 k] w fun e w' => e = .returned (.bool (fol a k)) ∧ w = w' := by
  rcases ha with rfl | rfl | rfl | rfl <;> rcases hk with rfl | rfl | rfl | rfl | rfl
  all_goals
    go_enter Tryz.func38, Tryz.ntmps38
    go_wp2
    go_ret
    exact ⟨rfl, rfl⟩
end Go.Proofs.YtegieoajjfodcaaGreatDoor
