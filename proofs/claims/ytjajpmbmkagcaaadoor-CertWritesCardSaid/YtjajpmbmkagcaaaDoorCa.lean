/-
  cert: a sign at a place; a letter; what is required at a place.
-/
import Derived.Test.YtjajpmbmkagcaaaDoorBase
import Derived.Lib.OthersKept
namespace Go.Proofs.YtjajpmbmkagcaaaDoor
open Go.RowKit
set_option linter.unusedVariables false
/-- the error of a sign that is wanted at a place -/
def sgv (s : ByteArray) (a c : Nat) : Int := if s.size ≤ a then 6 else if (s.get! a).toNat = c then 0 else 2
theorem sign_any (s : ByteArray) (a c : Nat) (hc : c < 256) (w : World) : Calls Tryd.prog 22 #[.string s, .int .i64 (a : Int), .int .u8 (c : Int)] w fun e w' => e = .returned (.int .i64 (sgv s a c)) ∧ w = w' := by
  by_cases h : a < s.size
  · have g := get_of s a h
    have n1 : ¬ s.size ≤ a := by omega
    have d1 : decide ((s.size : Int) ≤ (a : Int)) = false := decide_eq_false (by omega)
    have d2 : decide (s.size ≤ a) = false := decide_eq_false n1
    have i1 : (a : Int) < (s.size : Int) := by omega
    by_cases e : (s.get! a).toNat = c
    · have E := Lib.hid (show sgv s a c = 0 from by unfold sgv; rw [if_neg n1, if_pos e])
      have b1 : (((s[a]'h).toNat : Int) != (c : Int)) = false := by rw [← g, e]; simp
      clear n1 e g
      go_enter Tryd.func22, Tryd.ntmps22
      go_wp2
      go_ret
      exact ⟨congrArg (fun z => Ending.returned (.int .i64 z)) E.out.symm, rfl⟩
    · have E := Lib.hid (show sgv s a c = 2 from by unfold sgv; rw [if_neg n1, if_neg e])
      have b1 : (((s[a]'h).toNat : Int) != (c : Int)) = true := by rw [← g]; simp; omega
      clear n1 e g
      go_enter Tryd.func22, Tryd.ntmps22
      go_wp2
      go_ret
      exact ⟨congrArg (fun z => Ending.returned (.int .i64 z)) E.out.symm, rfl⟩
  · have E := Lib.hid (show sgv s a c = 6 from by unfold sgv; rw [if_pos (by omega)])
    have d1 : decide ((s.size : Int) ≤ (a : Int)) = true := decide_eq_true (by omega)
    have d2 : decide (s.size ≤ a) = true := decide_eq_true (by omega)
    clear h
    go_enter Tryd.func22, Tryd.ntmps22
    go_wp2
    go_ret
    exact ⟨congrArg (fun z => Ending.returned (.int .i64 z)) E.out.symm, rfl⟩
/-- is it a letter of a tree? -/
def ltr (c : Int) : Bool := c == 112 || c == 98 || c == 108
theorem refletter_any (c : Nat) (hc : c < 256) (w : World) : Calls Tryd.prog 20 #[.int .u8 (c : Int)] w fun e w' => e = .returned (.bool (ltr (c : Int))) ∧ w = w' := by
  have E := Lib.hid (show ltr (c : Int) = ((c : Int) == 112 || (c : Int) == 98 || (c : Int) == 108) from rfl)
  cases h1 : ((c : Int) == 112) <;> cases h2 : ((c : Int) == 98) <;> cases h3 : ((c : Int) == 108)
  all_goals
    have F := Lib.hid (E.out.trans (by rw [h1, h2, h3]))
    clear E
    go_enter Tryd.func20, Tryd.ntmps20
    go_wp2
    go_ret
    exact ⟨congrArg (fun z => Ending.returned (.bool z)) F.out.symm, rfl⟩
theorem isletter_any (c : Int) (w : World) : Calls Tryd.prog 24 #[.int .i32 c] w fun e w' => e = .returned (.bool (ltr c)) ∧ w = w' := by
  have E := Lib.hid (show ltr c = (c == 112 || c == 98 || c == 108) from rfl)
  cases h1 : (c == 112) <;> cases h2 : (c == 98) <;> cases h3 : (c == 108)
  all_goals
    have F := Lib.hid (E.out.trans (by rw [h1, h2, h3]))
    clear E
    go_enter Tryd.func24, Tryd.ntmps24
    go_wp2
    go_ret
    exact ⟨congrArg (fun z => Ending.returned (.bool z)) F.out.symm, rfl⟩
end Go.Proofs.YtjajpmbmkagcaaaDoor
