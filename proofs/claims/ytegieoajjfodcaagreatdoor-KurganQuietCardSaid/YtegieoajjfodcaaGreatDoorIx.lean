/-
  slices.Index over texts; word.
-/
import Derived.Test.YtegieoajjfodcaaGreatDoorPT
namespace Go.Proofs.YtegieoajjfodcaaGreatDoor
open Go.RowKit
set_option linter.unusedVariables false
def ixF : List ByteArray → ByteArray → Nat → Int
  | [], x, k => -1
  | y :: ys, x, k => if x = y then (k : Int) else ixF ys x (k + 1)
theorem ixF_nil (x : ByteArray) (k : Nat) : ixF [] x k = -1 := rfl
theorem ixF_cons (y : ByteArray) (ys : List ByteArray) (x : ByteArray) (k : Nat) : ixF (y :: ys) x k = if x = y then (k : Int) else ixF ys x (k + 1) := rfl
attribute [irreducible] ixF
theorem txt_ne {x y : ByteArray} (h : ¬ x = y) : (x.toList == y.toList) = false := by
  rw [ByteArray.toList_eq, ByteArray.toList_eq]
  cases e : x.data.toList == y.data.toList
  · rfl
  · exfalso
    have e1 := Array.toList_inj.1 (beq_iff_eq.1 e)
    apply h
    cases x; cases y; exact congrArg _ e1
theorem txt_eq (x : ByteArray) : (x.toList == x.toList) = true := by simp
set_option maxHeartbeats 1000000 in
theorem index_any (xs : List ByteArray) (x : ByteArray) (g c : Nat) (h1 : xs.length ≤ 10) (w : World) (hc : ∀ j, j < xs.length → w.cell? ⟨g, j, none⟩ = some (.string (xs[j]?.getD noText))) :
    Calls Tryz.prog 77 #[.slice (some ⟨g, 0, none⟩) xs.length c, .string x] w fun e w' => e = .returned (.int .i64 (ixF xs x 0)) ∧ w = w' := by
  have HC := Lib.hid hc
  obtain ⟨r, hr⟩ : ∃ r, r = ixF xs x 0 := ⟨_, rfl⟩
  rw [← hr]
  clear hc
  go_enter Tryz.func77, Tryz.ntmps77
  go_wp2
  go_loopw [8] (fun i wr => ∃ k : Nat, k ≤ xs.length ∧ i = .int .i64 k ∧ Hid (ixF (xs.drop k) x k = r) ∧ wr = w) (fun i _ => xs.length - (intOf i).toNat)
  case atStart => exact ⟨0, by omega, rfl, Lib.hid (by simpa using hr.symm), rfl⟩
  case round =>
    obtain ⟨k, hk, rfl, HS, rfl⟩ := hrel
    by_cases hlt : k < xs.length
    · have kb : (0 : Int) ≤ (k : Int) ∧ (k : Int) < (xs.length : Int) := by omega
      have ck := HC.out k hlt
      have hs := HS.out
      rw [List.drop_eq_getElem_cons hlt, ixF_cons] at hs
      have e : xs[k]?.getD noText = xs[k] := by rw [List.getElem?_eq_getElem hlt]; rfl
      rw [e] at ck
      generalize xs[k] = y at *
      clear e
      by_cases q : x = y
      · subst q
        rw [if_pos rfl] at hs
        subst hs
        clear hr
        go_wp2
        go_ret
        exact ⟨rfl, rfl⟩
      · rw [if_neg q] at hs
        have HS2 := Lib.hid hs
        clear hs hr
        have d0 := txt_ne q
        clear q
        go_wp2
        go_roundw
        case rel => exact ⟨k + 1, by omega, by go_num, HS2, trivial⟩
        case measure => simp [intOf]; omega
    · obtain rfl : k = xs.length := by omega
      have hs := HS.out
      rw [List.drop_length, ixF_nil] at hs
      subst hs
      clear hr
      go_wp2
      go_ret
      exact ⟨rfl, rfl⟩
end Go.Proofs.YtegieoajjfodcaaGreatDoor
