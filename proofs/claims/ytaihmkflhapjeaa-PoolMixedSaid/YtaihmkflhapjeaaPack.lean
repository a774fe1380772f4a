/-
  What Pack, Unpack, Up and the reference's Pack answer.
-/
import Derived.Test.YtaihmkflhapjeaaMem
import Derived.IntWalk
namespace Go.Proofs.Ytaihmkflhapjeaa
open Go.RowKit
set_option linter.unusedVariables false
theorem i64_and30 (n : Int) : bits .and .i64 n 1073741823 = n % 1073741824 := by
  have hm : (BitVec.ofInt 64 1073741823).toNat = 2 ^ 30 - 1 := by decide
  have key : (BitVec.ofInt 64 n &&& BitVec.ofInt 64 1073741823).toNat = (n % ((2 ^ 64 : Nat) : Int)).toNat % 2 ^ 30 := by
    rw [BitVec.toNat_and, BitVec.toNat_ofInt, hm, Nat.and_two_pow_sub_one_eq_mod]
  show IntKind.i64.wrap ((BitVec.ofInt 64 n &&& BitVec.ofInt 64 1073741823).toNat : Nat) = n % 1073741824
  rw [key, IntKind.wrap_i64]
  omega
theorem i64_and32 (n : Int) : bits .and .i64 n 4294967295 = n % 4294967296 := by
  have hm : (BitVec.ofInt 64 4294967295).toNat = 2 ^ 32 - 1 := by decide
  have key : (BitVec.ofInt 64 n &&& BitVec.ofInt 64 4294967295).toNat = (n % ((2 ^ 64 : Nat) : Int)).toNat % 2 ^ 32 := by
    rw [BitVec.toNat_and, BitVec.toNat_ofInt, hm, Nat.and_two_pow_sub_one_eq_mod]
  show IntKind.i64.wrap ((BitVec.ofInt 64 n &&& BitVec.ofInt 64 4294967295).toNat : Nat) = n % 4294967296
  rw [key, IntKind.wrap_i64]
  omega
set_option maxRecDepth 100000 in
theorem low30 (n : Int) (w : World) : Calls Try.prog 46 #[.int .i64 n, .int .i64 30] w fun e w' => e = .returned (.int .i64 (n % 1073741824)) ∧ w = w' := by
  have h := i64_and30 n
  generalize n % 1073741824 = q at *
  go_enter Try.func46, Try.ntmps46
  go_wp2
  go_ret
  exact ⟨rfl, rfl⟩
set_option maxRecDepth 100000 in
theorem low32 (n : Int) (w : World) : Calls Try.prog 46 #[.int .i64 n, .int .i64 32] w fun e w' => e = .returned (.int .i64 (n % 4294967296)) ∧ w = w' := by
  have h := i64_and32 n
  generalize n % 4294967296 = q at *
  go_enter Try.func46, Try.ntmps46
  go_wp2
  go_ret
  exact ⟨rfl, rfl⟩
/-- a place that there is, or -1 -/
def pl (p : Int) : Int := if 0 ≤ p ∧ p ≤ 2147483646 then p else -1
theorem pl_in (p : Int) (h : 0 ≤ p ∧ p ≤ 2147483646) : pl p = p := if_pos h
theorem pl_out (p : Int) (h : ¬ (0 ≤ p ∧ p ≤ 2147483646)) : pl p = -1 := if_neg h
theorem pl_bd (p : Int) : -1 ≤ pl p ∧ pl p ≤ 2147483646 := by unfold pl; split <;> omega
attribute [irreducible] pl
def pk (v p : Int) : Int := v % 1073741824 * 4294967296 + pl p + 1
theorem pk_eq (v p : Int) : pk v p = v % 1073741824 * 4294967296 + pl p + 1 := rfl
attribute [irreducible] pk
set_option maxRecDepth 100000 in
theorem pack_any (v p : Int) (w : World) : Calls Try.prog 32 #[.int .i64 v, .int .i64 p] w fun e w' => e = .returned (.int .i64 (pk v p)) ∧ w = w' := by
  have hp := pl_bd p
  have hV : 0 ≤ v % 1073741824 ∧ v % 1073741824 ≤ 1073741823 := by omega
  have HL := Lib.hid (fun W => low30 v W)
  rw [pk_eq]
  by_cases h : p < -1
  · have hq := pl_out p (by omega)
    rw [hq]
    generalize v % 1073741824 = V at *
    have hs : IntKind.i64.wrap (V * 4294967296) = V * 4294967296 := IntWalk.i64_in _ (by omega)
    clear hp hq
    go_enter Try.func32, Try.ntmps32
    go_wp2_with fail
    refine (HL.out _).mono ?_; rintro e w1 ⟨rfl, rfl⟩
    go_wp2
    go_ret
    exact ⟨by go_num, rfl⟩
  · by_cases h2 : 2147483646 < p
    · have hq := pl_out p (by omega)
      rw [hq]
      generalize v % 1073741824 = V at *
      have hs : IntKind.i64.wrap (V * 4294967296) = V * 4294967296 := IntWalk.i64_in _ (by omega)
      clear hp hq
      have d1 : decide (p < -1) = false := decide_eq_false h
      go_enter Try.func32, Try.ntmps32
      go_wp2_with fail
      refine (HL.out _).mono ?_; rintro e w1 ⟨rfl, rfl⟩
      go_wp2
      go_ret
      exact ⟨by go_num, rfl⟩
    · have hq : pl p = p := by
        by_cases h3 : p = -1
        · subst h3; exact pl_out _ (by omega)
        · exact pl_in p (by omega)
      rw [hq]
      generalize v % 1073741824 = V at *
      have hs : IntKind.i64.wrap (V * 4294967296) = V * 4294967296 := IntWalk.i64_in _ (by omega)
      clear hp hq
      have d1 : decide (p < -1) = false := decide_eq_false h
      have d2 : decide (2147483646 < p) = false := decide_eq_false h2
      go_enter Try.func32, Try.ntmps32
      go_wp2_with fail
      refine (HL.out _).mono ?_; rintro e w1 ⟨rfl, rfl⟩
      go_wp2
      go_ret
      exact ⟨by go_num, rfl⟩
set_option maxRecDepth 100000 in
theorem unpack_any (n : Int) (h0 : 0 ≤ n) (h1 : n ≤ 4611686018427387903) (w : World) : Calls Try.prog 36 #[.int .i64 n] w fun e w' => e = .returned (.tuple #[.int .i64 (n / 4294967296 % 1073741824), .int .i64 (n % 4294967296 - 1)]) ∧ w = w' := by
  have H1 := Lib.hid (fun W => low30 (n / 4294967296) W)
  have H2 := Lib.hid (fun W => low32 n W)
  have b1 : 0 ≤ n % 4294967296 ∧ n % 4294967296 ≤ 4294967295 := by omega
  generalize n / 4294967296 % 1073741824 = A at *
  generalize n % 4294967296 = B at *
  go_enter Try.func36, Try.ntmps36
  go_wp2_with fail
  refine (H1.out _).mono ?_; rintro e w1 ⟨rfl, rfl⟩
  go_wp2_with fail
  refine (H2.out _).mono ?_; rintro e w1 ⟨rfl, rfl⟩
  go_wp2
  go_ret2
  exact ⟨rfl, rfl⟩
set_option maxRecDepth 100000 in
theorem up_any (n p : Int) (h0 : 0 ≤ n) (h1 : n ≤ 4611686018427387903) (w : World) : Calls Try.prog 58 #[.int .i64 n, .int .i64 p] w fun e w' => e = .returned (.int .i64 (pk (n / 4294967296 % 1073741824 + 1) p)) ∧ w = w' := by
  have H1 := Lib.hid (fun W => unpack_any n h0 h1 W)
  have H2 := Lib.hid (fun W => pack_any (n / 4294967296 % 1073741824 + 1) p W)
  have b1 : 0 ≤ n / 4294967296 % 1073741824 ∧ n / 4294967296 % 1073741824 ≤ 1073741823 := by omega
  generalize pk (n / 4294967296 % 1073741824 + 1) p = R at *
  generalize n / 4294967296 % 1073741824 = A at *
  generalize n % 4294967296 - 1 = B at *
  go_enter Try.func58, Try.ntmps58
  go_wp2_with fail
  refine (H1.out _).mono ?_; rintro e w1 ⟨rfl, rfl⟩
  go_wp2_with fail
  refine (H2.out _).mono ?_; rintro e w1 ⟨rfl, rfl⟩
  go_wp2
  go_ret
  exact ⟨rfl, rfl⟩
end Go.Proofs.Ytaihmkflhapjeaa
