/-
  What arith.Cross answers of small numbers.
-/
import Derived.Test.YteceibafagekiaaBase
namespace Go.Proofs.Yteceibafagekiaa
open Go.RowKit
set_option linter.unusedVariables false

theorem mask_small (x : Int) (h0 : 0 ≤ x) (h1 : x ≤ 1000000) : bits BinOp.and IntKind.u64 x 4294967295 = x := by
  obtain ⟨n, rfl⟩ : ∃ n : Nat, x = n := ⟨x.toNat, by omega⟩
  show IntKind.u64.wrap (((BitVec.ofInt 64 (n : Int) &&& BitVec.ofInt 64 4294967295).toNat : Nat) : Int) = _
  have e : (BitVec.ofInt 64 (n : Int) &&& BitVec.ofInt 64 4294967295).toNat = n := by
    rw [BitVec.toNat_and, BitVec.ofInt_natCast, BitVec.toNat_ofNat, Nat.mod_eq_of_lt (by omega)]
    have : (BitVec.ofInt 64 4294967295).toNat = 2 ^ 32 - 1 := by decide
    rw [this, Nat.and_two_pow_sub_one_eq_mod, Nat.mod_eq_of_lt (by omega)]
  rw [e]
  exact IntWalk.u64_in _ (by omega)
theorem mul_small (x y p : Int) (x0 : 0 ≤ x) (x1 : x ≤ 1000) (y0 : 0 ≤ y) (y1 : y ≤ 1000) (hp : p = x * y) (p0 : 0 ≤ p) (p1 : p ≤ 1000000) (w : World) :
    Calls Try.prog 47 #[.int .u64 x, .int .u64 y] w fun e w' => e = .returned (.tuple #[.int .u64 0, .int .u64 p]) ∧ w = w' := by
  have m1 := mask_small x x0 (by omega)
  have m2 := mask_small y y0 (by omega)
  have q1 : x / 4294967296 = 0 := by omega
  have q2 : y / 4294967296 = 0 := by omega
  have q3 : p / 4294967296 = 0 := by omega
  have hp' : x * y = p := hp.symm
  have w1 : IntKind.u64.wrap p = p := IntWalk.u64_in _ (by omega)
  have m3 : bits BinOp.and IntKind.u64 0 4294967295 = 0 := mask_small 0 (by decide) (by decide)
  clear hp
  go_enter Try.func47, Try.ntmps47
  go_wp2
  go_ret2
  exact ⟨rfl, rfl⟩
theorem prod_small (x y p : Int) (x0 : 0 ≤ x) (x1 : x ≤ 1000) (y0 : 0 ≤ y) (y1 : y ≤ 1000) (hp : p = x * y) (p0 : 0 ≤ p) (p1 : p ≤ 1000000) (w : World) :
    Calls Try.prog 40 #[.int .i64 x, .int .i64 y] w fun e w' => e = .returned (.agg #[.int .u64 0, .int .u64 p]) ∧ Below w.heap.size w w' := by
  have H := Lib.hid (fun W => mul_small x y p x0 x1 y0 y1 hp p0 p1 W)
  have u1 : IntKind.u64.wrap x = x := IntWalk.u64_in _ (by omega)
  have u2 : IntKind.u64.wrap y = y := IntWalk.u64_in _ (by omega)
  clear hp
  go_enter Try.func40, Try.ntmps40
  go_wp2_with fail
  refine (H.out _).mono ?_; rintro e w1 ⟨rfl, rfl⟩
  go_wp2
  exact bodyPost_ret (v := .agg #[.int .u64 0, .int .u64 p]) (by simp [results, Try.results40, go_sem]) rfl ⟨rfl, bl_al (Below.refl _ _) _⟩
def cmpv (a b : Int) : Int := if a < b then -1 else if b < a then 1 else 0
theorem cmpv_lt {a b : Int} (h : a < b) : cmpv a b = -1 := by unfold cmpv; rw [if_pos h]
theorem cmpv_gt {a b : Int} (h : b < a) : cmpv a b = 1 := by unfold cmpv; rw [if_neg (by omega), if_pos h]
theorem cmpv_eq {a b : Int} (h : a = b) : cmpv a b = 0 := by unfold cmpv; rw [if_neg (by omega), if_neg (by omega)]
attribute [irreducible] cmpv
theorem nan_int (x : Int) (w : World) : Calls Try.prog 39 #[.int .i64 x] w fun e w' => e = .returned (.bool false) ∧ w = w' := by
  go_enter Try.func39, Try.ntmps39
  go_wp2
  go_ret
  exact ⟨by simp, rfl⟩
theorem nan_i64 (x : Int) (w : World) : Calls Try.prog 56 #[.int .i64 x] w fun e w' => e = .returned (.bool false) ∧ w = w' := by
  go_enter Try.func56, Try.ntmps56
  go_wp2
  go_ret
  exact ⟨by simp, rfl⟩
theorem nan_u64 (x : Int) (w : World) : Calls Try.prog 57 #[.int .u64 x] w fun e w' => e = .returned (.bool false) ∧ w = w' := by
  go_enter Try.func57, Try.ntmps57
  go_wp2
  go_ret
  exact ⟨by simp, rfl⟩
theorem cmp_int (x y : Int) (w : World) : Calls Try.prog 27 #[.int .i64 x, .int .i64 y] w fun e w' => e = .returned (.int .i64 (cmpv x y)) ∧ w = w' := by
  have H1 := Lib.hid (fun W => nan_int x W)
  have H2 := Lib.hid (fun W => nan_int y W)
  rcases (show x < y ∨ y < x ∨ x = y by omega) with h | h | h
  · rw [cmpv_lt h]
    go_enter Try.func27, Try.ntmps27
    go_wp2_with fail
    refine (H1.out _).mono ?_; rintro e w1 ⟨rfl, rfl⟩
    go_wp2_with fail
    refine (H2.out _).mono ?_; rintro e w1 ⟨rfl, rfl⟩
    go_wp2
    go_ret
    exact ⟨rfl, rfl⟩
  · rw [cmpv_gt h]
    have h' : ¬ x < y := by omega
    go_enter Try.func27, Try.ntmps27
    go_wp2_with fail
    refine (H1.out _).mono ?_; rintro e w1 ⟨rfl, rfl⟩
    go_wp2_with fail
    refine (H2.out _).mono ?_; rintro e w1 ⟨rfl, rfl⟩
    go_wp2
    go_ret
    exact ⟨rfl, rfl⟩
  · rw [cmpv_eq h]
    subst h
    have h' : ¬ x < x := by omega
    go_enter Try.func27, Try.ntmps27
    go_wp2_with fail
    refine (H1.out _).mono ?_; rintro e w1 ⟨rfl, rfl⟩
    go_wp2_with fail
    refine (H1.out _).mono ?_; rintro e w1 ⟨rfl, rfl⟩
    go_wp2
    go_ret
    exact ⟨rfl, rfl⟩
theorem cmp_i64 (x y : Int) (w : World) : Calls Try.prog 48 #[.int .i64 x, .int .i64 y] w fun e w' => e = .returned (.int .i64 (cmpv x y)) ∧ w = w' := by
  have H1 := Lib.hid (fun W => nan_i64 x W)
  have H2 := Lib.hid (fun W => nan_i64 y W)
  rcases (show x < y ∨ y < x ∨ x = y by omega) with h | h | h
  · rw [cmpv_lt h]
    go_enter Try.func48, Try.ntmps48
    go_wp2_with fail
    refine (H1.out _).mono ?_; rintro e w1 ⟨rfl, rfl⟩
    go_wp2_with fail
    refine (H2.out _).mono ?_; rintro e w1 ⟨rfl, rfl⟩
    go_wp2
    go_ret
    exact ⟨rfl, rfl⟩
  · rw [cmpv_gt h]
    have h' : ¬ x < y := by omega
    go_enter Try.func48, Try.ntmps48
    go_wp2_with fail
    refine (H1.out _).mono ?_; rintro e w1 ⟨rfl, rfl⟩
    go_wp2_with fail
    refine (H2.out _).mono ?_; rintro e w1 ⟨rfl, rfl⟩
    go_wp2
    go_ret
    exact ⟨rfl, rfl⟩
  · rw [cmpv_eq h]
    subst h
    have h' : ¬ x < x := by omega
    go_enter Try.func48, Try.ntmps48
    go_wp2_with fail
    refine (H1.out _).mono ?_; rintro e w1 ⟨rfl, rfl⟩
    go_wp2_with fail
    refine (H1.out _).mono ?_; rintro e w1 ⟨rfl, rfl⟩
    go_wp2
    go_ret
    exact ⟨rfl, rfl⟩
theorem cmp_u64 (x y : Int) (w : World) : Calls Try.prog 49 #[.int .u64 x, .int .u64 y] w fun e w' => e = .returned (.int .i64 (cmpv x y)) ∧ w = w' := by
  have H1 := Lib.hid (fun W => nan_u64 x W)
  have H2 := Lib.hid (fun W => nan_u64 y W)
  rcases (show x < y ∨ y < x ∨ x = y by omega) with h | h | h
  · rw [cmpv_lt h]
    go_enter Try.func49, Try.ntmps49
    go_wp2_with fail
    refine (H1.out _).mono ?_; rintro e w1 ⟨rfl, rfl⟩
    go_wp2_with fail
    refine (H2.out _).mono ?_; rintro e w1 ⟨rfl, rfl⟩
    go_wp2
    go_ret
    exact ⟨rfl, rfl⟩
  · rw [cmpv_gt h]
    have h' : ¬ x < y := by omega
    go_enter Try.func49, Try.ntmps49
    go_wp2_with fail
    refine (H1.out _).mono ?_; rintro e w1 ⟨rfl, rfl⟩
    go_wp2_with fail
    refine (H2.out _).mono ?_; rintro e w1 ⟨rfl, rfl⟩
    go_wp2
    go_ret
    exact ⟨rfl, rfl⟩
  · rw [cmpv_eq h]
    subst h
    have h' : ¬ x < x := by omega
    go_enter Try.func49, Try.ntmps49
    go_wp2_with fail
    refine (H1.out _).mono ?_; rintro e w1 ⟨rfl, rfl⟩
    go_wp2_with fail
    refine (H1.out _).mono ?_; rintro e w1 ⟨rfl, rfl⟩
    go_wp2
    go_ret
    exact ⟨rfl, rfl⟩
theorem compare_small (p q : Int) (p0 : 0 ≤ p) (p1 : p ≤ 1000000) (q0 : 0 ≤ q) (q1 : q ≤ 1000000) (w : World) :
    Calls Try.prog 41 #[.agg #[.int .u64 0, .int .u64 p], .agg #[.int .u64 0, .int .u64 q]] w fun e w' => e = .returned (.int .i64 (cmpv p q)) ∧ Below w.heap.size w w' := by
  have H1 := Lib.hid (fun W => cmp_i64 0 0 W)
  have H2 := Lib.hid (fun W => cmp_u64 p q W)
  rw [cmpv_eq (rfl : (0 : Int) = 0)] at H1
  generalize cmpv p q = r at *
  go_enter Try.func41, Try.ntmps41
  go_wp2_with fail
  refine (H1.out _).mono ?_; rintro e w1 ⟨rfl, rfl⟩
  go_wp2_with fail
  refine (H2.out _).mono ?_; rintro e w1 ⟨rfl, rfl⟩
  go_wp2
  go_ret
  exact ⟨rfl, bl_al (bl_al (Below.refl _ _) _) _⟩
theorem mul_bd (x y : Int) (x0 : 0 ≤ x) (x1 : x ≤ 1000) (y0 : 0 ≤ y) (y1 : y ≤ 1000) : 0 ≤ x * y ∧ x * y ≤ 1000000 := by
  refine ⟨Int.mul_nonneg x0 y0, ?_⟩
  have := Int.mul_le_mul x1 y1 y0 (by omega)
  omega
theorem cross_small (a b c d : Int) (ha : 0 ≤ a ∧ a ≤ 1000) (hb : 0 ≤ b ∧ b ≤ 1000) (hc : 0 ≤ c ∧ c ≤ 1000) (hd : 0 ≤ d ∧ d ≤ 1000) (w : World) :
    Calls Try.prog 28 #[.int .i64 a, .int .i64 b, .int .i64 c, .int .i64 d] w fun e w' => e = .returned (.int .i64 (cmpv (a * b) (c * d))) ∧ Below w.heap.size w w' := by
  obtain ⟨p1, p2⟩ := mul_bd a b ha.1 ha.2 hb.1 hb.2
  obtain ⟨q1, q2⟩ := mul_bd c d hc.1 hc.2 hd.1 hd.2
  have H1 := Lib.hid (fun W => prod_small a b (a * b) ha.1 ha.2 hb.1 hb.2 rfl p1 p2 W)
  have H2 := Lib.hid (fun W => prod_small c d (c * d) hc.1 hc.2 hd.1 hd.2 rfl q1 q2 W)
  have H3 := Lib.hid (fun W => compare_small (a * b) (c * d) p1 p2 q1 q2 W)
  clear ha hb hc hd p1 p2 q1 q2
  generalize cmpv (a * b) (c * d) = r at *
  generalize a * b = p at *
  generalize c * d = q at *
  go_enter Try.func28, Try.ntmps28
  go_wp2_with fail
  refine (H1.out _).mono ?_; rintro e w1 ⟨rfl, hb1⟩
  go_wp2_with fail
  refine (H2.out _).mono ?_; rintro e w2 ⟨rfl, hb2⟩
  go_wp2_with fail
  refine (H3.out _).mono ?_; rintro e w3 ⟨rfl, hb3⟩
  go_wp2
  go_ret
  exact ⟨rfl, bl_tr (bl_tr hb1 hb2) hb3⟩
end Go.Proofs.Yteceibafagekiaa
