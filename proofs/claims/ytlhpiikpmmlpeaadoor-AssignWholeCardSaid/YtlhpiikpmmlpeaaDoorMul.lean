/-
  Small products. What arith.Cross answers of small numbers.
-/
import Derived.Test.YtlhpiikpmmlpeaaDoorOdOne
namespace Go.Proofs.YtlhpiikpmmlpeaaDoor.md
open Go.RowKit
set_option linter.unusedVariables false

theorem mask_small (x : Int) (h0 : 0 ≤ x) (h1 : x ≤ 1000000) : bits BinOp.and IntKind.u64 x 4294967295 = x := by
  obtain ⟨n, rfl⟩ : ∃ n : Nat, x = n := ⟨x.toNat, by omega⟩
  show IntKind.u64.wrap (((BitVec.ofInt 64 (n : Int) &&& BitVec.ofInt 64 4294967295).toNat : Nat) : Int) = _
  have e : (BitVec.ofInt 64 (n : Int) &&& BitVec.ofInt 64 4294967295).toNat = n := by
    rw [BitVec.toNat_and, BitVec.ofInt_natCast, BitVec.toNat_ofNat, Nat.mod_eq_of_lt (by omega)]
    have : (BitVec.ofInt 64 4294967295).toNat = 2 ^ 32 - 1 := by decide
    rw [this, Nat.and_two_pow_sub_one_eq_mod, Nat.mod_eq_of_lt (by omega)]
  rw [e]
  exact IntWalk.u64_in _ (by omega)
theorem mul_small (x y p : Int) (x0 : 0 ≤ x) (x1 : x ≤ 1000) (y0 : 0 ≤ y) (y1 : y ≤ 1000) (hp : p = x * y) (p0 : 0 ≤ p) (p1 : p ≤ 1000000) (w : World) :
    Calls Tryd.prog 104 #[.int .u64 x, .int .u64 y] w fun e w' => e = .returned (.tuple #[.int .u64 0, .int .u64 p]) ∧ w = w' := by
  have m1 := mask_small x x0 (by omega)
  have m2 := mask_small y y0 (by omega)
  have q1 : x / 4294967296 = 0 := by omega
  have q2 : y / 4294967296 = 0 := by omega
  have q3 : p / 4294967296 = 0 := by omega
  have hp' : x * y = p := hp.symm
  have w1 : IntKind.u64.wrap p = p := IntWalk.u64_in _ (by omega)
  have m3 : bits BinOp.and IntKind.u64 0 4294967295 = 0 := mask_small 0 (by decide) (by decide)
  clear hp
  go_enter Tryd.func104, Tryd.ntmps104
  go_wp2
  go_ret2
  exact ⟨rfl, rfl⟩
def cmpv (a b : Int) : Int := if a < b then -1 else if b < a then 1 else 0
end Go.Proofs.YtlhpiikpmmlpeaaDoor.md
