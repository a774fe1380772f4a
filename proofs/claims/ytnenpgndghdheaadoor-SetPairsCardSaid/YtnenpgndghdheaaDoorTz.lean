/-
  math/bits.TrailingZeros64 and OnesCount64.
-/
import Derived.Test.YtnenpgndghdheaaDoorBase
import Derived.Test.YtnenpgndghdheaaDoorPop
import Derived.Test.YtnenpgndghdheaaDoorBitsM
import Derived.Shelf.Spec.TrailingZeros
import Derived.Laws.ShiftsVar
namespace Go.Proofs.YtnenpgndghdheaaDoor
open Go.RowKit
set_option linter.unusedVariables false
/-- the table of the library lies in its variable -/
def T64 (w : World) : Prop := 0 < w.heap.size ∧ ∀ j, j < 64 → w.cell? ⟨0, j, none⟩ = some (.int .u8 (Lib.deBruijn64tab.getD j 0))
theorem T64.keep {w w' : World} (h : T64 w) (hb : Below w.heap.size w w') : T64 w' := ⟨Nat.lt_of_lt_of_le h.1 hb.size, fun j hj => (hb.cell (p := ⟨0, j, none⟩) h.1).trans (h.2 j hj)⟩
theorem T64.under {B : Nat} {w w' : World} (h : T64 w) (h0 : 0 < B) (hb : Below B w w') : T64 w' := ⟨Nat.lt_of_lt_of_le h.1 hb.size, fun j hj => (hb.cell (p := ⟨0, j, none⟩) h0).trans (h.2 j hj)⟩
set_option maxHeartbeats 1000000 in
theorem tz_core (x k idx : Nat) (w : World) (hx0 : ((x : Int) == 0) = false)
    (key : IntKind.u64.wrap (bits BinOp.and IntKind.u64 (x : Int) (IntKind.u64.wrap (-(x : Int))) * 285870213051353865) / 288230376151711744 = (idx : Int))
    (hi : idx < 64) (hk : k < 64) (hcell : w.cell? ⟨0, idx, none⟩ = some (.int .u8 k)) :
    Calls Tryd.prog 25 #[.int .u64 x] w fun e w' => e = .returned (.int .i64 k) ∧ w' = w := by
  go_enter Tryd.func25, Tryd.ntmps25
  go_wp2_with (simp only [key])
  go_ret
  exact ⟨rfl, rfl⟩
theorem tz_zero (w : World) : Calls Tryd.prog 25 #[.int .u64 0] w fun e w' => e = .returned (.int .i64 64) ∧ w' = w := by
  go_enter Tryd.func25, Tryd.ntmps25
  go_wp2
  go_ret
  exact ⟨rfl, rfl⟩
theorem tz_any (x : Nat) (hx : x < 18446744073709551616) (w : World) (hT : T64 w) :
    Calls Tryd.prog 25 #[.int .u64 x] w fun e w' => e = .returned (.int .i64 (Lib.ctz 64 x)) ∧ w' = w := by
  by_cases hx0 : x = 0
  · subst hx0
    exact tz_zero w
  · obtain ⟨hlow, hk⟩ := Lib.lowest_bit 64 x hx0 hx
    obtain ⟨hi, htab⟩ := Lib.deBruijn64_at _ hk
    have hcell := hT.2 _ hi
    rw [htab] at hcell
    exact tz_core x _ _ w (by simp; omega) (tz64_key x _ hx hx0 hlow) hi hk hcell
theorem band (a b : Nat) (ha : a < 18446744073709551616) (hb : b < 18446744073709551616) : bits BinOp.and IntKind.u64 (a : Int) (b : Int) = ((a &&& b : Nat) : Int) := bits_and_u64_nat a b ha hb
set_option maxHeartbeats 2000000 in
theorem pop_core (x a1 a2 y1 b1 b2 y2 u z z1 z2 z3 p : Nat) (w : World)
    (h1 : bits BinOp.and IntKind.u64 ((x : Int) / 2) 6148914691236517205 = (a1 : Int)) (h2 : bits BinOp.and IntKind.u64 (x : Int) 6148914691236517205 = (a2 : Int)) (h3 : IntKind.u64.wrap ((a1 : Int) + (a2 : Int)) = (y1 : Int))
    (h4 : bits BinOp.and IntKind.u64 ((y1 : Int) / 4) 3689348814741910323 = (b1 : Int)) (h5 : bits BinOp.and IntKind.u64 (y1 : Int) 3689348814741910323 = (b2 : Int)) (h6 : IntKind.u64.wrap ((b1 : Int) + (b2 : Int)) = (y2 : Int))
    (h7 : IntKind.u64.wrap ((y2 : Int) / 16 + (y2 : Int)) = (u : Int)) (h8 : bits BinOp.and IntKind.u64 (u : Int) 1085102592571150095 = (z : Int))
    (h9 : IntKind.u64.wrap ((z : Int) + (z : Int) / 256) = (z1 : Int)) (h10 : IntKind.u64.wrap ((z1 : Int) + (z1 : Int) / 65536) = (z2 : Int)) (h11 : IntKind.u64.wrap ((z2 : Int) + (z2 : Int) / 4294967296) = (z3 : Int))
    (h12 : IntKind.i64.wrap (z3 : Int) = (z3 : Int)) (h13 : bits BinOp.and IntKind.i64 (z3 : Int) 127 = (p : Int)) :
    Calls Tryd.prog 28 #[.int .u64 x] w fun e w' => e = .returned (.int .i64 p) ∧ w' = w := by
  go_enter Tryd.func28, Tryd.ntmps28
  go_wp2
  go_ret
  exact ⟨rfl, rfl⟩
theorem pop_any (x : Nat) (hx : x < 18446744073709551616) (w : World) :
    Calls Tryd.prog 28 #[.int .u64 x] w fun e w' => e = .returned (.int .i64 (pc 64 x : Nat)) ∧ w' = w := by
  have m0 := M0_32; have m1 := M1_16; have m2 := M2_8
  obtain ⟨g1, g2⟩ := s2_D 16 (s1 32 x)
  obtain ⟨g3, g4⟩ := s3_D 8 (s2 16 (s1 32 x)) g2
  have f1 := (fold8 _ g4).1
  have e0 := pop64 x
  simp only at e0
  have b0 : x / 2 &&& M0 32 ≤ M0 32 := Nat.and_le_right
  have b0' : x &&& M0 32 ≤ M0 32 := Nat.and_le_right
  have d1 : s1 32 x = (x / 2 &&& M0 32) + (x &&& M0 32) := rfl
  generalize s1 32 x = y1 at *
  have b1 : y1 / 4 &&& M1 16 ≤ M1 16 := Nat.and_le_right
  have b1' : y1 &&& M1 16 ≤ M1 16 := Nat.and_le_right
  have d2 : s2 16 y1 = (y1 / 4 &&& M1 16) + (y1 &&& M1 16) := rfl
  generalize s2 16 y1 = y2 at *
  have d3 : s3 8 y2 = (y2 / 16 + y2) &&& M2 8 := rfl
  generalize s3 8 y2 = z at *
  rw [m0] at d1 b0 b0'
  rw [m1] at d2 b1 b1'
  rw [m2] at d3
  obtain ⟨n1, hn1⟩ : ∃ n, n = z + z / 256 := ⟨_, rfl⟩
  rw [← hn1] at e0
  obtain ⟨n2, hn2⟩ : ∃ n, n = n1 + n1 / 65536 := ⟨_, rfl⟩
  rw [← hn2] at e0
  obtain ⟨n3, hn3⟩ : ∃ n, n = n2 + n2 / 4294967296 := ⟨_, rfl⟩
  rw [← hn3] at e0
  have l1 : n1 ≤ 2305843009213693952 := by clear e0 hn2 hn3 d1 d2 d3; omega
  have l2 : n2 ≤ 4611686018427387904 := by clear e0 hn1 hn3 d1 d2 d3 f1; omega
  have l3 : n3 ≤ 9223372036854775000 := by clear e0 hn1 hn2 d1 d2 d3 f1 l1; omega
  have k9 : IntKind.u64.wrap ((z : Int) + (z : Int) / 256) = (n1 : Int) := by rw [IntKind.wrap_u64]; clear e0 hn2 hn3 d1 d2 d3; omega
  have k10 : IntKind.u64.wrap ((n1 : Int) + (n1 : Int) / 65536) = (n2 : Int) := by rw [IntKind.wrap_u64]; clear e0 hn1 hn3 d1 d2 d3 f1; omega
  have k11 : IntKind.u64.wrap ((n2 : Int) + (n2 : Int) / 4294967296) = (n3 : Int) := by rw [IntKind.wrap_u64]; clear e0 hn1 hn2 d1 d2 d3 f1 l1; omega
  refine pop_core x _ _ y1 _ _ y2 (y2 / 16 + y2) z n1 n2 n3 _ w
    (h1 := by rw [show (x : Int) / 2 = ((x / 2 : Nat) : Int) by omega]; exact band _ 6148914691236517205 (by omega) (by decide)) (h2 := band _ 6148914691236517205 hx (by decide)) (h3 := by rw [IntKind.wrap_u64, d1]; omega)
    (h4 := by rw [show (y1 : Int) / 4 = ((y1 / 4 : Nat) : Int) by omega]; exact band _ 3689348814741910323 (by omega) (by decide)) (h5 := band _ 3689348814741910323 (by omega) (by decide)) (h6 := by rw [IntKind.wrap_u64, d2]; omega)
    (h7 := by rw [IntKind.wrap_u64]; omega) (h8 := by rw [d3]; exact band _ 1085102592571150095 (by omega) (by decide))
    (h9 := k9) (h10 := k10) (h11 := k11) (h12 := IntWalk.i64_in _ (by omega)) (h13 := ?_)
  show IntKind.i64.wrap (((BitVec.ofInt 64 (n3 : Int) &&& BitVec.ofInt 64 (127 : Int)).toNat : Nat) : Int) = _
  have e1 : (BitVec.ofInt 64 (n3 : Int) &&& BitVec.ofInt 64 127).toNat = n3 % 128 := by
    rw [BitVec.toNat_and, BitVec.ofInt_natCast, BitVec.toNat_ofNat, show (BitVec.ofInt 64 127).toNat = 127 by decide, low127, Nat.mod_mod_of_dvd _ (by decide)]
  rw [e1, e0]
  have := pc_le 64 x
  exact IntWalk.i64_in _ (by omega)
end Go.Proofs.YtnenpgndghdheaaDoor
