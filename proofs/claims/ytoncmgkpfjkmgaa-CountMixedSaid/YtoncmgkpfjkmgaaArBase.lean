/-
  What the functions of the package arith (widen, plus, narrow, Add, Div, size, Gcd) and the law package's counts answer, function by function, for every int within its bounds.
-/
import Derived.Test.YtoncmgkpfjkmgaaArNum
import Derived.WalkKit
import Derived.ProofKit
import Derived.Deep.QuietTactic
import Derived.BigQuiet
import Derived.WalkSpells
import Derived.WalkLawsBesides
import Derived.Deep.RegionHeld3
import Derived.Laws.Externs
import Derived.Laws.Pointers
import Derived.Shelf.Spec.BitsCarry
import Derived.Lib.Hide
import Derived.Below
namespace Go.Proofs.Ytoncmgkpfjkmgaa.ar
open Go.RowKit
set_option linter.unusedVariables false

theorem bcell {W w1 : World} (hb : Below W.heap.size W w1) : (∀ b o, b < W.heap.size → w1.cell? ⟨b, o, none⟩ = W.cell? ⟨b, o, none⟩) ∧ (∀ b o, b < W.heap.size → w1.frozen? ⟨b, o, none⟩ = W.frozen? ⟨b, o, none⟩) :=
  ⟨fun b o h => hb.cell (p := ⟨b, o, none⟩) h, fun b o h => hb.frozen (p := ⟨b, o, none⟩) h⟩

theorem bl_al {a w : World} (h : Below a.heap.size a w) (o : Obj) : Below a.heap.size a (w.alloc o) := h.alloc h.size o
theorem bl_tr {a w w' : World} (h : Below a.heap.size a w) (k : Below w.heap.size w w') : Below a.heap.size a w' := h.trans (k.mono h.size)
theorem bl_dn {B : Nat} {a w : World} (h : Below B a w) (n : Nat) : Below B a (w.drewN n) := ⟨h.os, h.tape, h.output, h.size, h.block⟩

theorem add64N (x y c : Nat) (hc : c ≤ 1) (w : World) :
    (callFunc 54 #[.int .u64 x, .int .u64 y, .int .u64 c]).run Try.prog w =
      .ok (.value (.tuple #[.int .u64 (((x + y + c) % 18446744073709551616 : Nat) : Int), .int .u64 (((x + y + c) / 18446744073709551616 : Nat) : Int)])) w := by
  rw [run_callFunc_extern Try.func54 (by kernel_rfl) (by kernel_rfl) (by kernel_rfl) (e := add64Entry) (by kernel_rfl), run_add64 x y c (by omega) (by omega) (by omega) (by omega)]
  simp only [Result.andThen]
  congr 5 <;> omega
theorem add64 (x y c : Int) (hx : 0 ≤ x) (hy : 0 ≤ y) (hc0 : 0 ≤ c) (hc : c ≤ 1) (w : World) : (callFunc 54 #[.int .u64 x, .int .u64 y, .int .u64 c]).run Try.prog w =
    .ok (.value (.tuple #[.int .u64 ((x + y + c) % 18446744073709551616), .int .u64 ((x + y + c) / 18446744073709551616)])) w := by
  obtain ⟨x, rfl⟩ := Int.eq_ofNat_of_zero_le hx
  obtain ⟨y, rfl⟩ := Int.eq_ofNat_of_zero_le hy
  obtain ⟨c, rfl⟩ := Int.eq_ofNat_of_zero_le hc0
  refine (add64N x y c (by omega) w).trans ?_
  congr 5 <;> omega
/-- The borrow, under a name. -/
def bor (x y : Int) : Int := if x < y then 1 else 0
theorem bor_b (x y : Int) : 0 ≤ bor x y ∧ bor x y ≤ 1 := by unfold bor; split <;> decide
theorem add64_0 (x y : Int) (hx : 0 ≤ x) (hy : 0 ≤ y) (w : World) : (callFunc 54 #[.int .u64 x, .int .u64 y, .int .u64 0]).run Try.prog w =
    .ok (.value (.tuple #[.int .u64 ((x + y) % 18446744073709551616), .int .u64 ((x + y) / 18446744073709551616)])) w := by
  simpa using add64 x y 0 hx hy (Int.le_refl 0) (by decide) w
theorem ret_int {k : IntKind} {a b : Int} (h : a = b) : Ending.returned (.int k a) = .returned (.int k b) := by rw [h]
/-- widen -/
theorem widen_any (a : Int) (h1 : -9223372036854775808 ≤ a) (h2 : a ≤ 9223372036854775807) (w : World) :
    Calls Try.prog 41 #[.int .i64 a] w fun e w' => e = .returned (.agg #[.int .u64 (hi64 a), .int .u64 (lo64 a)]) ∧ ∃ c, w' = w.alloc (.cells c 79) := by
  go_enter Try.func41, Try.ntmps41
  go_wp2_with fail
  simp [bodyPost, results, Try.results41, go_sem]
  exact ⟨⟨hi_shift a h1 h2, lo_conv a⟩, _, rfl⟩

theorem plus_any (x y : Int) (w : World) :
    Calls Try.prog 42 #[.agg #[.int .u64 (hi64 x), .int .u64 (lo64 x)], .agg #[.int .u64 (hi64 y), .int .u64 (lo64 y)]] w fun e w' =>
      e = .returned (.agg #[.int .u64 (hi64 (x + y)), .int .u64 (lo64 (x + y))]) ∧ ∃ c1 c2 c3, w' = ((w.alloc (.cells c1 79)).alloc (.cells c2 79)).alloc (.cells c3 79) := by
  rw [← hi_add x y, ← lo_add x y]
  obtain ⟨a1, a2⟩ := hi64_b x; obtain ⟨b1, b2⟩ := lo64_b x; obtain ⟨c1, c2⟩ := hi64_b y; obtain ⟨d1, d2⟩ := lo64_b y
  generalize hi64 x = ah at *; generalize lo64 x = al at *; generalize hi64 y = bh at *; generalize lo64 y = bl at *
  have k0 : 0 ≤ (al + bl) / 18446744073709551616 := by omega
  have k1 : (al + bl) / 18446744073709551616 ≤ 1 := by omega
  go_enter Try.func42, Try.ntmps42
  go_wp2_with (first | simp only [add64_0 al bl b1 d1] | simp only [add64 ah bh _ a1 c1 k0 k1])
  simp [bodyPost, results, Try.results42, go_sem]
  exact ⟨_, _, _, rfl⟩

theorem narrow_yes (x : Int) (h : -9223372036854775808 ≤ x ∧ x ≤ 9223372036854775807) (w : World) :
    Calls Try.prog 43 #[.agg #[.int .u64 (hi64 x), .int .u64 (lo64 x)]] w fun e w' => e = .returned (.tuple #[.int .i64 x, .bool true]) ∧ Below w.heap.size w w' := by
  obtain ⟨h1, h2⟩ := h
  have e1 := wrap_lo x ⟨h1, h2⟩
  go_enter Try.func43, Try.ntmps43
  go_wp2
  go_region_held3 (fun w' => w'.cell? ⟨w.heap.size, 0, none⟩ = some (.int .u64 (hi64 x)) ∧ w'.cell? ⟨w.heap.size, 1, none⟩ = some (.int .u64 (lo64 x))) (simp [go_sem, World.cell?_alloc_past])
    (first
      | (go_at_call 41; refine (widen_any x h1 h2 _).mono ?_; rintro e w' ⟨rfl, o1, rfl⟩))
  go_wp2
  go_ret2
  exact ⟨rfl, (bl_al (bl_al (Below.refl _ _) _) _).drew⟩

theorem narrow_no (x : Int) (b1 : -170141183460469231731687303715884105728 ≤ x) (b2 : x < 170141183460469231731687303715884105728) (h : ¬ (-9223372036854775808 ≤ x ∧ x ≤ 9223372036854775807)) (w : World) :
    Calls Try.prog 43 #[.agg #[.int .u64 (hi64 x), .int .u64 (lo64 x)]] w fun e w' => e = .returned (.tuple #[.int .i64 0, .bool false]) ∧ Below w.heap.size w w' := by
  obtain ⟨n1, n2⟩ := wrap64_bd (lo64 x)
  have e0 := hi_wrap_no x b1 b2 h
  have e1 : (hi64 (wrap64 (lo64 x)) == hi64 x) = false := by simpa using e0
  have e2 := lo_wrap x
  clear h b1 b2 e0
  go_enter Try.func43, Try.ntmps43
  go_wp2
  go_region_held3 (fun w' => w'.cell? ⟨w.heap.size, 0, none⟩ = some (.int .u64 (hi64 x)) ∧ w'.cell? ⟨w.heap.size, 1, none⟩ = some (.int .u64 (lo64 x))) (simp [go_sem, World.cell?_alloc_past])
    (first
      | (go_at_call 41; refine (widen_any _ n1 n2 _).mono ?_; rintro e w' ⟨rfl, o1, rfl⟩))
  go_wp2
  go_ret2
  exact ⟨rfl, (bl_al (bl_al (Below.refl _ _) _) _).drew⟩

theorem add_yes (a b : Int) (a1 : -9223372036854775808 ≤ a) (a2 : a ≤ 9223372036854775807) (b1 : -9223372036854775808 ≤ b) (b2 : b ≤ 9223372036854775807) (h : -9223372036854775808 ≤ a + b ∧ a + b ≤ 9223372036854775807) (w : World) :
    Calls Try.prog 35 #[.int .i64 a, .int .i64 b] w fun e w' => e = .returned (.tuple #[.int .i64 (a + b), .bool true]) ∧ Below w.heap.size w w' := by
  go_enter Try.func35, Try.ntmps35
  go_wp2_with fail
  refine (widen_any a a1 a2 _).mono ?_; rintro e w' ⟨rfl, o1, rfl⟩
  go_wp2_with fail
  refine (widen_any b b1 b2 _).mono ?_; rintro e w' ⟨rfl, o2, rfl⟩
  go_wp2_with fail
  refine (plus_any a b _).mono ?_; rintro e w' ⟨rfl, c1, c2, c3, rfl⟩
  go_wp2_with fail
  refine (narrow_yes (a + b) h _).mono ?_; rintro e w' ⟨rfl, hb⟩
  go_wp2_with fail
  go_ret2
  exact ⟨rfl, bl_tr (by repeat (first | exact Below.refl _ _ | refine bl_al ?_ _)) hb⟩

theorem add_no (a b : Int) (a1 : -9223372036854775808 ≤ a) (a2 : a ≤ 9223372036854775807) (b1 : -9223372036854775808 ≤ b) (b2 : b ≤ 9223372036854775807) (h : ¬ (-9223372036854775808 ≤ a + b ∧ a + b ≤ 9223372036854775807)) (w : World) :
    Calls Try.prog 35 #[.int .i64 a, .int .i64 b] w fun e w' => e = .returned (.tuple #[.int .i64 0, .bool false]) ∧ Below w.heap.size w w' := by
  have H := Lib.hid h
  have B1 : -170141183460469231731687303715884105728 ≤ a + b := by omega
  have B2 : a + b < 170141183460469231731687303715884105728 := by omega
  have HB1 := Lib.hid B1
  have HB2 := Lib.hid B2
  clear h B1 B2
  go_enter Try.func35, Try.ntmps35
  go_wp2_with fail
  refine (widen_any a a1 a2 _).mono ?_; rintro e w' ⟨rfl, o1, rfl⟩
  go_wp2_with fail
  refine (widen_any b b1 b2 _).mono ?_; rintro e w' ⟨rfl, o2, rfl⟩
  go_wp2_with fail
  refine (plus_any a b _).mono ?_; rintro e w' ⟨rfl, c1, c2, c3, rfl⟩
  go_wp2_with fail
  refine (narrow_no (a + b) HB1.out HB2.out H.out _).mono ?_; rintro e w' ⟨rfl, hb⟩
  go_wp2_with fail
  go_ret2
  exact ⟨rfl, bl_tr (by repeat (first | exact Below.refl _ _ | refine bl_al ?_ _)) hb⟩

theorem gcd_step {x y g : Nat} (h : Hid (Nat.gcd x y = g)) : Hid (Nat.gcd y (x % y) = g) := by
  have h1 := h.out
  rw [Nat.gcd_comm, ← Nat.gcd_rec, Nat.gcd_comm] at *
  exact h1
theorem gcdv_12 : gcdv (-12) 18 = 6 := by decide
end Go.Proofs.Ytoncmgkpfjkmgaa.ar
