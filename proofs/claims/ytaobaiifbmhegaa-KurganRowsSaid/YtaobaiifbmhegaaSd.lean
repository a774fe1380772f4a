/-
  What stands answers; what digit.Place answers.
-/
import Derived.Test.YtaobaiifbmhegaaInOne
import Derived.WalkKit
import Derived.ProofKit
import Derived.Deep.QuietTactic
import Derived.BigQuiet
import Derived.WalkSpells
import Derived.WalkLawsBesides
import Derived.Deep.RegionHeld3
import Derived.Laws.Externs
import Derived.Laws.Pointers
import Derived.Shelf.Spec.BitsCarry
import Derived.Lib.Hide
import Derived.Below
namespace Go.Proofs.Ytaobaiifbmhegaa.sd
open Go.RowKit
set_option linter.unusedVariables false

/-! plain numbers -/
def hi64 (x : Int) : Int := x / 18446744073709551616 % 18446744073709551616
def lo64 (x : Int) : Int := x % 18446744073709551616
def fits (x : Int) : Bool := decide (-9223372036854775808 ≤ x ∧ x ≤ 9223372036854775807)
def fitv (x : Int) : Int := if fits x then x else 0
theorem hi64_b (x : Int) : 0 ≤ hi64 x ∧ hi64 x < 18446744073709551616 := by unfold hi64; omega
theorem lo64_b (x : Int) : 0 ≤ lo64 x ∧ lo64 x < 18446744073709551616 := by unfold lo64; omega
theorem fits_yes {x : Int} (h : -9223372036854775808 ≤ x ∧ x ≤ 9223372036854775807) : fits x = true := by unfold fits; exact decide_eq_true h
theorem fits_no {x : Int} (h : ¬ (-9223372036854775808 ≤ x ∧ x ≤ 9223372036854775807)) : fits x = false := by unfold fits; exact decide_eq_false h
theorem fitv_yes {x : Int} (h : -9223372036854775808 ≤ x ∧ x ≤ 9223372036854775807) : fitv x = x := by unfold fitv; rw [fits_yes h]; rfl
theorem fitv_no {x : Int} (h : ¬ (-9223372036854775808 ≤ x ∧ x ≤ 9223372036854775807)) : fitv x = 0 := by unfold fitv; rw [fits_no h]; rfl
theorem hi_add (x y : Int) : (hi64 x + hi64 y + (lo64 x + lo64 y) / 18446744073709551616) % 18446744073709551616 = hi64 (x + y) := by unfold hi64 lo64; omega
theorem lo_add (x y : Int) : (lo64 x + lo64 y) % 18446744073709551616 = lo64 (x + y) := by unfold lo64; omega
theorem wrap_lo (x : Int) (h : -9223372036854775808 ≤ x ∧ x ≤ 9223372036854775807) : wrap64 (lo64 x) = x := by unfold wrap64 lo64; omega
theorem lo_wrap (x : Int) : lo64 (wrap64 (lo64 x)) = lo64 x := by unfold wrap64 lo64; omega
theorem hi_wrap_no (x : Int) (h1 : -170141183460469231731687303715884105728 ≤ x) (h2 : x < 170141183460469231731687303715884105728) (h : ¬ (-9223372036854775808 ≤ x ∧ x ≤ 9223372036854775807)) : ¬ hi64 (wrap64 (lo64 x)) = hi64 x := by
  unfold wrap64 hi64 lo64; omega
theorem wrap64_bd (x : Int) : -9223372036854775808 ≤ wrap64 x ∧ wrap64 x ≤ 9223372036854775807 := by unfold wrap64; omega
theorem hi_shift (a : Int) (h1 : -9223372036854775808 ≤ a) (h2 : a ≤ 9223372036854775807) : IntKind.u64.wrap (a / 9223372036854775808) = hi64 a := by rw [IntKind.wrap_u64]; unfold hi64; omega
theorem lo_conv (a : Int) : IntKind.u64.wrap a = lo64 a := by rw [IntKind.wrap_u64]; rfl
theorem tdiv_up (a b : Int) (hb : 0 < b) (h : 0 ≤ a.tmod b) : a.tdiv b = a / b ∧ a.tmod b = a % b := by
  have e := Int.mul_tdiv_add_tmod a b
  have l : a.tmod b < b := Int.tmod_lt_of_pos a hb
  have u := (Int.ediv_emod_unique (a := a) (b := b) (r := a.tmod b) (q := a.tdiv b) hb).2 ⟨by omega, h, l⟩
  exact ⟨u.1.symm, u.2.symm⟩
theorem tdiv_down (a b : Int) (a1 : -9223372036854775808 ≤ a) (a2 : a ≤ 9223372036854775807) (hb : 0 < b) (h : a.tmod b < 0) : a.tdiv b - 1 = a / b ∧ a.tmod b + b = a % b ∧ -9223372036854775807 ≤ a.tdiv b ∧ -b < a.tmod b ∧ a.tdiv b ≤ 0 := by
  have e := Int.mul_tdiv_add_tmod a b
  have ha : a < 0 := by
    rcases Int.lt_or_le a 0 with h' | h'
    · exact h'
    · have := Int.tmod_nonneg (a := a) b h'; omega
  have l : -b < a.tmod b := by
    have e3 : a.tmod b = -((-a).tmod b) := by rw [Int.neg_tmod]; omega
    have := Int.tmod_lt_of_pos (-a) hb
    omega
  have u := (Int.ediv_emod_unique (a := a) (b := b) (r := a.tmod b + b) (q := a.tdiv b - 1) hb).2 ⟨by rw [Int.mul_sub]; omega, by omega, by omega⟩
  have hz : a / b < 0 := Int.ediv_neg_of_neg_of_pos ha hb
  refine ⟨u.1.symm, u.2.symm, ?_, l, by omega⟩
  have hq : a / b ≥ -9223372036854775808 := by
    have := Int.ediv_le_ediv (c := b) hb a1
    have h2 : (-9223372036854775808 : Int) ≤ -9223372036854775808 / b := by
      apply Int.le_ediv_of_mul_le hb
      omega
    omega
  omega
def gcdv (a b : Int) : Int := if 9223372036854775807 < Nat.gcd a.natAbs b.natAbs then 0 else (Nat.gcd a.natAbs b.natAbs : Int)
theorem size_neg (a : Int) (h : a < 0) (a1 : -9223372036854775808 ≤ a) : IntKind.u64.wrap (-IntKind.u64.wrap a) = a.natAbs := by rw [IntKind.wrap_u64, IntKind.wrap_u64]; omega
theorem size_pos (a : Int) (h : 0 ≤ a) (a2 : a ≤ 9223372036854775807) : a = a.natAbs := by omega
theorem gcdv_comm (a b : Int) : gcdv b a = gcdv a b := by unfold gcdv; rw [Nat.gcd_comm]
theorem gcdv_neg (a b : Int) : gcdv (-a) b = gcdv a b := by unfold gcdv; rw [Int.natAbs_neg]
theorem gcdv_facts (a b : Int) (a1 : -9223372036854775808 ≤ a) (a2 : a ≤ 9223372036854775807) (b1 : -9223372036854775808 ≤ b) (b2 : b ≤ 9223372036854775807)
    (h : ¬ ((a = -9223372036854775808 ∨ a = 0) ∧ (b = -9223372036854775808 ∨ b = 0))) :
    ∃ g : Int, gcdv a b = g ∧ 0 < g ∧ g ≤ 9223372036854775807 ∧ a.tmod g = 0 ∧ b.tmod g = 0 ∧ gcdv (a.tdiv g) (b.tdiv g) = 1 ∧ -9223372036854775808 ≤ a.tdiv g ∧ a.tdiv g ≤ 9223372036854775807 ∧ -9223372036854775808 ≤ b.tdiv g ∧ b.tdiv g ≤ 9223372036854775807 := by
  obtain ⟨G, hG⟩ : ∃ G, G = Nat.gcd a.natAbs b.natAbs := ⟨_, rfl⟩
  have d1 : G ∣ a.natAbs := by rw [hG]; exact Nat.gcd_dvd_left _ _
  have d2 : G ∣ b.natAbs := by rw [hG]; exact Nat.gcd_dvd_right _ _
  have hp : 0 < G := by
    rw [hG]; apply Nat.pos_of_ne_zero; intro h0
    have := Nat.gcd_eq_zero_iff.1 h0
    apply h; omega
  have hle : G ≤ 9223372036854775807 := by
    by_cases ha : a = 0
    · have : G ≤ b.natAbs := Nat.le_of_dvd (by omega) d2
      omega
    · have l1 : G ≤ a.natAbs := Nat.le_of_dvd (by omega) d1
      by_cases hb : b = 0
      · omega
      · have l2 : G ≤ b.natAbs := Nat.le_of_dvd (by omega) d2
        omega
  have hv : gcdv a b = G := by unfold gcdv; rw [← hG, if_neg (by omega)]
  have i1 : (G : Int) ∣ a := Int.ofNat_dvd_left.2 d1
  have i2 : (G : Int) ∣ b := Int.ofNat_dvd_left.2 d2
  have n1 : (a.tdiv G).natAbs = a.natAbs / G := by rw [Int.natAbs_tdiv]; rfl
  have n2 : (b.tdiv G).natAbs = b.natAbs / G := by rw [Int.natAbs_tdiv]; rfl
  have l1 : a.natAbs / G ≤ a.natAbs := Nat.div_le_self _ _
  have l2 : b.natAbs / G ≤ b.natAbs := Nat.div_le_self _ _
  have one : Nat.gcd (a.natAbs / G) (b.natAbs / G) = 1 := by
    rw [hG]; exact Nat.coprime_div_gcd_div_gcd (by rw [← hG]; exact hp)
  have top1 : a.tdiv G ≤ 9223372036854775807 := by
    rcases Int.lt_or_le a 0 with h' | h'
    · have t := Int.tdiv_nonneg (a := -a) (b := G) (by omega) (by omega)
      rw [Int.neg_tdiv] at t
      omega
    · omega
  have top2 : b.tdiv G ≤ 9223372036854775807 := by
    rcases Int.lt_or_le b 0 with h' | h'
    · have t := Int.tdiv_nonneg (a := -b) (b := G) (by omega) (by omega)
      rw [Int.neg_tdiv] at t
      omega
    · omega
  refine ⟨G, hv, by omega, by omega, Int.tmod_eq_zero_of_dvd i1, Int.tmod_eq_zero_of_dvd i2, ?_, by omega, top1, by omega, top2⟩
  unfold gcdv; rw [n1, n2, one]; decide

theorem bl_al {a w : World} (h : Below a.heap.size a w) (o : Obj) : Below a.heap.size a (w.alloc o) := h.alloc h.size o
theorem bl_tr {a w w' : World} (h : Below a.heap.size a w) (k : Below w.heap.size w w') : Below a.heap.size a w' := h.trans (k.mono h.size)
theorem add64N (x y c : Nat) (hc : c ≤ 1) (w : World) :
    (callFunc 76 #[.int .u64 x, .int .u64 y, .int .u64 c]).run Try.prog w =
      .ok (.value (.tuple #[.int .u64 (((x + y + c) % 18446744073709551616 : Nat) : Int), .int .u64 (((x + y + c) / 18446744073709551616 : Nat) : Int)])) w := by
  rw [run_callFunc_extern Try.func76 (by kernel_rfl) (by kernel_rfl) (by kernel_rfl) (e := add64Entry) (by kernel_rfl), run_add64 x y c (by omega) (by omega) (by omega) (by omega)]
  simp only [Result.andThen]
  congr 5 <;> omega
theorem add64 (x y c : Int) (hx : 0 ≤ x) (hy : 0 ≤ y) (hc0 : 0 ≤ c) (hc : c ≤ 1) (w : World) : (callFunc 76 #[.int .u64 x, .int .u64 y, .int .u64 c]).run Try.prog w =
    .ok (.value (.tuple #[.int .u64 ((x + y + c) % 18446744073709551616), .int .u64 ((x + y + c) / 18446744073709551616)])) w := by
  obtain ⟨x, rfl⟩ := Int.eq_ofNat_of_zero_le hx
  obtain ⟨y, rfl⟩ := Int.eq_ofNat_of_zero_le hy
  obtain ⟨c, rfl⟩ := Int.eq_ofNat_of_zero_le hc0
  refine (add64N x y c (by omega) w).trans ?_
  congr 5 <;> omega
theorem add64_0 (x y : Int) (hx : 0 ≤ x) (hy : 0 ≤ y) (w : World) : (callFunc 76 #[.int .u64 x, .int .u64 y, .int .u64 0]).run Try.prog w =
    .ok (.value (.tuple #[.int .u64 ((x + y) % 18446744073709551616), .int .u64 ((x + y) / 18446744073709551616)])) w := by
  simpa using add64 x y 0 hx hy (Int.le_refl 0) (by decide) w
theorem widen_any (a : Int) (h1 : -9223372036854775808 ≤ a) (h2 : a ≤ 9223372036854775807) (w : World) :
    Calls Try.prog 61 #[.int .i64 a] w fun e w' => e = .returned (.agg #[.int .u64 (hi64 a), .int .u64 (lo64 a)]) ∧ ∃ c, w' = w.alloc (.cells c 66) := by
  go_enter Try.func61, Try.ntmps61
  go_wp2_with fail
  simp [bodyPost, results, Try.results61, go_sem]
  exact ⟨⟨hi_shift a h1 h2, lo_conv a⟩, _, rfl⟩
theorem plus_any (x y : Int) (w : World) :
    Calls Try.prog 62 #[.agg #[.int .u64 (hi64 x), .int .u64 (lo64 x)], .agg #[.int .u64 (hi64 y), .int .u64 (lo64 y)]] w fun e w' =>
      e = .returned (.agg #[.int .u64 (hi64 (x + y)), .int .u64 (lo64 (x + y))]) ∧ ∃ c1 c2 c3, w' = ((w.alloc (.cells c1 66)).alloc (.cells c2 66)).alloc (.cells c3 66) := by
  rw [← hi_add x y, ← lo_add x y]
  obtain ⟨a1, a2⟩ := hi64_b x; obtain ⟨b1, b2⟩ := lo64_b x; obtain ⟨c1, c2⟩ := hi64_b y; obtain ⟨d1, d2⟩ := lo64_b y
  generalize hi64 x = ah at *; generalize lo64 x = al at *; generalize hi64 y = bh at *; generalize lo64 y = bl at *
  have k0 : 0 ≤ (al + bl) / 18446744073709551616 := by omega
  have k1 : (al + bl) / 18446744073709551616 ≤ 1 := by omega
  go_enter Try.func62, Try.ntmps62
  go_wp2_with (first | simp only [add64_0 al bl b1 d1] | simp only [add64 ah bh _ a1 c1 k0 k1])
  simp [bodyPost, results, Try.results62, go_sem]
  exact ⟨_, _, _, rfl⟩
theorem narrow_yes (x : Int) (h : -9223372036854775808 ≤ x ∧ x ≤ 9223372036854775807) (w : World) :
    Calls Try.prog 63 #[.agg #[.int .u64 (hi64 x), .int .u64 (lo64 x)]] w fun e w' => e = .returned (.tuple #[.int .i64 x, .bool true]) ∧ Below w.heap.size w w' := by
  obtain ⟨h1, h2⟩ := h
  have e1 := wrap_lo x ⟨h1, h2⟩
  go_enter Try.func63, Try.ntmps63
  go_wp2
  go_region_held3 (fun w' => w'.cell? ⟨w.heap.size, 0, none⟩ = some (.int .u64 (hi64 x)) ∧ w'.cell? ⟨w.heap.size, 1, none⟩ = some (.int .u64 (lo64 x))) (simp [go_sem, World.cell?_alloc_past])
    (first
      | (go_at_call 61; refine (widen_any x h1 h2 _).mono ?_; rintro e w' ⟨rfl, o1, rfl⟩))
  go_wp2
  go_ret2
  exact ⟨rfl, (bl_al (bl_al (Below.refl _ _) _) _).drew⟩
theorem add_yes (a b : Int) (a1 : -9223372036854775808 ≤ a) (a2 : a ≤ 9223372036854775807) (b1 : -9223372036854775808 ≤ b) (b2 : b ≤ 9223372036854775807) (h : -9223372036854775808 ≤ a + b ∧ a + b ≤ 9223372036854775807) (w : World) :
    Calls Try.prog 41 #[.int .i64 a, .int .i64 b] w fun e w' => e = .returned (.tuple #[.int .i64 (a + b), .bool true]) ∧ Below w.heap.size w w' := by
  go_enter Try.func41, Try.ntmps41
  go_wp2_with fail
  refine (widen_any a a1 a2 _).mono ?_; rintro e w' ⟨rfl, o1, rfl⟩
  go_wp2_with fail
  refine (widen_any b b1 b2 _).mono ?_; rintro e w' ⟨rfl, o2, rfl⟩
  go_wp2_with fail
  refine (plus_any a b _).mono ?_; rintro e w' ⟨rfl, c1, c2, c3, rfl⟩
  go_wp2_with fail
  refine (narrow_yes (a + b) h _).mono ?_; rintro e w' ⟨rfl, hb⟩
  go_wp2_with fail
  go_ret2
  exact ⟨rfl, bl_tr (by repeat (first | exact Below.refl _ _ | refine bl_al ?_ _)) hb⟩

theorem stands_any (w : World) : Calls Try.prog 21 #[] w fun e w' => e = .returned (.bool true) ∧ Below w.heap.size w w' := by
  have H := Lib.hid (fun W => add_yes 2 3 (by decide) (by decide) (by decide) (by decide) (by decide) W)
  go_enter Try.func21, Try.ntmps21
  go_wp2_with fail
  refine (H.out _).mono ?_
  rintro e w1 ⟨rfl, hB⟩
  have B := Lib.hid hB
  clear H hB
  go_wp2
  go_ret
  exact ⟨rfl, B.out⟩
end Go.Proofs.Ytaobaiifbmhegaa.sd
