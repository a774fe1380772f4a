import Derived.Test.YteoionlnnjcggaaProg
import Derived.WalkKit
import Derived.ProofKit
import Derived.Deep.QuietTactic
import Derived.BigQuiet
import Derived.WalkSpells
import Derived.WalkLawsBesides
import Derived.Deep.RegionHeld3
import Derived.Laws.Externs
import Derived.Laws.Pointers
import Derived.Lib.Hide
import Derived.Below
import Derived.Deep.OwnRows
import Derived.Laws.Rows
import Derived.IntWalk
import Derived.Laws.Bits64b

/-
  Plain arithmetic for the layer arith: the two halves of a number of 128 bits, divisions, greatest divisors. No program in it. No condition.
-/
namespace Go.Proofs.Yteoionlnnjcggaa.ar
open Go.RowKit
set_option linter.unusedVariables false

/-! plain numbers -/
def hi64 (x : Int) : Int := x / 18446744073709551616 % 18446744073709551616
def lo64 (x : Int) : Int := x % 18446744073709551616
def fits (x : Int) : Bool := decide (-9223372036854775808 ≤ x ∧ x ≤ 9223372036854775807)
def fitv (x : Int) : Int := if fits x then x else 0
theorem hi64_b (x : Int) : 0 ≤ hi64 x ∧ hi64 x < 18446744073709551616 := by unfold hi64; omega
theorem lo64_b (x : Int) : 0 ≤ lo64 x ∧ lo64 x < 18446744073709551616 := by unfold lo64; omega
theorem fits_yes {x : Int} (h : -9223372036854775808 ≤ x ∧ x ≤ 9223372036854775807) : fits x = true := by unfold fits; exact decide_eq_true h
theorem fits_no {x : Int} (h : ¬ (-9223372036854775808 ≤ x ∧ x ≤ 9223372036854775807)) : fits x = false := by unfold fits; exact decide_eq_false h
theorem fitv_yes {x : Int} (h : -9223372036854775808 ≤ x ∧ x ≤ 9223372036854775807) : fitv x = x := by unfold fitv; rw [fits_yes h]; rfl
theorem fitv_no {x : Int} (h : ¬ (-9223372036854775808 ≤ x ∧ x ≤ 9223372036854775807)) : fitv x = 0 := by unfold fitv; rw [fits_no h]; rfl
theorem hi_add (x y : Int) : (hi64 x + hi64 y + (lo64 x + lo64 y) / 18446744073709551616) % 18446744073709551616 = hi64 (x + y) := by unfold hi64 lo64; omega
theorem lo_add (x y : Int) : (lo64 x + lo64 y) % 18446744073709551616 = lo64 (x + y) := by unfold lo64; omega
theorem wrap_lo (x : Int) (h : -9223372036854775808 ≤ x ∧ x ≤ 9223372036854775807) : wrap64 (lo64 x) = x := by unfold wrap64 lo64; omega
theorem lo_wrap (x : Int) : lo64 (wrap64 (lo64 x)) = lo64 x := by unfold wrap64 lo64; omega
theorem hi_wrap_no (x : Int) (h1 : -170141183460469231731687303715884105728 ≤ x) (h2 : x < 170141183460469231731687303715884105728) (h : ¬ (-9223372036854775808 ≤ x ∧ x ≤ 9223372036854775807)) : ¬ hi64 (wrap64 (lo64 x)) = hi64 x := by
  unfold wrap64 hi64 lo64; omega
theorem wrap64_bd (x : Int) : -9223372036854775808 ≤ wrap64 x ∧ wrap64 x ≤ 9223372036854775807 := by unfold wrap64; omega
theorem hi_shift (a : Int) (h1 : -9223372036854775808 ≤ a) (h2 : a ≤ 9223372036854775807) : IntKind.u64.wrap (a / 9223372036854775808) = hi64 a := by rw [IntKind.wrap_u64]; unfold hi64; omega
theorem lo_conv (a : Int) : IntKind.u64.wrap a = lo64 a := by rw [IntKind.wrap_u64]; rfl
theorem tdiv_up (a b : Int) (hb : 0 < b) (h : 0 ≤ a.tmod b) : a.tdiv b = a / b ∧ a.tmod b = a % b := by
  have e := Int.mul_tdiv_add_tmod a b
  have l : a.tmod b < b := Int.tmod_lt_of_pos a hb
  have u := (Int.ediv_emod_unique (a := a) (b := b) (r := a.tmod b) (q := a.tdiv b) hb).2 ⟨by omega, h, l⟩
  exact ⟨u.1.symm, u.2.symm⟩
theorem tdiv_down (a b : Int) (a1 : -9223372036854775808 ≤ a) (a2 : a ≤ 9223372036854775807) (hb : 0 < b) (h : a.tmod b < 0) : a.tdiv b - 1 = a / b ∧ a.tmod b + b = a % b ∧ -9223372036854775807 ≤ a.tdiv b ∧ -b < a.tmod b ∧ a.tdiv b ≤ 0 := by
  have e := Int.mul_tdiv_add_tmod a b
  have ha : a < 0 := by
    rcases Int.lt_or_le a 0 with h' | h'
    · exact h'
    · have := Int.tmod_nonneg (a := a) b h'; omega
  have l : -b < a.tmod b := by
    have e3 : a.tmod b = -((-a).tmod b) := by rw [Int.neg_tmod]; omega
    have := Int.tmod_lt_of_pos (-a) hb
    omega
  have u := (Int.ediv_emod_unique (a := a) (b := b) (r := a.tmod b + b) (q := a.tdiv b - 1) hb).2 ⟨by rw [Int.mul_sub]; omega, by omega, by omega⟩
  have hz : a / b < 0 := Int.ediv_neg_of_neg_of_pos ha hb
  refine ⟨u.1.symm, u.2.symm, ?_, l, by omega⟩
  have hq : a / b ≥ -9223372036854775808 := by
    have := Int.ediv_le_ediv (c := b) hb a1
    have h2 : (-9223372036854775808 : Int) ≤ -9223372036854775808 / b := by
      apply Int.le_ediv_of_mul_le hb
      omega
    omega
  omega
def gcdv (a b : Int) : Int := if 9223372036854775807 < Nat.gcd a.natAbs b.natAbs then 0 else (Nat.gcd a.natAbs b.natAbs : Int)
theorem size_neg (a : Int) (h : a < 0) (a1 : -9223372036854775808 ≤ a) : IntKind.u64.wrap (-IntKind.u64.wrap a) = a.natAbs := by rw [IntKind.wrap_u64, IntKind.wrap_u64]; omega
theorem size_pos (a : Int) (h : 0 ≤ a) (a2 : a ≤ 9223372036854775807) : a = a.natAbs := by omega
theorem gcdv_comm (a b : Int) : gcdv b a = gcdv a b := by unfold gcdv; rw [Nat.gcd_comm]
theorem gcdv_neg (a b : Int) : gcdv (-a) b = gcdv a b := by unfold gcdv; rw [Int.natAbs_neg]
theorem gcdv_facts (a b : Int) (a1 : -9223372036854775808 ≤ a) (a2 : a ≤ 9223372036854775807) (b1 : -9223372036854775808 ≤ b) (b2 : b ≤ 9223372036854775807)
    (h : ¬ ((a = -9223372036854775808 ∨ a = 0) ∧ (b = -9223372036854775808 ∨ b = 0))) :
    ∃ g : Int, gcdv a b = g ∧ 0 < g ∧ g ≤ 9223372036854775807 ∧ a.tmod g = 0 ∧ b.tmod g = 0 ∧ gcdv (a.tdiv g) (b.tdiv g) = 1 ∧ -9223372036854775808 ≤ a.tdiv g ∧ a.tdiv g ≤ 9223372036854775807 ∧ -9223372036854775808 ≤ b.tdiv g ∧ b.tdiv g ≤ 9223372036854775807 := by
  obtain ⟨G, hG⟩ : ∃ G, G = Nat.gcd a.natAbs b.natAbs := ⟨_, rfl⟩
  have d1 : G ∣ a.natAbs := by rw [hG]; exact Nat.gcd_dvd_left _ _
  have d2 : G ∣ b.natAbs := by rw [hG]; exact Nat.gcd_dvd_right _ _
  have hp : 0 < G := by
    rw [hG]; apply Nat.pos_of_ne_zero; intro h0
    have := Nat.gcd_eq_zero_iff.1 h0
    apply h; omega
  have hle : G ≤ 9223372036854775807 := by
    by_cases ha : a = 0
    · have : G ≤ b.natAbs := Nat.le_of_dvd (by omega) d2
      omega
    · have l1 : G ≤ a.natAbs := Nat.le_of_dvd (by omega) d1
      by_cases hb : b = 0
      · omega
      · have l2 : G ≤ b.natAbs := Nat.le_of_dvd (by omega) d2
        omega
  have hv : gcdv a b = G := by unfold gcdv; rw [← hG, if_neg (by omega)]
  have i1 : (G : Int) ∣ a := Int.ofNat_dvd_left.2 d1
  have i2 : (G : Int) ∣ b := Int.ofNat_dvd_left.2 d2
  have n1 : (a.tdiv G).natAbs = a.natAbs / G := by rw [Int.natAbs_tdiv]; rfl
  have n2 : (b.tdiv G).natAbs = b.natAbs / G := by rw [Int.natAbs_tdiv]; rfl
  have l1 : a.natAbs / G ≤ a.natAbs := Nat.div_le_self _ _
  have l2 : b.natAbs / G ≤ b.natAbs := Nat.div_le_self _ _
  have one : Nat.gcd (a.natAbs / G) (b.natAbs / G) = 1 := by
    rw [hG]; exact Nat.coprime_div_gcd_div_gcd (by rw [← hG]; exact hp)
  have top1 : a.tdiv G ≤ 9223372036854775807 := by
    rcases Int.lt_or_le a 0 with h' | h'
    · have t := Int.tdiv_nonneg (a := -a) (b := G) (by omega) (by omega)
      rw [Int.neg_tdiv] at t
      omega
    · omega
  have top2 : b.tdiv G ≤ 9223372036854775807 := by
    rcases Int.lt_or_le b 0 with h' | h'
    · have t := Int.tdiv_nonneg (a := -b) (b := G) (by omega) (by omega)
      rw [Int.neg_tdiv] at t
      omega
    · omega
  refine ⟨G, hv, by omega, by omega, Int.tmod_eq_zero_of_dvd i1, Int.tmod_eq_zero_of_dvd i2, ?_, by omega, top1, by omega, top2⟩
  unfold gcdv; rw [n1, n2, one]; decide
end Go.Proofs.Yteoionlnnjcggaa.ar

/-
  What the functions of the package arith (widen, plus, narrow, Add, Div, size, Gcd) and the law package's counts answer, function by function, for every int within its bounds.
-/
namespace Go.Proofs.Yteoionlnnjcggaa.ar
open Go.RowKit
set_option linter.unusedVariables false

theorem bcell {W w1 : World} (hb : Below W.heap.size W w1) : (∀ b o, b < W.heap.size → w1.cell? ⟨b, o, none⟩ = W.cell? ⟨b, o, none⟩) ∧ (∀ b o, b < W.heap.size → w1.frozen? ⟨b, o, none⟩ = W.frozen? ⟨b, o, none⟩) :=
  ⟨fun b o h => hb.cell (p := ⟨b, o, none⟩) h, fun b o h => hb.frozen (p := ⟨b, o, none⟩) h⟩

theorem bl_al {a w : World} (h : Below a.heap.size a w) (o : Obj) : Below a.heap.size a (w.alloc o) := h.alloc h.size o
theorem bl_tr {a w w' : World} (h : Below a.heap.size a w) (k : Below w.heap.size w w') : Below a.heap.size a w' := h.trans (k.mono h.size)
theorem bl_dn {B : Nat} {a w : World} (h : Below B a w) (n : Nat) : Below B a (w.drewN n) := ⟨h.os, h.tape, h.output, h.size, h.block⟩

/-- The borrow, under a name. -/
def bor (x y : Int) : Int := if x < y then 1 else 0
theorem bor_b (x y : Int) : 0 ≤ bor x y ∧ bor x y ≤ 1 := by unfold bor; split <;> decide
theorem ret_int {k : IntKind} {a b : Int} (h : a = b) : Ending.returned (.int k a) = .returned (.int k b) := by rw [h]
theorem gcd_step {x y g : Nat} (h : Hid (Nat.gcd x y = g)) : Hid (Nat.gcd y (x % y) = g) := by
  have h1 := h.out
  rw [Nat.gcd_comm, ← Nat.gcd_rec, Nat.gcd_comm] at *
  exact h1
theorem gcdv_12 : gcdv (-12) 18 = 6 := by decide
end Go.Proofs.Yteoionlnnjcggaa.ar

/-
  Plain arithmetic for the reference's numbers in parts of 31 bits: what a digit is, and what the school methods of adding, taking away, multiplying and comparing do digit by digit. No program in it. No condition.
-/
namespace Go.Proofs.Yteoionlnnjcggaa.ar
open Go.RowKit
set_option linter.unusedVariables false

def BB : Nat := 2147483648
theorem BB_eq : BB = 2147483648 := rfl
theorem BB_pos : 0 < BB := by decide
theorem BBp (k : Nat) : 0 < BB ^ k := Nat.pow_pos BB_pos
/-- part k of a number -/
def dgn (x k : Nat) : Nat := x / BB ^ k % BB
def dg (x k : Nat) : Int := (dgn x k : Int)
theorem dgn_lt (x k : Nat) : dgn x k < BB := Nat.mod_lt _ BB_pos
theorem dg_b (x k : Nat) : 0 ≤ dg x k ∧ dg x k < 2147483648 := by
  have := dgn_lt x k; rw [BB_eq] at this; unfold dg; omega
theorem dg_zero (k : Nat) : dg 0 k = 0 := by unfold dg dgn; simp

/-- the carry into part k of a sum -/
def cyn (x y k : Nat) : Nat := (x % BB ^ k + y % BB ^ k) / BB ^ k
def cy (x y k : Nat) : Int := (cyn x y k : Int)
theorem cy_zero (x y : Nat) : cy x y 0 = 0 := by unfold cy cyn; simp [Nat.mod_one]
theorem cyn_le (x y k : Nat) : cyn x y k ≤ 1 := by
  have h1 := Nat.mod_lt x (BBp k); have h2 := Nat.mod_lt y (BBp k)
  unfold cyn
  rw [Nat.le_iff_lt_add_one, Nat.div_lt_iff_lt_mul (BBp k)]; omega
theorem cy_b (x y k : Nat) : 0 ≤ cy x y k ∧ cy x y k ≤ 1 := by have := cyn_le x y k; unfold cy; omega
theorem add_div_eq (x y p : Nat) (hp : 0 < p) : (x + y) / p = x / p + y / p + (x % p + y % p) / p := by
  have e : x + y = (x % p + y % p) + p * (x / p + y / p) := by
    have h1 := Nat.div_add_mod x p; have h2 := Nat.div_add_mod y p
    rw [Nat.mul_add]; omega
  rw [e, Nat.add_mul_div_left _ _ hp]; omega
theorem dgn_add (x y k : Nat) : (dgn x k + dgn y k + cyn x y k) % BB = dgn (x + y) k := by
  unfold dgn cyn
  rw [add_div_eq x y _ (BBp k)]
  simp [Nat.add_mod]
theorem mod_succ (x k : Nat) : x % BB ^ (k + 1) = x % BB ^ k + BB ^ k * dgn x k := Nat.mod_pow_succ
theorem cyn_succ (x y k : Nat) : (dgn x k + dgn y k + cyn x y k) / BB = cyn x y (k + 1) := by
  have h : cyn x y (k + 1) = ((x % BB ^ k + y % BB ^ k) / BB ^ k + (dgn x k + dgn y k)) / BB := by
    unfold cyn
    rw [mod_succ, mod_succ, Nat.pow_succ, ← Nat.div_div_eq_div_mul]
    congr 1
    rw [show x % BB ^ k + BB ^ k * dgn x k + (y % BB ^ k + BB ^ k * dgn y k) = (x % BB ^ k + y % BB ^ k) + BB ^ k * (dgn x k + dgn y k) by rw [Nat.mul_add]; omega]
    rw [Nat.add_mul_div_left _ _ (BBp k)]
  rw [h]; unfold cyn; congr 1; omega
theorem dg_add (x y k : Nat) : (dg x k + dg y k + cy x y k) % 2147483648 = dg (x + y) k := by
  have := dgn_add x y k; rw [BB_eq] at this; unfold dg cy; omega
theorem cy_succ (x y k : Nat) : (dg x k + dg y k + cy x y k) / 2147483648 = cy x y (k + 1) := by
  have := cyn_succ x y k; rw [BB_eq] at this; unfold dg cy; omega

/-- the borrow into part k of a difference -/
def bw (x y k : Nat) : Int := if x % BB ^ k < y % BB ^ k then 1 else 0
theorem bw_zero (x y : Nat) : bw x y 0 = 0 := by unfold bw; simp [Nat.mod_one]
theorem bw_b (x y k : Nat) : 0 ≤ bw x y k ∧ bw x y k ≤ 1 := by unfold bw; split <;> decide
theorem lt_succ (x y k : Nat) : x % BB ^ (k + 1) < y % BB ^ (k + 1) ↔ dgn x k < dgn y k ∨ (dgn x k = dgn y k ∧ x % BB ^ k < y % BB ^ k) := by
  rw [mod_succ, mod_succ]
  have h1 := Nat.mod_lt x (BBp k); have h2 := Nat.mod_lt y (BBp k)
  generalize x % BB ^ k = r1 at *; generalize y % BB ^ k = r2 at *
  rcases Nat.lt_trichotomy (dgn x k) (dgn y k) with h | h | h
  · have : BB ^ k * (dgn x k + 1) ≤ BB ^ k * dgn y k := Nat.mul_le_mul_left _ h
    rw [Nat.mul_add] at this
    constructor
    · intro _; exact Or.inl h
    · intro _; omega
  · rw [h]; constructor
    · intro hh; exact Or.inr ⟨rfl, by omega⟩
    · rintro (hh | ⟨_, hh⟩) <;> omega
  · have : BB ^ k * (dgn y k + 1) ≤ BB ^ k * dgn x k := Nat.mul_le_mul_left _ h
    rw [Nat.mul_add] at this
    constructor
    · intro _; omega
    · rintro (hh | ⟨hh, _⟩) <;> omega
/-- the digit of a difference -/
theorem dgn_sub (x y k : Nat) (h : y ≤ x) : dgn x k + (if x % BB ^ (k + 1) < y % BB ^ (k + 1) then BB else 0) = dgn (x - y) k + dgn y k + (if x % BB ^ k < y % BB ^ k then 1 else 0) := by
  obtain ⟨d, rfl⟩ := Nat.exists_eq_add_of_le h
  rw [Nat.add_sub_cancel_left]
  have key : ∀ j, ((y + d) % BB ^ j < y % BB ^ j) ↔ cyn y d j = 1 := by
    intro j
    have h1 := Nat.mod_lt y (BBp j); have h2 := Nat.mod_lt d (BBp j)
    have hl := cyn_le y d j
    have hq := Nat.div_add_mod (y % BB ^ j + d % BB ^ j) (BB ^ j)
    have hm : (y + d) % BB ^ j = (y % BB ^ j + d % BB ^ j) % BB ^ j := Nat.add_mod _ _ _
    unfold cyn at *
    rw [hm]
    generalize y % BB ^ j = u at *; generalize d % BB ^ j = v at *; generalize BB ^ j = p at *
    generalize (u + v) % p = m at *
    generalize (u + v) / p = t at *
    rcases Nat.lt_or_ge t 1 with hz | hz
    · obtain rfl : t = 0 := by omega
      simp at hq; omega
    · obtain rfl : t = 1 := by omega
      simp at hq; omega
  have s1 := dgn_add y d k
  have s2 := cyn_succ y d k
  have l1 := cyn_le y d k; have l2 := cyn_le y d (k + 1)
  have q := Nat.div_add_mod (dgn y k + dgn d k + cyn y d k) BB
  rw [s1, s2] at q
  have k1 := key k; have k2 := key (k + 1)
  by_cases c1 : cyn y d k = 1 <;> by_cases c2 : cyn y d (k + 1) = 1
  · rw [if_pos (k2.2 c2), if_pos (k1.2 c1)]; rw [c1, c2] at q; omega
  · rw [if_neg (fun h => c2 (k2.1 h)), if_pos (k1.2 c1)]; have : cyn y d (k + 1) = 0 := by omega
    rw [c1, this] at q; omega
  · rw [if_pos (k2.2 c2), if_neg (fun h => c1 (k1.1 h))]; have : cyn y d k = 0 := by omega
    rw [c2, this] at q; omega
  · rw [if_neg (fun h => c2 (k2.1 h)), if_neg (fun h => c1 (k1.1 h))]; have : cyn y d k = 0 := by omega
    have : cyn y d (k + 1) = 0 := by omega
    simp [*] at q; omega
theorem dg_sub_neg (x y k : Nat) (h : y ≤ x) (hn : dg x k - dg y k - bw x y k < 0) : dg x k - dg y k - bw x y k + 2147483648 = dg (x - y) k ∧ bw x y (k + 1) = 1 := by
  have q := dgn_sub x y k h
  have b := dgn_lt (x - y) k
  rw [BB_eq] at b
  unfold bw dg at *
  have : x % BB ^ (k + 1) < y % BB ^ (k + 1) := by
    by_cases hc : x % BB ^ (k + 1) < y % BB ^ (k + 1)
    · exact hc
    · rw [if_neg hc] at q; split at q <;> simp_all <;> omega
  rw [if_pos this] at q ⊢
  refine ⟨?_, rfl⟩
  have hB : BB = 2147483648 := rfl
  by_cases hc : x % BB ^ k < y % BB ^ k
  · rw [if_pos hc] at *; omega
  · rw [if_neg hc] at *; omega
theorem dg_sub_pos (x y k : Nat) (h : y ≤ x) (hn : ¬ dg x k - dg y k - bw x y k < 0) : dg x k - dg y k - bw x y k = dg (x - y) k ∧ bw x y (k + 1) = 0 := by
  have q := dgn_sub x y k h
  have b := dgn_lt (x - y) k
  have bx := dgn_lt x k
  unfold bw dg at *
  have : ¬ x % BB ^ (k + 1) < y % BB ^ (k + 1) := by
    intro hc
    rw [if_pos hc] at q; split at q <;> simp_all <;> omega
  rw [if_neg this] at q ⊢
  refine ⟨?_, rfl⟩
  split at q <;> simp_all <;> omega

/-- comparing from the top -/
def eqAbove (x y k : Nat) : Prop := x / BB ^ k = y / BB ^ k
theorem div_succ (x k : Nat) : x / BB ^ k = BB * (x / BB ^ (k + 1)) + dgn x k := by
  unfold dgn
  rw [Nat.pow_succ, ← Nat.div_div_eq_div_mul]
  exact (Nat.div_add_mod _ _).symm
theorem eqAbove_step {x y k : Nat} (h : eqAbove x y (k + 1)) (hd : dgn x k = dgn y k) : eqAbove x y k := by
  unfold eqAbove at *; rw [div_succ x, div_succ y, h, hd]
theorem lt_of_digit {x y k : Nat} (h : eqAbove x y (k + 1)) (hd : dgn x k < dgn y k) : x < y := by
  have h1 : x / BB ^ k < y / BB ^ k := by rw [div_succ x, div_succ y, h]; omega
  exact Nat.lt_of_not_le fun hc => by have := Nat.div_le_div_right (c := BB ^ k) hc; omega
theorem eqAbove_top {x y : Nat} (hx : x < BB ^ 9) (hy : y < BB ^ 9) : eqAbove x y 9 := by
  unfold eqAbove; rw [Nat.div_eq_of_lt hx, Nat.div_eq_of_lt hy]
theorem eqAbove_zero {x y : Nat} (h : eqAbove x y 0) : x = y := by simpa [eqAbove] using h

/-! the school method of multiplying -/
def pp (x y i : Nat) : Nat := x % BB ^ i * y
def rr (x y i k : Nat) : Nat := pp x y i % BB ^ (i + k) + BB ^ i * (dgn x i * (y % BB ^ k))
def ovn (x y i k : Nat) : Nat := rr x y i k / BB ^ (i + k)
def ov (x y i k : Nat) : Int := (ovn x y i k : Int)
theorem pp_succ (x y i : Nat) : pp x y (i + 1) = pp x y i + BB ^ i * (dgn x i * y) := by
  unfold pp; rw [mod_succ, Nat.add_mul, Nat.mul_assoc]
theorem rr_succ (x y i k : Nat) : rr x y i (k + 1) = rr x y i k + BB ^ (i + k) * (dgn (pp x y i) (i + k) + dgn x i * dgn y k) := by
  unfold rr
  rw [show i + (k + 1) = (i + k) + 1 from rfl, mod_succ, mod_succ, Nat.mul_add (dgn x i), Nat.mul_add (BB ^ i), Nat.mul_add (BB ^ (i + k)), Nat.pow_add]
  have e : BB ^ i * (dgn x i * (BB ^ k * dgn y k)) = BB ^ i * BB ^ k * (dgn x i * dgn y k) := by
    rw [Nat.mul_left_comm (dgn x i), ← Nat.mul_assoc]
  rw [e]; omega
theorem ovn_zero (x y i : Nat) : ovn x y i 0 = 0 := by
  unfold ovn rr; simp [Nat.mod_one]
theorem rr_step (x y i k : Nat) : rr x y i (k + 1) / BB ^ (i + k) = dgn (pp x y i) (i + k) + dgn x i * dgn y k + ovn x y i k := by
  rw [rr_succ, Nat.add_mul_div_left _ _ (BBp _)]; unfold ovn; omega
theorem ovn_succ (x y i k : Nat) : (dgn (pp x y i) (i + k) + dgn x i * dgn y k + ovn x y i k) / BB = ovn x y i (k + 1) := by
  rw [← rr_step, Nat.div_div_eq_div_mul, ← Nat.pow_succ]; rfl
theorem pp_rr (x y i k : Nat) : ∃ z, pp x y (i + 1) = rr x y i k + BB ^ (i + k) * z := by
  refine ⟨pp x y i / BB ^ (i + k) + dgn x i * (y / BB ^ k), ?_⟩
  rw [pp_succ]; unfold rr
  have h1 := Nat.div_add_mod (pp x y i) (BB ^ (i + k))
  have h2 := Nat.div_add_mod y (BB ^ k)
  have e : BB ^ i * (dgn x i * y) = BB ^ i * (dgn x i * (y % BB ^ k)) + BB ^ (i + k) * (dgn x i * (y / BB ^ k)) := by
    rw [Nat.pow_add, Nat.mul_assoc, ← Nat.mul_add, Nat.mul_left_comm (BB ^ k), ← Nat.mul_add (dgn x i)]
    rw [Nat.add_comm (y % BB ^ k), h2]
  rw [e, Nat.mul_add]; omega
theorem dgn_pp (x y i k : Nat) : (dgn (pp x y i) (i + k) + dgn x i * dgn y k + ovn x y i k) % BB = dgn (pp x y (i + 1)) (i + k) := by
  obtain ⟨z, hz⟩ := pp_rr x y i (k + 1)
  rw [← rr_step]
  show _ = pp x y (i + 1) / BB ^ (i + k) % BB
  rw [hz, show i + (k + 1) = (i + k) + 1 from rfl, Nat.pow_succ, Nat.mul_assoc, Nat.add_mul_div_left _ _ (BBp _), Nat.add_mul_mod_self_left]
theorem ovn_lt (x y i k : Nat) : ovn x y i k < BB := by
  unfold ovn
  rw [Nat.div_lt_iff_lt_mul (BBp _)]
  unfold rr
  have h1 := Nat.mod_lt (pp x y i) (BBp (i + k))
  have h2 := Nat.mod_lt y (BBp k)
  have h3 : dgn x i * (y % BB ^ k) ≤ (BB - 1) * BB ^ k := Nat.mul_le_mul (by have := dgn_lt x i; omega) (by omega)
  have h4 : BB ^ i * (dgn x i * (y % BB ^ k)) ≤ BB ^ i * ((BB - 1) * BB ^ k) := Nat.mul_le_mul_left _ h3
  have h5 : BB ^ i * ((BB - 1) * BB ^ k) = (BB - 1) * BB ^ (i + k) := by rw [Nat.pow_add, Nat.mul_left_comm]
  have h6 : BB * BB ^ (i + k) = (BB - 1) * BB ^ (i + k) + BB ^ (i + k) := by
    rw [← Nat.succ_mul]; rfl
  omega
theorem dgn_small {x k : Nat} (h : x < BB ^ k) : dgn x k = 0 := by unfold dgn; rw [Nat.div_eq_of_lt h]; rfl
theorem pp_lt (x y i : Nat) (hy : y < BB ^ 4) : pp x y i < BB ^ (i + 4) := by
  unfold pp
  have h1 := Nat.mod_lt x (BBp i)
  rw [Nat.pow_add]
  calc x % BB ^ i * y ≤ x % BB ^ i * BB ^ 4 := Nat.mul_le_mul_left _ (by omega)
    _ < BB ^ i * BB ^ 4 := Nat.mul_lt_mul_of_pos_right h1 (BBp 4)
theorem dgn_far {x n j : Nat} (h : x < BB ^ n) (hj : n ≤ j) : dgn x j = 0 := dgn_small (Nat.lt_of_lt_of_le h (Nat.pow_le_pow_right BB_pos hj))
theorem ovn_end (x y i : Nat) (hy : y < BB ^ 4) : dgn (pp x y i) (i + 4) + ovn x y i 4 = dgn (pp x y (i + 1)) (i + 4) := by
  have hp := pp_lt x y i hy
  have hq := pp_lt x y (i + 1) hy
  rw [dgn_small hp]
  unfold ovn rr dgn
  rw [Nat.mod_eq_of_lt hp, Nat.mod_eq_of_lt hy]
  have e := pp_succ x y i
  unfold dgn at e
  rw [← e, Nat.zero_add]
  refine (Nat.mod_eq_of_lt ?_).symm
  rw [Nat.div_lt_iff_lt_mul (BBp _), Nat.mul_comm, ← Nat.pow_succ]
  have e2 : (i + 4).succ = i + 1 + 4 := by omega
  rw [e2]
  exact hq
theorem dgn_low (x y i j : Nat) (h : j < i) : dgn (pp x y (i + 1)) j = dgn (pp x y i) j := by
  rw [pp_succ]; unfold dgn
  obtain ⟨d, rfl⟩ := Nat.exists_eq_add_of_lt h
  rw [show j + d + 1 = j + (d + 1) from rfl, Nat.pow_add, Nat.mul_assoc, Nat.add_mul_div_left _ _ (BBp j), Nat.pow_succ, Nat.mul_comm (BB ^ d), Nat.mul_assoc, Nat.add_mul_mod_self_left]
theorem pp_zero (x y : Nat) : pp x y 0 = 0 := by unfold pp; simp [Nat.mod_one]
theorem pp_four (x y : Nat) (hx : x < BB ^ 4) : pp x y 4 = x * y := by unfold pp; rw [Nat.mod_eq_of_lt hx]
/-- part j of the sum on the way -/
def fc (x y i k j : Nat) : Int := if j < i + k then dg (pp x y (i + 1)) j else dg (pp x y i) j
theorem fc_zero (x y i j : Nat) : fc x y i 0 j = dg (pp x y i) j := by
  unfold fc; split
  · unfold dg; rw [dgn_low _ _ _ _ (by omega)]
  · rfl
theorem fc_at (x y i k : Nat) : fc x y i k (i + k) = dg (pp x y i) (i + k) := by unfold fc; rw [if_neg (by omega)]
theorem fc_next (x y i k j : Nat) : (if j = i + k then dg (pp x y (i + 1)) (i + k) else fc x y i k j) = fc x y i (k + 1) j := by
  unfold fc
  by_cases h : j = i + k
  · subst h; rw [if_pos rfl, if_pos (by omega)]
  · rw [if_neg h]
    by_cases h2 : j < i + k
    · rw [if_pos h2, if_pos (by omega)]
    · rw [if_neg h2, if_neg (by omega)]
theorem fc_end (x y i j : Nat) (hy : y < BB ^ 4) : (if j = i + 4 then dg (pp x y (i + 1)) (i + 4) else fc x y i 4 j) = dg (pp x y (i + 1)) j := by
  unfold fc
  by_cases h : j = i + 4
  · subst h; rw [if_pos rfl]
  · rw [if_neg h]
    by_cases h2 : j < i + 4
    · rw [if_pos h2]
    · rw [if_neg h2]; unfold dg
      rw [dgn_far (pp_lt x y i hy) (by omega), dgn_far (pp_lt x y (i + 1) hy) (by omega)]
theorem ov_b (x y i k : Nat) : 0 ≤ ov x y i k ∧ ov x y i k < 2147483648 := by have := ovn_lt x y i k; rw [BB_eq] at this; unfold ov; omega
theorem ov_zero (x y i : Nat) : ov x y i 0 = 0 := by unfold ov; rw [ovn_zero]; rfl
theorem ov_end (x y i : Nat) (hy : y < BB ^ 4) : dg (pp x y i) (i + 4) + ov x y i 4 = dg (pp x y (i + 1)) (i + 4) := by
  have := ovn_end x y i hy; unfold dg ov; omega
theorem dg_mul_b (x y i k : Nat) : 0 ≤ dg x i * dg y k ∧ dg x i * dg y k ≤ 4611686014132420609 := by
  have h1 := dgn_lt x i; have h2 := dgn_lt y k
  have h3 : dgn x i * dgn y k ≤ 2147483647 * 2147483647 := Nat.mul_le_mul (by rw [BB_eq] at h1; omega) (by rw [BB_eq] at h2; omega)
  have e : dg x i * dg y k = ((dgn x i * dgn y k : Nat) : Int) := by unfold dg; rw [Int.natCast_mul]
  rw [e]; omega
theorem dg_pp (x y i k : Nat) : (dg (pp x y i) (i + k) + dg x i * dg y k + ov x y i k) % 2147483648 = dg (pp x y (i + 1)) (i + k) := by
  have := dgn_pp x y i k; rw [BB_eq] at this
  have e : dg x i * dg y k = ((dgn x i * dgn y k : Nat) : Int) := by unfold dg; rw [Int.natCast_mul]
  rw [e]; unfold dg ov; omega
theorem ov_succ (x y i k : Nat) : (dg (pp x y i) (i + k) + dg x i * dg y k + ov x y i k) / 2147483648 = ov x y i (k + 1) := by
  have := ovn_succ x y i k; rw [BB_eq] at this
  have e : dg x i * dg y k = ((dgn x i * dgn y k : Nat) : Int) := by unfold dg; rw [Int.natCast_mul]
  rw [e]; unfold dg ov; omega
/-- is a number less than another -/
def ltb (x y : Nat) : Bool := decide (x < y)
attribute [irreducible] dg cy bw ov fc ltb pp
end Go.Proofs.Yteoionlnnjcggaa.ar

/-
  What the reference's numbers in parts (Of, Plus, Minus, Times, Less, Num, Add, Mul, Neg, Int, Cmp) answer, function by function, told by the natural number whose parts they hold.
-/
namespace Go.Proofs.Yteoionlnnjcggaa.ar
open Go.RowKit
set_option linter.unusedVariables false


def bgA (x : Nat) : Array Value := #[.int .i64 (dg x 0), .int .i64 (dg x 1), .int .i64 (dg x 2), .int .i64 (dg x 3), .int .i64 (dg x 4), .int .i64 (dg x 5), .int .i64 (dg x 6), .int .i64 (dg x 7), .int .i64 (dg x 8)]
def pc (z k j : Nat) : Value := .int .i64 (if j < k then dg z j else 0)
def prt (z k : Nat) : Array Value := #[pc z k 0, pc z k 1, pc z k 2, pc z k 3, pc z k 4, pc z k 5, pc z k 6, pc z k 7, pc z k 8]
theorem bgA_at (x k : Nat) (h : k < 9) : (bgA x)[k]? = some (.int .i64 (dg x k)) := by
  unfold bgA
  rcases k with _ | _ | _ | _ | _ | _ | _ | _ | _ | k
  all_goals first | rfl | omega
theorem prt_at (z k : Nat) (h : k < 9) : (prt z k)[k]? = some (.int .i64 0) := by
  unfold prt pc
  rcases k with _ | _ | _ | _ | _ | _ | _ | _ | _ | k
  all_goals first | (simp; done) | omega
theorem prt_zero (z : Nat) : prt z 0 = #[.int .i64 0, .int .i64 0, .int .i64 0, .int .i64 0, .int .i64 0, .int .i64 0, .int .i64 0, .int .i64 0, .int .i64 0] := by simp [prt, pc]
theorem prt_nine (z : Nat) : prt z 9 = bgA z := by simp [prt, pc, bgA]
theorem prt_set (z k : Nat) (h : k < 9) : (prt z k).setIfInBounds k (.int .i64 (dg z k)) = prt z (k + 1) := by
  rcases k with _ | _ | _ | _ | _ | _ | _ | _ | _ | k
  all_goals first | (simp [prt, pc]; done) | omega
theorem heap4 (w : World) (o1 o2 o3 o4 : Obj) : ((((w.alloc o1).alloc o2).alloc o3).alloc o4).heap[w.heap.size]? = some o1 ∧ ((((w.alloc o1).alloc o2).alloc o3).alloc o4).heap[w.heap.size + 1]? = some o2 ∧
    ((((w.alloc o1).alloc o2).alloc o3).alloc o4).heap[w.heap.size + 1 + 1]? = some o3 ∧ ((((w.alloc o1).alloc o2).alloc o3).alloc o4).heap[w.heap.size + 1 + 1 + 1]? = some o4 := by
  refine ⟨?_, ?_, ?_, ?_⟩
  all_goals
    show ((((w.heap.push o1).push o2).push o3).push o4)[_]? = _
    simp only [Array.getElem?_push, Array.size_push]
    repeat (first | rw [if_pos rfl] | rw [if_neg (by omega)])
    try simp
/-- two numbers read, a third one written part by part -/
structure BL (w wr : World) (x y z k : Nat) : Prop where
  ba : wr.heap[w.heap.size]? = some (.cells (bgA x) 84 (0, 0))
  bb : wr.heap[w.heap.size + 1]? = some (.cells (bgA y) 84 (0, 0))
  br : wr.heap[w.heap.size + 1 + 1]? = some (.cells #[.int .i64 0, .int .i64 0, .int .i64 0, .int .i64 0, .int .i64 0, .int .i64 0, .int .i64 0, .int .i64 0, .int .i64 0] 84 (0, 0))
  bc : wr.heap[w.heap.size + 1 + 1 + 1]? = some (.cells (prt z k) 84 (0, 0))
  bl : Below w.heap.size w wr
theorem BL.ca {w wr : World} {x y z k : Nat} (h : BL w wr x y z k) (j : Nat) (hj : j < 9) : wr.cell? ⟨w.heap.size, j, none⟩ = some (.int .i64 (dg x j)) := by rw [cell_of_row _ _ _ _ _ _ h.ba, bgA_at x j hj]
theorem BL.cb {w wr : World} {x y z k : Nat} (h : BL w wr x y z k) (j : Nat) (hj : j < 9) : wr.cell? ⟨w.heap.size + 1, j, none⟩ = some (.int .i64 (dg y j)) := by rw [cell_of_row _ _ _ _ _ _ h.bb, bgA_at y j hj]
theorem BL.cc {w wr : World} {x y z k : Nat} (h : BL w wr x y z k) (hk : k < 9) : wr.cell? ⟨w.heap.size + 1 + 1 + 1, k, none⟩ = some (.int .i64 0) := by rw [cell_of_row _ _ _ _ _ _ h.bc, prt_at z k hk]
theorem BL.fc {w wr : World} {x y z k : Nat} (h : BL w wr x y z k) (j : Nat) : wr.frozen? ⟨w.heap.size + 1 + 1 + 1, j, none⟩ = false := frozen_of_row _ _ _ _ _ h.bc
theorem BL.start (w : World) (x y z : Nat) : BL w ((((w.alloc (.cells #[.int .i64 (dg x 0), .int .i64 (dg x 1), .int .i64 (dg x 2), .int .i64 (dg x 3), .int .i64 (dg x 4), .int .i64 (dg x 5), .int .i64 (dg x 6), .int .i64 (dg x 7), .int .i64 (dg x 8)] 84)).alloc (.cells #[.int .i64 (dg y 0), .int .i64 (dg y 1), .int .i64 (dg y 2), .int .i64 (dg y 3), .int .i64 (dg y 4), .int .i64 (dg y 5), .int .i64 (dg y 6), .int .i64 (dg y 7), .int .i64 (dg y 8)] 84)).alloc (.cells #[.int .i64 0, .int .i64 0, .int .i64 0, .int .i64 0, .int .i64 0, .int .i64 0, .int .i64 0, .int .i64 0, .int .i64 0] 84)).alloc (.cells #[.int .i64 0, .int .i64 0, .int .i64 0, .int .i64 0, .int .i64 0, .int .i64 0, .int .i64 0, .int .i64 0, .int .i64 0] 84)) x y z 0 := by
  refine ⟨?_, ?_, ?_, ?_, bl_al (bl_al (bl_al (bl_al (Below.refl _ _) _) _) _) _⟩
  · exact (heap4 w _ _ _ _).1
  · exact (heap4 w _ _ _ _).2.1
  · exact (heap4 w _ _ _ _).2.2.1
  · rw [prt_zero]; exact (heap4 w _ _ _ _).2.2.2
theorem BL.step {w wr : World} {x y z k : Nat} (h : BL w wr x y z k) (hk : k < 9) : BL w (wr.setCell ⟨w.heap.size + 1 + 1 + 1, k, none⟩ (.int .i64 (dg z k))) x y z (k + 1) := by
  refine ⟨?_, ?_, ?_, ?_, h.bl.setCell (by show _ ≤ _ + 1 + 1 + 1; omega) _⟩
  · rw [heap_setCell_other _ _ _ _ (by show _ ≠ _ + 1 + 1 + 1; omega)]; exact h.ba
  · rw [heap_setCell_other _ _ _ _ (by show _ ≠ _ + 1 + 1 + 1; omega)]; exact h.bb
  · rw [heap_setCell_other _ _ _ _ (by show _ ≠ _ + 1 + 1 + 1; omega)]; exact h.br
  · rw [heap_setCell_same _ _ _ _ _ _ h.bc, prt_set z k hk]
theorem BL.out {w wr : World} {x y z : Nat} (h : BL w wr x y z 9) :
    wr.cell? ⟨w.heap.size + 1 + 1 + 1, 0, none⟩ = some (.int .i64 (dg z 0)) ∧ wr.cell? ⟨w.heap.size + 1 + 1 + 1, 1, none⟩ = some (.int .i64 (dg z 1)) ∧ wr.cell? ⟨w.heap.size + 1 + 1 + 1, 2, none⟩ = some (.int .i64 (dg z 2)) ∧ wr.cell? ⟨w.heap.size + 1 + 1 + 1, 3, none⟩ = some (.int .i64 (dg z 3)) ∧ wr.cell? ⟨w.heap.size + 1 + 1 + 1, 4, none⟩ = some (.int .i64 (dg z 4)) ∧ wr.cell? ⟨w.heap.size + 1 + 1 + 1, 5, none⟩ = some (.int .i64 (dg z 5)) ∧ wr.cell? ⟨w.heap.size + 1 + 1 + 1, 6, none⟩ = some (.int .i64 (dg z 6)) ∧ wr.cell? ⟨w.heap.size + 1 + 1 + 1, 7, none⟩ = some (.int .i64 (dg z 7)) ∧ wr.cell? ⟨w.heap.size + 1 + 1 + 1, 8, none⟩ = some (.int .i64 (dg z 8)) ∧
    wr.cell? ⟨w.heap.size + 1 + 1, 0, none⟩ = some (.int .i64 0) ∧ wr.cell? ⟨w.heap.size + 1 + 1, 1, none⟩ = some (.int .i64 0) ∧ wr.cell? ⟨w.heap.size + 1 + 1, 2, none⟩ = some (.int .i64 0) ∧ wr.cell? ⟨w.heap.size + 1 + 1, 3, none⟩ = some (.int .i64 0) ∧ wr.cell? ⟨w.heap.size + 1 + 1, 4, none⟩ = some (.int .i64 0) ∧ wr.cell? ⟨w.heap.size + 1 + 1, 5, none⟩ = some (.int .i64 0) ∧ wr.cell? ⟨w.heap.size + 1 + 1, 6, none⟩ = some (.int .i64 0) ∧ wr.cell? ⟨w.heap.size + 1 + 1, 7, none⟩ = some (.int .i64 0) ∧ wr.cell? ⟨w.heap.size + 1 + 1, 8, none⟩ = some (.int .i64 0) ∧ (∀ j, wr.frozen? ⟨w.heap.size + 1 + 1, j, none⟩ = false) := by
  have hc := h.bc; rw [prt_nine] at hc
  have C := fun j (hj : j < 9) => (cell_of_row wr _ j _ _ _ hc).trans (bgA_at z j hj)
  have R := fun j => cell_of_row wr _ j _ _ _ h.br
  exact ⟨C 0 (by decide), C 1 (by decide), C 2 (by decide), C 3 (by decide), C 4 (by decide), C 5 (by decide), C 6 (by decide), C 7 (by decide), C 8 (by decide), R 0, R 1, R 2, R 3, R 4, R 5, R 6, R 7, R 8, fun j => frozen_of_row _ _ _ _ _ h.br⟩
theorem nine (w : World) (g : Nat) (h : w.heap[g]? = some (.cells #[.int .i64 0, .int .i64 0, .int .i64 0, .int .i64 0, .int .i64 0, .int .i64 0, .int .i64 0, .int .i64 0, .int .i64 0] 84 (0, 0))) (v0 v1 v2 v3 v4 v5 v6 v7 v8 : Value) :
    (((((((((w.setCell ⟨g, 0, none⟩ v0).setCell ⟨g, 1, none⟩ v1).setCell ⟨g, 2, none⟩ v2).setCell ⟨g, 3, none⟩ v3).setCell ⟨g, 4, none⟩ v4).setCell ⟨g, 5, none⟩ v5).setCell ⟨g, 6, none⟩ v6).setCell ⟨g, 7, none⟩ v7).setCell ⟨g, 8, none⟩ v8).heap[g]? = some (.cells #[v0, v1, v2, v3, v4, v5, v6, v7, v8] 84 (0, 0)) := by
  have h0 := heap_setCell_same w g 0 _ 84 v0 h
  have h1 := heap_setCell_same _ g 1 _ 84 v1 h0
  have h2 := heap_setCell_same _ g 2 _ 84 v2 h1
  have h3 := heap_setCell_same _ g 3 _ 84 v3 h2
  have h4 := heap_setCell_same _ g 4 _ 84 v4 h3
  have h5 := heap_setCell_same _ g 5 _ 84 v5 h4
  have h6 := heap_setCell_same _ g 6 _ 84 v6 h5
  have h7 := heap_setCell_same _ g 7 _ 84 v7 h6
  have h8 := heap_setCell_same _ g 8 _ 84 v8 h7
  simpa using h8
theorem nine_below {B : Nat} {a w : World} (h : Below B a w) (g : Nat) (hg : B ≤ g) (v0 v1 v2 v3 v4 v5 v6 v7 v8 : Value) : Below B a (((((((((w.setCell ⟨g, 0, none⟩ v0).setCell ⟨g, 1, none⟩ v1).setCell ⟨g, 2, none⟩ v2).setCell ⟨g, 3, none⟩ v3).setCell ⟨g, 4, none⟩ v4).setCell ⟨g, 5, none⟩ v5).setCell ⟨g, 6, none⟩ v6).setCell ⟨g, 7, none⟩ v7).setCell ⟨g, 8, none⟩ v8) := by
  exact Below.setCell (p := ⟨g, 8, none⟩) (Below.setCell (p := ⟨g, 7, none⟩) (Below.setCell (p := ⟨g, 6, none⟩) (Below.setCell (p := ⟨g, 5, none⟩) (Below.setCell (p := ⟨g, 4, none⟩) (Below.setCell (p := ⟨g, 3, none⟩) (Below.setCell (p := ⟨g, 2, none⟩) (Below.setCell (p := ⟨g, 1, none⟩) (Below.setCell (p := ⟨g, 0, none⟩) (h) hg v0) hg v1) hg v2) hg v3) hg v4) hg v5) hg v6) hg v7) hg v8
theorem BL.drewN {w wr : World} {x y z k : Nat} (h : BL w wr x y z k) (n : Nat) : BL w (wr.drewN n) x y z k := ⟨h.ba, h.bb, h.br, h.bc, bl_dn h.bl n⟩

theorem and31 (a : Int) (h : 0 ≤ a) (h2 : a < 9223372036854775808) : bits .and .i64 a 2147483647 = a % 2147483648 := by
  obtain ⟨n, rfl⟩ := Int.eq_ofNat_of_zero_le h
  have hx : n &&& 2147483647 < 2 ^ 63 := Nat.and_lt_two_pow _ (by decide)
  have e0 : (BitVec.ofInt 64 (n : Int)).toNat = n := by rw [BitVec.ofInt_natCast, BitVec.toNat_ofNat]; exact Nat.mod_eq_of_lt (by omega)
  have e1 : n &&& 2147483647 = n % 2147483648 := Nat.and_two_pow_sub_one_eq_mod n 31
  show IntKind.i64.wrap ((BitVec.ofInt 64 (n : Int) &&& BitVec.ofInt 64 2147483647).toNat : Int) = _
  rw [BitVec.toNat_and, e0, show (BitVec.ofInt 64 (2147483647 : Int)).toNat = 2147483647 from by decide, IntKind.wrap_i64, e1]
  omega

set_option maxRecDepth 100000 in
theorem plus_loop (x y : Nat) (w : World) :
    Calls Try.prog 75 #[.agg #[.int .i64 (dg x 0), .int .i64 (dg x 1), .int .i64 (dg x 2), .int .i64 (dg x 3), .int .i64 (dg x 4), .int .i64 (dg x 5), .int .i64 (dg x 6), .int .i64 (dg x 7), .int .i64 (dg x 8)], .agg #[.int .i64 (dg y 0), .int .i64 (dg y 1), .int .i64 (dg y 2), .int .i64 (dg y 3), .int .i64 (dg y 4), .int .i64 (dg y 5), .int .i64 (dg y 6), .int .i64 (dg y 7), .int .i64 (dg y 8)]] w fun e w' => e = .returned (.agg #[.int .i64 (dg (x + y) 0), .int .i64 (dg (x + y) 1), .int .i64 (dg (x + y) 2), .int .i64 (dg (x + y) 3), .int .i64 (dg (x + y) 4), .int .i64 (dg (x + y) 5), .int .i64 (dg (x + y) 6), .int .i64 (dg (x + y) 7), .int .i64 (dg (x + y) 8)]) ∧ Below w.heap.size w w' := by
  have S := BL.start w x y (x + y)
  go_enter Try.func75, Try.ntmps75
  go_wp2_with fail
  go_loopw [6, 7] (fun s t wr => ∃ k : Nat, k ≤ 9 ∧ t = .int .i64 k ∧ s = .int .i64 (cy x y k) ∧ BL w wr x y (x + y) k) (fun _ t _ => 9 - (intOf t).toNat)
  case atStart => exact ⟨0, by omega, rfl, by rw [cy_zero], S⟩
  case round =>
    obtain ⟨k, hk, rfl, rfl, hb⟩ := hrel
    clear S
    by_cases hlt : k < 9
    · have fa := hb.ca k hlt
      have fb := hb.cb k hlt
      have fc := hb.cc hlt
      have ff := hb.fc k
      obtain ⟨ax1, ax2⟩ := dg_b x k
      obtain ⟨ay1, ay2⟩ := dg_b y k
      obtain ⟨ac1, ac2⟩ := cy_b x y k
      have e1 := and31 (dg x k + dg y k + cy x y k) (by omega) (by omega)
      have e2 := dg_add x y k
      have e3 := cy_succ x y k
      rw [e2] at e1
      have w1 : IntKind.i64.wrap (dg x k + dg y k) = dg x k + dg y k := IntWalk.i64_in _ (by omega)
      have w2 : IntKind.i64.wrap (dg x k + dg y k + cy x y k) = dg x k + dg y k + cy x y k := IntWalk.i64_in _ (by omega)
      have k1 : (0 : Int) ≤ (k : Int) := by omega
      have k2 : (k : Int) < 9 := by omega
      have st := fun n => (hb.drewN n).step hlt
      clear hb
      go_wp2
      go_quiet (fail)
      go_wp2
      go_roundw
      case rel => exact ⟨k + 1, by omega, by go_num, rfl, st _⟩
      case measure => simp [intOf]; omega
    · obtain rfl : k = 9 := by omega
      have F := BL.out hb
      have bl := hb.bl
      have BR := Lib.hid hb.br
      obtain ⟨c0, c1, c2, c3, c4, c5, c6, c7, c8, r0, r1, r2, r3, r4, r5, r6, r7, r8, ff⟩ := F
      clear hb hlt hk
      go_wp2
      exact bodyPost_ret (results_cell_row Try.results75 _ _ (w.heap.size + 1 + 1) 84 _ (0, 0) _ rfl (nine _ _ BR.out _ _ _ _ _ _ _ _ _) Try.underlying84 rfl (by kernel_rfl)) rfl ⟨rfl, nine_below bl _ (by omega) _ _ _ _ _ _ _ _ _⟩
end Go.Proofs.Yteoionlnnjcggaa.ar

/-
  What the reference's Minus answers.
-/
namespace Go.Proofs.Yteoionlnnjcggaa.ar
open Go.RowKit
set_option linter.unusedVariables false


set_option maxRecDepth 100000 in
theorem minus_loop (x y : Nat) (hyx : y ≤ x) (w : World) :
    Calls Try.prog 77 #[.agg #[.int .i64 (dg x 0), .int .i64 (dg x 1), .int .i64 (dg x 2), .int .i64 (dg x 3), .int .i64 (dg x 4), .int .i64 (dg x 5), .int .i64 (dg x 6), .int .i64 (dg x 7), .int .i64 (dg x 8)], .agg #[.int .i64 (dg y 0), .int .i64 (dg y 1), .int .i64 (dg y 2), .int .i64 (dg y 3), .int .i64 (dg y 4), .int .i64 (dg y 5), .int .i64 (dg y 6), .int .i64 (dg y 7), .int .i64 (dg y 8)]] w fun e w' => e = .returned (.agg #[.int .i64 (dg (x - y) 0), .int .i64 (dg (x - y) 1), .int .i64 (dg (x - y) 2), .int .i64 (dg (x - y) 3), .int .i64 (dg (x - y) 4), .int .i64 (dg (x - y) 5), .int .i64 (dg (x - y) 6), .int .i64 (dg (x - y) 7), .int .i64 (dg (x - y) 8)]) ∧ Below w.heap.size w w' := by
  have S := BL.start w x y (x - y)
  go_enter Try.func77, Try.ntmps77
  go_wp2_with fail
  go_loopw [6, 7] (fun s t wr => ∃ k : Nat, k ≤ 9 ∧ t = .int .i64 k ∧ s = .int .i64 (bw x y k) ∧ BL w wr x y (x - y) k) (fun _ t _ => 9 - (intOf t).toNat)
  case atStart => exact ⟨0, by omega, rfl, by rw [bw_zero], S⟩
  case round =>
    obtain ⟨k, hk, rfl, rfl, hb⟩ := hrel
    clear S
    by_cases hlt : k < 9
    · have fa := hb.ca k hlt
      have fb := hb.cb k hlt
      have fc := hb.cc hlt
      have ff := hb.fc k
      obtain ⟨ax1, ax2⟩ := dg_b x k
      obtain ⟨ay1, ay2⟩ := dg_b y k
      obtain ⟨az1, az2⟩ := dg_b (x - y) k
      obtain ⟨ac1, ac2⟩ := bw_b x y k
      have w1 : IntKind.i64.wrap (dg x k - dg y k) = dg x k - dg y k := IntWalk.i64_in _ (by omega)
      have w2 : IntKind.i64.wrap (dg x k - dg y k - bw x y k) = dg x k - dg y k - bw x y k := IntWalk.i64_in _ (by omega)
      have k1 : (0 : Int) ≤ (k : Int) := by omega
      have k2 : (k : Int) < 9 := by omega
      have st := fun n => (hb.drewN n).step hlt
      clear hb
      by_cases hneg : dg x k - dg y k - bw x y k < 0
      · obtain ⟨e1, e2⟩ := dg_sub_neg x y k hyx hneg
        have H2 := Lib.hid e2
        clear e2
        go_wp2
        go_quiet (fail)
        go_wp2
        go_roundw
        case rel => exact ⟨k + 1, by omega, by go_num, by rw [H2.out], st _⟩
        case measure => simp [intOf]; omega
      · obtain ⟨e1, e2⟩ := dg_sub_pos x y k hyx hneg
        have H2 := Lib.hid e2
        clear e2 hneg
        go_wp2
        go_quiet (fail)
        go_wp2
        go_roundw
        case rel => exact ⟨k + 1, by omega, by go_num, by rw [H2.out], st _⟩
        case measure => simp [intOf]; omega
    · obtain rfl : k = 9 := by omega
      have F := BL.out hb
      have bl := hb.bl
      have BR := Lib.hid hb.br
      obtain ⟨c0, c1, c2, c3, c4, c5, c6, c7, c8, r0, r1, r2, r3, r4, r5, r6, r7, r8, ff⟩ := F
      clear hb hlt hk
      go_wp2
      exact bodyPost_ret (results_cell_row Try.results77 _ _ (w.heap.size + 1 + 1) 84 _ (0, 0) _ rfl (nine _ _ BR.out _ _ _ _ _ _ _ _ _) Try.underlying84 rfl (by kernel_rfl)) rfl ⟨rfl, nine_below bl _ (by omega) _ _ _ _ _ _ _ _ _⟩
end Go.Proofs.Yteoionlnnjcggaa.ar

/-
  What the reference's Less answers.
-/
namespace Go.Proofs.Yteoionlnnjcggaa.ar
open Go.RowKit
set_option linter.unusedVariables false


theorem dg_inj {x y j : Nat} (h : dg x j = dg y j) : dgn x j = dgn y j := by unfold dg at h; omega
theorem dg_lt {x y j : Nat} (h : dg x j < dg y j) : dgn x j < dgn y j := by unfold dg at h; omega

structure B2 (w wr : World) (x y : Nat) : Prop where
  ba : wr.heap[w.heap.size]? = some (.cells (bgA x) 84 (0, 0))
  bb : wr.heap[w.heap.size + 1]? = some (.cells (bgA y) 84 (0, 0))
  bl : Below w.heap.size w wr
theorem B2.ca {w wr : World} {x y : Nat} (h : B2 w wr x y) (j : Nat) (hj : j < 9) : wr.cell? ⟨w.heap.size, j, none⟩ = some (.int .i64 (dg x j)) := by rw [cell_of_row _ _ _ _ _ _ h.ba, bgA_at x j hj]
theorem B2.cb {w wr : World} {x y : Nat} (h : B2 w wr x y) (j : Nat) (hj : j < 9) : wr.cell? ⟨w.heap.size + 1, j, none⟩ = some (.int .i64 (dg y j)) := by rw [cell_of_row _ _ _ _ _ _ h.bb, bgA_at y j hj]
theorem B2.start (w : World) (x y : Nat) : B2 w ((w.alloc (.cells #[.int .i64 (dg x 0), .int .i64 (dg x 1), .int .i64 (dg x 2), .int .i64 (dg x 3), .int .i64 (dg x 4), .int .i64 (dg x 5), .int .i64 (dg x 6), .int .i64 (dg x 7), .int .i64 (dg x 8)] 84)).alloc (.cells #[.int .i64 (dg y 0), .int .i64 (dg y 1), .int .i64 (dg y 2), .int .i64 (dg y 3), .int .i64 (dg y 4), .int .i64 (dg y 5), .int .i64 (dg y 6), .int .i64 (dg y 7), .int .i64 (dg y 8)] 84)) x y := by
  refine ⟨?_, ?_, bl_al (bl_al (Below.refl _ _) _) _⟩
  · exact heap_alloc2_old w _ _
  · exact heap_alloc2_new w _ _
theorem B2.drewN {w wr : World} {x y : Nat} (h : B2 w wr x y) (n : Nat) : B2 w (wr.drewN n) x y := ⟨h.ba, h.bb, bl_dn h.bl n⟩

/-- what stands when part j is looked at -/
def Looked (x y : Nat) (t : Value) : Prop := (∃ j : Nat, j < 9 ∧ t = .int .i64 j ∧ eqAbove x y (j + 1)) ∨ (t = .int .i64 (-1) ∧ x = y)
theorem looked_down {x y j : Nat} (hj : j < 9) (h : eqAbove x y (j + 1)) (hd : dg x j = dg y j) : Looked x y (.int .i64 ((j : Int) - 1)) := by
  have h1 := eqAbove_step h (dg_inj hd)
  rcases j with _ | j
  · exact Or.inr ⟨rfl, eqAbove_zero h1⟩
  · exact Or.inl ⟨j, by omega, by simp, h1⟩
theorem looked_lt {x y j : Nat} (h : eqAbove x y (j + 1)) (hd : dg x j < dg y j) : ltb x y = true := by unfold ltb; exact decide_eq_true (lt_of_digit h (dg_lt hd))
theorem looked_gt {x y j : Nat} (h : eqAbove x y (j + 1)) (hd : dg y j < dg x j) : ltb x y = false := by
  unfold ltb; have := lt_of_digit (x := y) (y := x) (show eqAbove y x (j + 1) from Eq.symm h) (dg_lt hd); exact decide_eq_false (by omega)
set_option maxRecDepth 100000 in
theorem less_any (x y : Nat) (hx : x < BB ^ 9) (hy : y < BB ^ 9) (w : World) :
    Calls Try.prog 76 #[.agg #[.int .i64 (dg x 0), .int .i64 (dg x 1), .int .i64 (dg x 2), .int .i64 (dg x 3), .int .i64 (dg x 4), .int .i64 (dg x 5), .int .i64 (dg x 6), .int .i64 (dg x 7), .int .i64 (dg x 8)], .agg #[.int .i64 (dg y 0), .int .i64 (dg y 1), .int .i64 (dg y 2), .int .i64 (dg y 3), .int .i64 (dg y 4), .int .i64 (dg y 5), .int .i64 (dg y 6), .int .i64 (dg y 7), .int .i64 (dg y 8)]] w fun e w' => e = .returned (.bool (ltb x y)) ∧ Below w.heap.size w w' := by
  have S := B2.start w x y
  have T := eqAbove_top hx hy
  have HT : Looked x y (.int .i64 8) := Or.inl ⟨8, by omega, rfl, T⟩
  clear hx hy T
  go_enter Try.func76, Try.ntmps76
  go_wp2_with fail
  go_loopw [5] (fun t wr => Looked x y t ∧ B2 w wr x y) (fun t _ => (intOf t + 1).toNat)
  case atStart => exact ⟨HT, S⟩
  case round =>
    obtain ⟨hl, hb⟩ := hrel
    clear S HT
    rcases hl with ⟨j, hj, rfl, he⟩ | ⟨rfl, hxy⟩
    · have fa := hb.ca j hj
      have fb := hb.cb j hj
      have k1 : (0 : Int) ≤ (j : Int) := by omega
      have k2 : (j : Int) < 9 := by omega
      have st := fun n => hb.drewN n
      have HE := Lib.hid he
      clear hb he
      by_cases hd : dg x j = dg y j
      · have H1 : (dg x j == dg y j) = true := by simpa using hd
        have H2 : (dg x j != dg y j) = false := by simpa using hd
        have HL : Looked x y (.int .i64 (j - 1)) := looked_down hj HE.out hd
        clear hd
        go_wp2
        go_quiet (fail)
        go_wp2
        go_roundw
        case rel => exact ⟨HL, st _⟩
        case measure => simp [intOf]
      · have H1 : (dg x j == dg y j) = false := by simpa using hd
        have H2 : (dg x j != dg y j) = true := by simpa using hd
        by_cases hdl : dg x j < dg y j
        · have R : ltb x y = true := looked_lt HE.out hdl
          have HR := Lib.hid R
          clear hd R
          go_wp2
          go_quiet (fail)
          go_wp2
          go_quiet (fail)
          go_wp2
          go_ret
          exact ⟨by rw [HR.out]; rfl, by simpa using (st _).bl⟩
        · have R : ltb x y = false := looked_gt HE.out (by omega)
          have HD : decide (dg x j < dg y j) = false := decide_eq_false hdl
          have HR := Lib.hid R
          clear hd R
          go_wp2
          go_quiet (fail)
          go_wp2
          go_quiet (fail)
          go_wp2
          go_ret
          exact ⟨by rw [HR.out]; rfl, by simpa using (st _).bl⟩
    · have R : ltb x y = false := by unfold ltb; rw [hxy]; simp
      have HR := Lib.hid R
      have bl := hb.bl
      clear hxy R hb
      go_wp2
      go_ret
      exact ⟨by rw [HR.out]; rfl, bl⟩
end Go.Proofs.Yteoionlnnjcggaa.ar

/-
  What the reference's Times answers.
-/
namespace Go.Proofs.Yteoionlnnjcggaa.ar
open Go.RowKit
set_option linter.unusedVariables false


/-- nine parts, told by a function -/
def arr (f : Nat → Int) : Array Value := #[.int .i64 (f 0), .int .i64 (f 1), .int .i64 (f 2), .int .i64 (f 3), .int .i64 (f 4), .int .i64 (f 5), .int .i64 (f 6), .int .i64 (f 7), .int .i64 (f 8)]
theorem arr_at (f : Nat → Int) (k : Nat) (h : k < 9) : (arr f)[k]? = some (.int .i64 (f k)) := by
  unfold arr
  rcases k with _ | _ | _ | _ | _ | _ | _ | _ | _ | k
  all_goals first | rfl | omega
theorem arr_congr {f g : Nat → Int} (h : ∀ j, f j = g j) : arr f = arr g := by rw [show f = g from funext h]
theorem arr_set (f : Nat → Int) (k : Nat) (v : Int) (h : k < 9) : (arr f).setIfInBounds k (.int .i64 v) = arr (fun j => if j = k then v else f j) := by
  unfold arr
  rcases k with _ | _ | _ | _ | _ | _ | _ | _ | _ | k
  all_goals first | (simp; done) | omega
theorem arr_dg (z : Nat) : arr (dg z) = bgA z := rfl
structure BT (w wr : World) (x y : Nat) (f : Nat → Int) : Prop where
  ba : wr.heap[w.heap.size]? = some (.cells (bgA x) 84 (0, 0))
  bb : wr.heap[w.heap.size + 1]? = some (.cells (bgA y) 84 (0, 0))
  br : wr.heap[w.heap.size + 1 + 1]? = some (.cells #[.int .i64 0, .int .i64 0, .int .i64 0, .int .i64 0, .int .i64 0, .int .i64 0, .int .i64 0, .int .i64 0, .int .i64 0] 84 (0, 0))
  bc : wr.heap[w.heap.size + 1 + 1 + 1]? = some (.cells (arr f) 84 (0, 0))
  bl : Below w.heap.size w wr
theorem BT.ca {w wr : World} {x y : Nat} {f : Nat → Int} (h : BT w wr x y f) (j : Nat) (hj : j < 9) : wr.cell? ⟨w.heap.size, j, none⟩ = some (.int .i64 (dg x j)) := by rw [cell_of_row _ _ _ _ _ _ h.ba, bgA_at x j hj]
theorem BT.cb {w wr : World} {x y : Nat} {f : Nat → Int} (h : BT w wr x y f) (j : Nat) (hj : j < 9) : wr.cell? ⟨w.heap.size + 1, j, none⟩ = some (.int .i64 (dg y j)) := by rw [cell_of_row _ _ _ _ _ _ h.bb, bgA_at y j hj]
theorem BT.cc {w wr : World} {x y : Nat} {f : Nat → Int} (h : BT w wr x y f) (j : Nat) (hj : j < 9) : wr.cell? ⟨w.heap.size + 1 + 1 + 1, j, none⟩ = some (.int .i64 (f j)) := by rw [cell_of_row _ _ _ _ _ _ h.bc, arr_at f j hj]
theorem BT.fc {w wr : World} {x y : Nat} {f : Nat → Int} (h : BT w wr x y f) (j : Nat) : wr.frozen? ⟨w.heap.size + 1 + 1 + 1, j, none⟩ = false := frozen_of_row _ _ _ _ _ h.bc
theorem BT.start (w : World) (x y : Nat) : BT w ((((w.alloc (.cells #[.int .i64 (dg x 0), .int .i64 (dg x 1), .int .i64 (dg x 2), .int .i64 (dg x 3), .int .i64 (dg x 4), .int .i64 (dg x 5), .int .i64 (dg x 6), .int .i64 (dg x 7), .int .i64 (dg x 8)] 84)).alloc (.cells #[.int .i64 (dg y 0), .int .i64 (dg y 1), .int .i64 (dg y 2), .int .i64 (dg y 3), .int .i64 (dg y 4), .int .i64 (dg y 5), .int .i64 (dg y 6), .int .i64 (dg y 7), .int .i64 (dg y 8)] 84)).alloc (.cells #[.int .i64 0, .int .i64 0, .int .i64 0, .int .i64 0, .int .i64 0, .int .i64 0, .int .i64 0, .int .i64 0, .int .i64 0] 84)).alloc (.cells #[.int .i64 0, .int .i64 0, .int .i64 0, .int .i64 0, .int .i64 0, .int .i64 0, .int .i64 0, .int .i64 0, .int .i64 0] 84)) x y (fun j => dg (pp x y 0) j) := by
  have S := BL.start w x y 0
  refine ⟨S.ba, S.bb, S.br, ?_, S.bl⟩
  have e : arr (fun j => dg (pp x y 0) j) = prt 0 0 := by
    rw [arr_congr (g := fun _ => 0) (fun j => by rw [pp_zero, dg_zero]), prt_zero]; rfl
  rw [e]; exact S.bc
theorem BT.put {w wr : World} {x y : Nat} {f g : Nat → Int} (h : BT w wr x y f) (i : Nat) (hi : i < 9) (v : Int) (hg : ∀ j, (if j = i then v else f j) = g j) : BT w (wr.setCell ⟨w.heap.size + 1 + 1 + 1, i, none⟩ (.int .i64 v)) x y g := by
  refine ⟨?_, ?_, ?_, ?_, h.bl.setCell (by show _ ≤ _ + 1 + 1 + 1; omega) _⟩
  · rw [heap_setCell_other _ _ _ _ (by show _ ≠ _ + 1 + 1 + 1; omega)]; exact h.ba
  · rw [heap_setCell_other _ _ _ _ (by show _ ≠ _ + 1 + 1 + 1; omega)]; exact h.bb
  · rw [heap_setCell_other _ _ _ _ (by show _ ≠ _ + 1 + 1 + 1; omega)]; exact h.br
  · rw [heap_setCell_same _ _ _ _ _ _ h.bc, arr_set f i v hi, arr_congr hg]
theorem BT.drewN {w wr : World} {x y : Nat} {f : Nat → Int} (h : BT w wr x y f) (n : Nat) : BT w (wr.drewN n) x y f := ⟨h.ba, h.bb, h.br, h.bc, bl_dn h.bl n⟩
theorem BT.congr {w wr : World} {x y : Nat} {f g : Nat → Int} (h : BT w wr x y f) (hg : ∀ j, f j = g j) : BT w wr x y g := ⟨h.ba, h.bb, h.br, by rw [h.bc, arr_congr hg], h.bl⟩
theorem BT.out {w wr : World} {x y z : Nat} (h : BT w wr x y (fun j => dg z j)) :
    wr.cell? ⟨w.heap.size + 1 + 1 + 1, 0, none⟩ = some (.int .i64 (dg z 0)) ∧ wr.cell? ⟨w.heap.size + 1 + 1 + 1, 1, none⟩ = some (.int .i64 (dg z 1)) ∧ wr.cell? ⟨w.heap.size + 1 + 1 + 1, 2, none⟩ = some (.int .i64 (dg z 2)) ∧ wr.cell? ⟨w.heap.size + 1 + 1 + 1, 3, none⟩ = some (.int .i64 (dg z 3)) ∧ wr.cell? ⟨w.heap.size + 1 + 1 + 1, 4, none⟩ = some (.int .i64 (dg z 4)) ∧ wr.cell? ⟨w.heap.size + 1 + 1 + 1, 5, none⟩ = some (.int .i64 (dg z 5)) ∧ wr.cell? ⟨w.heap.size + 1 + 1 + 1, 6, none⟩ = some (.int .i64 (dg z 6)) ∧ wr.cell? ⟨w.heap.size + 1 + 1 + 1, 7, none⟩ = some (.int .i64 (dg z 7)) ∧ wr.cell? ⟨w.heap.size + 1 + 1 + 1, 8, none⟩ = some (.int .i64 (dg z 8)) ∧
    wr.cell? ⟨w.heap.size + 1 + 1, 0, none⟩ = some (.int .i64 0) ∧ wr.cell? ⟨w.heap.size + 1 + 1, 1, none⟩ = some (.int .i64 0) ∧ wr.cell? ⟨w.heap.size + 1 + 1, 2, none⟩ = some (.int .i64 0) ∧ wr.cell? ⟨w.heap.size + 1 + 1, 3, none⟩ = some (.int .i64 0) ∧ wr.cell? ⟨w.heap.size + 1 + 1, 4, none⟩ = some (.int .i64 0) ∧ wr.cell? ⟨w.heap.size + 1 + 1, 5, none⟩ = some (.int .i64 0) ∧ wr.cell? ⟨w.heap.size + 1 + 1, 6, none⟩ = some (.int .i64 0) ∧ wr.cell? ⟨w.heap.size + 1 + 1, 7, none⟩ = some (.int .i64 0) ∧ wr.cell? ⟨w.heap.size + 1 + 1, 8, none⟩ = some (.int .i64 0) ∧ (∀ j, wr.frozen? ⟨w.heap.size + 1 + 1, j, none⟩ = false) := by
  have R := fun j => cell_of_row wr _ j _ _ _ h.br
  exact ⟨h.cc 0 (by decide), h.cc 1 (by decide), h.cc 2 (by decide), h.cc 3 (by decide), h.cc 4 (by decide), h.cc 5 (by decide), h.cc 6 (by decide), h.cc 7 (by decide), h.cc 8 (by decide), R 0, R 1, R 2, R 3, R 4, R 5, R 6, R 7, R 8, fun j => frozen_of_row _ _ _ _ _ h.br⟩
/-- the relations of the two loops, behind names -/
def Outer (w : World) (x y : Nat) (t : Value) (wr : World) : Prop := ∃ i : Nat, i ≤ 4 ∧ t = .int .i64 i ∧ BT w wr x y (fun j => dg (pp x y i) j)
def Inner (w : World) (x y i : Nat) (s t : Value) (wr : World) : Prop := ∃ k : Nat, k ≤ 4 ∧ t = .int .i64 k ∧ s = .int .i64 (ov x y i k) ∧ BT w wr x y (fun j => fc x y i k j)
set_option maxRecDepth 100000 in
set_option maxHeartbeats 400000 in
theorem times_walk (x y : Nat) (hy : y < BB ^ 4) (w : World) :
    Calls Try.prog 72 #[.agg #[.int .i64 (dg x 0), .int .i64 (dg x 1), .int .i64 (dg x 2), .int .i64 (dg x 3), .int .i64 (dg x 4), .int .i64 (dg x 5), .int .i64 (dg x 6), .int .i64 (dg x 7), .int .i64 (dg x 8)], .agg #[.int .i64 (dg y 0), .int .i64 (dg y 1), .int .i64 (dg y 2), .int .i64 (dg y 3), .int .i64 (dg y 4), .int .i64 (dg y 5), .int .i64 (dg y 6), .int .i64 (dg y 7), .int .i64 (dg y 8)]] w fun e w' => e = .returned (.agg #[.int .i64 (dg (pp x y 4) 0), .int .i64 (dg (pp x y 4) 1), .int .i64 (dg (pp x y 4) 2), .int .i64 (dg (pp x y 4) 3), .int .i64 (dg (pp x y 4) 4), .int .i64 (dg (pp x y 4) 5), .int .i64 (dg (pp x y 4) 6), .int .i64 (dg (pp x y 4) 7), .int .i64 (dg (pp x y 4) 8)]) ∧ Below w.heap.size w w' := by
  have S := BT.start w x y
  have HY := Lib.hid hy
  clear hy
  go_enter Try.func72, Try.ntmps72
  go_wp2_with fail
  go_loopw [6] (fun t wr => Outer w x y t wr) (fun t _ => 4 - (intOf t).toNat)
  case atStart => exact ⟨0, by omega, rfl, S⟩
  case round =>
    obtain ⟨i, hi, rfl, hb⟩ := hrel
    clear S
    obtain ⟨wo, rfl⟩ : ∃ wo : World, wo = wr := ⟨_, rfl⟩
    by_cases hi4 : i < 4
    · have i1 : (0 : Int) ≤ (i : Int) := by omega
      have i2 : (i : Int) < 4 := by omega
      have SI : Inner w x y i (.int .i64 0) (.int .i64 0) wo := ⟨0, by omega, rfl, by rw [ov_zero], hb.congr fun j => (fc_zero x y i j).symm⟩
      clear hb
      go_wp2_with fail
      go_loopw [7, 8] (fun s t wi => Inner w x y i s t wi) (fun _ t _ => 4 - (intOf t).toNat)
      case atStart => exact SI
      case round =>
        obtain ⟨k, hk, rfl, rfl, hb⟩ := hrel
        clear SI
        by_cases hk4 : k < 4
        · have fa := hb.ca i (by omega)
          have fb := hb.cb k (by omega)
          have fc0 := hb.cc (i + k) (by omega)
          rw [fc_at] at fc0
          have ff := hb.fc (i + k)
          obtain ⟨ax1, ax2⟩ := dg_b (pp x y i) (i + k)
          obtain ⟨am1, am2⟩ := dg_mul_b x y i k
          obtain ⟨ao1, ao2⟩ := ov_b x y i k
          have e2 := dg_pp x y i k
          have e3 := ov_succ x y i k
          have e1 := and31 (dg (pp x y i) (i + k) + dg x i * dg y k + ov x y i k) (by omega) (by omega)
          rw [e2] at e1
          have w0 : IntKind.i64.wrap ((i : Int) + k) = (i : Int) + k := IntWalk.i64_in _ (by omega)
          have w1 : IntKind.i64.wrap (dg x i * dg y k) = dg x i * dg y k := IntWalk.i64_in _ (by omega)
          have w2 : IntKind.i64.wrap (dg (pp x y i) (i + k) + dg x i * dg y k) = dg (pp x y i) (i + k) + dg x i * dg y k := IntWalk.i64_in _ (by omega)
          have w3 : IntKind.i64.wrap (dg (pp x y i) (i + k) + dg x i * dg y k + ov x y i k) = dg (pp x y i) (i + k) + dg x i * dg y k + ov x y i k := IntWalk.i64_in _ (by omega)
          have k1 : (0 : Int) ≤ (k : Int) := by omega
          have k2 : (k : Int) < 4 := by omega
          have t1 : ((i : Int) + k).toNat = i + k := by omega
          have st := fun n => (hb.drewN n).put (i + k) (by omega) (dg (pp x y (i + 1)) (i + k)) (fun j => fc_next x y i k j)
          clear hb
          go_wp2
          go_quiet (fail)
          go_wp2
          go_roundw
          case rel => exact ⟨k + 1, by omega, by go_num, rfl, st _⟩
          case measure => simp [intOf]; omega
        · obtain rfl : k = 4 := by omega
          have fc0 := hb.cc (i + 4) (by omega)
          rw [fc_at] at fc0
          have ff := hb.fc (i + 4)
          have e1 := ov_end x y i HY.out
          obtain ⟨ax1, ax2⟩ := dg_b (pp x y i) (i + 4)
          obtain ⟨ao1, ao2⟩ := ov_b x y i 4
          have st := hb.put (i + 4) (by omega) (dg (pp x y (i + 1)) (i + 4)) (fun j => fc_end x y i j HY.out)
          clear hb hk hk4
          go_wp2
          go_roundw
          case rel => exact ⟨i + 1, by omega, by go_num, st⟩
          case measure => simp [intOf]; omega
    · obtain rfl : i = 4 := by omega
      have F := BT.out hb
      have bl := hb.bl
      have BR := Lib.hid hb.br
      obtain ⟨c0, c1, c2, c3, c4, c5, c6, c7, c8, r0, r1, r2, r3, r4, r5, r6, r7, r8, ff⟩ := F
      clear hb hi hi4
      go_wp2
      exact bodyPost_ret (results_cell_row Try.results72 _ _ (w.heap.size + 1 + 1) 84 _ (0, 0) _ rfl (nine _ _ BR.out _ _ _ _ _ _ _ _ _) Try.underlying84 rfl (by kernel_rfl)) rfl ⟨rfl, nine_below bl _ (by omega) _ _ _ _ _ _ _ _ _⟩
theorem times_any (x y : Nat) (hx : x < BB ^ 4) (hy : y < BB ^ 4) (w : World) :
    Calls Try.prog 72 #[.agg #[.int .i64 (dg x 0), .int .i64 (dg x 1), .int .i64 (dg x 2), .int .i64 (dg x 3), .int .i64 (dg x 4), .int .i64 (dg x 5), .int .i64 (dg x 6), .int .i64 (dg x 7), .int .i64 (dg x 8)], .agg #[.int .i64 (dg y 0), .int .i64 (dg y 1), .int .i64 (dg y 2), .int .i64 (dg y 3), .int .i64 (dg y 4), .int .i64 (dg y 5), .int .i64 (dg y 6), .int .i64 (dg y 7), .int .i64 (dg y 8)]] w fun e w' => e = .returned (.agg #[.int .i64 (dg (x * y) 0), .int .i64 (dg (x * y) 1), .int .i64 (dg (x * y) 2), .int .i64 (dg (x * y) 3), .int .i64 (dg (x * y) 4), .int .i64 (dg (x * y) 5), .int .i64 (dg (x * y) 6), .int .i64 (dg (x * y) 7), .int .i64 (dg (x * y) 8)]) ∧ Below w.heap.size w w' := by
  have h := times_walk x y hy w
  rw [pp_four x y hx] at h
  exact h
end Go.Proofs.Yteoionlnnjcggaa.ar

/-
  What the reference's Of answers.
-/
namespace Go.Proofs.Yteoionlnnjcggaa.ar
open Go.RowKit
set_option linter.unusedVariables false


def un (n k : Nat) : Int := ((n / BB ^ k : Nat) : Int)
theorem un_zero (n : Nat) : un n 0 = n := by unfold un; simp
theorem un_b (n k : Nat) (h : n < 18446744073709551616) : 0 ≤ un n k ∧ un n k < 18446744073709551616 := by
  have := Nat.div_le_self n (BB ^ k)
  unfold un
  generalize n / BB ^ k = m at *
  omega
theorem un_and (n k : Nat) (h : n < 18446744073709551616) : bits .and .u64 (un n k) 2147483647 = dg n k := by
  have h0 := Nat.div_le_self n (BB ^ k)
  have h1 := bits_and_u64_nat (n / BB ^ k) 2147483647 (by omega) (by omega)
  have e : n / BB ^ k &&& 2147483647 = n / BB ^ k % 2147483648 := Nat.and_two_pow_sub_one_eq_mod _ 31
  rw [e] at h1
  unfold un dg dgn; rw [BB_eq] at *
  exact h1
theorem un_next (n k : Nat) : un n k / 2147483648 = un n (k + 1) := by
  have e : n / BB ^ (k + 1) = n / BB ^ k / BB := by rw [Nat.pow_succ, Nat.div_div_eq_div_mul]
  unfold un; rw [e, BB_eq]; omega
attribute [irreducible] un
theorem prt_three (n : Nat) (h : n < 18446744073709551616) : prt n 3 = bgA n := by
  have f : ∀ j, 3 ≤ j → dg n j = 0 := by
    intro j hj; unfold dg
    rw [dgn_far (n := 3) (Nat.lt_of_lt_of_le h (by decide)) hj]; rfl
  simp [prt, pc, bgA, f 3 (by omega), f 4 (by omega), f 5 (by omega), f 6 (by omega), f 7 (by omega), f 8 (by omega)]
structure BO (w wr : World) (n k : Nat) : Prop where
  br : wr.heap[w.heap.size]? = some (.cells #[.int .i64 0, .int .i64 0, .int .i64 0, .int .i64 0, .int .i64 0, .int .i64 0, .int .i64 0, .int .i64 0, .int .i64 0] 84 (0, 0))
  bc : wr.heap[w.heap.size + 1]? = some (.cells (prt n k) 84 (0, 0))
  bl : Below w.heap.size w wr
theorem BO.start (w : World) (n : Nat) : BO w ((w.alloc (.cells #[.int .i64 0, .int .i64 0, .int .i64 0, .int .i64 0, .int .i64 0, .int .i64 0, .int .i64 0, .int .i64 0, .int .i64 0] 84)).alloc (.cells #[.int .i64 0, .int .i64 0, .int .i64 0, .int .i64 0, .int .i64 0, .int .i64 0, .int .i64 0, .int .i64 0, .int .i64 0] 84)) n 0 := by
  refine ⟨heap_alloc2_old w _ _, ?_, bl_al (bl_al (Below.refl _ _) _) _⟩
  rw [prt_zero]; exact heap_alloc2_new w _ _
theorem BO.cc {w wr : World} {n k : Nat} (h : BO w wr n k) (hk : k < 9) : wr.cell? ⟨w.heap.size + 1, k, none⟩ = some (.int .i64 0) := by rw [cell_of_row _ _ _ _ _ _ h.bc, prt_at n k hk]
theorem BO.fc {w wr : World} {n k : Nat} (h : BO w wr n k) (j : Nat) : wr.frozen? ⟨w.heap.size + 1, j, none⟩ = false := frozen_of_row _ _ _ _ _ h.bc
theorem BO.step {w wr : World} {n k : Nat} (h : BO w wr n k) (hk : k < 9) : BO w (wr.setCell ⟨w.heap.size + 1, k, none⟩ (.int .i64 (dg n k))) n (k + 1) := by
  refine ⟨?_, ?_, h.bl.setCell (by show _ ≤ _ + 1; omega) _⟩
  · rw [heap_setCell_other _ _ _ _ (by show _ ≠ _ + 1; omega)]; exact h.br
  · rw [heap_setCell_same _ _ _ _ _ _ h.bc, prt_set n k hk]
theorem BO.out {w wr : World} {n : Nat} (hn : n < 18446744073709551616) (h : BO w wr n 3) :
    wr.cell? ⟨w.heap.size + 1, 0, none⟩ = some (.int .i64 (dg n 0)) ∧ wr.cell? ⟨w.heap.size + 1, 1, none⟩ = some (.int .i64 (dg n 1)) ∧ wr.cell? ⟨w.heap.size + 1, 2, none⟩ = some (.int .i64 (dg n 2)) ∧ wr.cell? ⟨w.heap.size + 1, 3, none⟩ = some (.int .i64 (dg n 3)) ∧ wr.cell? ⟨w.heap.size + 1, 4, none⟩ = some (.int .i64 (dg n 4)) ∧ wr.cell? ⟨w.heap.size + 1, 5, none⟩ = some (.int .i64 (dg n 5)) ∧ wr.cell? ⟨w.heap.size + 1, 6, none⟩ = some (.int .i64 (dg n 6)) ∧ wr.cell? ⟨w.heap.size + 1, 7, none⟩ = some (.int .i64 (dg n 7)) ∧ wr.cell? ⟨w.heap.size + 1, 8, none⟩ = some (.int .i64 (dg n 8)) ∧
    wr.cell? ⟨w.heap.size, 0, none⟩ = some (.int .i64 0) ∧ wr.cell? ⟨w.heap.size, 1, none⟩ = some (.int .i64 0) ∧ wr.cell? ⟨w.heap.size, 2, none⟩ = some (.int .i64 0) ∧ wr.cell? ⟨w.heap.size, 3, none⟩ = some (.int .i64 0) ∧ wr.cell? ⟨w.heap.size, 4, none⟩ = some (.int .i64 0) ∧ wr.cell? ⟨w.heap.size, 5, none⟩ = some (.int .i64 0) ∧ wr.cell? ⟨w.heap.size, 6, none⟩ = some (.int .i64 0) ∧ wr.cell? ⟨w.heap.size, 7, none⟩ = some (.int .i64 0) ∧ wr.cell? ⟨w.heap.size, 8, none⟩ = some (.int .i64 0) ∧ (∀ j, wr.frozen? ⟨w.heap.size, j, none⟩ = false) := by
  have hc := h.bc; rw [prt_three n hn] at hc
  have C := fun j (hj : j < 9) => (cell_of_row wr _ j _ _ _ hc).trans (bgA_at n j hj)
  have R := fun j => cell_of_row wr _ j _ _ _ h.br
  exact ⟨C 0 (by decide), C 1 (by decide), C 2 (by decide), C 3 (by decide), C 4 (by decide), C 5 (by decide), C 6 (by decide), C 7 (by decide), C 8 (by decide), R 0, R 1, R 2, R 3, R 4, R 5, R 6, R 7, R 8, fun j => frozen_of_row _ _ _ _ _ h.br⟩
set_option maxRecDepth 100000 in
theorem of_walk (a : Int) (n : Nat) (a1 : -9223372036854775808 ≤ a) (a2 : a ≤ 9223372036854775807) (hb : n < 18446744073709551616) (w : World)
    (hs : (a < 0 ∧ IntKind.u64.wrap (-IntKind.u64.wrap a) = un n 0) ∨ (0 ≤ a ∧ IntKind.u64.wrap a = un n 0)) :
    Calls Try.prog 73 #[.int .i64 a] w fun e w' => e = .returned (.agg #[.int .i64 (dg n 0), .int .i64 (dg n 1), .int .i64 (dg n 2), .int .i64 (dg n 3), .int .i64 (dg n 4), .int .i64 (dg n 5), .int .i64 (dg n 6), .int .i64 (dg n 7), .int .i64 (dg n 8)]) ∧ Below w.heap.size w w' := by
  have S := BO.start w n
  have HB := Lib.hid hb
  clear hb
  rcases hs with ⟨hlt, e0⟩ | ⟨hge, e0⟩
  all_goals
    go_enter Try.func73, Try.ntmps73
    go_wp2_with fail
    go_loopw [4, 5] (fun s t wr => ∃ k : Nat, k ≤ 3 ∧ t = .int .i64 k ∧ s = .int .u64 (un n k) ∧ BO w wr n k) (fun _ t _ => 3 - (intOf t).toNat)
    case atStart => exact ⟨0, by omega, rfl, rfl, S⟩
    case round =>
      obtain ⟨k, hk, rfl, rfl, hb⟩ := hrel
      clear S e0
      by_cases h3 : k < 3
      · have fc := hb.cc (by omega)
        have ff := hb.fc k
        have e1 := un_and n k HB.out
        have e2 := un_next n k
        obtain ⟨u1, u2⟩ := un_b n k HB.out
        obtain ⟨d1, d2⟩ := dg_b n k
        have k1 : (0 : Int) ≤ (k : Int) := by omega
        have k2 : (k : Int) < 9 := by omega
        have st := hb.step (by omega)
        clear hb
        go_wp2
        go_roundw
        case rel => exact ⟨k + 1, by omega, by go_num, rfl, st⟩
        case measure => simp [intOf]; omega
      · obtain rfl : k = 3 := by omega
        have F := BO.out HB.out hb
        have bl := hb.bl
        have BR := Lib.hid hb.br
        obtain ⟨c0, c1, c2, c3, c4, c5, c6, c7, c8, r0, r1, r2, r3, r4, r5, r6, r7, r8, ff⟩ := F
        clear hb h3 hk
        go_wp2
        exact bodyPost_ret (results_cell_row Try.results73 _ _ w.heap.size 84 _ (0, 0) _ rfl (nine _ _ BR.out _ _ _ _ _ _ _ _ _) Try.underlying84 rfl (by kernel_rfl)) rfl ⟨rfl, nine_below bl _ (by omega) _ _ _ _ _ _ _ _ _⟩
theorem of_any (a : Int) (a1 : -9223372036854775808 ≤ a) (a2 : a ≤ 9223372036854775807) (w : World) :
    Calls Try.prog 73 #[.int .i64 a] w fun e w' => e = .returned (.agg #[.int .i64 (dg a.natAbs 0), .int .i64 (dg a.natAbs 1), .int .i64 (dg a.natAbs 2), .int .i64 (dg a.natAbs 3), .int .i64 (dg a.natAbs 4), .int .i64 (dg a.natAbs 5), .int .i64 (dg a.natAbs 6), .int .i64 (dg a.natAbs 7), .int .i64 (dg a.natAbs 8)]) ∧ Below w.heap.size w w' := by
  refine of_walk a a.natAbs a1 a2 (by omega) w ?_
  rw [un_zero]
  rcases Int.lt_or_le a 0 with h | h
  · exact Or.inl ⟨h, size_neg a h a1⟩
  · exact Or.inr ⟨h, by rw [IntKind.wrap_u64]; omega⟩
end Go.Proofs.Yteoionlnnjcggaa.ar
