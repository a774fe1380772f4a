/-
  Plain arithmetic for the reference's numbers in parts of 31 bits: what a digit is, and what the school methods of adding, taking away, multiplying and comparing do digit by digit. No program in it. No condition.
-/
import Derived.Test.YtdeggnefbkcegaaArNum
namespace Go.Proofs.Ytdeggnefbkcegaa.ar
open Go.RowKit
set_option linter.unusedVariables false

def BB : Nat := 2147483648
theorem BB_eq : BB = 2147483648 := rfl
theorem BB_pos : 0 < BB := by decide
theorem BBp (k : Nat) : 0 < BB ^ k := Nat.pow_pos BB_pos
/-- part k of a number -/
def dgn (x k : Nat) : Nat := x / BB ^ k % BB
def dg (x k : Nat) : Int := (dgn x k : Int)
theorem dgn_lt (x k : Nat) : dgn x k < BB := Nat.mod_lt _ BB_pos
theorem dg_b (x k : Nat) : 0 ≤ dg x k ∧ dg x k < 2147483648 := by
  have := dgn_lt x k; rw [BB_eq] at this; unfold dg; omega
theorem dg_zero (k : Nat) : dg 0 k = 0 := by unfold dg dgn; simp

/-- the carry into part k of a sum -/
def cyn (x y k : Nat) : Nat := (x % BB ^ k + y % BB ^ k) / BB ^ k
def cy (x y k : Nat) : Int := (cyn x y k : Int)
theorem cy_zero (x y : Nat) : cy x y 0 = 0 := by unfold cy cyn; simp [Nat.mod_one]
theorem cyn_le (x y k : Nat) : cyn x y k ≤ 1 := by
  have h1 := Nat.mod_lt x (BBp k); have h2 := Nat.mod_lt y (BBp k)
  unfold cyn
  rw [Nat.le_iff_lt_add_one, Nat.div_lt_iff_lt_mul (BBp k)]; omega
theorem cy_b (x y k : Nat) : 0 ≤ cy x y k ∧ cy x y k ≤ 1 := by have := cyn_le x y k; unfold cy; omega
theorem add_div_eq (x y p : Nat) (hp : 0 < p) : (x + y) / p = x / p + y / p + (x % p + y % p) / p := by
  have e : x + y = (x % p + y % p) + p * (x / p + y / p) := by
    have h1 := Nat.div_add_mod x p; have h2 := Nat.div_add_mod y p
    rw [Nat.mul_add]; omega
  rw [e, Nat.add_mul_div_left _ _ hp]; omega
theorem dgn_add (x y k : Nat) : (dgn x k + dgn y k + cyn x y k) % BB = dgn (x + y) k := by
  unfold dgn cyn
  rw [add_div_eq x y _ (BBp k)]
  simp [Nat.add_mod]
theorem mod_succ (x k : Nat) : x % BB ^ (k + 1) = x % BB ^ k + BB ^ k * dgn x k := Nat.mod_pow_succ
theorem cyn_succ (x y k : Nat) : (dgn x k + dgn y k + cyn x y k) / BB = cyn x y (k + 1) := by
  have h : cyn x y (k + 1) = ((x % BB ^ k + y % BB ^ k) / BB ^ k + (dgn x k + dgn y k)) / BB := by
    unfold cyn
    rw [mod_succ, mod_succ, Nat.pow_succ, ← Nat.div_div_eq_div_mul]
    congr 1
    rw [show x % BB ^ k + BB ^ k * dgn x k + (y % BB ^ k + BB ^ k * dgn y k) = (x % BB ^ k + y % BB ^ k) + BB ^ k * (dgn x k + dgn y k) by rw [Nat.mul_add]; omega]
    rw [Nat.add_mul_div_left _ _ (BBp k)]
  rw [h]; unfold cyn; congr 1; omega
theorem dg_add (x y k : Nat) : (dg x k + dg y k + cy x y k) % 2147483648 = dg (x + y) k := by
  have := dgn_add x y k; rw [BB_eq] at this; unfold dg cy; omega
theorem cy_succ (x y k : Nat) : (dg x k + dg y k + cy x y k) / 2147483648 = cy x y (k + 1) := by
  have := cyn_succ x y k; rw [BB_eq] at this; unfold dg cy; omega

/-- the borrow into part k of a difference -/
def bw (x y k : Nat) : Int := if x % BB ^ k < y % BB ^ k then 1 else 0
theorem bw_zero (x y : Nat) : bw x y 0 = 0 := by unfold bw; simp [Nat.mod_one]
theorem bw_b (x y k : Nat) : 0 ≤ bw x y k ∧ bw x y k ≤ 1 := by unfold bw; split <;> decide
theorem lt_succ (x y k : Nat) : x % BB ^ (k + 1) < y % BB ^ (k + 1) ↔ dgn x k < dgn y k ∨ (dgn x k = dgn y k ∧ x % BB ^ k < y % BB ^ k) := by
  rw [mod_succ, mod_succ]
  have h1 := Nat.mod_lt x (BBp k); have h2 := Nat.mod_lt y (BBp k)
  generalize x % BB ^ k = r1 at *; generalize y % BB ^ k = r2 at *
  rcases Nat.lt_trichotomy (dgn x k) (dgn y k) with h | h | h
  · have : BB ^ k * (dgn x k + 1) ≤ BB ^ k * dgn y k := Nat.mul_le_mul_left _ h
    rw [Nat.mul_add] at this
    constructor
    · intro _; exact Or.inl h
    · intro _; omega
  · rw [h]; constructor
    · intro hh; exact Or.inr ⟨rfl, by omega⟩
    · rintro (hh | ⟨_, hh⟩) <;> omega
  · have : BB ^ k * (dgn y k + 1) ≤ BB ^ k * dgn x k := Nat.mul_le_mul_left _ h
    rw [Nat.mul_add] at this
    constructor
    · intro _; omega
    · rintro (hh | ⟨hh, _⟩) <;> omega
/-- the digit of a difference -/
theorem dgn_sub (x y k : Nat) (h : y ≤ x) : dgn x k + (if x % BB ^ (k + 1) < y % BB ^ (k + 1) then BB else 0) = dgn (x - y) k + dgn y k + (if x % BB ^ k < y % BB ^ k then 1 else 0) := by
  obtain ⟨d, rfl⟩ := Nat.exists_eq_add_of_le h
  rw [Nat.add_sub_cancel_left]
  have key : ∀ j, ((y + d) % BB ^ j < y % BB ^ j) ↔ cyn y d j = 1 := by
    intro j
    have h1 := Nat.mod_lt y (BBp j); have h2 := Nat.mod_lt d (BBp j)
    have hl := cyn_le y d j
    have hq := Nat.div_add_mod (y % BB ^ j + d % BB ^ j) (BB ^ j)
    have hm : (y + d) % BB ^ j = (y % BB ^ j + d % BB ^ j) % BB ^ j := Nat.add_mod _ _ _
    unfold cyn at *
    rw [hm]
    generalize y % BB ^ j = u at *; generalize d % BB ^ j = v at *; generalize BB ^ j = p at *
    generalize (u + v) % p = m at *
    generalize (u + v) / p = t at *
    rcases Nat.lt_or_ge t 1 with hz | hz
    · obtain rfl : t = 0 := by omega
      simp at hq; omega
    · obtain rfl : t = 1 := by omega
      simp at hq; omega
  have s1 := dgn_add y d k
  have s2 := cyn_succ y d k
  have l1 := cyn_le y d k; have l2 := cyn_le y d (k + 1)
  have q := Nat.div_add_mod (dgn y k + dgn d k + cyn y d k) BB
  rw [s1, s2] at q
  have k1 := key k; have k2 := key (k + 1)
  by_cases c1 : cyn y d k = 1 <;> by_cases c2 : cyn y d (k + 1) = 1
  · rw [if_pos (k2.2 c2), if_pos (k1.2 c1)]; rw [c1, c2] at q; omega
  · rw [if_neg (fun h => c2 (k2.1 h)), if_pos (k1.2 c1)]; have : cyn y d (k + 1) = 0 := by omega
    rw [c1, this] at q; omega
  · rw [if_pos (k2.2 c2), if_neg (fun h => c1 (k1.1 h))]; have : cyn y d k = 0 := by omega
    rw [c2, this] at q; omega
  · rw [if_neg (fun h => c2 (k2.1 h)), if_neg (fun h => c1 (k1.1 h))]; have : cyn y d k = 0 := by omega
    have : cyn y d (k + 1) = 0 := by omega
    simp [*] at q; omega
theorem dg_sub_neg (x y k : Nat) (h : y ≤ x) (hn : dg x k - dg y k - bw x y k < 0) : dg x k - dg y k - bw x y k + 2147483648 = dg (x - y) k ∧ bw x y (k + 1) = 1 := by
  have q := dgn_sub x y k h
  have b := dgn_lt (x - y) k
  rw [BB_eq] at b
  unfold bw dg at *
  have : x % BB ^ (k + 1) < y % BB ^ (k + 1) := by
    by_cases hc : x % BB ^ (k + 1) < y % BB ^ (k + 1)
    · exact hc
    · rw [if_neg hc] at q; split at q <;> simp_all <;> omega
  rw [if_pos this] at q ⊢
  refine ⟨?_, rfl⟩
  have hB : BB = 2147483648 := rfl
  by_cases hc : x % BB ^ k < y % BB ^ k
  · rw [if_pos hc] at *; omega
  · rw [if_neg hc] at *; omega
theorem dg_sub_pos (x y k : Nat) (h : y ≤ x) (hn : ¬ dg x k - dg y k - bw x y k < 0) : dg x k - dg y k - bw x y k = dg (x - y) k ∧ bw x y (k + 1) = 0 := by
  have q := dgn_sub x y k h
  have b := dgn_lt (x - y) k
  have bx := dgn_lt x k
  unfold bw dg at *
  have : ¬ x % BB ^ (k + 1) < y % BB ^ (k + 1) := by
    intro hc
    rw [if_pos hc] at q; split at q <;> simp_all <;> omega
  rw [if_neg this] at q ⊢
  refine ⟨?_, rfl⟩
  split at q <;> simp_all <;> omega

/-- comparing from the top -/
def eqAbove (x y k : Nat) : Prop := x / BB ^ k = y / BB ^ k
theorem div_succ (x k : Nat) : x / BB ^ k = BB * (x / BB ^ (k + 1)) + dgn x k := by
  unfold dgn
  rw [Nat.pow_succ, ← Nat.div_div_eq_div_mul]
  exact (Nat.div_add_mod _ _).symm
theorem eqAbove_step {x y k : Nat} (h : eqAbove x y (k + 1)) (hd : dgn x k = dgn y k) : eqAbove x y k := by
  unfold eqAbove at *; rw [div_succ x, div_succ y, h, hd]
theorem lt_of_digit {x y k : Nat} (h : eqAbove x y (k + 1)) (hd : dgn x k < dgn y k) : x < y := by
  have h1 : x / BB ^ k < y / BB ^ k := by rw [div_succ x, div_succ y, h]; omega
  exact Nat.lt_of_not_le fun hc => by have := Nat.div_le_div_right (c := BB ^ k) hc; omega
theorem eqAbove_top {x y : Nat} (hx : x < BB ^ 9) (hy : y < BB ^ 9) : eqAbove x y 9 := by
  unfold eqAbove; rw [Nat.div_eq_of_lt hx, Nat.div_eq_of_lt hy]
theorem eqAbove_zero {x y : Nat} (h : eqAbove x y 0) : x = y := by simpa [eqAbove] using h

/-! the school method of multiplying -/
def pp (x y i : Nat) : Nat := x % BB ^ i * y
def rr (x y i k : Nat) : Nat := pp x y i % BB ^ (i + k) + BB ^ i * (dgn x i * (y % BB ^ k))
def ovn (x y i k : Nat) : Nat := rr x y i k / BB ^ (i + k)
def ov (x y i k : Nat) : Int := (ovn x y i k : Int)
theorem pp_succ (x y i : Nat) : pp x y (i + 1) = pp x y i + BB ^ i * (dgn x i * y) := by
  unfold pp; rw [mod_succ, Nat.add_mul, Nat.mul_assoc]
theorem rr_succ (x y i k : Nat) : rr x y i (k + 1) = rr x y i k + BB ^ (i + k) * (dgn (pp x y i) (i + k) + dgn x i * dgn y k) := by
  unfold rr
  rw [show i + (k + 1) = (i + k) + 1 from rfl, mod_succ, mod_succ, Nat.mul_add (dgn x i), Nat.mul_add (BB ^ i), Nat.mul_add (BB ^ (i + k)), Nat.pow_add]
  have e : BB ^ i * (dgn x i * (BB ^ k * dgn y k)) = BB ^ i * BB ^ k * (dgn x i * dgn y k) := by
    rw [Nat.mul_left_comm (dgn x i), ← Nat.mul_assoc]
  rw [e]; omega
theorem ovn_zero (x y i : Nat) : ovn x y i 0 = 0 := by
  unfold ovn rr; simp [Nat.mod_one]
theorem rr_step (x y i k : Nat) : rr x y i (k + 1) / BB ^ (i + k) = dgn (pp x y i) (i + k) + dgn x i * dgn y k + ovn x y i k := by
  rw [rr_succ, Nat.add_mul_div_left _ _ (BBp _)]; unfold ovn; omega
theorem ovn_succ (x y i k : Nat) : (dgn (pp x y i) (i + k) + dgn x i * dgn y k + ovn x y i k) / BB = ovn x y i (k + 1) := by
  rw [← rr_step, Nat.div_div_eq_div_mul, ← Nat.pow_succ]; rfl
theorem pp_rr (x y i k : Nat) : ∃ z, pp x y (i + 1) = rr x y i k + BB ^ (i + k) * z := by
  refine ⟨pp x y i / BB ^ (i + k) + dgn x i * (y / BB ^ k), ?_⟩
  rw [pp_succ]; unfold rr
  have h1 := Nat.div_add_mod (pp x y i) (BB ^ (i + k))
  have h2 := Nat.div_add_mod y (BB ^ k)
  have e : BB ^ i * (dgn x i * y) = BB ^ i * (dgn x i * (y % BB ^ k)) + BB ^ (i + k) * (dgn x i * (y / BB ^ k)) := by
    rw [Nat.pow_add, Nat.mul_assoc, ← Nat.mul_add, Nat.mul_left_comm (BB ^ k), ← Nat.mul_add (dgn x i)]
    rw [Nat.add_comm (y % BB ^ k), h2]
  rw [e, Nat.mul_add]; omega
theorem dgn_pp (x y i k : Nat) : (dgn (pp x y i) (i + k) + dgn x i * dgn y k + ovn x y i k) % BB = dgn (pp x y (i + 1)) (i + k) := by
  obtain ⟨z, hz⟩ := pp_rr x y i (k + 1)
  rw [← rr_step]
  show _ = pp x y (i + 1) / BB ^ (i + k) % BB
  rw [hz, show i + (k + 1) = (i + k) + 1 from rfl, Nat.pow_succ, Nat.mul_assoc, Nat.add_mul_div_left _ _ (BBp _), Nat.add_mul_mod_self_left]
theorem ovn_lt (x y i k : Nat) : ovn x y i k < BB := by
  unfold ovn
  rw [Nat.div_lt_iff_lt_mul (BBp _)]
  unfold rr
  have h1 := Nat.mod_lt (pp x y i) (BBp (i + k))
  have h2 := Nat.mod_lt y (BBp k)
  have h3 : dgn x i * (y % BB ^ k) ≤ (BB - 1) * BB ^ k := Nat.mul_le_mul (by have := dgn_lt x i; omega) (by omega)
  have h4 : BB ^ i * (dgn x i * (y % BB ^ k)) ≤ BB ^ i * ((BB - 1) * BB ^ k) := Nat.mul_le_mul_left _ h3
  have h5 : BB ^ i * ((BB - 1) * BB ^ k) = (BB - 1) * BB ^ (i + k) := by rw [Nat.pow_add, Nat.mul_left_comm]
  have h6 : BB * BB ^ (i + k) = (BB - 1) * BB ^ (i + k) + BB ^ (i + k) := by
    rw [← Nat.succ_mul]; rfl
  omega
theorem dgn_small {x k : Nat} (h : x < BB ^ k) : dgn x k = 0 := by unfold dgn; rw [Nat.div_eq_of_lt h]; rfl
theorem pp_lt (x y i : Nat) (hy : y < BB ^ 4) : pp x y i < BB ^ (i + 4) := by
  unfold pp
  have h1 := Nat.mod_lt x (BBp i)
  rw [Nat.pow_add]
  calc x % BB ^ i * y ≤ x % BB ^ i * BB ^ 4 := Nat.mul_le_mul_left _ (by omega)
    _ < BB ^ i * BB ^ 4 := Nat.mul_lt_mul_of_pos_right h1 (BBp 4)
theorem dgn_far {x n j : Nat} (h : x < BB ^ n) (hj : n ≤ j) : dgn x j = 0 := dgn_small (Nat.lt_of_lt_of_le h (Nat.pow_le_pow_right BB_pos hj))
theorem ovn_end (x y i : Nat) (hy : y < BB ^ 4) : dgn (pp x y i) (i + 4) + ovn x y i 4 = dgn (pp x y (i + 1)) (i + 4) := by
  have hp := pp_lt x y i hy
  have hq := pp_lt x y (i + 1) hy
  rw [dgn_small hp]
  unfold ovn rr dgn
  rw [Nat.mod_eq_of_lt hp, Nat.mod_eq_of_lt hy]
  have e := pp_succ x y i
  unfold dgn at e
  rw [← e, Nat.zero_add]
  refine (Nat.mod_eq_of_lt ?_).symm
  rw [Nat.div_lt_iff_lt_mul (BBp _), Nat.mul_comm, ← Nat.pow_succ]
  have e2 : (i + 4).succ = i + 1 + 4 := by omega
  rw [e2]
  exact hq
theorem dgn_low (x y i j : Nat) (h : j < i) : dgn (pp x y (i + 1)) j = dgn (pp x y i) j := by
  rw [pp_succ]; unfold dgn
  obtain ⟨d, rfl⟩ := Nat.exists_eq_add_of_lt h
  rw [show j + d + 1 = j + (d + 1) from rfl, Nat.pow_add, Nat.mul_assoc, Nat.add_mul_div_left _ _ (BBp j), Nat.pow_succ, Nat.mul_comm (BB ^ d), Nat.mul_assoc, Nat.add_mul_mod_self_left]
theorem pp_zero (x y : Nat) : pp x y 0 = 0 := by unfold pp; simp [Nat.mod_one]
theorem pp_four (x y : Nat) (hx : x < BB ^ 4) : pp x y 4 = x * y := by unfold pp; rw [Nat.mod_eq_of_lt hx]
/-- part j of the sum on the way -/
def fc (x y i k j : Nat) : Int := if j < i + k then dg (pp x y (i + 1)) j else dg (pp x y i) j
theorem fc_zero (x y i j : Nat) : fc x y i 0 j = dg (pp x y i) j := by
  unfold fc; split
  · unfold dg; rw [dgn_low _ _ _ _ (by omega)]
  · rfl
theorem fc_at (x y i k : Nat) : fc x y i k (i + k) = dg (pp x y i) (i + k) := by unfold fc; rw [if_neg (by omega)]
theorem fc_next (x y i k j : Nat) : (if j = i + k then dg (pp x y (i + 1)) (i + k) else fc x y i k j) = fc x y i (k + 1) j := by
  unfold fc
  by_cases h : j = i + k
  · subst h; rw [if_pos rfl, if_pos (by omega)]
  · rw [if_neg h]
    by_cases h2 : j < i + k
    · rw [if_pos h2, if_pos (by omega)]
    · rw [if_neg h2, if_neg (by omega)]
theorem fc_end (x y i j : Nat) (hy : y < BB ^ 4) : (if j = i + 4 then dg (pp x y (i + 1)) (i + 4) else fc x y i 4 j) = dg (pp x y (i + 1)) j := by
  unfold fc
  by_cases h : j = i + 4
  · subst h; rw [if_pos rfl]
  · rw [if_neg h]
    by_cases h2 : j < i + 4
    · rw [if_pos h2]
    · rw [if_neg h2]; unfold dg
      rw [dgn_far (pp_lt x y i hy) (by omega), dgn_far (pp_lt x y (i + 1) hy) (by omega)]
theorem ov_b (x y i k : Nat) : 0 ≤ ov x y i k ∧ ov x y i k < 2147483648 := by have := ovn_lt x y i k; rw [BB_eq] at this; unfold ov; omega
theorem ov_zero (x y i : Nat) : ov x y i 0 = 0 := by unfold ov; rw [ovn_zero]; rfl
theorem ov_end (x y i : Nat) (hy : y < BB ^ 4) : dg (pp x y i) (i + 4) + ov x y i 4 = dg (pp x y (i + 1)) (i + 4) := by
  have := ovn_end x y i hy; unfold dg ov; omega
theorem dg_mul_b (x y i k : Nat) : 0 ≤ dg x i * dg y k ∧ dg x i * dg y k ≤ 4611686014132420609 := by
  have h1 := dgn_lt x i; have h2 := dgn_lt y k
  have h3 : dgn x i * dgn y k ≤ 2147483647 * 2147483647 := Nat.mul_le_mul (by rw [BB_eq] at h1; omega) (by rw [BB_eq] at h2; omega)
  have e : dg x i * dg y k = ((dgn x i * dgn y k : Nat) : Int) := by unfold dg; rw [Int.natCast_mul]
  rw [e]; omega
theorem dg_pp (x y i k : Nat) : (dg (pp x y i) (i + k) + dg x i * dg y k + ov x y i k) % 2147483648 = dg (pp x y (i + 1)) (i + k) := by
  have := dgn_pp x y i k; rw [BB_eq] at this
  have e : dg x i * dg y k = ((dgn x i * dgn y k : Nat) : Int) := by unfold dg; rw [Int.natCast_mul]
  rw [e]; unfold dg ov; omega
theorem ov_succ (x y i k : Nat) : (dg (pp x y i) (i + k) + dg x i * dg y k + ov x y i k) / 2147483648 = ov x y i (k + 1) := by
  have := ovn_succ x y i k; rw [BB_eq] at this
  have e : dg x i * dg y k = ((dgn x i * dgn y k : Nat) : Int) := by unfold dg; rw [Int.natCast_mul]
  rw [e]; unfold dg ov; omega
/-- is a number less than another -/
def ltb (x y : Nat) : Bool := decide (x < y)
attribute [irreducible] dg cy bw ov fc ltb pp
end Go.Proofs.Ytdeggnefbkcegaa.ar
