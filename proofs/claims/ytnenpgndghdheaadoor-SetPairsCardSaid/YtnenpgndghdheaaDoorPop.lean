/-
  How many bits of a number are set: plain mathematics of the parallel sum of math/bits.
-/
import Derived.WalkKit
namespace Go.Proofs.YtnenpgndghdheaaDoor
set_option linter.unusedVariables false
/-- how many of the n lowest bits are set -/
def pc : Nat → Nat → Nat
  | 0, _ => 0
  | n + 1, x => x % 2 + pc n (x / 2)
theorem pc_zero (x : Nat) : pc 0 x = 0 := rfl
theorem pc_succ (n x : Nat) : pc (n + 1) x = x % 2 + pc n (x / 2) := rfl
theorem pc_le : ∀ n x, pc n x ≤ n
  | 0, _ => Nat.le_refl _
  | n + 1, x => by have := pc_le n (x / 2); rw [pc_succ]; omega
def M0 : Nat → Nat
  | 0 => 0
  | n + 1 => 4 * M0 n + 1
def M1 : Nat → Nat
  | 0 => 0
  | n + 1 => 16 * M1 n + 3
def M2 : Nat → Nat
  | 0 => 0
  | n + 1 => 256 * M2 n + 15
theorem M0_32 : M0 32 = 6148914691236517205 := by decide +kernel
theorem M1_16 : M1 16 = 3689348814741910323 := by decide +kernel
theorem M2_8 : M2 8 = 1085102592571150095 := by decide +kernel
def D (b : Nat) : Nat → Nat → Nat
  | 0, _ => 0
  | n + 1, x => x % b + D b n (x / b)
theorem D_zero (b x : Nat) : D b 0 x = 0 := rfl
theorem D_succ (b n x : Nat) : D b (n + 1) x = x % b + D b n (x / b) := rfl
theorem and4 (x m r : Nat) (hr : r < 4) : x &&& (4 * m + r) = 4 * (x / 4 &&& m) + (x % 4 &&& r) := by
  have h1 := Nat.and_div_two_pow (a := x) (b := 4 * m + r) (n := 2)
  have h2 := Nat.and_mod_two_pow (a := x) (b := 4 * m + r) (n := 2)
  simp only [show (2 : Nat) ^ 2 = 4 from rfl] at h1 h2
  rw [show (4 * m + r) / 4 = m by omega] at h1
  rw [show (4 * m + r) % 4 = r by omega] at h2
  rw [← h1, ← h2]; omega
theorem and16 (x m r : Nat) (hr : r < 16) : x &&& (16 * m + r) = 16 * (x / 16 &&& m) + (x % 16 &&& r) := by
  have h1 := Nat.and_div_two_pow (a := x) (b := 16 * m + r) (n := 4)
  have h2 := Nat.and_mod_two_pow (a := x) (b := 16 * m + r) (n := 4)
  simp only [show (2 : Nat) ^ 4 = 16 from rfl] at h1 h2
  rw [show (16 * m + r) / 16 = m by omega] at h1
  rw [show (16 * m + r) % 16 = r by omega] at h2
  rw [← h1, ← h2]; omega
theorem and256 (x m r : Nat) (hr : r < 256) : x &&& (256 * m + r) = 256 * (x / 256 &&& m) + (x % 256 &&& r) := by
  have h1 := Nat.and_div_two_pow (a := x) (b := 256 * m + r) (n := 8)
  have h2 := Nat.and_mod_two_pow (a := x) (b := 256 * m + r) (n := 8)
  simp only [show (2 : Nat) ^ 8 = 256 from rfl] at h1 h2
  rw [show (256 * m + r) / 256 = m by omega] at h1
  rw [show (256 * m + r) % 256 = r by omega] at h2
  rw [← h1, ← h2]; omega
theorem low1 (x : Nat) : x &&& 1 = x % 2 := Nat.and_two_pow_sub_one_eq_mod x 1
theorem low3 (x : Nat) : x &&& 3 = x % 4 := Nat.and_two_pow_sub_one_eq_mod x 2
theorem low15 (x : Nat) : x &&& 15 = x % 16 := Nat.and_two_pow_sub_one_eq_mod x 4
theorem low127 (x : Nat) : x &&& 127 = x % 128 := Nat.and_two_pow_sub_one_eq_mod x 7
def s1 (n x : Nat) : Nat := (x / 2 &&& M0 n) + (x &&& M0 n)
def s2 (n x : Nat) : Nat := (x / 4 &&& M1 n) + (x &&& M1 n)
def s3 (n x : Nat) : Nat := (x / 16 + x) &&& M2 n
theorem s1_succ (n x : Nat) : s1 (n + 1) x = 4 * s1 n (x / 4) + (x / 2 % 2 + x % 2) := by
  unfold s1
  rw [show M0 (n + 1) = 4 * M0 n + 1 from rfl, and4 _ _ _ (by decide), and4 x _ _ (by decide), low1, low1, show x / 2 / 4 = x / 4 / 2 by omega, show x / 2 % 4 % 2 = x / 2 % 2 by omega, show x % 4 % 2 = x % 2 by omega]
  omega
theorem s2_succ (n x : Nat) : s2 (n + 1) x = 16 * s2 n (x / 16) + (x / 4 % 4 + x % 4) := by
  unfold s2
  rw [show M1 (n + 1) = 16 * M1 n + 3 from rfl, and16 _ _ _ (by decide), and16 x _ _ (by decide), low3, low3, show x / 4 / 16 = x / 16 / 4 by omega, show x / 4 % 16 % 4 = x / 4 % 4 by omega, show x % 16 % 4 = x % 4 by omega]
  omega
theorem s1_D : ∀ n x, D 4 n (s1 n x) = pc (2 * n) x
  | 0, x => rfl
  | n + 1, x => by
    rw [s1_succ, D_succ, show 2 * (n + 1) = 2 * n + 1 + 1 by omega, pc_succ, pc_succ, show (4 * s1 n (x / 4) + (x / 2 % 2 + x % 2)) % 4 = x / 2 % 2 + x % 2 by omega, show (4 * s1 n (x / 4) + (x / 2 % 2 + x % 2)) / 4 = s1 n (x / 4) by omega, s1_D n, show x / 2 / 2 = x / 4 by omega]
    omega
/-- every digit is small -/
def Dg : Nat → Nat → Prop
  | 0, x => x = 0
  | n + 1, x => x % 16 ≤ 6 ∧ Dg n (x / 16)
theorem Dg.low {n x : Nat} (h : Dg n x) : x % 16 ≤ 6 := by
  cases n with
  | zero => rw [show x = 0 from h]; decide
  | succ n => exact h.1
theorem s2_D : ∀ n x, D 16 n (s2 n x) = D 4 (2 * n) x ∧ Dg n (s2 n x)
  | 0, x => ⟨rfl, by unfold s2 Dg M1; simp⟩
  | n + 1, x => by
    obtain ⟨h1, h2⟩ := s2_D n (x / 16)
    have e1 : (16 * s2 n (x / 16) + (x / 4 % 4 + x % 4)) % 16 = x / 4 % 4 + x % 4 := by omega
    have e2 : (16 * s2 n (x / 16) + (x / 4 % 4 + x % 4)) / 16 = s2 n (x / 16) := by omega
    rw [s2_succ]
    constructor
    · rw [D_succ, show 2 * (n + 1) = 2 * n + 1 + 1 by omega, D_succ, D_succ, e1, e2, h1, show x / 4 / 4 = x / 16 by omega]
      omega
    · refine ⟨by rw [e1]; omega, ?_⟩
      rw [e2]; exact h2
theorem s3_succ (n x : Nat) (h0 : x % 16 ≤ 6) (h1 : x / 16 % 16 ≤ 6) (h2 : x / 256 % 16 ≤ 6) : s3 (n + 1) x = 256 * s3 n (x / 256) + (x / 16 % 16 + x % 16) := by
  unfold s3
  have e : x / 16 / 16 = x / 256 := by omega
  rw [show M2 (n + 1) = 256 * M2 n + 15 from rfl, and256 _ _ _ (by decide), low15, show (x / 16 + x) / 256 = x / 256 / 16 + x / 256 by omega, show (x / 16 + x) % 256 % 16 = x / 16 % 16 + x % 16 by omega]
/-- .. in bytes -/
def Dh : Nat → Nat → Prop
  | 0, x => x = 0
  | n + 1, x => x % 256 ≤ 12 ∧ Dh n (x / 256)
theorem s3_D : ∀ n x, Dg (2 * n) x → D 256 n (s3 n x) = D 16 (2 * n) x ∧ Dh n (s3 n x)
  | 0, x, h => ⟨rfl, by unfold s3 Dh M2; simp⟩
  | n + 1, x, h => by
    rw [show 2 * (n + 1) = 2 * n + 1 + 1 by omega] at h
    obtain ⟨g0, g1, g2⟩ := h
    rw [show x / 16 / 16 = x / 256 by omega] at g2
    obtain ⟨h1, h2⟩ := s3_D n (x / 256) g2
    have hl := g2.low
    rw [s3_succ n x g0 g1 hl]
    have e1 : (256 * s3 n (x / 256) + (x / 16 % 16 + x % 16)) % 256 = x / 16 % 16 + x % 16 := by omega
    have e2 : (256 * s3 n (x / 256) + (x / 16 % 16 + x % 16)) / 256 = s3 n (x / 256) := by omega
    constructor
    · rw [D_succ, show 2 * (n + 1) = 2 * n + 1 + 1 by omega, D_succ, D_succ, e1, e2, h1, show x / 16 / 16 = x / 256 by omega]
      omega
    · refine ⟨by rw [e1]; omega, ?_⟩
      rw [e2]; exact h2
theorem div_tail (r q m : Nat) (h : r < m) : (r + m * q) / m = q := by rw [Nat.add_mul_div_left _ _ (by omega), Nat.div_eq_of_lt h, Nat.zero_add]
theorem fold_core (b0 b1 b2 b3 b4 b5 b6 b7 t t1 t2 t3 t4 t5 t6 : Nat) (l0 : b0 ≤ 12) (l1 : b1 ≤ 12) (l2 : b2 ≤ 12) (l3 : b3 ≤ 12) (l4 : b4 ≤ 12) (l5 : b5 ≤ 12) (l6 : b6 ≤ 12) (l7 : b7 ≤ 12)
    (q0 : t = b0 + 256 * t1) (q1 : t1 = b1 + 256 * t2) (q2 : t2 = b2 + 256 * t3) (q3 : t3 = b3 + 256 * t4) (q4 : t4 = b4 + 256 * t5) (q5 : t5 = b5 + 256 * t6) (q6 : t6 = b6 + 256 * b7) :
    t < 2 ^ 60 ∧ (t + t1) / 65536 = t2 + t3 ∧ (t + t1 + (t2 + t3)) / 4294967296 = t4 + t5 + (t6 + b7) ∧ (t + t1 + (t2 + t3) + (t4 + t5 + (t6 + b7))) % 128 = (b0 + (b1 + (b2 + (b3 + (b4 + (b5 + (b6 + (b7 + 0)))))))) := by
  have w6 : t6 ≤ 3084 := by omega
  have w5 : t5 ≤ 789516 := by omega
  have w4 : t4 ≤ 202116108 := by omega
  have w3 : t3 ≤ 51741723660 := by omega
  have w2 : t2 ≤ 13245881256972 := by omega
  have w1 : t1 ≤ 3390945601784844 := by omega
  have w0 : t ≤ 868082074056920076 := by omega
  have z1 : (t + t1) / 65536 = t2 + t3 := by
    have e : t + t1 = (b0 + b1 + 256 * (b1 + b2)) + 65536 * (t2 + t3) := by clear w0 w1 w2 w3 w4 w5 w6 q3 q4 q5 q6; omega
    rw [e]
    exact div_tail _ _ _ (by clear w0 w1 w2 w3 w4 w5 w6 q0 q1 q2 q3 q4 q5 q6 e; omega)
  have z2 : (t + t1 + (t2 + t3)) / 4294967296 = t4 + t5 + (t6 + b7) := by
    have e : t + t1 + (t2 + t3) = (b0 + b1 + b2 + b3 + 256 * (b1 + b2 + b3 + b4) + 65536 * (b2 + b3 + b4 + b5) + 16777216 * (b3 + b4 + b5 + b6)) + 4294967296 * (t4 + t5 + (t6 + b7)) := by
      subst q0; subst q1; subst q2; subst q3
      clear w0 w1 w2 w3 w4 w5 w6 z1 l0 l1 l2 l3 l4 l5 l6 l7
      subst q4; subst q5; subst q6
      omega
    rw [e]
    exact div_tail _ _ _ (by clear w0 w1 w2 w3 w4 w5 w6 q0 q1 q2 q3 q4 q5 q6 e z1; omega)
  refine ⟨by omega, z1, z2, ?_⟩
  have e : t + t1 + (t2 + t3) + (t4 + t5 + (t6 + b7)) = (b0 + b1 + b2 + b3 + b4 + b5 + b6 + b7) + 128 * (2 * (t1 + t2 + t3 + t4 + t5 + t6 + b7)) := by
    clear w0 w1 w2 w3 w4 w5 w6 z1 z2 l0 l1 l2 l3 l4 l5 l6 l7
    omega
  rw [e, Nat.add_mul_mod_self_left, Nat.mod_eq_of_lt (by clear w0 w1 w2 w3 w4 w5 w6 q0 q1 q2 q3 q4 q5 q6 e z1 z2; omega)]
  clear w0 w1 w2 w3 w4 w5 w6 q0 q1 q2 q3 q4 q5 q6 e z1 z2
  omega
theorem Dh.cut {n x : Nat} (h : Dh (n + 1) x) : ∃ b y, x = b + 256 * y ∧ b ≤ 12 ∧ Dh n y ∧ x % 256 = b ∧ x / 256 = y := ⟨x % 256, x / 256, by omega, h.1, h.2, rfl, rfl⟩
theorem fold8 (t : Nat) (h : Dh 8 t) : t < 2 ^ 60 ∧ (t + t / 256 + (t + t / 256) / 65536 + (t + t / 256 + (t + t / 256) / 65536) / 4294967296) % 128 = D 256 8 t := by
  obtain ⟨b0, t1, q0, l0, h1, r0, s0⟩ := h.cut
  obtain ⟨b1, t2, q1, l1, h2, r1, s1⟩ := h1.cut
  obtain ⟨b2, t3, q2, l2, h3, r2, s2⟩ := h2.cut
  obtain ⟨b3, t4, q3, l3, h4, r3, s3⟩ := h3.cut
  obtain ⟨b4, t5, q4, l4, h5, r4, s4⟩ := h4.cut
  obtain ⟨b5, t6, q5, l5, h6, r5, s5⟩ := h5.cut
  obtain ⟨b6, t7, q6, l6, h7, r6, s6⟩ := h6.cut
  obtain ⟨b7, t8, q7, l7, h8, r7, s7⟩ := h7.cut
  have q8 : t8 = 0 := h8
  have e7 : t7 = b7 := by rw [q7, q8]; rfl
  rw [e7] at q6
  obtain ⟨f1, f2, f3, f4⟩ := fold_core b0 b1 b2 b3 b4 b5 b6 b7 t t1 t2 t3 t4 t5 t6 l0 l1 l2 l3 l4 l5 l6 l7 q0 q1 q2 q3 q4 q5 q6
  refine ⟨f1, ?_⟩
  rw [s0, f2, f3, f4]
  simp only [D_succ, D_zero]
  rw [s0, s1, s2, s3, s4, s5, s6, r0, r1, r2, r3, r4, r5, r6, r7]
/-- the parallel sum -/
theorem pop64 (x : Nat) : (let y := s3 8 (s2 16 (s1 32 x)); (y + y / 256 + (y + y / 256) / 65536 + (y + y / 256 + (y + y / 256) / 65536) / 4294967296) % 128 = pc 64 x) := by
  obtain ⟨h1, h2⟩ := s2_D 16 (s1 32 x)
  obtain ⟨h3, h4⟩ := s3_D 8 (s2 16 (s1 32 x)) h2
  have := (fold8 _ h4).2
  rw [h3, h1, s1_D] at this
  exact this
end Go.Proofs.YtnenpgndghdheaaDoor
