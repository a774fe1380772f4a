import Derived.Test.YtlhpiikpmmlpeaaDoorProg
import Derived.WalkKit
import Derived.ProofKit
import Derived.OpenShut
import Derived.Below
import Derived.Lib.Hide
import Derived.LoopTactic
import Derived.IntWalk
import Derived.OwnWalk
import Derived.Laws.AppendOwn
import Derived.Laws.OwnMore
import Derived.Deep.AppendLies
import Derived.Maps.AppendAt
import Derived.Deep.QuietTactic
import Derived.BigQuiet
import Derived.Deep.RegionWith
import Derived.Deep.RegionHeld3
import Derived.Lib.TrailingZeros
import Derived.Shelf.Spec.TrailingZeros
import Derived.Laws.ShiftsVar
import Derived.Laws.Rows
import Derived.ChangeKeysEq

/-
  Words for lists of numbers in blocks of their own.
-/
namespace Go.Proofs.YtlhpiikpmmlpeaaDoor.st
open Go.RowKit
set_option linter.unusedVariables false

theorem bl_al {a w : World} (h : Below a.heap.size a w) (o : Obj) : Below a.heap.size a (w.alloc o) := h.alloc h.size o
theorem bl_tr {a w w1 : World} (h : Below a.heap.size a w) (k : Below w.heap.size w w1) : Below a.heap.size a w1 := h.trans (k.mono h.size)
theorem bl_dn {B : Nat} {a w : World} (h : Below B a w) (n : Nat) : Below B a (w.drewN n) := ⟨h.os, h.tape, h.output, h.size, h.block⟩
theorem bl_drew (X : World) : Below X.heap.size X X.drew := ⟨rfl, rfl, rfl, Nat.le_refl _, fun _ _ => rfl⟩
theorem bl_undr {X w : World} (h : Below X.drew.heap.size X.drew w) : Below X.heap.size X w := ⟨h.os, h.tape, h.output, h.size, h.block⟩
theorem lt_hp {w : World} {k : Nat} {o : Obj} (h : w.heap[k]? = some o) : k < w.heap.size := by
  rcases Nat.lt_or_ge k w.heap.size with hlt | hge
  · exact hlt
  · rw [Array.getElem?_eq_none hge] at h; cases h
/-- a number of a list -/
def nth (l : List Int) (j : Nat) : Int := l[j]?.getD 0
theorem nth_at (l : List Int) (j : Nat) (h : j < l.length) : nth l j = l[j] := by unfold nth; rw [List.getElem?_eq_getElem h]; rfl
theorem nth_set (l : List Int) (i j : Nat) (v : Int) (hi : i < l.length) : nth (l.set i v) j = if i = j then v else nth l j := by
  unfold nth
  rw [List.getElem?_set]
  by_cases h : i = j
  · subst h; simp [hi]
  · simp [h]
theorem nth_ext (l m : List Int) (h : l.length = m.length) (he : ∀ j, j < l.length → nth l j = nth m j) : l = m := by
  apply List.ext_getElem h
  intro j h1 h2
  have := he j h1
  rwa [nth_at l j h1, nth_at m j h2] at this
attribute [irreducible] nth
/-- a list in a block of its own, all of it -/
def Own (B g n cap : Nat) (l : List Int) (w0 wr : World) : Prop := l.length = n ∧ B ≤ g ∧ wr.ownsRow B 3 1 (.slice (some ⟨g, 0, none⟩) n cap) n (l.map (Value.int .i64)) ∧ Below B w0 wr
theorem Own.cell {B g n cap : Nat} {l : List Int} {w0 wr : World} (h : Own B g n cap l w0 wr) (j : Nat) (hj : j < n) : wr.cell? ⟨g, j, none⟩ = some (.int .i64 (nth l j)) := by
  obtain ⟨h1, h2, h3, h4⟩ := h
  rw [h3.cellAt j (by omega), List.getElem?_map, List.getElem?_eq_getElem (by omega), nth_at l j (by omega)]
  rfl
theorem Own.frozen {B g n cap : Nat} {l : List Int} {w0 wr : World} (h : Own B g n cap l w0 wr) (j : Nat) : wr.frozen? ⟨g, j, none⟩ = false := h.2.2.1.frozenAt j
theorem Own.set {B g n cap : Nat} {l : List Int} {w0 wr : World} (h : Own B g n cap l w0 wr) (j : Nat) (v : Int) : Own B g n cap (l.set j v) w0 (wr.setCell ⟨g, j, none⟩ (.int .i64 v)) := by
  obtain ⟨h1, h2, h3, h4⟩ := h
  refine ⟨by simpa using h1, h2, ?_, h4.setCell (p := ⟨g, j, none⟩) h2 _⟩
  rw [List.map_set]
  exact (h3.stored j _).1
theorem Own.blk {B g n cap : Nat} {l : List Int} {w0 wr : World} (h : Own B g n cap l w0 wr) : ∃ cur, wr.heap[g]? = some (.cells cur 3 (0, 0)) := by
  rcases h.2.2.1.2 with ⟨h', _⟩ | ⟨g', cap', cur, h', _, hg, _⟩
  · cases h'
  · injection h' with h' _ _
    injection h' with h'
    injection h' with h'
    subst h'
    exact ⟨cur, hg⟩
theorem Own.keep {B g n cap : Nat} {l : List Int} {w0 wr w1 : World} (h : Own B g n cap l w0 wr) (hb : Below wr.heap.size wr w1) : Own B g n cap l w0 w1 := by
  obtain ⟨cur, hg⟩ := h.blk
  have hl := lt_hp hg
  obtain ⟨h1, h2, h3, h4⟩ := h
  refine ⟨h1, h2, ?_, h4.trans (hb.mono (by omega))⟩
  obtain ⟨a1, a2⟩ := h3
  refine ⟨a1, ?_⟩
  rcases a2 with hn | ⟨g', cap', cur', hv, hg', hh, r⟩
  · exact Or.inl hn
  · exact Or.inr ⟨g', cap', cur', hv, hg', (hb.block g' (lt_hp hh)).trans hh, r⟩
end Go.Proofs.YtlhpiikpmmlpeaaDoor.st

/-
  How many bits of a number are set: plain mathematics of the parallel sum of math/bits.
-/
namespace Go.Proofs.YtlhpiikpmmlpeaaDoor.st
set_option linter.unusedVariables false
/-- how many of the n lowest bits are set -/
def pc : Nat → Nat → Nat
  | 0, _ => 0
  | n + 1, x => x % 2 + pc n (x / 2)
theorem pc_zero (x : Nat) : pc 0 x = 0 := rfl
theorem pc_succ (n x : Nat) : pc (n + 1) x = x % 2 + pc n (x / 2) := rfl
theorem pc_le : ∀ n x, pc n x ≤ n
  | 0, _ => Nat.le_refl _
  | n + 1, x => by have := pc_le n (x / 2); rw [pc_succ]; omega
def M0 : Nat → Nat
  | 0 => 0
  | n + 1 => 4 * M0 n + 1
def M1 : Nat → Nat
  | 0 => 0
  | n + 1 => 16 * M1 n + 3
def M2 : Nat → Nat
  | 0 => 0
  | n + 1 => 256 * M2 n + 15
theorem M0_32 : M0 32 = 6148914691236517205 := by decide +kernel
theorem M1_16 : M1 16 = 3689348814741910323 := by decide +kernel
theorem M2_8 : M2 8 = 1085102592571150095 := by decide +kernel
def D (b : Nat) : Nat → Nat → Nat
  | 0, _ => 0
  | n + 1, x => x % b + D b n (x / b)
theorem D_zero (b x : Nat) : D b 0 x = 0 := rfl
theorem D_succ (b n x : Nat) : D b (n + 1) x = x % b + D b n (x / b) := rfl
theorem and4 (x m r : Nat) (hr : r < 4) : x &&& (4 * m + r) = 4 * (x / 4 &&& m) + (x % 4 &&& r) := by
  have h1 := Nat.and_div_two_pow (a := x) (b := 4 * m + r) (n := 2)
  have h2 := Nat.and_mod_two_pow (a := x) (b := 4 * m + r) (n := 2)
  simp only [show (2 : Nat) ^ 2 = 4 from rfl] at h1 h2
  rw [show (4 * m + r) / 4 = m by omega] at h1
  rw [show (4 * m + r) % 4 = r by omega] at h2
  rw [← h1, ← h2]; omega
theorem and16 (x m r : Nat) (hr : r < 16) : x &&& (16 * m + r) = 16 * (x / 16 &&& m) + (x % 16 &&& r) := by
  have h1 := Nat.and_div_two_pow (a := x) (b := 16 * m + r) (n := 4)
  have h2 := Nat.and_mod_two_pow (a := x) (b := 16 * m + r) (n := 4)
  simp only [show (2 : Nat) ^ 4 = 16 from rfl] at h1 h2
  rw [show (16 * m + r) / 16 = m by omega] at h1
  rw [show (16 * m + r) % 16 = r by omega] at h2
  rw [← h1, ← h2]; omega
theorem and256 (x m r : Nat) (hr : r < 256) : x &&& (256 * m + r) = 256 * (x / 256 &&& m) + (x % 256 &&& r) := by
  have h1 := Nat.and_div_two_pow (a := x) (b := 256 * m + r) (n := 8)
  have h2 := Nat.and_mod_two_pow (a := x) (b := 256 * m + r) (n := 8)
  simp only [show (2 : Nat) ^ 8 = 256 from rfl] at h1 h2
  rw [show (256 * m + r) / 256 = m by omega] at h1
  rw [show (256 * m + r) % 256 = r by omega] at h2
  rw [← h1, ← h2]; omega
theorem low1 (x : Nat) : x &&& 1 = x % 2 := Nat.and_two_pow_sub_one_eq_mod x 1
theorem low3 (x : Nat) : x &&& 3 = x % 4 := Nat.and_two_pow_sub_one_eq_mod x 2
theorem low15 (x : Nat) : x &&& 15 = x % 16 := Nat.and_two_pow_sub_one_eq_mod x 4
theorem low127 (x : Nat) : x &&& 127 = x % 128 := Nat.and_two_pow_sub_one_eq_mod x 7
def s1 (n x : Nat) : Nat := (x / 2 &&& M0 n) + (x &&& M0 n)
def s2 (n x : Nat) : Nat := (x / 4 &&& M1 n) + (x &&& M1 n)
def s3 (n x : Nat) : Nat := (x / 16 + x) &&& M2 n
theorem s1_succ (n x : Nat) : s1 (n + 1) x = 4 * s1 n (x / 4) + (x / 2 % 2 + x % 2) := by
  unfold s1
  rw [show M0 (n + 1) = 4 * M0 n + 1 from rfl, and4 _ _ _ (by decide), and4 x _ _ (by decide), low1, low1, show x / 2 / 4 = x / 4 / 2 by omega, show x / 2 % 4 % 2 = x / 2 % 2 by omega, show x % 4 % 2 = x % 2 by omega]
  omega
theorem s2_succ (n x : Nat) : s2 (n + 1) x = 16 * s2 n (x / 16) + (x / 4 % 4 + x % 4) := by
  unfold s2
  rw [show M1 (n + 1) = 16 * M1 n + 3 from rfl, and16 _ _ _ (by decide), and16 x _ _ (by decide), low3, low3, show x / 4 / 16 = x / 16 / 4 by omega, show x / 4 % 16 % 4 = x / 4 % 4 by omega, show x % 16 % 4 = x % 4 by omega]
  omega
theorem s1_D : ∀ n x, D 4 n (s1 n x) = pc (2 * n) x
  | 0, x => rfl
  | n + 1, x => by
    rw [s1_succ, D_succ, show 2 * (n + 1) = 2 * n + 1 + 1 by omega, pc_succ, pc_succ, show (4 * s1 n (x / 4) + (x / 2 % 2 + x % 2)) % 4 = x / 2 % 2 + x % 2 by omega, show (4 * s1 n (x / 4) + (x / 2 % 2 + x % 2)) / 4 = s1 n (x / 4) by omega, s1_D n, show x / 2 / 2 = x / 4 by omega]
    omega
/-- every digit is small -/
def Dg : Nat → Nat → Prop
  | 0, x => x = 0
  | n + 1, x => x % 16 ≤ 6 ∧ Dg n (x / 16)
theorem Dg.low {n x : Nat} (h : Dg n x) : x % 16 ≤ 6 := by
  cases n with
  | zero => rw [show x = 0 from h]; decide
  | succ n => exact h.1
theorem s2_D : ∀ n x, D 16 n (s2 n x) = D 4 (2 * n) x ∧ Dg n (s2 n x)
  | 0, x => ⟨rfl, by unfold s2 Dg M1; simp⟩
  | n + 1, x => by
    obtain ⟨h1, h2⟩ := s2_D n (x / 16)
    have e1 : (16 * s2 n (x / 16) + (x / 4 % 4 + x % 4)) % 16 = x / 4 % 4 + x % 4 := by omega
    have e2 : (16 * s2 n (x / 16) + (x / 4 % 4 + x % 4)) / 16 = s2 n (x / 16) := by omega
    rw [s2_succ]
    constructor
    · rw [D_succ, show 2 * (n + 1) = 2 * n + 1 + 1 by omega, D_succ, D_succ, e1, e2, h1, show x / 4 / 4 = x / 16 by omega]
      omega
    · refine ⟨by rw [e1]; omega, ?_⟩
      rw [e2]; exact h2
theorem s3_succ (n x : Nat) (h0 : x % 16 ≤ 6) (h1 : x / 16 % 16 ≤ 6) (h2 : x / 256 % 16 ≤ 6) : s3 (n + 1) x = 256 * s3 n (x / 256) + (x / 16 % 16 + x % 16) := by
  unfold s3
  have e : x / 16 / 16 = x / 256 := by omega
  rw [show M2 (n + 1) = 256 * M2 n + 15 from rfl, and256 _ _ _ (by decide), low15, show (x / 16 + x) / 256 = x / 256 / 16 + x / 256 by omega, show (x / 16 + x) % 256 % 16 = x / 16 % 16 + x % 16 by omega]
/-- .. in bytes -/
def Dh : Nat → Nat → Prop
  | 0, x => x = 0
  | n + 1, x => x % 256 ≤ 12 ∧ Dh n (x / 256)
theorem s3_D : ∀ n x, Dg (2 * n) x → D 256 n (s3 n x) = D 16 (2 * n) x ∧ Dh n (s3 n x)
  | 0, x, h => ⟨rfl, by unfold s3 Dh M2; simp⟩
  | n + 1, x, h => by
    rw [show 2 * (n + 1) = 2 * n + 1 + 1 by omega] at h
    obtain ⟨g0, g1, g2⟩ := h
    rw [show x / 16 / 16 = x / 256 by omega] at g2
    obtain ⟨h1, h2⟩ := s3_D n (x / 256) g2
    have hl := g2.low
    rw [s3_succ n x g0 g1 hl]
    have e1 : (256 * s3 n (x / 256) + (x / 16 % 16 + x % 16)) % 256 = x / 16 % 16 + x % 16 := by omega
    have e2 : (256 * s3 n (x / 256) + (x / 16 % 16 + x % 16)) / 256 = s3 n (x / 256) := by omega
    constructor
    · rw [D_succ, show 2 * (n + 1) = 2 * n + 1 + 1 by omega, D_succ, D_succ, e1, e2, h1, show x / 16 / 16 = x / 256 by omega]
      omega
    · refine ⟨by rw [e1]; omega, ?_⟩
      rw [e2]; exact h2
theorem div_tail (r q m : Nat) (h : r < m) : (r + m * q) / m = q := by rw [Nat.add_mul_div_left _ _ (by omega), Nat.div_eq_of_lt h, Nat.zero_add]
theorem fold_core (b0 b1 b2 b3 b4 b5 b6 b7 t t1 t2 t3 t4 t5 t6 : Nat) (l0 : b0 ≤ 12) (l1 : b1 ≤ 12) (l2 : b2 ≤ 12) (l3 : b3 ≤ 12) (l4 : b4 ≤ 12) (l5 : b5 ≤ 12) (l6 : b6 ≤ 12) (l7 : b7 ≤ 12)
    (q0 : t = b0 + 256 * t1) (q1 : t1 = b1 + 256 * t2) (q2 : t2 = b2 + 256 * t3) (q3 : t3 = b3 + 256 * t4) (q4 : t4 = b4 + 256 * t5) (q5 : t5 = b5 + 256 * t6) (q6 : t6 = b6 + 256 * b7) :
    t < 2 ^ 60 ∧ (t + t1) / 65536 = t2 + t3 ∧ (t + t1 + (t2 + t3)) / 4294967296 = t4 + t5 + (t6 + b7) ∧ (t + t1 + (t2 + t3) + (t4 + t5 + (t6 + b7))) % 128 = (b0 + (b1 + (b2 + (b3 + (b4 + (b5 + (b6 + (b7 + 0)))))))) := by
  have w6 : t6 ≤ 3084 := by omega
  have w5 : t5 ≤ 789516 := by omega
  have w4 : t4 ≤ 202116108 := by omega
  have w3 : t3 ≤ 51741723660 := by omega
  have w2 : t2 ≤ 13245881256972 := by omega
  have w1 : t1 ≤ 3390945601784844 := by omega
  have w0 : t ≤ 868082074056920076 := by omega
  have z1 : (t + t1) / 65536 = t2 + t3 := by
    have e : t + t1 = (b0 + b1 + 256 * (b1 + b2)) + 65536 * (t2 + t3) := by clear w0 w1 w2 w3 w4 w5 w6 q3 q4 q5 q6; omega
    rw [e]
    exact div_tail _ _ _ (by clear w0 w1 w2 w3 w4 w5 w6 q0 q1 q2 q3 q4 q5 q6 e; omega)
  have z2 : (t + t1 + (t2 + t3)) / 4294967296 = t4 + t5 + (t6 + b7) := by
    have e : t + t1 + (t2 + t3) = (b0 + b1 + b2 + b3 + 256 * (b1 + b2 + b3 + b4) + 65536 * (b2 + b3 + b4 + b5) + 16777216 * (b3 + b4 + b5 + b6)) + 4294967296 * (t4 + t5 + (t6 + b7)) := by
      subst q0; subst q1; subst q2; subst q3
      clear w0 w1 w2 w3 w4 w5 w6 z1 l0 l1 l2 l3 l4 l5 l6 l7
      subst q4; subst q5; subst q6
      omega
    rw [e]
    exact div_tail _ _ _ (by clear w0 w1 w2 w3 w4 w5 w6 q0 q1 q2 q3 q4 q5 q6 e z1; omega)
  refine ⟨by omega, z1, z2, ?_⟩
  have e : t + t1 + (t2 + t3) + (t4 + t5 + (t6 + b7)) = (b0 + b1 + b2 + b3 + b4 + b5 + b6 + b7) + 128 * (2 * (t1 + t2 + t3 + t4 + t5 + t6 + b7)) := by
    clear w0 w1 w2 w3 w4 w5 w6 z1 z2 l0 l1 l2 l3 l4 l5 l6 l7
    omega
  rw [e, Nat.add_mul_mod_self_left, Nat.mod_eq_of_lt (by clear w0 w1 w2 w3 w4 w5 w6 q0 q1 q2 q3 q4 q5 q6 e z1 z2; omega)]
  clear w0 w1 w2 w3 w4 w5 w6 q0 q1 q2 q3 q4 q5 q6 e z1 z2
  omega
theorem Dh.cut {n x : Nat} (h : Dh (n + 1) x) : ∃ b y, x = b + 256 * y ∧ b ≤ 12 ∧ Dh n y ∧ x % 256 = b ∧ x / 256 = y := ⟨x % 256, x / 256, by omega, h.1, h.2, rfl, rfl⟩
theorem fold8 (t : Nat) (h : Dh 8 t) : t < 2 ^ 60 ∧ (t + t / 256 + (t + t / 256) / 65536 + (t + t / 256 + (t + t / 256) / 65536) / 4294967296) % 128 = D 256 8 t := by
  obtain ⟨b0, t1, q0, l0, h1, r0, s0⟩ := h.cut
  obtain ⟨b1, t2, q1, l1, h2, r1, s1⟩ := h1.cut
  obtain ⟨b2, t3, q2, l2, h3, r2, s2⟩ := h2.cut
  obtain ⟨b3, t4, q3, l3, h4, r3, s3⟩ := h3.cut
  obtain ⟨b4, t5, q4, l4, h5, r4, s4⟩ := h4.cut
  obtain ⟨b5, t6, q5, l5, h6, r5, s5⟩ := h5.cut
  obtain ⟨b6, t7, q6, l6, h7, r6, s6⟩ := h6.cut
  obtain ⟨b7, t8, q7, l7, h8, r7, s7⟩ := h7.cut
  have q8 : t8 = 0 := h8
  have e7 : t7 = b7 := by rw [q7, q8]; rfl
  rw [e7] at q6
  obtain ⟨f1, f2, f3, f4⟩ := fold_core b0 b1 b2 b3 b4 b5 b6 b7 t t1 t2 t3 t4 t5 t6 l0 l1 l2 l3 l4 l5 l6 l7 q0 q1 q2 q3 q4 q5 q6
  refine ⟨f1, ?_⟩
  rw [s0, f2, f3, f4]
  simp only [D_succ, D_zero]
  rw [s0, s1, s2, s3, s4, s5, s6, r0, r1, r2, r3, r4, r5, r6, r7]
/-- the parallel sum -/
theorem pop64 (x : Nat) : (let y := s3 8 (s2 16 (s1 32 x)); (y + y / 256 + (y + y / 256) / 65536 + (y + y / 256 + (y + y / 256) / 65536) / 4294967296) % 128 = pc 64 x) := by
  obtain ⟨h1, h2⟩ := s2_D 16 (s1 32 x)
  obtain ⟨h3, h4⟩ := s3_D 8 (s2 16 (s1 32 x)) h2
  have := (fold8 _ h4).2
  rw [h3, h1, s1_D] at this
  exact this
end Go.Proofs.YtlhpiikpmmlpeaaDoor.st

/-
  The numbers of a set, one by one: plain mathematics.
-/
namespace Go.Proofs.YtlhpiikpmmlpeaaDoor.st
set_option linter.unusedVariables false
/-- the numbers from k on, n of them, that f tells yes of -/
def lst (f : Nat → Bool) : Nat → Nat → List Nat
  | _, 0 => []
  | k, n + 1 => if f k = true then k :: lst f (k + 1) n else lst f (k + 1) n
theorem lst_yes {f : Nat → Bool} {k n : Nat} (h : f k = true) : lst f k (n + 1) = k :: lst f (k + 1) n := by simp only [lst]; rw [if_pos h]
theorem lst_no {f : Nat → Bool} {k n : Nat} (h : ¬ f k = true) : lst f k (n + 1) = lst f (k + 1) n := by simp only [lst]; rw [if_neg h]
theorem lst_congr {f g : Nat → Bool} : ∀ (n k : Nat), (∀ i, k ≤ i → i < k + n → f i = g i) → lst f k n = lst g k n
  | 0, _, _ => rfl
  | n + 1, k, h => by
    have ih := lst_congr n (k + 1) (fun i h1 h2 => h i (by omega) (by omega))
    by_cases hk : f k = true
    · rw [lst_yes hk, lst_yes (by rw [← h k (by omega) (by omega)]; exact hk), ih]
    · rw [lst_no hk, lst_no (by rw [← h k (by omega) (by omega)]; exact hk), ih]
theorem lst_none {f : Nat → Bool} : ∀ (n k : Nat), (∀ i, k ≤ i → i < k + n → f i = false) → lst f k n = []
  | 0, _, _ => rfl
  | n + 1, k, h => by rw [lst_no (by simp [h k (by omega) (by omega)])]; exact lst_none n (k + 1) (fun i h1 h2 => h i (by omega) (by omega))
theorem lst_first {f g : Nat → Bool} {c : Nat} : ∀ (n k : Nat), k ≤ c → c < k + n → (∀ i, k ≤ i → i < c → f i = false) → f c = true → (∀ i, c < i → i < k + n → g i = f i) → (∀ i, k ≤ i → i ≤ c → g i = false) → lst f k n = c :: lst g k n
  | 0, k, h1, h2, _, _, _, _ => by omega
  | n + 1, k, h1, h2, h3, h4, h5, h6 => by
    by_cases e : k = c
    · subst e
      rw [lst_yes h4, lst_no (by simp [h6 k (by omega) (by omega)])]
      congr 1
      exact lst_congr n (k + 1) (fun i q1 q2 => (h5 i (by omega) (by omega)).symm)
    · rw [lst_no (by simp [h3 k (by omega) (by omega)]), lst_no (by simp [h6 k (by omega) (by omega)])]
      exact lst_first n (k + 1) (by omega) (by omega) (fun i q1 q2 => h3 i (by omega) q2) h4 (fun i q1 q2 => h5 i q1 (by omega)) (fun i q1 q2 => h6 i (by omega) q2)
theorem lst_len (f : Nat → Bool) : ∀ (n k : Nat), (lst f k n).length ≤ n
  | 0, _ => Nat.le_refl _
  | n + 1, k => by
    have := lst_len f n (k + 1)
    by_cases hk : f k = true
    · rw [lst_yes hk]; simp; omega
    · rw [lst_no hk]; omega
theorem lst_app (f : Nat → Bool) : ∀ (n m k : Nat), lst f k (n + m) = lst f k n ++ lst f (k + n) m
  | 0, m, k => by simp [lst]
  | n + 1, m, k => by
    rw [show n + 1 + m = n + m + 1 by omega]
    have ih := lst_app f n m (k + 1)
    rw [show k + 1 + n = k + (n + 1) by omega] at ih
    by_cases hk : f k = true
    · rw [lst_yes hk, lst_yes hk, ih]; rfl
    · rw [lst_no hk, lst_no hk, ih]
theorem lst_shift (f : Nat → Bool) (d : Nat) : ∀ (n k : Nat), lst f (k + d) n = (lst (fun i => f (i + d)) k n).map (· + d)
  | 0, _ => rfl
  | n + 1, k => by
    have ih := lst_shift f d n (k + 1)
    rw [show k + 1 + d = k + d + 1 by omega] at ih
    by_cases hk : f (k + d) = true
    · rw [lst_yes hk, lst_yes (f := fun i => f (i + d)) hk, ih]; rfl
    · rw [lst_no hk, lst_no (f := fun i => f (i + d)) hk, ih]
attribute [irreducible] lst
/-- the places of a number's bits -/
def els (x : Nat) : List Nat := lst x.testBit 0 64
/-- without its lowest bit -/
theorem low_clear (x : Nat) (h0 : x ≠ 0) (h : x < 18446744073709551616) : Lib.ctz 64 x < 64 ∧ x.testBit (Lib.ctz 64 x) = true ∧ (∀ i, i < Lib.ctz 64 x → x.testBit i = false) ∧ (∀ i, Lib.ctz 64 x < i → (x &&& (x - 1)).testBit i = x.testBit i) ∧ (∀ i, i ≤ Lib.ctz 64 x → (x &&& (x - 1)).testBit i = false) := by
  have e : Lib.ctz 64 x = Lib.ctzFrom 64 x := by unfold Lib.ctz; rw [if_neg h0]
  obtain ⟨m, hm, hc⟩ := Lib.ctzFrom_spec 64 x (by omega) (by simpa using h)
  rw [e]
  generalize Lib.ctzFrom 64 x = c at *
  have h1 : x = 2 ^ (c + 1) * m + 2 ^ c := by rw [hm, Nat.mul_add, Nat.mul_one, Nat.pow_succ, Nat.mul_assoc]
  have hp : 0 < 2 ^ c := Nat.two_pow_pos c
  have hp2 : 2 ^ (c + 1) = 2 * 2 ^ c := by rw [Nat.pow_succ, Nat.mul_comm]
  have h2 : x - 1 = 2 ^ (c + 1) * m + (2 ^ c - 1) := by omega
  have t1 : ∀ i, x.testBit i = if i < c + 1 then (2 ^ c).testBit i else m.testBit (i - (c + 1)) := fun i => by rw [h1]; exact Nat.testBit_two_pow_mul_add m (by omega) i
  have t2 : ∀ i, (x - 1).testBit i = if i < c + 1 then (2 ^ c - 1).testBit i else m.testBit (i - (c + 1)) := fun i => by rw [h2]; exact Nat.testBit_two_pow_mul_add m (by omega) i
  refine ⟨hc, ?_, fun i hi => ?_, fun i hi => ?_, fun i hi => ?_⟩
  · rw [t1, if_pos (by omega), Nat.testBit_two_pow]; simp
  · rw [t1, if_pos (by omega), Nat.testBit_two_pow]; simp; omega
  · rw [Nat.testBit_and, t2, t1, if_neg (by omega)]; simp [show ¬ i < c + 1 by omega]
  · rw [Nat.testBit_and, t2, t1, if_pos (by omega), if_pos (by omega), Nat.testBit_two_pow, Nat.testBit_two_pow_sub_one]
    by_cases q : c = i
    · subst q; simp
    · simp [q]
theorem els_step (x : Nat) (h0 : x ≠ 0) (h : x < 18446744073709551616) : els x = Lib.ctz 64 x :: els (x &&& (x - 1)) := by
  obtain ⟨h1, h2, h3, h4, h5⟩ := low_clear x h0 h
  exact lst_first 64 0 (by omega) (by omega) (fun i _ hi => h3 i hi) h2 (fun i hi _ => h4 i hi) (fun i _ hi => h5 i hi)
theorem els_zero : els 0 = [] := lst_none 64 0 (fun i _ _ => Nat.zero_testBit i)
theorem els_len (x : Nat) : (els x).length ≤ 64 := lst_len _ _ _
theorem and_lt (x : Nat) (h : x < 18446744073709551616) : x &&& (x - 1) < 18446744073709551616 := Nat.lt_of_le_of_lt Nat.and_le_left h
attribute [irreducible] els
/-- all numbers of a set of two parts -/
def both (x y : Nat) : List Int := (els x).map (fun (i : Nat) => (i : Int)) ++ (els y).map (fun (i : Nat) => (64 + i : Int))
theorem both_len (x y : Nat) : (both x y).length ≤ 128 := by
  unfold both
  have := els_len x
  have := els_len y
  simp; omega
end Go.Proofs.YtlhpiikpmmlpeaaDoor.st

/-
  math/bits.TrailingZeros64 and OnesCount64.
-/
namespace Go.Proofs.YtlhpiikpmmlpeaaDoor.st
open Go.RowKit
set_option linter.unusedVariables false
/-- the table of the library lies in its variable -/
def T64 (w : World) : Prop := 0 < w.heap.size ∧ ∀ j, j < 64 → w.cell? ⟨0, j, none⟩ = some (.int .u8 (Lib.deBruijn64tab.getD j 0))
theorem T64.keep {w w' : World} (h : T64 w) (hb : Below w.heap.size w w') : T64 w' := ⟨Nat.lt_of_lt_of_le h.1 hb.size, fun j hj => (hb.cell (p := ⟨0, j, none⟩) h.1).trans (h.2 j hj)⟩
theorem T64.under {B : Nat} {w w' : World} (h : T64 w) (h0 : 0 < B) (hb : Below B w w') : T64 w' := ⟨Nat.lt_of_lt_of_le h.1 hb.size, fun j hj => (hb.cell (p := ⟨0, j, none⟩) h0).trans (h.2 j hj)⟩
set_option maxHeartbeats 1000000 in
theorem tz_core (x k idx : Nat) (w : World) (hx0 : ((x : Int) == 0) = false)
    (key : IntKind.u64.wrap (bits BinOp.and IntKind.u64 (x : Int) (IntKind.u64.wrap (-(x : Int))) * 285870213051353865) / 288230376151711744 = (idx : Int))
    (hi : idx < 64) (hk : k < 64) (hcell : w.cell? ⟨0, idx, none⟩ = some (.int .u8 k)) :
    Calls Tryd.prog 94 #[.int .u64 x] w fun e w' => e = .returned (.int .i64 k) ∧ w' = w := by
  go_enter Tryd.func94, Tryd.ntmps94
  go_wp2_with (simp only [key])
  go_ret
  exact ⟨rfl, rfl⟩
theorem tz_zero (w : World) : Calls Tryd.prog 94 #[.int .u64 0] w fun e w' => e = .returned (.int .i64 64) ∧ w' = w := by
  go_enter Tryd.func94, Tryd.ntmps94
  go_wp2
  go_ret
  exact ⟨rfl, rfl⟩
theorem tz_any (x : Nat) (hx : x < 18446744073709551616) (w : World) (hT : T64 w) :
    Calls Tryd.prog 94 #[.int .u64 x] w fun e w' => e = .returned (.int .i64 (Lib.ctz 64 x)) ∧ w' = w := by
  by_cases hx0 : x = 0
  · subst hx0
    exact tz_zero w
  · obtain ⟨hlow, hk⟩ := Lib.lowest_bit 64 x hx0 hx
    obtain ⟨hi, htab⟩ := Lib.deBruijn64_at _ hk
    have hcell := hT.2 _ hi
    rw [htab] at hcell
    exact tz_core x _ _ w (by simp; omega) (tz64_key x _ hx hx0 hlow) hi hk hcell
theorem band (a b : Nat) (ha : a < 18446744073709551616) (hb : b < 18446744073709551616) : bits BinOp.and IntKind.u64 (a : Int) (b : Int) = ((a &&& b : Nat) : Int) := bits_and_u64_nat a b ha hb
set_option maxHeartbeats 2000000 in
theorem pop_core (x a1 a2 y1 b1 b2 y2 u z z1 z2 z3 p : Nat) (w : World)
    (h1 : bits BinOp.and IntKind.u64 ((x : Int) / 2) 6148914691236517205 = (a1 : Int)) (h2 : bits BinOp.and IntKind.u64 (x : Int) 6148914691236517205 = (a2 : Int)) (h3 : IntKind.u64.wrap ((a1 : Int) + (a2 : Int)) = (y1 : Int))
    (h4 : bits BinOp.and IntKind.u64 ((y1 : Int) / 4) 3689348814741910323 = (b1 : Int)) (h5 : bits BinOp.and IntKind.u64 (y1 : Int) 3689348814741910323 = (b2 : Int)) (h6 : IntKind.u64.wrap ((b1 : Int) + (b2 : Int)) = (y2 : Int))
    (h7 : IntKind.u64.wrap ((y2 : Int) / 16 + (y2 : Int)) = (u : Int)) (h8 : bits BinOp.and IntKind.u64 (u : Int) 1085102592571150095 = (z : Int))
    (h9 : IntKind.u64.wrap ((z : Int) + (z : Int) / 256) = (z1 : Int)) (h10 : IntKind.u64.wrap ((z1 : Int) + (z1 : Int) / 65536) = (z2 : Int)) (h11 : IntKind.u64.wrap ((z2 : Int) + (z2 : Int) / 4294967296) = (z3 : Int))
    (h12 : IntKind.i64.wrap (z3 : Int) = (z3 : Int)) (h13 : bits BinOp.and IntKind.i64 (z3 : Int) 127 = (p : Int)) :
    Calls Tryd.prog 87 #[.int .u64 x] w fun e w' => e = .returned (.int .i64 p) ∧ w' = w := by
  go_enter Tryd.func87, Tryd.ntmps87
  go_wp2
  go_ret
  exact ⟨rfl, rfl⟩
theorem pop_any (x : Nat) (hx : x < 18446744073709551616) (w : World) :
    Calls Tryd.prog 87 #[.int .u64 x] w fun e w' => e = .returned (.int .i64 (pc 64 x : Nat)) ∧ w' = w := by
  have m0 := M0_32; have m1 := M1_16; have m2 := M2_8
  obtain ⟨g1, g2⟩ := s2_D 16 (s1 32 x)
  obtain ⟨g3, g4⟩ := s3_D 8 (s2 16 (s1 32 x)) g2
  have f1 := (fold8 _ g4).1
  have e0 := pop64 x
  simp only at e0
  have b0 : x / 2 &&& M0 32 ≤ M0 32 := Nat.and_le_right
  have b0' : x &&& M0 32 ≤ M0 32 := Nat.and_le_right
  have d1 : s1 32 x = (x / 2 &&& M0 32) + (x &&& M0 32) := rfl
  generalize s1 32 x = y1 at *
  have b1 : y1 / 4 &&& M1 16 ≤ M1 16 := Nat.and_le_right
  have b1' : y1 &&& M1 16 ≤ M1 16 := Nat.and_le_right
  have d2 : s2 16 y1 = (y1 / 4 &&& M1 16) + (y1 &&& M1 16) := rfl
  generalize s2 16 y1 = y2 at *
  have d3 : s3 8 y2 = (y2 / 16 + y2) &&& M2 8 := rfl
  generalize s3 8 y2 = z at *
  rw [m0] at d1 b0 b0'
  rw [m1] at d2 b1 b1'
  rw [m2] at d3
  obtain ⟨n1, hn1⟩ : ∃ n, n = z + z / 256 := ⟨_, rfl⟩
  rw [← hn1] at e0
  obtain ⟨n2, hn2⟩ : ∃ n, n = n1 + n1 / 65536 := ⟨_, rfl⟩
  rw [← hn2] at e0
  obtain ⟨n3, hn3⟩ : ∃ n, n = n2 + n2 / 4294967296 := ⟨_, rfl⟩
  rw [← hn3] at e0
  have l1 : n1 ≤ 2305843009213693952 := by clear e0 hn2 hn3 d1 d2 d3; omega
  have l2 : n2 ≤ 4611686018427387904 := by clear e0 hn1 hn3 d1 d2 d3 f1; omega
  have l3 : n3 ≤ 9223372036854775000 := by clear e0 hn1 hn2 d1 d2 d3 f1 l1; omega
  have k9 : IntKind.u64.wrap ((z : Int) + (z : Int) / 256) = (n1 : Int) := by rw [IntKind.wrap_u64]; clear e0 hn2 hn3 d1 d2 d3; omega
  have k10 : IntKind.u64.wrap ((n1 : Int) + (n1 : Int) / 65536) = (n2 : Int) := by rw [IntKind.wrap_u64]; clear e0 hn1 hn3 d1 d2 d3 f1; omega
  have k11 : IntKind.u64.wrap ((n2 : Int) + (n2 : Int) / 4294967296) = (n3 : Int) := by rw [IntKind.wrap_u64]; clear e0 hn1 hn2 d1 d2 d3 f1 l1; omega
  refine pop_core x _ _ y1 _ _ y2 (y2 / 16 + y2) z n1 n2 n3 _ w
    (h1 := by rw [show (x : Int) / 2 = ((x / 2 : Nat) : Int) by omega]; exact band _ 6148914691236517205 (by omega) (by decide)) (h2 := band _ 6148914691236517205 hx (by decide)) (h3 := by rw [IntKind.wrap_u64, d1]; omega)
    (h4 := by rw [show (y1 : Int) / 4 = ((y1 / 4 : Nat) : Int) by omega]; exact band _ 3689348814741910323 (by omega) (by decide)) (h5 := band _ 3689348814741910323 (by omega) (by decide)) (h6 := by rw [IntKind.wrap_u64, d2]; omega)
    (h7 := by rw [IntKind.wrap_u64]; omega) (h8 := by rw [d3]; exact band _ 1085102592571150095 (by omega) (by decide))
    (h9 := k9) (h10 := k10) (h11 := k11) (h12 := IntWalk.i64_in _ (by omega)) (h13 := ?_)
  show IntKind.i64.wrap (((BitVec.ofInt 64 (n3 : Int) &&& BitVec.ofInt 64 (127 : Int)).toNat : Nat) : Int) = _
  have e1 : (BitVec.ofInt 64 (n3 : Int) &&& BitVec.ofInt 64 127).toNat = n3 % 128 := by
    rw [BitVec.toNat_and, BitVec.ofInt_natCast, BitVec.toNat_ofNat, show (BitVec.ofInt 64 127).toNat = 127 by decide, low127, Nat.mod_mod_of_dvd _ (by decide)]
  rw [e1, e0]
  have := pc_le 64 x
  exact IntWalk.i64_in _ (by omega)
end Go.Proofs.YtlhpiikpmmlpeaaDoor.st

/-
  Sets as the places that a function tells yes of: plain mathematics.
-/
namespace Go.Proofs.YtlhpiikpmmlpeaaDoor.st
set_option linter.unusedVariables false
/-- is a number in the set of two parts? -/
def mem (x y i : Nat) : Bool := if i < 64 then x.testBit i else y.testBit (i - 64)
theorem mem_lo {x y i : Nat} (h : i < 64) : mem x y i = x.testBit i := by unfold mem; rw [if_pos h]
theorem mem_hi {x y i : Nat} (h : ¬ i < 64) : mem x y i = y.testBit (i - 64) := by unfold mem; rw [if_neg h]
/-- all numbers of a set -/
def nums (f : Nat → Bool) : List Nat := lst f 0 128
theorem lst_two (x y : Nat) : nums (mem x y) = els x ++ (els y).map (· + 64) := by
  unfold nums els
  rw [lst_app (mem x y) 64 64 0]
  congr 1
  · exact lst_congr 64 0 (fun i _ h => mem_lo (by omega))
  · have := lst_shift (mem x y) 64 64 0
    rw [this, lst_congr (f := fun i => mem x y (i + 64)) (g := y.testBit) 64 0 (fun i _ h => by show mem x y (i + 64) = _; rw [mem_hi (by omega)]; congr 1)]
theorem both_nums (x y : Nat) : both x y = (nums (mem x y)).map (fun (i : Nat) => (i : Int)) := by
  unfold both
  rw [lst_two, List.map_append, List.map_map]
  congr 1
  apply List.map_congr_left
  intro i _
  show (64 + i : Int) = ((i + 64 : Nat) : Int)
  omega
theorem pc_lst : ∀ (n x : Nat), pc n x = (lst x.testBit 0 n).length
  | 0, x => by rw [pc_zero, lst_none 0 0 (fun i _ h => by omega)]; rfl
  | n + 1, x => by
    have e : lst x.testBit 1 n = (lst (x / 2).testBit 0 n).map (· + 1) := by
      have := lst_shift x.testBit 1 n 0
      rw [Nat.zero_add] at this
      rw [this]
      congr 1
      exact lst_congr n 0 (fun i _ _ => by rw [Nat.testBit_succ])
    rw [pc_succ, pc_lst n (x / 2)]
    by_cases h : x.testBit 0 = true
    · rw [lst_yes h, e]
      have : x % 2 = 1 := by simpa [Nat.testBit_zero] using h
      simp; omega
    · rw [lst_no h, e]
      have : x % 2 = 0 := by
        have : ¬ x % 2 = 1 := by simpa [Nat.testBit_zero] using h
        omega
      simp; omega
theorem pc_els (x : Nat) : pc 64 x = (els x).length := by unfold els; exact pc_lst 64 x
theorem count_nums (x y : Nat) : pc 64 x + pc 64 y = (nums (mem x y)).length := by rw [lst_two, pc_els, pc_els]; simp
theorem lst_head {f : Nat → Bool} : ∀ (n k : Nat) {i : Nat} {t : List Nat}, lst f k n = i :: t → k ≤ i ∧ i < k + n ∧ f i = true ∧ (∀ j, k ≤ j → j < i → f j = false) ∧ t = lst f (i + 1) (k + n - (i + 1))
  | 0, k, i, t, h => by rw [lst_none 0 k (fun i _ h => by omega)] at h; cases h
  | n + 1, k, i, t, h => by
    by_cases hk : f k = true
    · rw [lst_yes hk] at h
      injection h with h1 h2
      subst h1
      exact ⟨Nat.le_refl _, by omega, hk, fun j h1 h2 => by omega, by rw [← h2]; congr 1; omega⟩
    · rw [lst_no hk] at h
      obtain ⟨a, b, c, d, e⟩ := lst_head n (k + 1) h
      refine ⟨by omega, by omega, c, fun j h1 h2 => ?_, by rw [e]; congr 1; omega⟩
      by_cases e : j = k
      · subst e; simpa using hk
      · exact d j (by omega) h2
theorem lst_nil {f : Nat → Bool} : ∀ (n k : Nat), lst f k n = [] → ∀ i, k ≤ i → i < k + n → f i = false
  | 0, k, _, i, h1, h2 => by omega
  | n + 1, k, h, i, h1, h2 => by
    by_cases hk : f k = true
    · rw [lst_yes hk] at h; cases h
    · rw [lst_no hk] at h
      by_cases e : i = k
      · subst e; simpa using hk
      · exact lst_nil n (k + 1) h i (by omega) (by omega)
/-- the first number of a list, or -1 -/
def fst (l : List Nat) : Int := match l with
  | [] => -1
  | i :: _ => (i : Int)
theorem fst_nil : fst [] = -1 := rfl
theorem fst_cons (i : Nat) (t : List Nat) : fst (i :: t) = (i : Int) := rfl
theorem nums_cut (f : Nat → Bool) (k : Nat) (hk : k ≤ 128) : nums f = lst f 0 k ++ lst f k (128 - k) := by
  unfold nums
  have := lst_app f k (128 - k) 0
  rw [show k + (128 - k) = 128 by omega, Nat.zero_add] at this
  exact this
theorem nums_below {f g : Nat → Bool} (k : Nat) (hk : k ≤ 128) (h : ∀ i, i < 128 → g i = (f i && decide (i < k))) : nums g = lst f 0 k := by
  rw [nums_cut g k hk, lst_congr (f := g) (g := f) k 0 (fun i _ h2 => by rw [h i (by omega)]; simp [show i < k by omega]), lst_none (f := g) (128 - k) k (fun i h1 h2 => by rw [h i (by omega)]; simp [show ¬ i < k by omega]), List.append_nil]
theorem nums_above {f g : Nat → Bool} (k : Nat) (hk : k ≤ 128) (h : ∀ i, i < 128 → g i = (f i && !decide (i < k))) : nums g = lst f k (128 - k) := by
  rw [nums_cut g k hk, lst_none (f := g) k 0 (fun i h1 h2 => by rw [h i (by omega)]; simp [show i < k by omega]), lst_congr (f := g) (g := f) (128 - k) k (fun i h1 h2 => by rw [h i (by omega)]; simp [show ¬ i < k by omega]), List.nil_append]
/-- where a walk through a set stands: what lies below k is behind it -/
theorem walk_step {f : Nat → Bool} {k i : Nat} {t : List Nat} (hk : k ≤ 128) (h : lst f k (128 - k) = i :: t) : i < 128 ∧ f i = true ∧ lst f 0 i = lst f 0 k ∧ lst f 0 (i + 1) = lst f 0 k ++ [i] ∧ t = lst f (i + 1) (128 - (i + 1)) := by
  obtain ⟨a, b, c, d, e⟩ := lst_head _ _ h
  have h1 : lst f 0 i = lst f 0 k := by
    obtain ⟨m, rfl⟩ : ∃ m, i = k + m := ⟨i - k, by omega⟩
    rw [lst_app f k m 0, Nat.zero_add, lst_none m k (fun j h1 h2 => d j h1 h2), List.append_nil]
  refine ⟨by omega, c, h1, ?_, by rw [e]; congr 1; omega⟩
  rw [lst_app f i 1 0, h1, Nat.zero_add, lst_yes c, lst_none 0 (i + 1) (fun j h1 h2 => by omega)]
attribute [irreducible] mem nums fst
end Go.Proofs.YtlhpiikpmmlpeaaDoor.st

/-
  Numbers of 128 bits as sets, and orders: plain mathematics.
-/
namespace Go.Proofs.YtlhpiikpmmlpeaaDoor.st
set_option linter.unusedVariables false

/-- the one number's set -/
def bit (i : Int) : Nat := if 0 ≤ i ∧ i < 128 then 2 ^ i.toNat else 0
def ofS (s : Nat) (l : List Int) : Nat := l.foldl (fun s i => s ||| bit i) s
theorem ofS_nil (s : Nat) : ofS s [] = s := rfl
theorem ofS_cons (s : Nat) (x : Int) (l : List Int) : ofS s (x :: l) = ofS (s ||| bit x) l := rfl
theorem bit_lt (i : Int) : bit i < 2 ^ 128 := by
  unfold bit
  split
  · exact Nat.pow_lt_pow_right (by decide) (by omega)
  · exact Nat.two_pow_pos _
theorem ofS_lt : ∀ (l : List Int) (s : Nat), s < 2 ^ 128 → ofS s l < 2 ^ 128
  | [], s, h => h
  | x :: l, s, h => ofS_lt l _ (Nat.or_lt_two_pow h (bit_lt x))
theorem bit_test (i : Int) (j : Nat) (hj : j < 128) : (bit i).testBit j = decide (i = (j : Int)) := by
  unfold bit
  split
  · rename_i h
    rw [Nat.testBit_two_pow]
    congr 1
    simp only [eq_iff_iff]; omega
  · rename_i h
    rw [Nat.zero_testBit]
    symm; simp; omega
theorem ofS_test : ∀ (l : List Int) (s : Nat) (j : Nat), j < 128 → (ofS s l).testBit j = (s.testBit j || decide ((j : Int) ∈ l))
  | [], s, j, hj => by simp [ofS_nil]
  | x :: l, s, j, hj => by
    rw [ofS_cons, ofS_test l _ j hj, Nat.testBit_or, bit_test x j hj]
    by_cases h : x = (j : Int)
    · subst h; simp
    · have h' : ¬ (j : Int) = x := fun e => h e.symm
      simp [h, h']
theorem full_test (n j : Nat) : (2 ^ n - 1).testBit j = decide (j < n) := Nat.testBit_two_pow_sub_one n j
/-- an order of 0 to n - 1 -/
def permP (l : List Int) (n : Nat) : Prop := l.length = n ∧ ∀ j, j < n → (j : Int) ∈ l
theorem perm_pig : ∀ (n : Nat) (l : List Int), (∀ j, j < n → (j : Int) ∈ l) → n ≤ l.length ∧ (l.length = n → (∀ j, j < n → l.count (j : Int) = 1) ∧ ∀ x ∈ l, 0 ≤ x ∧ x < n)
  | 0, l, _ => ⟨Nat.zero_le _, fun h => by
      have := List.eq_nil_of_length_eq_zero h
      subst this
      exact ⟨fun j hj => absurd hj (by omega), fun x hx => absurd hx (by simp)⟩⟩
  | n + 1, l, h => by
    have hn : (n : Int) ∈ l := h n (by omega)
    have hl := List.length_erase_of_mem hn
    have hpos : 0 < l.length := List.length_pos_of_mem hn
    obtain ⟨p1, p2⟩ := perm_pig n (l.erase (n : Int)) (fun j hj => (List.mem_erase_of_ne (by omega)).2 (h j (by omega)))
    refine ⟨by omega, fun hlen => ?_⟩
    obtain ⟨q1, q2⟩ := p2 (by omega)
    refine ⟨fun j hj => ?_, fun x hx => ?_⟩
    · by_cases e : j = n
      · subst e
        have c0 : (l.erase (j : Int)).count (j : Int) = 0 := List.count_eq_zero.2 (fun hm => by have := q2 _ hm; omega)
        have c1 := List.count_erase_self (a := (j : Int)) (l := l)
        have c2 : 0 < l.count (j : Int) := List.count_pos_iff.2 hn
        omega
      · have := q1 j (by omega)
        rwa [List.count_erase_of_ne (by omega)] at this
    · by_cases e : x = (n : Int)
      · omega
      · have := q2 x ((List.mem_erase_of_ne e).2 hx)
        omega
theorem full_iff (l : List Int) (n : Nat) (hn : n ≤ 128) (hl : l.length = n) : ofS 0 l = 2 ^ n - 1 ↔ permP l n := by
  constructor
  · intro h
    refine ⟨hl, fun j hj => ?_⟩
    have := ofS_test l 0 j (by omega)
    rw [h, full_test] at this
    simpa [hj] using this
  · rintro ⟨_, h⟩
    have P := ((perm_pig n l h).2 hl).2
    apply Nat.eq_of_testBit_eq
    intro j
    rcases Nat.lt_or_ge j 128 with hj | hj
    · rw [ofS_test l 0 j hj, full_test, Nat.zero_testBit, Bool.false_or]
      congr 1
      simp only [eq_iff_iff]
      exact ⟨fun hm => by have := P _ hm; omega, fun hlt => h j hlt⟩
    · rw [full_test, Nat.testBit_lt_two_pow (Nat.lt_of_lt_of_le (ofS_lt l 0 (by decide)) (Nat.pow_le_pow_right (by decide) hj))]
      symm; simp; omega
theorem perm_count (l : List Int) (n : Nat) (hl : l.length = n) : (∀ k, k < n → l.count (k : Int) = 1) ↔ permP l n :=
  ⟨fun h => ⟨hl, fun j hj => List.count_pos_iff.1 (by rw [h j hj]; decide)⟩, fun h => ((perm_pig n l h.2).2 hl).1⟩
end Go.Proofs.YtlhpiikpmmlpeaaDoor.st

/-
  What the functions of the package set answer that value calls: Of, Full, With, Or.
-/
namespace Go.Proofs.YtlhpiikpmmlpeaaDoor.st
open Go.RowKit
set_option linter.unusedVariables false

theorem wrap_pow (k : Nat) (h : k < 64) : IntKind.u64.wrap (2 ^ k) = 2 ^ k := by
  have h1 : 2 ^ k ≤ 2 ^ 63 := Nat.pow_le_pow_right (by decide) (by omega)
  have e : (2 : Int) ^ k = ((2 ^ k : Nat) : Int) := by simp
  rw [e]
  generalize 2 ^ k = m at *
  exact IntWalk.u64_in _ (by omega)
theorem wrap_pow1 (k : Nat) (h : k < 64) : IntKind.u64.wrap (2 ^ k - 1) = 2 ^ k - 1 := by
  have h1 : 2 ^ k ≤ 2 ^ 63 := Nat.pow_le_pow_right (by decide) (by omega)
  have h2 : 0 < 2 ^ k := Nat.two_pow_pos k
  have e : (2 : Int) ^ k = ((2 ^ k : Nat) : Int) := by simp
  rw [e]
  generalize 2 ^ k = m at *
  exact IntWalk.u64_in _ (by omega)
theorem bits_or (x y : Nat) (hx : x < 18446744073709551616) (hy : y < 18446744073709551616) : bits BinOp.or IntKind.u64 x y = ((x ||| y : Nat) : Int) := by
  have h : x ||| y < 2 ^ 64 := Nat.or_lt_two_pow (by simpa using hx) (by simpa using hy)
  show IntKind.u64.wrap (((BitVec.ofInt 64 (x : Int) ||| BitVec.ofInt 64 (y : Int)).toNat : Nat) : Int) = _
  have e : (BitVec.ofInt 64 (x : Int) ||| BitVec.ofInt 64 (y : Int)).toNat = x ||| y := by
    rw [BitVec.toNat_or, BitVec.ofInt_natCast, BitVec.ofInt_natCast, BitVec.toNat_ofNat, BitVec.toNat_ofNat, Nat.mod_eq_of_lt (by simpa using hx), Nat.mod_eq_of_lt (by simpa using hy)]
  rw [e]
  exact IntWalk.u64_in _ (by omega)
/-- the two parts of a set -/
def lo (n : Nat) : Nat := n % 18446744073709551616
def hi (n : Nat) : Nat := n / 18446744073709551616
theorem lo_or (a b : Nat) : lo (a ||| b) = lo a ||| lo b := by
  unfold lo
  have := Nat.or_mod_two_pow (a := a) (b := b) (n := 64)
  simpa using this
theorem hi_or (a b : Nat) : hi (a ||| b) = hi a ||| hi b := by
  unfold hi
  have := Nat.or_div_two_pow (a := a) (b := b) (n := 64)
  simpa using this
theorem lo_lt (a : Nat) : lo a < 18446744073709551616 := Nat.mod_lt _ (by decide)
theorem hi_lt (a : Nat) (h : a < 2 ^ 128) : hi a < 18446744073709551616 := by
  unfold hi
  rw [Nat.div_lt_iff_lt_mul (by decide)]
  simpa using h
theorem lo_hi (a b : Nat) (h1 : lo a = lo b) (h2 : hi a = hi b) : a = b := by
  unfold lo hi at *
  omega
theorem bit_lo (i : Int) (h0 : 0 ≤ i) (h1 : i < 64) : ((lo (bit i) : Nat) : Int) = 2 ^ i.toNat ∧ hi (bit i) = 0 := by
  have h2 : 2 ^ i.toNat ≤ 2 ^ 63 := Nat.pow_le_pow_right (by decide) (by omega)
  have hb : bit i = 2 ^ i.toNat := by unfold bit; rw [if_pos ⟨h0, by omega⟩]
  unfold lo hi
  rw [hb]
  have e : (2 : Int) ^ i.toNat = ((2 ^ i.toNat : Nat) : Int) := by simp
  rw [e]
  constructor
  · rw [Nat.mod_eq_of_lt (by omega)]
  · omega
theorem bit_hi (i : Int) (h0 : 64 ≤ i) (h1 : i < 128) : lo (bit i) = 0 ∧ ((hi (bit i) : Nat) : Int) = 2 ^ (i % 64).toNat := by
  have hb : bit i = 2 ^ i.toNat := by unfold bit; rw [if_pos ⟨by omega, by omega⟩]
  have e2 : i.toNat = 64 + (i % 64).toNat := by omega
  have e3 : 2 ^ (64 + (i % 64).toNat) = 18446744073709551616 * 2 ^ (i % 64).toNat := by rw [Nat.pow_add]
  unfold lo hi
  rw [hb, e2, e3]
  constructor
  · omega
  · rw [Nat.mul_div_cancel_left _ (by decide)]; simp
theorem bit_no (i : Int) (h : i < 0 ∨ 128 ≤ i) : lo (bit i) = 0 ∧ hi (bit i) = 0 := by
  have hb : bit i = 0 := by unfold bit; rw [if_neg (by omega)]
  rw [hb]; exact ⟨rfl, rfl⟩
theorem full_lo (n : Nat) (h : n < 64) : ((lo (2 ^ n - 1) : Nat) : Int) = 2 ^ n - 1 ∧ hi (2 ^ n - 1) = 0 := by
  have h2 : 2 ^ n ≤ 2 ^ 63 := Nat.pow_le_pow_right (by decide) (by omega)
  have h3 : 0 < 2 ^ n := Nat.two_pow_pos n
  have e : (2 : Int) ^ n = ((2 ^ n : Nat) : Int) := by simp
  unfold lo hi
  rw [e]
  omega
attribute [irreducible] lo hi
theorem single_any (i : Int) (w : World) :
    Calls Tryd.prog 98 #[.int .i64 i] w fun e w' => e = .returned (.agg #[.int .u64 (lo (bit i)), .int .u64 (hi (bit i))]) ∧ Below w.heap.size w w' := by
  by_cases hn : i < 0 ∨ 128 ≤ i
  · obtain ⟨e1, e2⟩ := bit_no i hn
    rw [e1, e2]
    clear e1 e2
    rcases hn with h0 | h0
    · go_enter Tryd.func98, Tryd.ntmps98
      go_wp2
      exact bodyPost_ret (v := .agg #[.int .u64 0, .int .u64 0]) (by simp [results, Tryd.results98, go_sem]) rfl ⟨rfl, bl_al (bl_al (Below.refl _ _) _) _⟩
    · have h3 : 0 ≤ i := by omega
      go_enter Tryd.func98, Tryd.ntmps98
      go_wp2
      exact bodyPost_ret (v := .agg #[.int .u64 0, .int .u64 0]) (by simp [results, Tryd.results98, go_sem]) rfl ⟨rfl, bl_al (bl_al (Below.refl _ _) _) _⟩
  · by_cases h6 : i < 64
    · have h0 : 0 ≤ i := by omega
      obtain ⟨e1, e2⟩ := bit_lo i h0 h6
      rw [e1, e2]
      clear e1 e2 hn
      have hq : i / 64 = 0 := by omega
      have hr : i % 64 = i := by omega
      have hw := wrap_pow i.toNat (by omega)
      go_enter Tryd.func98, Tryd.ntmps98
      go_wp2
      exact bodyPost_ret (v := .agg #[.int .u64 (2 ^ i.toNat), .int .u64 0]) (by simp [results, Tryd.results98, go_sem]) rfl ⟨rfl, bl_al (bl_al (Below.refl _ _) _) _⟩
    · have h0 : 64 ≤ i := by omega
      have h1 : i < 128 := by omega
      obtain ⟨e1, e2⟩ := bit_hi i h0 h1
      rw [e1, e2]
      clear e1 e2 hn h6
      have hq : i / 64 = 1 := by omega
      have hw := wrap_pow (i % 64).toNat (by omega)
      have h3 : 0 ≤ i := by omega
      go_enter Tryd.func98, Tryd.ntmps98
      go_wp2
      exact bodyPost_ret (v := .agg #[.int .u64 0, .int .u64 (2 ^ (i % 64).toNat)]) (by simp [results, Tryd.results98, go_sem]) rfl ⟨rfl, bl_al (bl_al (Below.refl _ _) _) _⟩
theorem or_any (a b : Nat) (ha : a < 2 ^ 128) (hb : b < 2 ^ 128) (w : World) :
    Calls Tryd.prog 99 #[.agg #[.int .u64 (lo a), .int .u64 (hi a)], .agg #[.int .u64 (lo b), .int .u64 (hi b)]] w fun e w' => e = .returned (.agg #[.int .u64 (lo (a ||| b)), .int .u64 (hi (a ||| b))]) ∧ Below w.heap.size w w' := by
  have e1 := bits_or (lo a) (lo b) (lo_lt a) (lo_lt b)
  have e2 := bits_or (hi a) (hi b) (hi_lt a ha) (hi_lt b hb)
  rw [← lo_or] at e1
  rw [← hi_or] at e2
  generalize lo (a ||| b) = r0 at *
  generalize hi (a ||| b) = r1 at *
  clear ha hb
  go_enter Tryd.func99, Tryd.ntmps99
  go_wp2
  exact bodyPost_ret (v := .agg #[.int .u64 r0, .int .u64 r1]) (by simp [results, Tryd.results99, go_sem]) rfl ⟨rfl, bl_al (bl_al (bl_al (Below.refl _ _) _) _) _⟩
theorem lowest_neg (i : Int) (hi : i ≤ 0) (w : World) :
    Calls Tryd.prog 91 #[.int .i64 i] w fun e w' => e = .returned (.int .u64 0) ∧ w = w' := by
  have hm : max i 0 = 0 := by omega
  go_enter Tryd.func91, Tryd.ntmps91
  go_wp2
  all_goals
    go_ret
    exact ⟨by first | rfl | (rw [show i = 0 by omega]; rfl), rfl⟩
theorem lowest_pos (n : Nat) (hn : n < 64) (w : World) :
    Calls Tryd.prog 91 #[.int .i64 n] w fun e w' => e = .returned (.int .u64 (2 ^ n - 1)) ∧ w = w' := by
  have e1 := wrap_pow n hn
  have e2 := wrap_pow1 n hn
  have h4 : (0 : Int) ≤ n := by omega
  go_enter Tryd.func91, Tryd.ntmps91
  go_wp2
  go_ret
  exact ⟨rfl, rfl⟩
theorem full_any (n : Nat) (hn : n < 64) (w : World) :
    Calls Tryd.prog 77 #[.int .i64 n] w fun e w' => e = .returned (.agg #[.int .u64 (lo (2 ^ n - 1)), .int .u64 (hi (2 ^ n - 1))]) ∧ Below w.heap.size w w' := by
  obtain ⟨e1, e2⟩ := full_lo n hn
  rw [e1, e2]
  clear e1 e2
  have L1 := Lib.hid (fun W => lowest_pos n hn W)
  have L2 := Lib.hid (fun W => lowest_neg ((n : Int) - 64) (by omega) W)
  have m1 : max (n : Int) 0 = n := by omega
  have m2 : min (n : Int) 128 = n := by omega
  go_enter Tryd.func77, Tryd.ntmps77
  go_wp2_with fail
  refine (L1.out _).mono ?_; rintro e w1 ⟨rfl, rfl⟩
  go_wp2_with fail
  refine (L2.out _).mono ?_; rintro e w1 ⟨rfl, rfl⟩
  go_wp2
  exact bodyPost_ret (v := .agg #[.int .u64 (2 ^ n - 1), .int .u64 0]) (by simp [results, Tryd.results77, go_sem]) rfl ⟨rfl, bl_al (Below.refl _ _) _⟩
end Go.Proofs.YtlhpiikpmmlpeaaDoor.st

/-
  What And, Minus, Count and First answer.
-/
namespace Go.Proofs.YtlhpiikpmmlpeaaDoor.st
open Go.RowKit
set_option linter.unusedVariables false
/-- a and not b, as numbers of 64 bits -/
def anot (a b : Nat) : Nat := (BitVec.ofNat 64 a &&& ~~~ BitVec.ofNat 64 b).toNat
theorem anot_lt (a b : Nat) : anot a b < 18446744073709551616 := by unfold anot; exact BitVec.isLt _
theorem anot_bit (a b i : Nat) (hi : i < 64) : (anot a b).testBit i = (a.testBit i && !b.testBit i) := by
  unfold anot
  rw [BitVec.testBit_toNat, BitVec.getLsbD_and, BitVec.getLsbD_not, BitVec.getLsbD_ofNat, BitVec.getLsbD_ofNat]
  simp only [hi, decide_true, Bool.true_and]
theorem bits_anot (a b : Nat) : bits BinOp.andNot IntKind.u64 (a : Int) (b : Int) = ((anot a b : Nat) : Int) := by
  have := anot_lt a b
  show IntKind.u64.wrap (((BitVec.ofInt 64 (a : Int) &&& ~~~ BitVec.ofInt 64 (b : Int)).toNat : Nat) : Int) = _
  rw [BitVec.ofInt_natCast, BitVec.ofInt_natCast]
  exact IntWalk.u64_in _ (by unfold anot at this; omega)
theorem mem_and (a b c d i : Nat) : mem (a &&& c) (b &&& d) i = (mem a b i && mem c d i) := by
  by_cases h : i < 64
  · rw [mem_lo h, mem_lo h, mem_lo h, Nat.testBit_and]
  · rw [mem_hi h, mem_hi h, mem_hi h, Nat.testBit_and]
theorem mem_anot (a b c d i : Nat) (hi : i < 128) : mem (anot a c) (anot b d) i = (mem a b i && !mem c d i) := by
  by_cases h : i < 64
  · rw [mem_lo h, mem_lo h, mem_lo h, anot_bit _ _ _ h]
  · rw [mem_hi h, mem_hi h, mem_hi h, anot_bit _ _ _ (by omega)]
theorem minus_any (a b c d : Nat) (w : World) :
    Calls Tryd.prog 80 #[.agg #[.int .u64 a, .int .u64 b], .agg #[.int .u64 c, .int .u64 d]] w fun e w' => e = .returned (.agg #[.int .u64 (anot a c), .int .u64 (anot b d)]) ∧ Below w.heap.size w w' := by
  have e1 := bits_anot a c
  have e2 := bits_anot b d
  generalize anot a c = r0 at *
  generalize anot b d = r1 at *
  go_enter Tryd.func80, Tryd.ntmps80
  go_wp2
  exact bodyPost_ret (v := .agg #[.int .u64 r0, .int .u64 r1]) (by simp [results, Tryd.results80, go_sem]) rfl ⟨rfl, bl_al (bl_al (bl_al (Below.refl _ _) _) _) _⟩
theorem count_any (a b : Nat) (ha : a < 18446744073709551616) (hb : b < 18446744073709551616) (w : World) :
    Calls Tryd.prog 65 #[.agg #[.int .u64 a, .int .u64 b]] w fun e w' => e = .returned (.int .i64 (nums (mem a b)).length) ∧ Below w.heap.size w w' := by
  have H1 := Lib.hid (fun W => pop_any a ha W)
  have H2 := Lib.hid (fun W => pop_any b hb W)
  have hE : ((pc 64 a : Nat) : Int) + ((pc 64 b : Nat) : Int) = (((nums (mem a b)).length : Nat) : Int) := by rw [← count_nums]; omega
  have l1 := pc_le 64 a
  have l2 := pc_le 64 b
  have hw : IntKind.i64.wrap (((pc 64 a : Nat) : Int) + ((pc 64 b : Nat) : Int)) = (((nums (mem a b)).length : Nat) : Int) := by rw [← hE]; exact IntWalk.i64_in _ (by omega)
  clear hE
  generalize pc 64 a = p at *
  generalize pc 64 b = q at *
  generalize (nums (mem a b)).length = m at *
  go_enter Tryd.func65, Tryd.ntmps65
  go_wp2
  go_region_held3 (fun w' => w'.cell? ⟨w.heap.size, 0, none⟩ = some (.int .u64 a) ∧ w'.cell? ⟨w.heap.size, 1, none⟩ = some (.int .u64 b))
    (first | exact ⟨by simp, by simp⟩ | assumption)
    (first
      | (go_at_call 87; with_reducible refine (H1.out _).mono ?_; rintro e x1 ⟨rfl, rfl⟩)
      | (go_at_call 87; with_reducible refine (H2.out _).mono ?_; rintro e x1 ⟨rfl, rfl⟩))
  all_goals go_wp2
  all_goals
    go_ret
    exact ⟨rfl, bl_dn (bl_al (Below.refl _ _) _) _⟩
end Go.Proofs.YtlhpiikpmmlpeaaDoor.st

/-
  What Full, Next, Rank and Has answer.
-/
namespace Go.Proofs.YtlhpiikpmmlpeaaDoor.st
open Go.RowKit
set_option linter.unusedVariables false
/-- the lowest bits of a part, so many -/
def lowv (n : Int) : Nat := if n ≤ 0 then 0 else if n < 64 then 2 ^ n.toNat - 1 else 18446744073709551615
theorem lowv_lt (n : Int) : lowv n < 18446744073709551616 := by
  unfold lowv
  split
  · decide
  · split
    · have : 2 ^ n.toNat ≤ 2 ^ 63 := Nat.pow_le_pow_right (by decide) (by omega)
      omega
    · decide
theorem lowv_bit (n : Int) (i : Nat) (hi : i < 64) : (lowv n).testBit i = decide ((i : Int) < n) := by
  unfold lowv
  split
  · rename_i h; rw [Nat.zero_testBit]; simp; omega
  · split
    · rename_i h1 h2
      rw [Nat.testBit_two_pow_sub_one]
      congr 1
      simp only [eq_iff_iff]; omega
    · rename_i h1 h2
      have := Nat.testBit_two_pow_sub_one 64 i
      rw [show (2 : Nat) ^ 64 - 1 = 18446744073709551615 by decide] at this
      rw [this]
      congr 1
      simp only [eq_iff_iff]; omega
theorem low_great (n : Int) (h : 64 ≤ n) (h2 : n ≤ 128) (w : World) :
    Calls Tryd.prog 91 #[.int .i64 n] w fun e w' => e = .returned (.int .u64 18446744073709551615) ∧ w = w' := by
  have hm : max n 0 = n := by omega
  have h4 : ¬ n < 0 := by omega
  have h5 : ¬ n < 64 := by omega
  go_enter Tryd.func91, Tryd.ntmps91
  go_wp2
  all_goals go_ret
  all_goals exact ⟨rfl, rfl⟩
theorem low_all (n : Int) (h2 : n ≤ 128) (w : World) : Calls Tryd.prog 91 #[.int .i64 n] w fun e w' => e = .returned (.int .u64 (lowv n)) ∧ w = w' := by
  by_cases h : n ≤ 0
  · have e : lowv n = 0 := by unfold lowv; rw [if_pos h]
    rw [e]
    exact lowest_neg n h w
  · by_cases h3 : n < 64
    · obtain ⟨m, rfl⟩ : ∃ m : Nat, n = m := ⟨n.toNat, by omega⟩
      have hp : 0 < 2 ^ m := Nat.two_pow_pos m
      have e : ((lowv (m : Int) : Nat) : Int) = 2 ^ m - 1 := by
        unfold lowv
        rw [if_neg h, if_pos h3, Int.toNat_natCast]
        have : (2 : Int) ^ m = ((2 ^ m : Nat) : Int) := by simp
        rw [this]; omega
      rw [e]
      exact lowest_pos m (by omega) w
    · have e : ((lowv n : Nat) : Int) = 18446744073709551615 := by unfold lowv; rw [if_neg h, if_neg h3]; rfl
      rw [e]
      exact low_great n (by omega) h2 w
attribute [irreducible] lowv
end Go.Proofs.YtlhpiikpmmlpeaaDoor.st

/-
  A list of numbers in memory.
-/
namespace Go.Proofs.YtlhpiikpmmlpeaaDoor.st
open Go.RowKit
set_option linter.unusedVariables false
def Ints (W : World) (a : Option Addr) (l : List Int) : Prop := ∀ j, j < l.length → ∃ b o, a = some ⟨b, o, none⟩ ∧ b < W.heap.size ∧ W.cell? ⟨b, o + j, none⟩ = some (.int .i64 (l[j]?.getD 0))
theorem drop_get {l : List Int} {k : Nat} (h : k < l.length) : l.drop k = (l[k]?.getD 0) :: l.drop (k + 1) := by
  rw [List.getElem?_eq_getElem h, Option.getD_some]
  exact (List.getElem_cons_drop h).symm
end Go.Proofs.YtlhpiikpmmlpeaaDoor.st

/-
  What With and Of answer.
-/
namespace Go.Proofs.YtlhpiikpmmlpeaaDoor.st
open Go.RowKit
set_option linter.unusedVariables false

theorem two_keep {W W1 : World} {b : Nat} {v0 v1 : Value} {t : TypeId} (hb : Below W.heap.size W W1) (q : W.heap[b]? = some (.cells #[v0, v1] t (0, 0))) :
    W1.cell? ⟨b, 0, none⟩ = some v0 ∧ W1.cell? ⟨b, 1, none⟩ = some v1 :=
  have e := (hb.block _ (lt_hp q)).trans q
  ⟨cell_of_row _ _ 0 _ _ _ e, cell_of_row _ _ 1 _ _ _ e⟩
set_option maxHeartbeats 1000000 in
theorem with_any (s : Nat) (hs : s < 2 ^ 128) (i : Int) (w : World) :
    Calls Tryd.prog 88 #[.agg #[.int .u64 (lo s), .int .u64 (hi s)], .int .i64 i] w fun e w' => e = .returned (.agg #[.int .u64 (lo (s ||| bit i)), .int .u64 (hi (s ||| bit i))]) ∧ Below w.heap.size w w' := by
  have H1 := Lib.hid (fun W => single_any i W)
  have H2 := Lib.hid (fun W => or_any s (bit i) hs (bit_lt i) W)
  clear hs
  generalize lo (s ||| bit i) = r0 at *
  generalize hi (s ||| bit i) = r1 at *
  generalize lo s = s0 at *
  generalize hi s = s1 at *
  generalize lo (bit i) = b0 at *
  generalize hi (bit i) = b1 at *
  go_enter Tryd.func88, Tryd.ntmps88
  go_wp2
  have q : ((w.alloc (.cells #[.int .u64 s0, .int .u64 s1] 55)).alloc (.cells #[.int .u64 0, .int .u64 0] 55)).heap[w.heap.size]? = some (.cells #[.int .u64 s0, .int .u64 s1] 55 (0, 0)) := heap_alloc2_old w _ _
  have q2 : ((w.alloc (.cells #[.int .u64 s0, .int .u64 s1] 55)).alloc (.cells #[.int .u64 0, .int .u64 0] 55)).heap[w.heap.size + 1]? = some (.cells #[.int .u64 0, .int .u64 0] 55 (0, 0)) := heap_alloc2_new w _ _
  have B0 := Lib.hid (bl_al (bl_al (Below.refl w.heap.size w) (.cells #[.int .u64 s0, .int .u64 s1] 55)) (.cells #[.int .u64 0, .int .u64 0] 55))
  have Q := Lib.hid q
  have Q2 := Lib.hid q2
  clear q q2
  generalize ((w.alloc (.cells #[.int .u64 s0, .int .u64 s1] 55)).alloc (.cells #[.int .u64 0, .int .u64 0] 55)) = X at *
  obtain ⟨c0, c1⟩ := two_keep (Below.refl _ _) Q.out
  go_region_with (first
    | (go_at_call 98; refine (H1.out _).mono ?_; rintro e w1 ⟨rfl, hb1⟩; obtain ⟨k0, k1⟩ := two_keep hb1 Q.out)
    | (go_at_call 99; refine (H2.out _).mono ?_; rintro e w2 ⟨rfl, hb2⟩; have hb3 := bl_tr hb1 hb2; obtain ⟨m0, m1⟩ := two_keep hb3 Q2.out; have mf := frozen_of_row _ _ 0 _ _ ((hb3.block _ (lt_hp Q2.out)).trans Q2.out); have mf1 := frozen_of_row _ _ 1 _ _ ((hb3.block _ (lt_hp Q2.out)).trans Q2.out)))
  all_goals
    go_wp2
    exact bodyPost_ret (v := .agg #[.int .u64 r0, .int .u64 r1]) (by simp [results, Tryd.results88, go_sem, m0, m1]) rfl ⟨rfl, ((B0.out.trans ((bl_undr hb3).mono B0.out.size)).setCell (p := ⟨w.heap.size + 1, 0, none⟩) (by simp) _).setCell (p := ⟨w.heap.size + 1, 1, none⟩) (by simp) _⟩

/-- the set that is made, and the place of what is told -/
def OfAt (w : World) (l : List Int) (k : Nat) (wr : World) : Prop :=
  ∃ s : Nat, s < 2 ^ 128 ∧ ofS 0 l = ofS s (l.drop k) ∧ wr.heap[w.heap.size]? = some (.cells #[.int .u64 0, .int .u64 0] 55 (0, 0)) ∧ wr.heap[w.heap.size + 1]? = some (.cells #[.int .u64 (lo s), .int .u64 (hi s)] 55 (0, 0)) ∧ Below w.heap.size w wr
theorem two_set {W : World} {b : Nat} {v0 v1 u0 u1 : Value} {t : TypeId} (q : W.heap[b]? = some (.cells #[v0, v1] t (0, 0))) :
    ((W.setCell ⟨b, 0, none⟩ u0).setCell ⟨b, 1, none⟩ u1).heap[b]? = some (.cells #[u0, u1] t (0, 0)) := by
  have h0 := heap_setCell_same W b 0 _ t u0 q
  have h1 := heap_setCell_same _ b 1 _ t u1 h0
  simpa using h1
theorem of_next {w wr w2 : World} {l : List Int} {k : Nat} {s : Nat} {x : Int} (hx : l.drop k = x :: l.drop (k + 1)) (hs : s < 2 ^ 128) (he : ofS 0 l = ofS s (l.drop k)) (q1 : wr.heap[w.heap.size]? = some (.cells #[.int .u64 0, .int .u64 0] 55 (0, 0)))
    (q2 : wr.heap[w.heap.size + 1]? = some (.cells #[.int .u64 (lo s), .int .u64 (hi s)] 55 (0, 0))) (hb : Below w.heap.size w wr) (hb2 : Below wr.heap.size wr w2) (u0 u1 : Value) (e0 : u0 = .int .u64 (lo (s ||| bit x))) (e1 : u1 = .int .u64 (hi (s ||| bit x))) :
    OfAt w l (k + 1) ((w2.setCell ⟨w.heap.size + 1, 0, none⟩ u0).setCell ⟨w.heap.size + 1, 1, none⟩ u1) := by
  refine ⟨s ||| bit x, Nat.or_lt_two_pow hs (bit_lt x), by rw [he, hx, ofS_cons], ?_, ?_, ?_⟩
  · rw [heap_setCell_other _ ⟨w.heap.size + 1, 1, none⟩ _ _ (by simp), heap_setCell_other _ ⟨w.heap.size + 1, 0, none⟩ _ _ (by simp)]
    exact (hb2.block _ (lt_hp q1)).trans q1
  · subst e0 e1
    exact two_set ((hb2.block _ (lt_hp q2)).trans q2)
  · exact ((hb.trans (hb2.mono hb.size)).setCell (p := ⟨w.heap.size + 1, 0, none⟩) (by simp) _).setCell (p := ⟨w.heap.size + 1, 1, none⟩) (by simp) _
theorem of_start (w : World) (l : List Int) : OfAt w l 0 ((w.alloc (.cells #[.int .u64 0, .int .u64 0] 55)).alloc (.cells #[.int .u64 0, .int .u64 0] 55)) :=
  ⟨0, by decide, rfl, heap_alloc2_old w _ _, by
    have e0 : lo 0 = 0 := by unfold lo; rfl
    have e1 : hi 0 = 0 := by unfold hi; rfl
    rw [e0, e1]; exact heap_alloc2_new w _ _, bl_al (bl_al (Below.refl _ _) _) _⟩
set_option maxHeartbeats 1000000 in
theorem of_any (l : List Int) (a : Option Addr) (c : Nat) (w : World) (hI : Ints w a l) (hl : l.length ≤ 1000) :
    Calls Tryd.prog 78 #[.slice a l.length c] w fun e w' => e = .returned (.agg #[.int .u64 (lo (ofS 0 l)), .int .u64 (hi (ofS 0 l))]) ∧ Below w.heap.size w w' := by
  have A0 := Lib.hid (of_start w l)
  have HI := Lib.hid hI
  have HL := Lib.hid hl
  generalize hn : l.length = n at *
  have HN := Lib.hid hn
  clear hI hl hn
  have hn1 := HL.out
  go_enter Tryd.func78, Tryd.ntmps78
  go_wp2
  go_loopw [8] (fun i wr => ∃ k : Nat, k ≤ n ∧ i = .int .i64 k ∧ Hid (OfAt w l k wr)) (fun i _ => n - (intOf i).toNat)
  case atStart => exact ⟨0, by omega, rfl, A0⟩
  case round =>
    clear A0
    obtain ⟨k, hk, rfl, HO⟩ := hrel
    obtain ⟨s, hs, he, q1, q2, hb⟩ := HO.out
    clear HO
    have HE := Lib.hid he
    have Q1 := Lib.hid q1
    have Q2 := Lib.hid q2
    have HB := Lib.hid hb
    have HS := Lib.hid hs
    obtain ⟨c0, c1⟩ := two_keep (Below.refl _ _) q2
    clear he q1 q2 hb hs
    by_cases hlt : k < n
    · obtain ⟨b, o, rfl, hbl, hc⟩ := HI.out k (by have := HN.out; omega)
      have hd := Lib.hid (drop_get (l := l) (k := k) (by have := HN.out; omega))
      have hcr : wr.cell? ⟨b, o + k, none⟩ = some (.int .i64 (l[k]?.getD 0)) := (HB.out.cell (p := ⟨b, o + k, none⟩) hbl).trans hc
      clear hc
      generalize l[k]?.getD 0 = x at *
      have HW := Lib.hid (fun W => with_any s HS.out x W)
      have U0 : ∃ v, v = lo (s ||| bit x) := ⟨_, rfl⟩
      obtain ⟨u0, hu0⟩ := U0
      have U1 : ∃ v, v = hi (s ||| bit x) := ⟨_, rfl⟩
      obtain ⟨u1, hu1⟩ := U1
      rw [← hu0, ← hu1] at HW
      have HU0 := Lib.hid hu0
      have HU1 := Lib.hid hu1
      clear hu0 hu1
      generalize hlo : lo s = s0 at *
      generalize hhi : hi s = s1 at *
      have HLO := Lib.hid hlo
      have HHI := Lib.hid hhi
      clear hlo hhi
      go_wp2_with fail
      refine (HW.out _).mono ?_; rintro e w2 ⟨rfl, hb2⟩
      have HB2 := Lib.hid hb2
      obtain ⟨d0, d1⟩ := two_keep HB2.out Q2.out
      have df := frozen_of_row _ _ 0 _ _ ((HB2.out.block _ (lt_hp Q2.out)).trans Q2.out)
      have df1 := frozen_of_row _ _ 1 _ _ ((HB2.out.block _ (lt_hp Q2.out)).trans Q2.out)
      clear hb2
      go_wp2
      go_roundw
      case rel => exact ⟨k + 1, by omega, by go_num, of_next hd.out HS.out HE.out Q1.out (by rw [HLO.out, HHI.out]; exact Q2.out) HB.out HB2.out _ _ (by rw [HU0.out]) (by rw [HU1.out])⟩
      case measure => simp [intOf]; omega
    · obtain rfl : n = k := by omega
      have e := HE.out
      rw [List.drop_eq_nil_of_le (by have := HN.out; omega), ofS_nil] at e
      subst e
      obtain ⟨r0, r1⟩ := two_keep (Below.refl _ _) Q1.out
      have rf := frozen_of_row _ _ 0 _ _ Q1.out
      have rf1 := frozen_of_row _ _ 1 _ _ Q1.out
      clear HE hk hlt
      go_wp2
      exact bodyPost_ret (v := .agg #[.int .u64 (lo (ofS 0 l)), .int .u64 (hi (ofS 0 l))]) (by simp [results, Tryd.results78, go_sem, r0, r1]) rfl ⟨rfl, (HB.out.setCell (p := ⟨w.heap.size, 0, none⟩) (by simp) _).setCell (p := ⟨w.heap.size, 1, none⟩) (by simp) _⟩
end Go.Proofs.YtlhpiikpmmlpeaaDoor.st

/-
  What Full, Next, Rank and Has answer.
-/
namespace Go.Proofs.YtlhpiikpmmlpeaaDoor.st
open Go.RowKit
set_option linter.unusedVariables false
/-- how many numbers Full has -/
def clamp (n : Int) : Int := min (max n 0) 128
theorem full_bit (n : Int) (i : Nat) (hi : i < 128) : mem (lowv (clamp n)) (lowv (clamp n - 64)) i = decide ((i : Int) < n) := by
  have hc : clamp n = min (max n 0) 128 := rfl
  by_cases h : i < 64
  · rw [mem_lo h, lowv_bit _ _ h]
    congr 1
    simp only [eq_iff_iff]; omega
  · rw [mem_hi h, lowv_bit _ _ (by omega)]
    congr 1
    simp only [eq_iff_iff]; omega
theorem full_neg (n : Int) (h : n < 0) (w : World) :
    Calls Tryd.prog 77 #[.int .i64 n] w fun e w' => e = .returned (.agg #[.int .u64 (lowv 0), .int .u64 (lowv (-64))]) ∧ Below w.heap.size w w' := by
  have H1 := Lib.hid (fun W => low_all 0 (by omega) W)
  have H2 := Lib.hid (fun W => low_all (-64) (by omega) W)
  have q1 : ¬ 0 ≤ n := by omega
  generalize lowv 0 = r0 at *
  generalize lowv (-64) = r1 at *
  go_enter Tryd.func77, Tryd.ntmps77
  go_wp2_with fail
  refine (H1.out _).mono ?_; rintro e w1 ⟨rfl, rfl⟩
  go_wp2_with fail
  refine (H2.out _).mono ?_; rintro e w1 ⟨rfl, rfl⟩
  go_wp2
  exact bodyPost_ret (v := .agg #[.int .u64 r0, .int .u64 r1]) (by simp [results, Tryd.results77, go_sem]) rfl ⟨rfl, bl_al (Below.refl _ _) _⟩
theorem full_mid (n : Int) (h0 : 0 ≤ n) (h1 : n ≤ 128) (w : World) :
    Calls Tryd.prog 77 #[.int .i64 n] w fun e w' => e = .returned (.agg #[.int .u64 (lowv n), .int .u64 (lowv (n - 64))]) ∧ Below w.heap.size w w' := by
  have H1 := Lib.hid (fun W => low_all n (by omega) W)
  have H2 := Lib.hid (fun W => low_all (n - 64) (by omega) W)
  generalize lowv n = r0 at *
  generalize lowv (n - 64) = r1 at *
  go_enter Tryd.func77, Tryd.ntmps77
  go_wp2_with fail
  refine (H1.out _).mono ?_; rintro e w1 ⟨rfl, rfl⟩
  go_wp2_with fail
  refine (H2.out _).mono ?_; rintro e w1 ⟨rfl, rfl⟩
  go_wp2
  exact bodyPost_ret (v := .agg #[.int .u64 r0, .int .u64 r1]) (by simp [results, Tryd.results77, go_sem]) rfl ⟨rfl, bl_al (Below.refl _ _) _⟩
theorem full_top (n : Int) (h : 128 < n) (w : World) :
    Calls Tryd.prog 77 #[.int .i64 n] w fun e w' => e = .returned (.agg #[.int .u64 (lowv 128), .int .u64 (lowv (64))]) ∧ Below w.heap.size w w' := by
  have H1 := Lib.hid (fun W => low_all 128 (by omega) W)
  have H2 := Lib.hid (fun W => low_all (64) (by omega) W)
  have q1 : 0 ≤ n := by omega
  have q2 : ¬ n ≤ 128 := by omega
  generalize lowv 128 = r0 at *
  generalize lowv (64) = r1 at *
  go_enter Tryd.func77, Tryd.ntmps77
  go_wp2_with fail
  refine (H1.out _).mono ?_; rintro e w1 ⟨rfl, rfl⟩
  go_wp2_with fail
  refine (H2.out _).mono ?_; rintro e w1 ⟨rfl, rfl⟩
  go_wp2
  exact bodyPost_ret (v := .agg #[.int .u64 r0, .int .u64 r1]) (by simp [results, Tryd.results77, go_sem]) rfl ⟨rfl, bl_al (Below.refl _ _) _⟩
theorem full_all (n : Int) (w : World) :
    Calls Tryd.prog 77 #[.int .i64 n] w fun e w' => e = .returned (.agg #[.int .u64 (lowv (clamp n)), .int .u64 (lowv (clamp n - 64))]) ∧ Below w.heap.size w w' := by
  by_cases h : n < 0
  · have e : clamp n = 0 := by unfold clamp; omega
    rw [e]; exact full_neg n h w
  · by_cases h1 : n ≤ 128
    · have e : clamp n = n := by unfold clamp; omega
      rw [e]; exact full_mid n (by omega) h1 w
    · have e : clamp n = 128 := by unfold clamp; omega
      rw [e]; exact full_top n (by omega) w
attribute [irreducible] clamp
theorem clamp_in (n : Int) (h0 : 0 ≤ n) (h1 : n ≤ 128) : clamp n = n := by unfold clamp; omega
end Go.Proofs.YtlhpiikpmmlpeaaDoor.st

/-
  What Has answers.
-/
namespace Go.Proofs.YtlhpiikpmmlpeaaDoor.st
open Go.RowKit
set_option linter.unusedVariables false
theorem eq_two (a0 a1 b0 b1 : Int) (w : World) : (Op.equalIn 10000 55 (.agg #[.int .u64 a0, .int .u64 a1]) (.agg #[.int .u64 b0, .int .u64 b1])).run Tryd.prog w = .ok (a0 == b0 && a1 == b1) w := by
  have h3 : ∀ (a b : Int) (w : World), (Op.equalIn 9999 53 (.int .u64 a) (.int .u64 b)).run Tryd.prog w = .ok (a == b) w := fun a b w => run_equalIn_int w 9998 53 .u64 .u64 a b Tryd.underlying53
  rw [run_equalIn_array w 9999 (n := 2) (e := 53) (i := (Tryd.prog.info? 53).get (by kernel_rfl)) _ _ Tryd.underlying55 (by kernel_rfl)]
  have hc : Tryd.prog.cellsOf 53 = 1 := by kernel_rfl
  rw [hc]
  simp [List.range_succ, Op.eqItems, part, go_sem, h3]
  by_cases e0 : a0 = b0
  rotate_left
  · simp [e0]
  rw [if_pos e0]
  by_cases e1 : a1 = b1 <;> simp [e0, e1]
theorem mem_one (i j : Nat) (h1 : i < 128) (h2 : j < 128) : mem (lo (bit (i : Int))) (hi (bit (i : Int))) j = decide (j = i) := by
  have hb := bit_test (i : Int) j h2
  by_cases h : j < 64
  · rw [mem_lo h]
    unfold lo
    have := Nat.testBit_mod_two_pow (bit (i : Int)) 64 j
    rw [show (2 : Nat) ^ 64 = 18446744073709551616 from rfl] at this
    rw [this, hb]
    simp only [h, decide_true, Bool.true_and]
    congr 1
    simp only [eq_iff_iff]; omega
  · rw [mem_hi h]
    unfold hi
    have := Nat.testBit_div_two_pow (n := 64) (bit (i : Int)) (j - 64)
    rw [show (2 : Nat) ^ 64 = 18446744073709551616 from rfl] at this
    rw [this, show j - 64 + 64 = j by omega, hb]
    congr 1
    simp only [eq_iff_iff]; omega
theorem none_zero {a b : Nat} (ha : a < 18446744073709551616) (hb : b < 18446744073709551616) (h : ∀ j, j < 128 → mem a b j = false) : a = 0 ∧ b = 0 := by
  constructor
  · apply Nat.eq_of_testBit_eq
    intro j
    rw [Nat.zero_testBit]
    by_cases hj : j < 64
    · rw [← mem_lo (x := a) (y := b) hj]; exact h j (by omega)
    · exact Nat.testBit_lt_two_pow (Nat.lt_of_lt_of_le ha (by rw [show 18446744073709551616 = 2 ^ 64 from rfl]; exact Nat.pow_le_pow_right (by decide) (by omega)))
  · apply Nat.eq_of_testBit_eq
    intro j
    rw [Nat.zero_testBit]
    by_cases hj : j < 64
    · have := h (j + 64) (by omega)
      rw [mem_hi (by omega)] at this
      simpa using this
    · exact Nat.testBit_lt_two_pow (Nat.lt_of_lt_of_le hb (by rw [show 18446744073709551616 = 2 ^ 64 from rfl]; exact Nat.pow_le_pow_right (by decide) (by omega)))
theorem has_of (x y i : Nat) (hi0 : i < 128) (hx : x < 18446744073709551616) (hy : y < 18446744073709551616) : ((((x &&& lo (bit (i : Int)) : Nat) : Int) == 0) && (((y &&& hi (bit (i : Int)) : Nat) : Int) == 0)) = !mem x y i := by
  have hm : ∀ j, j < 128 → mem (x &&& lo (bit (i : Int))) (y &&& hi (bit (i : Int))) j = (mem x y j && decide (j = i)) := fun j hj => by rw [mem_and, mem_one i j hi0 hj]
  have la : x &&& lo (bit (i : Int)) < 18446744073709551616 := Nat.lt_of_le_of_lt Nat.and_le_left hx
  have lb : y &&& hi (bit (i : Int)) < 18446744073709551616 := Nat.lt_of_le_of_lt Nat.and_le_left hy
  by_cases h : mem x y i = true
  · rw [h]
    have h2 := hm i hi0
    rw [h] at h2
    generalize x &&& lo (bit (i : Int)) = a at *
    generalize y &&& hi (bit (i : Int)) = b at *
    by_cases e : a = 0 ∧ b = 0
    · obtain ⟨rfl, rfl⟩ := e
      exfalso
      have : mem 0 0 i = false := by unfold mem; split <;> exact Nat.zero_testBit _
      rw [this] at h2
      simp at h2
    · have : ¬ ((a : Int) = 0 ∧ (b : Int) = 0) := by omega
      simp only [Bool.not_true]
      by_cases e1 : a = 0
      · have : ¬ b = 0 := fun q => e ⟨e1, q⟩
        simp [this]
      · simp [e1]
  · have hf : mem x y i = false := by simpa using h
    obtain ⟨e1, e2⟩ := none_zero la lb (fun j hj => by
      rw [hm j hj]
      by_cases e : j = i
      · subst e; rw [hf]; rfl
      · simp [e])
    rw [e1, e2, hf]
    rfl
end Go.Proofs.YtlhpiikpmmlpeaaDoor.st
