import Derived.WalkKit
import Derived.Test.YtaobaiifbmhegaaInOne
import Derived.IntWalk
import Derived.Deep.RegionWith
import Derived.Test.YtaobaiifbmhegaaSrc
import Derived.Deep.RegionHeld3
import Derived.Deep.QuietTactic
import Derived.BigQuiet
import Derived.ChangeKeysEq

/-
  Numbers of 128 bits as sets, and orders: plain mathematics.
-/
namespace Go.Proofs.Ytaobaiifbmhegaa
set_option linter.unusedVariables false

/-- the one number's set -/
def bit (i : Int) : Nat := if 0 ≤ i ∧ i < 128 then 2 ^ i.toNat else 0
def ofS (s : Nat) (l : List Int) : Nat := l.foldl (fun s i => s ||| bit i) s
theorem ofS_nil (s : Nat) : ofS s [] = s := rfl
theorem ofS_cons (s : Nat) (x : Int) (l : List Int) : ofS s (x :: l) = ofS (s ||| bit x) l := rfl
theorem bit_lt (i : Int) : bit i < 2 ^ 128 := by
  unfold bit
  split
  · exact Nat.pow_lt_pow_right (by decide) (by omega)
  · exact Nat.two_pow_pos _
theorem ofS_lt : ∀ (l : List Int) (s : Nat), s < 2 ^ 128 → ofS s l < 2 ^ 128
  | [], s, h => h
  | x :: l, s, h => ofS_lt l _ (Nat.or_lt_two_pow h (bit_lt x))
theorem bit_test (i : Int) (j : Nat) (hj : j < 128) : (bit i).testBit j = decide (i = (j : Int)) := by
  unfold bit
  split
  · rename_i h
    rw [Nat.testBit_two_pow]
    congr 1
    simp only [eq_iff_iff]; omega
  · rename_i h
    rw [Nat.zero_testBit]
    symm; simp; omega
theorem ofS_test : ∀ (l : List Int) (s : Nat) (j : Nat), j < 128 → (ofS s l).testBit j = (s.testBit j || decide ((j : Int) ∈ l))
  | [], s, j, hj => by simp [ofS_nil]
  | x :: l, s, j, hj => by
    rw [ofS_cons, ofS_test l _ j hj, Nat.testBit_or, bit_test x j hj]
    by_cases h : x = (j : Int)
    · subst h; simp
    · have h' : ¬ (j : Int) = x := fun e => h e.symm
      simp [h, h']
theorem full_test (n j : Nat) : (2 ^ n - 1).testBit j = decide (j < n) := Nat.testBit_two_pow_sub_one n j
/-- an order of 0 to n - 1 -/
def permP (l : List Int) (n : Nat) : Prop := l.length = n ∧ ∀ j, j < n → (j : Int) ∈ l
theorem perm_pig : ∀ (n : Nat) (l : List Int), (∀ j, j < n → (j : Int) ∈ l) → n ≤ l.length ∧ (l.length = n → (∀ j, j < n → l.count (j : Int) = 1) ∧ ∀ x ∈ l, 0 ≤ x ∧ x < n)
  | 0, l, _ => ⟨Nat.zero_le _, fun h => by
      have := List.eq_nil_of_length_eq_zero h
      subst this
      exact ⟨fun j hj => absurd hj (by omega), fun x hx => absurd hx (by simp)⟩⟩
  | n + 1, l, h => by
    have hn : (n : Int) ∈ l := h n (by omega)
    have hl := List.length_erase_of_mem hn
    have hpos : 0 < l.length := List.length_pos_of_mem hn
    obtain ⟨p1, p2⟩ := perm_pig n (l.erase (n : Int)) (fun j hj => (List.mem_erase_of_ne (by omega)).2 (h j (by omega)))
    refine ⟨by omega, fun hlen => ?_⟩
    obtain ⟨q1, q2⟩ := p2 (by omega)
    refine ⟨fun j hj => ?_, fun x hx => ?_⟩
    · by_cases e : j = n
      · subst e
        have c0 : (l.erase (j : Int)).count (j : Int) = 0 := List.count_eq_zero.2 (fun hm => by have := q2 _ hm; omega)
        have c1 := List.count_erase_self (a := (j : Int)) (l := l)
        have c2 : 0 < l.count (j : Int) := List.count_pos_iff.2 hn
        omega
      · have := q1 j (by omega)
        rwa [List.count_erase_of_ne (by omega)] at this
    · by_cases e : x = (n : Int)
      · omega
      · have := q2 x ((List.mem_erase_of_ne e).2 hx)
        omega
theorem full_iff (l : List Int) (n : Nat) (hn : n ≤ 128) (hl : l.length = n) : ofS 0 l = 2 ^ n - 1 ↔ permP l n := by
  constructor
  · intro h
    refine ⟨hl, fun j hj => ?_⟩
    have := ofS_test l 0 j (by omega)
    rw [h, full_test] at this
    simpa [hj] using this
  · rintro ⟨_, h⟩
    have P := ((perm_pig n l h).2 hl).2
    apply Nat.eq_of_testBit_eq
    intro j
    rcases Nat.lt_or_ge j 128 with hj | hj
    · rw [ofS_test l 0 j hj, full_test, Nat.zero_testBit, Bool.false_or]
      congr 1
      simp only [eq_iff_iff]
      exact ⟨fun hm => by have := P _ hm; omega, fun hlt => h j hlt⟩
    · rw [full_test, Nat.testBit_lt_two_pow (Nat.lt_of_lt_of_le (ofS_lt l 0 (by decide)) (Nat.pow_le_pow_right (by decide) hj))]
      symm; simp; omega
theorem perm_count (l : List Int) (n : Nat) (hl : l.length = n) : (∀ k, k < n → l.count (k : Int) = 1) ↔ permP l n :=
  ⟨fun h => ⟨hl, fun j hj => List.count_pos_iff.1 (by rw [h j hj]; decide)⟩, fun h => ((perm_pig n l h.2).2 hl).1⟩
end Go.Proofs.Ytaobaiifbmhegaa

/-
  What the functions of the package set answer that value calls: Of, Full, With, Or.
-/
namespace Go.Proofs.Ytaobaiifbmhegaa
open Go.RowKit
set_option linter.unusedVariables false

theorem wrap_pow (k : Nat) (h : k < 64) : IntKind.u64.wrap (2 ^ k) = 2 ^ k := by
  have h1 : 2 ^ k ≤ 2 ^ 63 := Nat.pow_le_pow_right (by decide) (by omega)
  have e : (2 : Int) ^ k = ((2 ^ k : Nat) : Int) := by simp
  rw [e]
  generalize 2 ^ k = m at *
  exact IntWalk.u64_in _ (by omega)
theorem wrap_pow1 (k : Nat) (h : k < 64) : IntKind.u64.wrap (2 ^ k - 1) = 2 ^ k - 1 := by
  have h1 : 2 ^ k ≤ 2 ^ 63 := Nat.pow_le_pow_right (by decide) (by omega)
  have h2 : 0 < 2 ^ k := Nat.two_pow_pos k
  have e : (2 : Int) ^ k = ((2 ^ k : Nat) : Int) := by simp
  rw [e]
  generalize 2 ^ k = m at *
  exact IntWalk.u64_in _ (by omega)
theorem bits_or (x y : Nat) (hx : x < 18446744073709551616) (hy : y < 18446744073709551616) : bits BinOp.or IntKind.u64 x y = ((x ||| y : Nat) : Int) := by
  have h : x ||| y < 2 ^ 64 := Nat.or_lt_two_pow (by simpa using hx) (by simpa using hy)
  show IntKind.u64.wrap (((BitVec.ofInt 64 (x : Int) ||| BitVec.ofInt 64 (y : Int)).toNat : Nat) : Int) = _
  have e : (BitVec.ofInt 64 (x : Int) ||| BitVec.ofInt 64 (y : Int)).toNat = x ||| y := by
    rw [BitVec.toNat_or, BitVec.ofInt_natCast, BitVec.ofInt_natCast, BitVec.toNat_ofNat, BitVec.toNat_ofNat, Nat.mod_eq_of_lt (by simpa using hx), Nat.mod_eq_of_lt (by simpa using hy)]
  rw [e]
  exact IntWalk.u64_in _ (by omega)
/-- the two parts of a set -/
def lo (n : Nat) : Nat := n % 18446744073709551616
def hi (n : Nat) : Nat := n / 18446744073709551616
theorem lo_or (a b : Nat) : lo (a ||| b) = lo a ||| lo b := by
  unfold lo
  have := Nat.or_mod_two_pow (a := a) (b := b) (n := 64)
  simpa using this
theorem hi_or (a b : Nat) : hi (a ||| b) = hi a ||| hi b := by
  unfold hi
  have := Nat.or_div_two_pow (a := a) (b := b) (n := 64)
  simpa using this
theorem lo_lt (a : Nat) : lo a < 18446744073709551616 := Nat.mod_lt _ (by decide)
theorem hi_lt (a : Nat) (h : a < 2 ^ 128) : hi a < 18446744073709551616 := by
  unfold hi
  rw [Nat.div_lt_iff_lt_mul (by decide)]
  simpa using h
theorem lo_hi (a b : Nat) (h1 : lo a = lo b) (h2 : hi a = hi b) : a = b := by
  unfold lo hi at *
  omega
theorem bit_lo (i : Int) (h0 : 0 ≤ i) (h1 : i < 64) : ((lo (bit i) : Nat) : Int) = 2 ^ i.toNat ∧ hi (bit i) = 0 := by
  have h2 : 2 ^ i.toNat ≤ 2 ^ 63 := Nat.pow_le_pow_right (by decide) (by omega)
  have hb : bit i = 2 ^ i.toNat := by unfold bit; rw [if_pos ⟨h0, by omega⟩]
  unfold lo hi
  rw [hb]
  have e : (2 : Int) ^ i.toNat = ((2 ^ i.toNat : Nat) : Int) := by simp
  rw [e]
  constructor
  · rw [Nat.mod_eq_of_lt (by omega)]
  · omega
theorem bit_hi (i : Int) (h0 : 64 ≤ i) (h1 : i < 128) : lo (bit i) = 0 ∧ ((hi (bit i) : Nat) : Int) = 2 ^ (i % 64).toNat := by
  have hb : bit i = 2 ^ i.toNat := by unfold bit; rw [if_pos ⟨by omega, by omega⟩]
  have e2 : i.toNat = 64 + (i % 64).toNat := by omega
  have e3 : 2 ^ (64 + (i % 64).toNat) = 18446744073709551616 * 2 ^ (i % 64).toNat := by rw [Nat.pow_add]
  unfold lo hi
  rw [hb, e2, e3]
  constructor
  · omega
  · rw [Nat.mul_div_cancel_left _ (by decide)]; simp
theorem bit_no (i : Int) (h : i < 0 ∨ 128 ≤ i) : lo (bit i) = 0 ∧ hi (bit i) = 0 := by
  have hb : bit i = 0 := by unfold bit; rw [if_neg (by omega)]
  rw [hb]; exact ⟨rfl, rfl⟩
theorem full_lo (n : Nat) (h : n < 64) : ((lo (2 ^ n - 1) : Nat) : Int) = 2 ^ n - 1 ∧ hi (2 ^ n - 1) = 0 := by
  have h2 : 2 ^ n ≤ 2 ^ 63 := Nat.pow_le_pow_right (by decide) (by omega)
  have h3 : 0 < 2 ^ n := Nat.two_pow_pos n
  have e : (2 : Int) ^ n = ((2 ^ n : Nat) : Int) := by simp
  unfold lo hi
  rw [e]
  omega
attribute [irreducible] lo hi
theorem single_any (i : Int) (w : World) :
    Calls Try.prog 90 #[.int .i64 i] w fun e w' => e = .returned (.agg #[.int .u64 (lo (bit i)), .int .u64 (hi (bit i))]) ∧ Below w.heap.size w w' := by
  by_cases hn : i < 0 ∨ 128 ≤ i
  · obtain ⟨e1, e2⟩ := bit_no i hn
    rw [e1, e2]
    clear e1 e2
    rcases hn with h0 | h0
    · go_enter Try.func90, Try.ntmps90
      go_wp2
      exact bodyPost_ret (v := .agg #[.int .u64 0, .int .u64 0]) (by simp [results, Try.results90, go_sem]) rfl ⟨rfl, bl_al (bl_al (Below.refl _ _) _) _⟩
    · have h3 : 0 ≤ i := by omega
      go_enter Try.func90, Try.ntmps90
      go_wp2
      exact bodyPost_ret (v := .agg #[.int .u64 0, .int .u64 0]) (by simp [results, Try.results90, go_sem]) rfl ⟨rfl, bl_al (bl_al (Below.refl _ _) _) _⟩
  · by_cases h6 : i < 64
    · have h0 : 0 ≤ i := by omega
      obtain ⟨e1, e2⟩ := bit_lo i h0 h6
      rw [e1, e2]
      clear e1 e2 hn
      have hq : i / 64 = 0 := by omega
      have hr : i % 64 = i := by omega
      have hw := wrap_pow i.toNat (by omega)
      go_enter Try.func90, Try.ntmps90
      go_wp2
      exact bodyPost_ret (v := .agg #[.int .u64 (2 ^ i.toNat), .int .u64 0]) (by simp [results, Try.results90, go_sem]) rfl ⟨rfl, bl_al (bl_al (Below.refl _ _) _) _⟩
    · have h0 : 64 ≤ i := by omega
      have h1 : i < 128 := by omega
      obtain ⟨e1, e2⟩ := bit_hi i h0 h1
      rw [e1, e2]
      clear e1 e2 hn h6
      have hq : i / 64 = 1 := by omega
      have hw := wrap_pow (i % 64).toNat (by omega)
      have h3 : 0 ≤ i := by omega
      go_enter Try.func90, Try.ntmps90
      go_wp2
      exact bodyPost_ret (v := .agg #[.int .u64 0, .int .u64 (2 ^ (i % 64).toNat)]) (by simp [results, Try.results90, go_sem]) rfl ⟨rfl, bl_al (bl_al (Below.refl _ _) _) _⟩
theorem or_any (a b : Nat) (ha : a < 2 ^ 128) (hb : b < 2 ^ 128) (w : World) :
    Calls Try.prog 89 #[.agg #[.int .u64 (lo a), .int .u64 (hi a)], .agg #[.int .u64 (lo b), .int .u64 (hi b)]] w fun e w' => e = .returned (.agg #[.int .u64 (lo (a ||| b)), .int .u64 (hi (a ||| b))]) ∧ Below w.heap.size w w' := by
  have e1 := bits_or (lo a) (lo b) (lo_lt a) (lo_lt b)
  have e2 := bits_or (hi a) (hi b) (hi_lt a ha) (hi_lt b hb)
  rw [← lo_or] at e1
  rw [← hi_or] at e2
  generalize lo (a ||| b) = r0 at *
  generalize hi (a ||| b) = r1 at *
  clear ha hb
  go_enter Try.func89, Try.ntmps89
  go_wp2
  exact bodyPost_ret (v := .agg #[.int .u64 r0, .int .u64 r1]) (by simp [results, Try.results89, go_sem]) rfl ⟨rfl, bl_al (bl_al (bl_al (Below.refl _ _) _) _) _⟩
theorem lowest_neg (i : Int) (hi : i ≤ 0) (w : World) :
    Calls Try.prog 79 #[.int .i64 i] w fun e w' => e = .returned (.int .u64 0) ∧ w = w' := by
  have hm : max i 0 = 0 := by omega
  go_enter Try.func79, Try.ntmps79
  go_wp2
  all_goals
    go_ret
    exact ⟨by first | rfl | (rw [show i = 0 by omega]; rfl), rfl⟩
theorem lowest_pos (n : Nat) (hn : n < 64) (w : World) :
    Calls Try.prog 79 #[.int .i64 n] w fun e w' => e = .returned (.int .u64 (2 ^ n - 1)) ∧ w = w' := by
  have e1 := wrap_pow n hn
  have e2 := wrap_pow1 n hn
  have h4 : (0 : Int) ≤ n := by omega
  go_enter Try.func79, Try.ntmps79
  go_wp2
  go_ret
  exact ⟨rfl, rfl⟩
theorem full_any (n : Nat) (hn : n < 64) (w : World) :
    Calls Try.prog 68 #[.int .i64 n] w fun e w' => e = .returned (.agg #[.int .u64 (lo (2 ^ n - 1)), .int .u64 (hi (2 ^ n - 1))]) ∧ Below w.heap.size w w' := by
  obtain ⟨e1, e2⟩ := full_lo n hn
  rw [e1, e2]
  clear e1 e2
  have L1 := Lib.hid (fun W => lowest_pos n hn W)
  have L2 := Lib.hid (fun W => lowest_neg ((n : Int) - 64) (by omega) W)
  have m1 : max (n : Int) 0 = n := by omega
  have m2 : min (n : Int) 128 = n := by omega
  go_enter Try.func68, Try.ntmps68
  go_wp2_with fail
  refine (L1.out _).mono ?_; rintro e w1 ⟨rfl, rfl⟩
  go_wp2_with fail
  refine (L2.out _).mono ?_; rintro e w1 ⟨rfl, rfl⟩
  go_wp2
  exact bodyPost_ret (v := .agg #[.int .u64 (2 ^ n - 1), .int .u64 0]) (by simp [results, Try.results68, go_sem]) rfl ⟨rfl, bl_al (Below.refl _ _) _⟩
end Go.Proofs.Ytaobaiifbmhegaa

/-
  What With and Of answer.
-/
namespace Go.Proofs.Ytaobaiifbmhegaa
open Go.RowKit
set_option linter.unusedVariables false

theorem bl_undr {X w : World} (h : Below X.drew.heap.size X.drew w) : Below X.heap.size X w := ⟨h.os, h.tape, h.output, h.size, h.block⟩
theorem two_keep {W W1 : World} {b : Nat} {v0 v1 : Value} {t : TypeId} (hb : Below W.heap.size W W1) (q : W.heap[b]? = some (.cells #[v0, v1] t (0, 0))) :
    W1.cell? ⟨b, 0, none⟩ = some v0 ∧ W1.cell? ⟨b, 1, none⟩ = some v1 :=
  have e := (hb.block _ (lt_hp q)).trans q
  ⟨cell_of_row _ _ 0 _ _ _ e, cell_of_row _ _ 1 _ _ _ e⟩
set_option maxHeartbeats 1000000 in
theorem with_any (s : Nat) (hs : s < 2 ^ 128) (i : Int) (w : World) :
    Calls Try.prog 78 #[.agg #[.int .u64 (lo s), .int .u64 (hi s)], .int .i64 i] w fun e w' => e = .returned (.agg #[.int .u64 (lo (s ||| bit i)), .int .u64 (hi (s ||| bit i))]) ∧ Below w.heap.size w w' := by
  have H1 := Lib.hid (fun W => single_any i W)
  have H2 := Lib.hid (fun W => or_any s (bit i) hs (bit_lt i) W)
  clear hs
  generalize lo (s ||| bit i) = r0 at *
  generalize hi (s ||| bit i) = r1 at *
  generalize lo s = s0 at *
  generalize hi s = s1 at *
  generalize lo (bit i) = b0 at *
  generalize hi (bit i) = b1 at *
  go_enter Try.func78, Try.ntmps78
  go_wp2
  have q : ((w.alloc (.cells #[.int .u64 s0, .int .u64 s1] 73)).alloc (.cells #[.int .u64 0, .int .u64 0] 73)).heap[w.heap.size]? = some (.cells #[.int .u64 s0, .int .u64 s1] 73 (0, 0)) := heap_alloc2_old w _ _
  have q2 : ((w.alloc (.cells #[.int .u64 s0, .int .u64 s1] 73)).alloc (.cells #[.int .u64 0, .int .u64 0] 73)).heap[w.heap.size + 1]? = some (.cells #[.int .u64 0, .int .u64 0] 73 (0, 0)) := heap_alloc2_new w _ _
  have B0 := Lib.hid (bl_al (bl_al (Below.refl w.heap.size w) (.cells #[.int .u64 s0, .int .u64 s1] 73)) (.cells #[.int .u64 0, .int .u64 0] 73))
  have Q := Lib.hid q
  have Q2 := Lib.hid q2
  clear q q2
  generalize ((w.alloc (.cells #[.int .u64 s0, .int .u64 s1] 73)).alloc (.cells #[.int .u64 0, .int .u64 0] 73)) = X at *
  obtain ⟨c0, c1⟩ := two_keep (Below.refl _ _) Q.out
  go_region_with (first
    | (go_at_call 90; refine (H1.out _).mono ?_; rintro e w1 ⟨rfl, hb1⟩; obtain ⟨k0, k1⟩ := two_keep hb1 Q.out)
    | (go_at_call 89; refine (H2.out _).mono ?_; rintro e w2 ⟨rfl, hb2⟩; have hb3 := bl_tr hb1 hb2; obtain ⟨m0, m1⟩ := two_keep hb3 Q2.out; have mf := frozen_of_row _ _ 0 _ _ ((hb3.block _ (lt_hp Q2.out)).trans Q2.out); have mf1 := frozen_of_row _ _ 1 _ _ ((hb3.block _ (lt_hp Q2.out)).trans Q2.out)))
  all_goals
    go_wp2
    exact bodyPost_ret (v := .agg #[.int .u64 r0, .int .u64 r1]) (by simp [results, Try.results78, go_sem, m0, m1]) rfl ⟨rfl, ((B0.out.trans ((bl_undr hb3).mono B0.out.size)).setCell (p := ⟨w.heap.size + 1, 0, none⟩) (by simp) _).setCell (p := ⟨w.heap.size + 1, 1, none⟩) (by simp) _⟩

/-- the set that is made, and the place of what is told -/
def OfAt (w : World) (l : List Int) (k : Nat) (wr : World) : Prop :=
  ∃ s : Nat, s < 2 ^ 128 ∧ ofS 0 l = ofS s (l.drop k) ∧ wr.heap[w.heap.size]? = some (.cells #[.int .u64 0, .int .u64 0] 73 (0, 0)) ∧ wr.heap[w.heap.size + 1]? = some (.cells #[.int .u64 (lo s), .int .u64 (hi s)] 73 (0, 0)) ∧ Below w.heap.size w wr
theorem two_set {W : World} {b : Nat} {v0 v1 u0 u1 : Value} {t : TypeId} (q : W.heap[b]? = some (.cells #[v0, v1] t (0, 0))) :
    ((W.setCell ⟨b, 0, none⟩ u0).setCell ⟨b, 1, none⟩ u1).heap[b]? = some (.cells #[u0, u1] t (0, 0)) := by
  have h0 := heap_setCell_same W b 0 _ t u0 q
  have h1 := heap_setCell_same _ b 1 _ t u1 h0
  simpa using h1
theorem of_next {w wr w2 : World} {l : List Int} {k : Nat} {s : Nat} {x : Int} (hx : l.drop k = x :: l.drop (k + 1)) (hs : s < 2 ^ 128) (he : ofS 0 l = ofS s (l.drop k)) (q1 : wr.heap[w.heap.size]? = some (.cells #[.int .u64 0, .int .u64 0] 73 (0, 0)))
    (q2 : wr.heap[w.heap.size + 1]? = some (.cells #[.int .u64 (lo s), .int .u64 (hi s)] 73 (0, 0))) (hb : Below w.heap.size w wr) (hb2 : Below wr.heap.size wr w2) (u0 u1 : Value) (e0 : u0 = .int .u64 (lo (s ||| bit x))) (e1 : u1 = .int .u64 (hi (s ||| bit x))) :
    OfAt w l (k + 1) ((w2.setCell ⟨w.heap.size + 1, 0, none⟩ u0).setCell ⟨w.heap.size + 1, 1, none⟩ u1) := by
  refine ⟨s ||| bit x, Nat.or_lt_two_pow hs (bit_lt x), by rw [he, hx, ofS_cons], ?_, ?_, ?_⟩
  · rw [heap_setCell_other _ ⟨w.heap.size + 1, 1, none⟩ _ _ (by simp), heap_setCell_other _ ⟨w.heap.size + 1, 0, none⟩ _ _ (by simp)]
    exact (hb2.block _ (lt_hp q1)).trans q1
  · subst e0 e1
    exact two_set ((hb2.block _ (lt_hp q2)).trans q2)
  · exact ((hb.trans (hb2.mono hb.size)).setCell (p := ⟨w.heap.size + 1, 0, none⟩) (by simp) _).setCell (p := ⟨w.heap.size + 1, 1, none⟩) (by simp) _
theorem of_start (w : World) (l : List Int) : OfAt w l 0 ((w.alloc (.cells #[.int .u64 0, .int .u64 0] 73)).alloc (.cells #[.int .u64 0, .int .u64 0] 73)) :=
  ⟨0, by decide, rfl, heap_alloc2_old w _ _, by
    have e0 : lo 0 = 0 := by unfold lo; rfl
    have e1 : hi 0 = 0 := by unfold hi; rfl
    rw [e0, e1]; exact heap_alloc2_new w _ _, bl_al (bl_al (Below.refl _ _) _) _⟩
set_option maxHeartbeats 1000000 in
theorem of_any (l : List Int) (a : Option Addr) (c : Nat) (w : World) (hI : Ints w a l) (hl : l.length ≤ 1000) :
    Calls Try.prog 67 #[.slice a l.length c] w fun e w' => e = .returned (.agg #[.int .u64 (lo (ofS 0 l)), .int .u64 (hi (ofS 0 l))]) ∧ Below w.heap.size w w' := by
  have A0 := Lib.hid (of_start w l)
  have HI := Lib.hid hI
  have HL := Lib.hid hl
  generalize hn : l.length = n at *
  have HN := Lib.hid hn
  clear hI hl hn
  have hn1 := HL.out
  go_enter Try.func67, Try.ntmps67
  go_wp2
  go_loopw [8] (fun i wr => ∃ k : Nat, k ≤ n ∧ i = .int .i64 k ∧ Hid (OfAt w l k wr)) (fun i _ => n - (intOf i).toNat)
  case atStart => exact ⟨0, by omega, rfl, A0⟩
  case round =>
    clear A0
    obtain ⟨k, hk, rfl, HO⟩ := hrel
    obtain ⟨s, hs, he, q1, q2, hb⟩ := HO.out
    clear HO
    have HE := Lib.hid he
    have Q1 := Lib.hid q1
    have Q2 := Lib.hid q2
    have HB := Lib.hid hb
    have HS := Lib.hid hs
    obtain ⟨c0, c1⟩ := two_keep (Below.refl _ _) q2
    clear he q1 q2 hb hs
    by_cases hlt : k < n
    · obtain ⟨b, o, rfl, hbl, hc⟩ := HI.out k (by have := HN.out; omega)
      have hd := Lib.hid (drop_get (l := l) (k := k) (by have := HN.out; omega))
      have hcr : wr.cell? ⟨b, o + k, none⟩ = some (.int .i64 (l[k]?.getD 0)) := (HB.out.cell (p := ⟨b, o + k, none⟩) hbl).trans hc
      clear hc
      generalize l[k]?.getD 0 = x at *
      have HW := Lib.hid (fun W => with_any s HS.out x W)
      have U0 : ∃ v, v = lo (s ||| bit x) := ⟨_, rfl⟩
      obtain ⟨u0, hu0⟩ := U0
      have U1 : ∃ v, v = hi (s ||| bit x) := ⟨_, rfl⟩
      obtain ⟨u1, hu1⟩ := U1
      rw [← hu0, ← hu1] at HW
      have HU0 := Lib.hid hu0
      have HU1 := Lib.hid hu1
      clear hu0 hu1
      generalize hlo : lo s = s0 at *
      generalize hhi : hi s = s1 at *
      have HLO := Lib.hid hlo
      have HHI := Lib.hid hhi
      clear hlo hhi
      go_wp2_with fail
      refine (HW.out _).mono ?_; rintro e w2 ⟨rfl, hb2⟩
      have HB2 := Lib.hid hb2
      obtain ⟨d0, d1⟩ := two_keep HB2.out Q2.out
      have df := frozen_of_row _ _ 0 _ _ ((HB2.out.block _ (lt_hp Q2.out)).trans Q2.out)
      have df1 := frozen_of_row _ _ 1 _ _ ((HB2.out.block _ (lt_hp Q2.out)).trans Q2.out)
      clear hb2
      go_wp2
      go_roundw
      case rel => exact ⟨k + 1, by omega, by go_num, of_next hd.out HS.out HE.out Q1.out (by rw [HLO.out, HHI.out]; exact Q2.out) HB.out HB2.out _ _ (by rw [HU0.out]) (by rw [HU1.out])⟩
      case measure => simp [intOf]; omega
    · obtain rfl : n = k := by omega
      have e := HE.out
      rw [List.drop_eq_nil_of_le (by have := HN.out; omega), ofS_nil] at e
      subst e
      obtain ⟨r0, r1⟩ := two_keep (Below.refl _ _) Q1.out
      have rf := frozen_of_row _ _ 0 _ _ Q1.out
      have rf1 := frozen_of_row _ _ 1 _ _ Q1.out
      clear HE hk hlt
      go_wp2
      exact bodyPost_ret (v := .agg #[.int .u64 (lo (ofS 0 l)), .int .u64 (hi (ofS 0 l))]) (by simp [results, Try.results67, go_sem, r0, r1]) rfl ⟨rfl, (HB.out.setCell (p := ⟨w.heap.size, 0, none⟩) (by simp) _).setCell (p := ⟨w.heap.size, 1, none⟩) (by simp) _⟩
end Go.Proofs.Ytaobaiifbmhegaa

/-
  What value.inForm answers of a problem and a list.
-/
namespace Go.Proofs.Ytaobaiifbmhegaa
open Go.RowKit
set_option linter.unusedVariables false

theorem clos_any (n : Int) (w : World) : Calls Try.prog 66 #[.int .i64 n] w fun e w' => e = .returned (.bool (decide (n ≠ 0) && decide (n ≠ 1))) ∧ w = w' := by
  by_cases h0 : n = 0
  · subst h0
    go_enter Try.func66, Try.ntmps66
    go_wp2
    go_ret
    exact ⟨rfl, rfl⟩
  · by_cases h1 : n = 1
    · subst h1
      go_enter Try.func66, Try.ntmps66
      go_wp2
      go_ret
      exact ⟨rfl, rfl⟩
    · have e0 : (n != 0) = true := by simp [h0]
      have e1 : (n != 1) = true := by simp [h1]
      go_enter Try.func66, Try.ntmps66
      go_wp2
      go_ret
      exact ⟨by simp [h0, h1], rfl⟩
def anyBad : List Int → Bool
  | [] => false
  | x :: xs => (decide (x ≠ 0) && decide (x ≠ 1)) || anyBad xs
theorem bad_at {l : List Int} {k : Nat} (h : k < l.length) : anyBad (l.drop k) = ((decide (l[k]?.getD 0 ≠ 0) && decide (l[k]?.getD 0 ≠ 1)) || anyBad (l.drop (k + 1))) := by
  rw [drop_get h]; rfl
theorem bad_end {l : List Int} {k : Nat} (h : l.length ≤ k) : anyBad (l.drop k) = false := by rw [List.drop_eq_nil_of_le h]; rfl
attribute [irreducible] anyBad
def Idx (l : List Int) (w : World) (e : Ending) (w' : World) : Prop := ∃ n : Int, e = .returned (.int .i64 n) ∧ w = w' ∧ (0 ≤ n ↔ anyBad l = true)
set_option maxHeartbeats 1000000 in
theorem index_any (l : List Int) (a : Option Addr) (c : Nat) (w : World) (hI : Ints w a l) (hl : l.length ≤ 1000) :
    Calls Try.prog 77 #[.slice a l.length c, .func (.func 66) #[] #[]] w (Idx l w) := by
  have HI := Lib.hid hI
  generalize hn : l.length = n at *
  have HN := Lib.hid hn
  clear hI hn
  go_enter Try.func77, Try.ntmps77
  go_wp2
  go_loop [8] (fun i => ∃ k : Nat, k ≤ n ∧ i = .int .i64 k ∧ Hid (anyBad l = anyBad (l.drop k))) (fun i => n - (intOf i).toNat)
  case atStart => exact ⟨0, by omega, rfl, rfl⟩
  case round =>
    obtain ⟨k, hk, rfl, HE⟩ := hrel
    by_cases hlt : k < n
    · obtain ⟨b, o, rfl, hbl, hc⟩ := HI.out k (by have := HN.out; omega)
      have hit := Lib.hid (bad_at (l := l) (k := k) (by have := HN.out; omega))
      generalize l[k]?.getD 0 = x at *
      have HC := Lib.hid (fun W => clos_any x W)
      generalize hbd : (decide (x ≠ 0) && decide (x ≠ 1)) = bd at *
      cases bd
      · have HF := Lib.hid (show anyBad l = anyBad (l.drop (k + 1)) from HE.out.trans (by rw [hit.out, Bool.false_or]))
        clear hbd
        go_wp2_with fail
        refine (HC.out _).mono ?_; rintro e w1 ⟨rfl, rfl⟩
        go_wp2
        go_round
        case rel => exact ⟨k + 1, by omega, by go_num, HF⟩
        case measure => simp [intOf]; omega
      · have HF := Lib.hid (show anyBad l = true from HE.out.trans (by rw [hit.out, Bool.true_or]))
        clear hbd
        go_wp2_with fail
        refine (HC.out _).mono ?_; rintro e w1 ⟨rfl, rfl⟩
        go_wp2
        go_ret
        exact ⟨k, rfl, rfl, ⟨fun _ => HF.out, fun _ => by omega⟩⟩
    · have HF := Lib.hid (show anyBad l = false from HE.out.trans (bad_end (by have := HN.out; omega)))
      go_wp2
      go_ret
      exact ⟨-1, rfl, rfl, ⟨fun h => by omega, fun h => by rw [HF.out] at h; cases h⟩⟩
theorem contains_any (l : List Int) (a : Option Addr) (c : Nat) (w : World) (hI : Ints w a l) (hl : l.length ≤ 1000) :
    Calls Try.prog 65 #[.slice a l.length c, .func (.func 66) #[] #[]] w fun e w' => e = .returned (.bool (anyBad l)) ∧ w = w' := by
  have H := Lib.hid (index_any l a c w hI hl)
  clear hI hl
  cases hb : anyBad l
  all_goals
    have HB := Lib.hid hb
    clear hb
    go_enter Try.func65, Try.ntmps65
    go_wp2_with fail
    refine H.out.mono ?_; rintro e w1 ⟨n, rfl, rfl, hn⟩
    first
      | (have h1 : 0 ≤ n := hn.2 HB.out
         clear hn
         go_wp2
         go_ret
         exact ⟨rfl, rfl⟩)
      | (have h1 : ¬ 0 ≤ n := fun h => by have := hn.1 h; rw [HB.out] at this; cases this
         clear hn
         go_wp2
         go_ret
         exact ⟨by simp; omega, rfl⟩)
/-- may a list answer a problem, whatever its items weigh? -/
def okx (K N : Int) (x : List Int) : Prop := (x.length : Int) = N ∧ ((K = 1 ∧ anyBad x = false) ∨ (K ≠ 1 ∧ (K = 3 → x[0]?.getD 0 = 0) ∧ permP x N.toNat))
theorem set_eq (a b : Nat) : ((Value.agg #[.int .u64 (lo a), .int .u64 (hi a)]) = (Value.agg #[.int .u64 (lo b), .int .u64 (hi b)])) ↔ a = b := by
  constructor
  · intro h
    simp at h
    exact lo_hi a b (by omega) (by omega)
  · rintro rfl; rfl
set_option maxHeartbeats 1000000 in
theorem form_item (C : Int) (n : Nat) (wa va ca : Option Addr) (wn vn cn wc vc cc : Nat) (x : List Int) (a : Option Addr) (c : Nat) (w : World) (hI : Ints w a x) (hl : x.length ≤ 1000) :
    Calls Try.prog 47 #[.agg #[.int .i64 1, .int .i64 x.length, .int .i64 C, .slice wa wn wc, .slice va vn vc, .slice ca cn cc], .slice a x.length c] w
      fun e w' => e = .returned (.bool (!anyBad x)) ∧ Below w.heap.size w w' := by
  have bA : Below w.heap.size w (w.alloc (.cells #[.int .i64 1, .int .i64 x.length, .int .i64 C, .slice wa wn wc, .slice va vn vc, .slice ca cn cc] 25)) := bl_al (Below.refl _ _) _
  have H := Lib.hid (contains_any x a c _ (hI.keep bA) hl)
  have BA := Lib.hid bA
  clear hI hl bA
  generalize x.length = m at *
  generalize anyBad x = b at *
  go_enter Try.func47, Try.ntmps47
  go_wp2_with fail
  refine H.out.mono ?_; rintro e w1 ⟨rfl, rfl⟩
  go_wp2
  go_ret
  exact ⟨rfl, BA.out⟩
theorem form_len (K N C : Int) (wa va ca : Option Addr) (wn vn cn wc vc cc : Nat) (m : Nat) (hm : ¬ (m : Int) = N) (a : Option Addr) (c : Nat) (w : World) :
    Calls Try.prog 47 #[.agg #[.int .i64 K, .int .i64 N, .int .i64 C, .slice wa wn wc, .slice va vn vc, .slice ca cn cc], .slice a m c] w
      fun e w' => e = .returned (.bool false) ∧ Below w.heap.size w w' := by
  go_enter Try.func47, Try.ntmps47
  go_wp2
  go_ret
  exact ⟨rfl, bl_al (Below.refl _ _) _⟩
theorem form_home (C : Int) (wa va ca : Option Addr) (wn vn cn wc vc cc : Nat) (x : List Int) (h0 : 0 < x.length) (hx : ¬ x[0]?.getD 0 = 0) (a : Option Addr) (c : Nat) (w : World) (hI : Ints w a x) :
    Calls Try.prog 47 #[.agg #[.int .i64 3, .int .i64 x.length, .int .i64 C, .slice wa wn wc, .slice va vn vc, .slice ca cn cc], .slice a x.length c] w
      fun e w' => e = .returned (.bool false) ∧ Below w.heap.size w w' := by
  obtain ⟨b, o, rfl, hb, hc⟩ := hI 0 h0
  rw [Nat.add_zero] at hc
  have h0' : ((x.length : Int)) > 0 := by omega
  generalize x[0]?.getD 0 = y at *
  generalize x.length = m at *
  clear hI
  go_enter Try.func47, Try.ntmps47
  go_wp2
  go_ret
  exact ⟨rfl, bl_al (Below.refl _ _) _⟩
theorem eq_two (a0 a1 b0 b1 : Int) (w : World) :
    (Op.equalIn 10000 73 (.agg #[.int .u64 a0, .int .u64 a1]) (.agg #[.int .u64 b0, .int .u64 b1])).run Try.prog w = .ok ((a0 == b0) && (a1 == b1)) w := by
  have h3 : ∀ (a b : Int) (w : World), (Op.equalIn 9999 45 (.int .u64 a) (.int .u64 b)).run Try.prog w = .ok (a == b) w := fun a b w => run_equalIn_int w 9998 45 .u64 .u64 a b Try.underlying45
  rw [run_equalIn_array w 9999 (n := 2) (e := 45) (i := (Try.prog.info? 45).get (by kernel_rfl)) _ _ Try.underlying73 (by kernel_rfl)]
  have hc : Try.prog.cellsOf 45 = 1 := by kernel_rfl
  rw [hc]
  simp [List.range_succ, Op.eqItems, part, go_sem, h3]
  by_cases e0 : a0 = b0
  rotate_left
  · simp [e0]
  rw [if_pos e0]
  by_cases e1 : a1 = b1
  · simp [e0, e1]
  · simp [e0, e1]
end Go.Proofs.Ytaobaiifbmhegaa

/-
  What value.inForm answers of an order: whether the set of its numbers is full.
-/
namespace Go.Proofs.Ytaobaiifbmhegaa
open Go.RowKit
set_option linter.unusedVariables false

theorem box6_keep {W W1 : World} {b : Nat} {v0 v1 v2 v3 v4 v5 : Value} (hb : Below W.heap.size W W1) (q : W.heap[b]? = some (.cells #[v0, v1, v2, v3, v4, v5] 25 (0, 0))) :
    W1.cell? ⟨b, 0, none⟩ = some v0 ∧ W1.cell? ⟨b, 1, none⟩ = some v1 ∧ W1.cell? ⟨b, 2, none⟩ = some v2 ∧ W1.cell? ⟨b, 3, none⟩ = some v3 ∧ W1.cell? ⟨b, 4, none⟩ = some v4 ∧ W1.cell? ⟨b, 5, none⟩ = some v5 := box6 ((hb.block _ (lt_hp q)).trans q)
theorem bl_drew (X : World) : Below X.heap.size X X.drew := ⟨rfl, rfl, rfl, Nat.le_refl _, fun _ _ => rfl⟩
set_option maxHeartbeats 1000000 in
theorem form_perm (K C : Int) (hK : K ≠ 1) (wa va ca : Option Addr) (wn vn cn wc vc cc : Nat) (x : List Int) (h0 : 0 < x.length) (hx : K = 3 → x[0]?.getD 0 = 0) (hl : x.length < 64) (a : Option Addr) (c : Nat) (w : World) (hI : Ints w a x) :
    Calls Try.prog 47 #[.agg #[.int .i64 K, .int .i64 x.length, .int .i64 C, .slice wa wn wc, .slice va vn vc, .slice ca cn cc], .slice a x.length c] w
      fun e w' => e = .returned (.bool ((((lo (ofS 0 x) : Nat) : Int) == ((lo (2 ^ x.length - 1) : Nat) : Int)) && (((hi (ofS 0 x) : Nat) : Int) == ((hi (2 ^ x.length - 1) : Nat) : Int)))) ∧ Below w.heap.size w w' := by
  obtain ⟨b, o, rfl, hb, hc⟩ := hI 0 h0
  rw [Nat.add_zero] at hc
  have bA : Below w.heap.size w (w.alloc (.cells #[.int .i64 K, .int .i64 x.length, .int .i64 C, .slice wa wn wc, .slice va vn vc, .slice ca cn cc] 25)) := bl_al (Below.refl _ _) _
  have HO := Lib.hid (fun W (h : Below (w.alloc (.cells #[.int .i64 K, .int .i64 x.length, .int .i64 C, .slice wa wn wc, .slice va vn vc, .slice ca cn cc] 25)).heap.size (w.alloc (.cells #[.int .i64 K, .int .i64 x.length, .int .i64 C, .slice wa wn wc, .slice va vn vc, .slice ca cn cc] 25)) W) => of_any x (some ⟨b, o, none⟩) c W ((hI.keep bA).keep h) (by omega))
  have HF := Lib.hid (fun W => full_any x.length hl W)
  have Q := Lib.hid (heap_alloc_new w (.cells #[.int .i64 K, .int .i64 x.length, .int .i64 C, .slice wa wn wc, .slice va vn vc, .slice ca cn cc] 25))
  have BA := Lib.hid bA
  have HX := Lib.hid hx
  have E := fun W => eq_two (lo (ofS 0 x) : Nat) (hi (ofS 0 x) : Nat) (lo (2 ^ x.length - 1) : Nat) (hi (2 ^ x.length - 1) : Nat) W
  have HE := Lib.hid E
  clear hI bA hx E
  have h0' : ((x.length : Int)) > 0 := by omega
  generalize x[0]?.getD 0 = y at *
  generalize lo (ofS 0 x) = p0 at *
  generalize hi (ofS 0 x) = p1 at *
  generalize lo (2 ^ x.length - 1) = f0 at *
  generalize hi (2 ^ x.length - 1) = f1 at *
  generalize x.length = m at *
  rcases Classical.em (K = 3) with hk | hk
  rotate_right
  · have hk3 : (K == 3) = false := by simp [hk]
    clear HX
    go_enter Try.func47, Try.ntmps47
    go_wp2
    generalize (w.alloc (.cells #[.int .i64 K, .int .i64 m, .int .i64 C, .slice wa wn wc, .slice va vn vc, .slice ca cn cc] 25)) = X at *
    obtain ⟨c0, c1, c2, c3, c4, c5⟩ := box6_keep (Below.refl _ _) Q.out
    have E := HE.out
    go_region_with (first
      | (go_at_call 67; refine (HO.out _ (by first | exact bl_drew _ | exact bl_undr hb2)).mono ?_; rintro e w1 ⟨rfl, hb1⟩; obtain ⟨d0, d1, d2, d3, d4, d5⟩ := box6_keep (by first | exact bl_tr (bl_undr hb2) hb1 | exact bl_tr (bl_drew _) hb1) Q.out)
      | (go_at_call 68; refine (HF.out _).mono ?_; rintro e w2 ⟨rfl, hb2⟩))
    all_goals
      go_wp2
      go_ret
      exact ⟨rfl, BA.out.trans ((bl_tr (bl_undr hb1) hb2).mono BA.out.size)⟩
  · have hy := HX.out hk
    subst hk hy
    clear HX hK
    go_enter Try.func47, Try.ntmps47
    go_wp2
    generalize (w.alloc (.cells #[.int .i64 3, .int .i64 m, .int .i64 C, .slice wa wn wc, .slice va vn vc, .slice ca cn cc] 25)) = X at *
    obtain ⟨c0, c1, c2, c3, c4, c5⟩ := box6_keep (Below.refl _ _) Q.out
    have E := HE.out
    go_region_with (first
      | (go_at_call 67; refine (HO.out _ (by first | exact bl_drew _ | exact bl_undr hb2)).mono ?_; rintro e w1 ⟨rfl, hb1⟩; obtain ⟨d0, d1, d2, d3, d4, d5⟩ := box6_keep (by first | exact bl_tr (bl_undr hb2) hb1 | exact bl_tr (bl_drew _) hb1) Q.out)
      | (go_at_call 68; refine (HF.out _).mono ?_; rintro e w2 ⟨rfl, hb2⟩))
    all_goals
      go_wp2
      go_ret
      exact ⟨rfl, BA.out.trans ((bl_tr (bl_undr hb1) hb2).mono BA.out.size)⟩
theorem set_same (a b : Nat) : ((((lo a : Nat) : Int) == ((lo b : Nat) : Int)) && (((hi a : Nat) : Int) == ((hi b : Nat) : Int))) = decide (a = b) := by
  by_cases h : a = b
  · subst h; simp
  · simp [h]
    intro h1 h2
    exact h (lo_hi a b (by omega) (by omega))
open Classical in
/-- what value.inForm answers of a problem of so many -/
theorem form_any (K N C : Int) (hN : 1 ≤ N) (hN2 : K ≠ 1 → N < 64) (wa va ca : Option Addr) (wn vn cn wc vc cc : Nat) (x : List Int) (a : Option Addr) (c : Nat) (w : World) (hI : Ints w a x) (hl : x.length ≤ 1000) :
    Calls Try.prog 47 #[.agg #[.int .i64 K, .int .i64 N, .int .i64 C, .slice wa wn wc, .slice va vn vc, .slice ca cn cc], .slice a x.length c] w
      fun e w' => e = .returned (.bool (decide (okx K N x))) ∧ Below w.heap.size w w' := by
  by_cases h1 : (x.length : Int) = N
  · subst h1
    by_cases hK : K = 1
    · subst hK
      have e : decide (okx 1 x.length x) = !anyBad x := by
        unfold okx
        cases h : anyBad x <;> simp
      rw [e]
      exact form_item C 0 wa va ca wn vn cn wc vc cc x a c w hI hl
    · by_cases h3 : K = 3 ∧ ¬ x[0]?.getD 0 = 0
      · obtain ⟨rfl, h3⟩ := h3
        have e : decide (okx 3 x.length x) = false := by
          unfold okx
          simp
          intro h; exact absurd h h3
        rw [e]
        exact form_home C wa va ca wn vn cn wc vc cc x (by omega) h3 a c w hI
      · have e : decide (okx K x.length x) = decide (ofS 0 x = 2 ^ x.length - 1) := by
          congr 1
          rw [full_iff x x.length (by have := hN2 hK; omega) rfl]
          unfold okx
          simp only [eq_iff_iff, true_and, Int.toNat_natCast]
          constructor
          · rintro (h | h)
            · exact absurd h.1 hK
            · exact h.2.2
          · intro h
            exact Or.inr ⟨hK, fun h' => Classical.byContradiction fun hc => h3 ⟨h', hc⟩, h⟩
        rw [e, ← set_same]
        exact form_perm K C hK wa va ca wn vn cn wc vc cc x (by omega) (fun h' => Classical.byContradiction fun hc => h3 ⟨h', hc⟩) (by have := hN2 hK; omega) a c w hI
  · have e : decide (okx K N x) = false := by
      unfold okx
      simp [h1]
    rw [e]
    exact form_len K N C wa va ca wn vn cn wc vc cc x.length h1 a c w
end Go.Proofs.Ytaobaiifbmhegaa
