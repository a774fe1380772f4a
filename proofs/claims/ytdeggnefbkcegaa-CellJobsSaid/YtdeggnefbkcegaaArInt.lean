/-
  What the reference's Int answers.
-/
import Derived.Test.YtdeggnefbkcegaaArEq
import Derived.Laws.Bits64b
namespace Go.Proofs.Ytdeggnefbkcegaa.ar
open Go.RowKit
set_option linter.unusedVariables false


theorem int_zero (m : Bool) (w : World) :
    Calls Try.prog 35 #[.agg #[.bool m, .int .i64 (dg 0 0), .int .i64 (dg 0 1), .int .i64 (dg 0 2), .int .i64 (dg 0 3), .int .i64 (dg 0 4), .int .i64 (dg 0 5), .int .i64 (dg 0 6), .int .i64 (dg 0 7), .int .i64 (dg 0 8)]] w fun e w' => e = .returned (.tuple #[.int .i64 0, .bool true]) ∧ Below w.heap.size w w' := by
  have z := dg_zero
  have EQ : ∀ W, (Op.equalIn 10000 76 (.agg #[.int .i64 0, .int .i64 0, .int .i64 0, .int .i64 0, .int .i64 0, .int .i64 0, .int .i64 0, .int .i64 0, .int .i64 0]) (.agg #[.int .i64 0, .int .i64 0, .int .i64 0, .int .i64 0, .int .i64 0, .int .i64 0, .int .i64 0, .int .i64 0, .int .i64 0])).run Try.prog W = .ok true W := fun W => by have := big_same 0 0 rfl W; rwa [zero_lit] at this
  go_enter Try.func35, Try.ntmps35
  go_wp2_with fail
  go_ret2
  exact ⟨rfl, bl_al (bl_al (Below.refl _ _) _) _⟩
theorem int_big (m : Bool) (x : Nat) (hx : x < BB ^ 9) (h : 9223372036854775808 < x) (w : World) :
    Calls Try.prog 35 #[.agg #[.bool m, .int .i64 (dg x 0), .int .i64 (dg x 1), .int .i64 (dg x 2), .int .i64 (dg x 3), .int .i64 (dg x 4), .int .i64 (dg x 5), .int .i64 (dg x 6), .int .i64 (dg x 7), .int .i64 (dg x 8)]] w fun e w' => e = .returned (.tuple #[.int .i64 0, .bool false]) ∧ Below w.heap.size w w' := by
  have EQ : ∀ W, (Op.equalIn 10000 76 (.agg #[.int .i64 (dg x 0), .int .i64 (dg x 1), .int .i64 (dg x 2), .int .i64 (dg x 3), .int .i64 (dg x 4), .int .i64 (dg x 5), .int .i64 (dg x 6), .int .i64 (dg x 7), .int .i64 (dg x 8)]) (.agg #[.int .i64 0, .int .i64 0, .int .i64 0, .int .i64 0, .int .i64 0, .int .i64 0, .int .i64 0, .int .i64 0, .int .i64 0])).run Try.prog W = .ok false W := fun W => by have := big_other x 0 hx (BBp 9) (by omega) W; rwa [zero_lit] at this
  have HL : ∀ W, Calls Try.prog 44 #[.agg #[.int .i64 0, .int .i64 0, .int .i64 2, .int .i64 0, .int .i64 0, .int .i64 0, .int .i64 0, .int .i64 0, .int .i64 0], .agg #[.int .i64 (dg x 0), .int .i64 (dg x 1), .int .i64 (dg x 2), .int .i64 (dg x 3), .int .i64 (dg x 4), .int .i64 (dg x 5), .int .i64 (dg x 6), .int .i64 (dg x 7), .int .i64 (dg x 8)]] W fun e w' => e = .returned (.bool true) ∧ Below W.heap.size W w' := fun W => by
    have := less_any 9223372036854775808 x (by decide) hx W
    rw [top_lit] at this
    have e : ltb 9223372036854775808 x = true := by unfold ltb; exact decide_eq_true h
    rw [e] at this; exact this
  clear hx h
  have H := Lib.hid HL
  clear HL
  go_enter Try.func35, Try.ntmps35
  go_wp2_with fail
  refine (H.out _).mono ?_; rintro e w1 ⟨rfl, hb⟩
  go_wp2_with fail
  go_ret2
  exact ⟨rfl, bl_tr (bl_al (bl_al (Below.refl _ _) _) _) hb⟩
theorem or_parts (x : Nat) (h : x < 18446744073709551616) :
    bits .or .u64 (bits .or .u64 (dg x 0) (dg x 1 * 2147483648)) (IntKind.u64.wrap (dg x 2 * 4611686018427387904)) = (x : Int) := by
  have e0 : dg x 0 = ((x % 2147483648 : Nat) : Int) := by unfold dg dgn; rw [Nat.pow_zero, Nat.div_one, BB_eq]
  have e1 : dg x 1 = ((x / 2147483648 % 2147483648 : Nat) : Int) := by unfold dg dgn; rw [Nat.pow_one, BB_eq]
  have e2 : dg x 2 = ((x / 4611686018427387904 : Nat) : Int) := by
    unfold dg dgn; rw [show BB ^ 2 = 4611686018427387904 from by decide, BB_eq]; omega
  have c : x / 4611686018427387904 < 4 := by omega
  have w2 : IntKind.u64.wrap (dg x 2 * 4611686018427387904) = ((x / 4611686018427387904 * 4611686018427387904 : Nat) : Int) := by
    rw [e2, IntKind.wrap_u64]; omega
  have m1 : dg x 1 * 2147483648 = ((x / 2147483648 % 2147483648 * 2147483648 : Nat) : Int) := by rw [e1]; omega
  rw [w2, m1, e0, bits_or_u64_nat _ _ (by omega) (by omega)]
  have o1 : x % 2147483648 ||| x / 2147483648 % 2147483648 * 2147483648 = x % 4611686018427387904 := by
    rw [Nat.or_comm, show (2147483648 : Nat) = 2 ^ 31 from rfl, ← Nat.shiftLeft_eq, ← Nat.shiftLeft_add_eq_or_of_lt (by omega), Nat.shiftLeft_eq]; omega
  rw [o1, bits_or_u64_nat _ _ (by omega) (by omega)]
  have o2 : x % 4611686018427387904 ||| x / 4611686018427387904 * 4611686018427387904 = x := by
    rw [Nat.or_comm, show (4611686018427387904 : Nat) = 2 ^ 62 from rfl, ← Nat.shiftLeft_eq, ← Nat.shiftLeft_add_eq_or_of_lt (by omega), Nat.shiftLeft_eq]; omega
  rw [o2]
theorem ret_two {a b : Int} {t : Bool} (h : a = b) : Ending.returned (.tuple #[.int .i64 a, .bool t]) = .returned (.tuple #[.int .i64 b, .bool t]) := by rw [h]
theorem int_pos (x : Nat) (h0 : 0 < x) (h : x < 9223372036854775808) (w : World) :
    Calls Try.prog 35 #[.agg #[.bool false, .int .i64 (dg x 0), .int .i64 (dg x 1), .int .i64 (dg x 2), .int .i64 (dg x 3), .int .i64 (dg x 4), .int .i64 (dg x 5), .int .i64 (dg x 6), .int .i64 (dg x 7), .int .i64 (dg x 8)]] w fun e w' => e = .returned (.tuple #[.int .i64 x, .bool true]) ∧ Below w.heap.size w w' := by
  have hx : x < BB ^ 9 := Nat.lt_of_le_of_lt (Nat.le_of_lt h) (by decide)
  have EQ : ∀ W, (Op.equalIn 10000 76 (.agg #[.int .i64 (dg x 0), .int .i64 (dg x 1), .int .i64 (dg x 2), .int .i64 (dg x 3), .int .i64 (dg x 4), .int .i64 (dg x 5), .int .i64 (dg x 6), .int .i64 (dg x 7), .int .i64 (dg x 8)]) (.agg #[.int .i64 0, .int .i64 0, .int .i64 0, .int .i64 0, .int .i64 0, .int .i64 0, .int .i64 0, .int .i64 0, .int .i64 0])).run Try.prog W = .ok false W := fun W => by have := big_other x 0 hx (BBp 9) (by omega) W; rwa [zero_lit] at this
  have EQ2 : ∀ W, (Op.equalIn 10000 76 (.agg #[.int .i64 (dg x 0), .int .i64 (dg x 1), .int .i64 (dg x 2), .int .i64 (dg x 3), .int .i64 (dg x 4), .int .i64 (dg x 5), .int .i64 (dg x 6), .int .i64 (dg x 7), .int .i64 (dg x 8)]) (.agg #[.int .i64 0, .int .i64 0, .int .i64 2, .int .i64 0, .int .i64 0, .int .i64 0, .int .i64 0, .int .i64 0, .int .i64 0])).run Try.prog W = .ok false W := fun W => by have := big_other x 9223372036854775808 hx (by decide) (by omega) W; rwa [top_lit] at this
  have HL : ∀ W, Calls Try.prog 44 #[.agg #[.int .i64 0, .int .i64 0, .int .i64 2, .int .i64 0, .int .i64 0, .int .i64 0, .int .i64 0, .int .i64 0, .int .i64 0], .agg #[.int .i64 (dg x 0), .int .i64 (dg x 1), .int .i64 (dg x 2), .int .i64 (dg x 3), .int .i64 (dg x 4), .int .i64 (dg x 5), .int .i64 (dg x 6), .int .i64 (dg x 7), .int .i64 (dg x 8)]] W fun e w' => e = .returned (.bool false) ∧ Below W.heap.size W w' := fun W => by
    have := less_any 9223372036854775808 x (by decide) hx W
    rw [top_lit] at this
    have e : ltb 9223372036854775808 x = false := by unfold ltb; exact decide_eq_false (by omega)
    rw [e] at this; exact this
  have OR := or_parts x (by omega)
  have HF : wrap64 (x : Int) = x := by unfold wrap64; omega
  have H := Lib.hid HL
  have HF := Lib.hid HF
  obtain ⟨d01, d02⟩ := dg_b x 0
  obtain ⟨d11, d12⟩ := dg_b x 1
  obtain ⟨d21, d22⟩ := dg_b x 2
  clear HL hx h0 h
  go_enter Try.func35, Try.ntmps35
  go_wp2_with fail
  refine (H.out _).mono ?_; rintro e w1 ⟨rfl, hb⟩
  obtain ⟨hc, hf⟩ := bcell hb
  go_wp2_with fail
  go_ret2
  exact ⟨ret_two HF.out, bl_tr (bl_al (bl_al (Below.refl _ _) _) _) hb⟩
theorem int_neg (x : Nat) (h0 : 0 < x) (h : x < 9223372036854775808) (w : World) :
    Calls Try.prog 35 #[.agg #[.bool true, .int .i64 (dg x 0), .int .i64 (dg x 1), .int .i64 (dg x 2), .int .i64 (dg x 3), .int .i64 (dg x 4), .int .i64 (dg x 5), .int .i64 (dg x 6), .int .i64 (dg x 7), .int .i64 (dg x 8)]] w fun e w' => e = .returned (.tuple #[.int .i64 (-(x : Int)), .bool true]) ∧ Below w.heap.size w w' := by
  have hx : x < BB ^ 9 := Nat.lt_of_le_of_lt (Nat.le_of_lt h) (by decide)
  have EQ : ∀ W, (Op.equalIn 10000 76 (.agg #[.int .i64 (dg x 0), .int .i64 (dg x 1), .int .i64 (dg x 2), .int .i64 (dg x 3), .int .i64 (dg x 4), .int .i64 (dg x 5), .int .i64 (dg x 6), .int .i64 (dg x 7), .int .i64 (dg x 8)]) (.agg #[.int .i64 0, .int .i64 0, .int .i64 0, .int .i64 0, .int .i64 0, .int .i64 0, .int .i64 0, .int .i64 0, .int .i64 0])).run Try.prog W = .ok false W := fun W => by have := big_other x 0 hx (BBp 9) (by omega) W; rwa [zero_lit] at this
  have EQ2 : ∀ W, (Op.equalIn 10000 76 (.agg #[.int .i64 (dg x 0), .int .i64 (dg x 1), .int .i64 (dg x 2), .int .i64 (dg x 3), .int .i64 (dg x 4), .int .i64 (dg x 5), .int .i64 (dg x 6), .int .i64 (dg x 7), .int .i64 (dg x 8)]) (.agg #[.int .i64 0, .int .i64 0, .int .i64 2, .int .i64 0, .int .i64 0, .int .i64 0, .int .i64 0, .int .i64 0, .int .i64 0])).run Try.prog W = .ok false W := fun W => by have := big_other x 9223372036854775808 hx (by decide) (by omega) W; rwa [top_lit] at this
  have HL : ∀ W, Calls Try.prog 44 #[.agg #[.int .i64 0, .int .i64 0, .int .i64 2, .int .i64 0, .int .i64 0, .int .i64 0, .int .i64 0, .int .i64 0, .int .i64 0], .agg #[.int .i64 (dg x 0), .int .i64 (dg x 1), .int .i64 (dg x 2), .int .i64 (dg x 3), .int .i64 (dg x 4), .int .i64 (dg x 5), .int .i64 (dg x 6), .int .i64 (dg x 7), .int .i64 (dg x 8)]] W fun e w' => e = .returned (.bool false) ∧ Below W.heap.size W w' := fun W => by
    have := less_any 9223372036854775808 x (by decide) hx W
    rw [top_lit] at this
    have e : ltb 9223372036854775808 x = false := by unfold ltb; exact decide_eq_false (by omega)
    rw [e] at this; exact this
  have OR := or_parts x (by omega)
  have HF : wrap64 (IntKind.u64.wrap (-(x : Int))) = -(x : Int) := by rw [IntKind.wrap_u64]; unfold wrap64; omega
  have H := Lib.hid HL
  have HF := Lib.hid HF
  obtain ⟨d01, d02⟩ := dg_b x 0
  obtain ⟨d11, d12⟩ := dg_b x 1
  obtain ⟨d21, d22⟩ := dg_b x 2
  clear HL hx h0 h
  go_enter Try.func35, Try.ntmps35
  go_wp2_with fail
  refine (H.out _).mono ?_; rintro e w1 ⟨rfl, hb⟩
  obtain ⟨hc, hf⟩ := bcell hb
  go_wp2_with fail
  go_ret2
  exact ⟨ret_two HF.out, bl_tr (bl_al (bl_al (Below.refl _ _) _) _) hb⟩
theorem int_topn (x : Nat) (h : x = 9223372036854775808) (w : World) :
    Calls Try.prog 35 #[.agg #[.bool true, .int .i64 (dg x 0), .int .i64 (dg x 1), .int .i64 (dg x 2), .int .i64 (dg x 3), .int .i64 (dg x 4), .int .i64 (dg x 5), .int .i64 (dg x 6), .int .i64 (dg x 7), .int .i64 (dg x 8)]] w fun e w' => e = .returned (.tuple #[.int .i64 (-(x : Int)), .bool true]) ∧ Below w.heap.size w w' := by
  have hx : x < BB ^ 9 := Nat.lt_of_le_of_lt (Nat.le_of_eq h) (by decide)
  have EQ : ∀ W, (Op.equalIn 10000 76 (.agg #[.int .i64 (dg x 0), .int .i64 (dg x 1), .int .i64 (dg x 2), .int .i64 (dg x 3), .int .i64 (dg x 4), .int .i64 (dg x 5), .int .i64 (dg x 6), .int .i64 (dg x 7), .int .i64 (dg x 8)]) (.agg #[.int .i64 0, .int .i64 0, .int .i64 0, .int .i64 0, .int .i64 0, .int .i64 0, .int .i64 0, .int .i64 0, .int .i64 0])).run Try.prog W = .ok false W := fun W => by have := big_other x 0 hx (BBp 9) (by omega) W; rwa [zero_lit] at this
  have EQ2 : ∀ W, (Op.equalIn 10000 76 (.agg #[.int .i64 (dg x 0), .int .i64 (dg x 1), .int .i64 (dg x 2), .int .i64 (dg x 3), .int .i64 (dg x 4), .int .i64 (dg x 5), .int .i64 (dg x 6), .int .i64 (dg x 7), .int .i64 (dg x 8)]) (.agg #[.int .i64 0, .int .i64 0, .int .i64 2, .int .i64 0, .int .i64 0, .int .i64 0, .int .i64 0, .int .i64 0, .int .i64 0])).run Try.prog W = .ok true W := fun W => by have := big_same x 9223372036854775808 h W; rwa [top_lit] at this
  have HL : ∀ W, Calls Try.prog 44 #[.agg #[.int .i64 0, .int .i64 0, .int .i64 2, .int .i64 0, .int .i64 0, .int .i64 0, .int .i64 0, .int .i64 0, .int .i64 0], .agg #[.int .i64 (dg x 0), .int .i64 (dg x 1), .int .i64 (dg x 2), .int .i64 (dg x 3), .int .i64 (dg x 4), .int .i64 (dg x 5), .int .i64 (dg x 6), .int .i64 (dg x 7), .int .i64 (dg x 8)]] W fun e w' => e = .returned (.bool false) ∧ Below W.heap.size W w' := fun W => by
    have := less_any 9223372036854775808 x (by decide) hx W
    rw [top_lit] at this
    have e : ltb 9223372036854775808 x = false := by unfold ltb; exact decide_eq_false (by omega)
    rw [e] at this; exact this
  have OR := or_parts x (by omega)
  have HF : wrap64 (IntKind.u64.wrap (-(x : Int))) = -(x : Int) := by rw [IntKind.wrap_u64]; unfold wrap64; omega
  have H := Lib.hid HL
  have HF := Lib.hid HF
  obtain ⟨d01, d02⟩ := dg_b x 0
  obtain ⟨d11, d12⟩ := dg_b x 1
  obtain ⟨d21, d22⟩ := dg_b x 2
  clear HL hx h
  go_enter Try.func35, Try.ntmps35
  go_wp2_with fail
  refine (H.out _).mono ?_; rintro e w1 ⟨rfl, hb⟩
  obtain ⟨hc, hf⟩ := bcell hb
  go_wp2_with fail
  go_ret2
  exact ⟨ret_two HF.out, bl_tr (bl_al (bl_al (Below.refl _ _) _) _) hb⟩
theorem int_topp (x : Nat) (h : x = 9223372036854775808) (w : World) :
    Calls Try.prog 35 #[.agg #[.bool false, .int .i64 (dg x 0), .int .i64 (dg x 1), .int .i64 (dg x 2), .int .i64 (dg x 3), .int .i64 (dg x 4), .int .i64 (dg x 5), .int .i64 (dg x 6), .int .i64 (dg x 7), .int .i64 (dg x 8)]] w fun e w' => e = .returned (.tuple #[.int .i64 0, .bool false]) ∧ Below w.heap.size w w' := by
  have hx : x < BB ^ 9 := Nat.lt_of_le_of_lt (Nat.le_of_eq h) (by decide)
  have EQ : ∀ W, (Op.equalIn 10000 76 (.agg #[.int .i64 (dg x 0), .int .i64 (dg x 1), .int .i64 (dg x 2), .int .i64 (dg x 3), .int .i64 (dg x 4), .int .i64 (dg x 5), .int .i64 (dg x 6), .int .i64 (dg x 7), .int .i64 (dg x 8)]) (.agg #[.int .i64 0, .int .i64 0, .int .i64 0, .int .i64 0, .int .i64 0, .int .i64 0, .int .i64 0, .int .i64 0, .int .i64 0])).run Try.prog W = .ok false W := fun W => by have := big_other x 0 hx (BBp 9) (by omega) W; rwa [zero_lit] at this
  have EQ2 : ∀ W, (Op.equalIn 10000 76 (.agg #[.int .i64 (dg x 0), .int .i64 (dg x 1), .int .i64 (dg x 2), .int .i64 (dg x 3), .int .i64 (dg x 4), .int .i64 (dg x 5), .int .i64 (dg x 6), .int .i64 (dg x 7), .int .i64 (dg x 8)]) (.agg #[.int .i64 0, .int .i64 0, .int .i64 2, .int .i64 0, .int .i64 0, .int .i64 0, .int .i64 0, .int .i64 0, .int .i64 0])).run Try.prog W = .ok true W := fun W => by have := big_same x 9223372036854775808 h W; rwa [top_lit] at this
  have HL : ∀ W, Calls Try.prog 44 #[.agg #[.int .i64 0, .int .i64 0, .int .i64 2, .int .i64 0, .int .i64 0, .int .i64 0, .int .i64 0, .int .i64 0, .int .i64 0], .agg #[.int .i64 (dg x 0), .int .i64 (dg x 1), .int .i64 (dg x 2), .int .i64 (dg x 3), .int .i64 (dg x 4), .int .i64 (dg x 5), .int .i64 (dg x 6), .int .i64 (dg x 7), .int .i64 (dg x 8)]] W fun e w' => e = .returned (.bool false) ∧ Below W.heap.size W w' := fun W => by
    have := less_any 9223372036854775808 x (by decide) hx W
    rw [top_lit] at this
    have e : ltb 9223372036854775808 x = false := by unfold ltb; exact decide_eq_false (by omega)
    rw [e] at this; exact this
  have OR := or_parts x (by omega)
  have HF : True := trivial
  have H := Lib.hid HL
  have HF := Lib.hid HF
  obtain ⟨d01, d02⟩ := dg_b x 0
  obtain ⟨d11, d12⟩ := dg_b x 1
  obtain ⟨d21, d22⟩ := dg_b x 2
  clear HL hx h
  go_enter Try.func35, Try.ntmps35
  go_wp2_with fail
  refine (H.out _).mono ?_; rintro e w1 ⟨rfl, hb⟩
  obtain ⟨hc, hf⟩ := bcell hb
  go_wp2_with fail
  go_ret2
  exact ⟨rfl, bl_tr (bl_al (bl_al (Below.refl _ _) _) _) hb⟩
def sv (m : Bool) (x : Nat) : Int := if m then -(x : Int) else x
theorem int_any (m : Bool) (x : Nat) (hx : x < BB ^ 9) (w : World) :
    Calls Try.prog 35 #[.agg #[.bool m, .int .i64 (dg x 0), .int .i64 (dg x 1), .int .i64 (dg x 2), .int .i64 (dg x 3), .int .i64 (dg x 4), .int .i64 (dg x 5), .int .i64 (dg x 6), .int .i64 (dg x 7), .int .i64 (dg x 8)]] w fun e w' => e = .returned (.tuple #[.int .i64 (fitv (sv m x)), .bool (fits (sv m x))]) ∧ Below w.heap.size w w' := by
  by_cases h0 : x = 0
  · subst h0
    have e : sv m 0 = 0 := by cases m <;> rfl
    rw [e]; exact int_zero m w
  rcases Nat.lt_trichotomy x 9223372036854775808 with h | h | h
  · cases m
    · have e : sv false x = x := rfl
      rw [e, fitv_yes (by omega), fits_yes (by omega)]; exact int_pos x (by omega) h w
    · have e : sv true x = -(x : Int) := rfl
      rw [e, fitv_yes (by omega), fits_yes (by omega)]; exact int_neg x (by omega) h w
  · cases m
    · have e : sv false x = x := rfl
      rw [e, fitv_no (by omega), fits_no (by omega)]; exact int_topp x h w
    · have e : sv true x = -(x : Int) := rfl
      rw [e, fitv_yes (by omega), fits_yes (by omega)]; exact int_topn x h w
  · have e : fitv (sv m x) = 0 ∧ fits (sv m x) = false := by
      cases m
      · exact ⟨fitv_no (by simp only [sv]; simp; omega), fits_no (by simp only [sv]; simp; omega)⟩
      · exact ⟨fitv_no (by simp only [sv]; simp; omega), fits_no (by simp only [sv]; simp; omega)⟩
    rw [e.1, e.2]; exact int_big m x hx h w
attribute [irreducible] sv
end Go.Proofs.Ytdeggnefbkcegaa.ar
