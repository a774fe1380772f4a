/-
  What And, Minus, Count and First answer.
-/
import Derived.Test.YtnenpgndghdheaaDoorSetM
import Derived.Test.YtnenpgndghdheaaDoorTz
import Derived.Test.YtnenpgndghdheaaDoorSets
namespace Go.Proofs.YtnenpgndghdheaaDoor
open Go.RowKit
set_option linter.unusedVariables false
/-- a and not b, as numbers of 64 bits -/
def anot (a b : Nat) : Nat := (BitVec.ofNat 64 a &&& ~~~ BitVec.ofNat 64 b).toNat
theorem anot_lt (a b : Nat) : anot a b < 18446744073709551616 := by unfold anot; exact BitVec.isLt _
theorem anot_bit (a b i : Nat) (hi : i < 64) : (anot a b).testBit i = (a.testBit i && !b.testBit i) := by
  unfold anot
  rw [BitVec.testBit_toNat, BitVec.getLsbD_and, BitVec.getLsbD_not, BitVec.getLsbD_ofNat, BitVec.getLsbD_ofNat]
  simp only [hi, decide_true, Bool.true_and]
theorem bits_anot (a b : Nat) : bits BinOp.andNot IntKind.u64 (a : Int) (b : Int) = ((anot a b : Nat) : Int) := by
  have := anot_lt a b
  show IntKind.u64.wrap (((BitVec.ofInt 64 (a : Int) &&& ~~~ BitVec.ofInt 64 (b : Int)).toNat : Nat) : Int) = _
  rw [BitVec.ofInt_natCast, BitVec.ofInt_natCast]
  exact IntWalk.u64_in _ (by unfold anot at this; omega)
theorem mem_and (a b c d i : Nat) : mem (a &&& c) (b &&& d) i = (mem a b i && mem c d i) := by
  by_cases h : i < 64
  · rw [mem_lo h, mem_lo h, mem_lo h, Nat.testBit_and]
  · rw [mem_hi h, mem_hi h, mem_hi h, Nat.testBit_and]
theorem mem_anot (a b c d i : Nat) (hi : i < 128) : mem (anot a c) (anot b d) i = (mem a b i && !mem c d i) := by
  by_cases h : i < 64
  · rw [mem_lo h, mem_lo h, mem_lo h, anot_bit _ _ _ h]
  · rw [mem_hi h, mem_hi h, mem_hi h, anot_bit _ _ _ (by omega)]
theorem and_any (a b c d : Nat) (ha : a < 18446744073709551616) (hb : b < 18446744073709551616) (hc : c < 18446744073709551616) (hd : d < 18446744073709551616) (w : World) :
    Calls Tryd.prog 8 #[.agg #[.int .u64 a, .int .u64 b], .agg #[.int .u64 c, .int .u64 d]] w fun e w' => e = .returned (.agg #[.int .u64 (a &&& c : Nat), .int .u64 (b &&& d : Nat)]) ∧ Below w.heap.size w w' := by
  have e1 := band a c ha hc
  have e2 := band b d hb hd
  generalize a &&& c = r0 at *
  generalize b &&& d = r1 at *
  go_enter Tryd.func8, Tryd.ntmps8
  go_wp2
  exact bodyPost_ret (v := .agg #[.int .u64 r0, .int .u64 r1]) (by simp [results, Tryd.results8, go_sem]) rfl ⟨rfl, bl_al (bl_al (bl_al (Below.refl _ _) _) _) _⟩
theorem minus_any (a b c d : Nat) (w : World) :
    Calls Tryd.prog 10 #[.agg #[.int .u64 a, .int .u64 b], .agg #[.int .u64 c, .int .u64 d]] w fun e w' => e = .returned (.agg #[.int .u64 (anot a c), .int .u64 (anot b d)]) ∧ Below w.heap.size w w' := by
  have e1 := bits_anot a c
  have e2 := bits_anot b d
  generalize anot a c = r0 at *
  generalize anot b d = r1 at *
  go_enter Tryd.func10, Tryd.ntmps10
  go_wp2
  exact bodyPost_ret (v := .agg #[.int .u64 r0, .int .u64 r1]) (by simp [results, Tryd.results10, go_sem]) rfl ⟨rfl, bl_al (bl_al (bl_al (Below.refl _ _) _) _) _⟩
theorem count_any (a b : Nat) (ha : a < 18446744073709551616) (hb : b < 18446744073709551616) (w : World) :
    Calls Tryd.prog 21 #[.agg #[.int .u64 a, .int .u64 b]] w fun e w' => e = .returned (.int .i64 (nums (mem a b)).length) ∧ Below w.heap.size w w' := by
  have H1 := Lib.hid (fun W => pop_any a ha W)
  have H2 := Lib.hid (fun W => pop_any b hb W)
  have hE : ((pc 64 a : Nat) : Int) + ((pc 64 b : Nat) : Int) = (((nums (mem a b)).length : Nat) : Int) := by rw [← count_nums]; omega
  have l1 := pc_le 64 a
  have l2 := pc_le 64 b
  have hw : IntKind.i64.wrap (((pc 64 a : Nat) : Int) + ((pc 64 b : Nat) : Int)) = (((nums (mem a b)).length : Nat) : Int) := by rw [← hE]; exact IntWalk.i64_in _ (by omega)
  clear hE
  generalize pc 64 a = p at *
  generalize pc 64 b = q at *
  generalize (nums (mem a b)).length = m at *
  go_enter Tryd.func21, Tryd.ntmps21
  go_wp2
  go_region_held3 (fun w' => w'.cell? ⟨w.heap.size, 0, none⟩ = some (.int .u64 a) ∧ w'.cell? ⟨w.heap.size, 1, none⟩ = some (.int .u64 b))
    (first | exact ⟨by simp, by simp⟩ | assumption)
    (first
      | (go_at_call 28; with_reducible refine (H1.out _).mono ?_; rintro e x1 ⟨rfl, rfl⟩)
      | (go_at_call 28; with_reducible refine (H2.out _).mono ?_; rintro e x1 ⟨rfl, rfl⟩))
  all_goals go_wp2
  all_goals
    go_ret
    exact ⟨rfl, bl_dn (bl_al (Below.refl _ _) _) _⟩
theorem first_any (x y : Nat) (hx : x < 18446744073709551616) (hy : y < 18446744073709551616) (w : World) (hT : T64 w) :
    Calls Tryd.prog 16 #[.agg #[.int .u64 x, .int .u64 y]] w fun e w' => e = .returned (.int .i64 (fst (nums (mem x y)))) ∧ Below w.heap.size w w' := by
  have B0 := bl_al (Below.refl w.heap.size w) (.cells #[.int .u64 x, .int .u64 y] 24)
  have HB := Lib.hid B0
  have hT1 := hT.keep B0
  rw [lst_two]
  by_cases h1 : x = 0
  · subst h1
    rw [els_zero, List.nil_append]
    by_cases h2 : y = 0
    · subst h2
      rw [els_zero]
      show Calls _ _ _ _ fun e w' => e = .returned (.int .i64 (fst [])) ∧ _
      rw [fst_nil]
      clear B0 hT1
      go_enter Tryd.func16, Tryd.ntmps16
      go_wp2
      go_ret
      exact ⟨rfl, HB.out⟩
    · rw [els_step y h2 hy, List.map_cons, fst_cons]
      have H1 := Lib.hid (tz_any y hy _ hT1)
      obtain ⟨hc, -⟩ := low_clear y h2 hy
      have q1 : ((y : Int) == 0) = false := by simpa using h2
      have q2 : ((y : Int) != 0) = true := by simpa using h2
      clear B0 hT1
      generalize Lib.ctz 64 y = c at *
      go_enter Tryd.func16, Tryd.ntmps16
      go_wp2_with fail
      refine H1.out.mono ?_; rintro e w1 ⟨rfl, rfl⟩
      go_wp2
      go_ret
      exact ⟨by rw [show (((c + 64 : Nat) : Int)) = 64 + (c : Int) by omega]; rfl, HB.out⟩
  · rw [els_step x h1 hx, List.cons_append, fst_cons]
    have H1 := Lib.hid (tz_any x hx _ hT1)
    have q1 : ((x : Int) == 0) = false := by simpa using h1
    have q2 : ((x : Int) != 0) = true := by simpa using h1
    clear B0 hT1
    generalize Lib.ctz 64 x = c at *
    go_enter Tryd.func16, Tryd.ntmps16
    go_wp2_with fail
    refine H1.out.mono ?_; rintro e w1 ⟨rfl, rfl⟩
    go_wp2
    go_ret
    exact ⟨rfl, HB.out⟩
end Go.Proofs.YtnenpgndghdheaaDoor
