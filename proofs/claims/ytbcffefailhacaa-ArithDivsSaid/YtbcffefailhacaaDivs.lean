/-
  For every two ints, kurganlaw01.ArithDivs answers true and leaves both as they were: Div tells the greatest number whose product with the divisor is not above, and the rest; none by nought or less. No condition.
-/
import Derived.Test.YtbcffefailhacaaRows
import Derived.Test.YtbcffefailhacaaRefZ
import Derived.WalkKit
import Derived.ProofKit
import Derived.OpenShut
namespace Go.Proofs.Ytbcffefailhacaa.arithDivs
open Go.ChangeShapes Go.WideShapes Go.ChangeAt Go.RowKit
set_option linter.unusedVariables false      -- a walk need not use every 'w<i>' (that an integer argument fits its kind)

theorem own : ownKnob Try.prog.godebug = none := by kernel_rfl


theorem one_start {w W : World} {k : Bool} {z g : Nat} (q1 : W.heap[g]? = some (.cells #[.bool k, .int .i64 (dg z 0), .int .i64 (dg z 1), .int .i64 (dg z 2), .int .i64 (dg z 3), .int .i64 (dg z 4), .int .i64 (dg z 5), .int .i64 (dg z 6), .int .i64 (dg z 7), .int .i64 (dg z 8)] 28 (0, 0))) (q4 : Below w.heap.size w W) : W.heap[g]? = some (.cells #[.bool k, .int .i64 (dg z 0), .int .i64 (dg z 1), .int .i64 (dg z 2), .int .i64 (dg z 3), .int .i64 (dg z 4), .int .i64 (dg z 5), .int .i64 (dg z 6), .int .i64 (dg z 7), .int .i64 (dg z 8)] 28 (0, 0)) ∧ Below w.heap.size w W ∧ W.cell? ⟨g, 0, none⟩ = some (.bool k) ∧ W.cell? ⟨g, 1, none⟩ = some (.int .i64 (dg z 0)) ∧ W.cell? ⟨g, 2, none⟩ = some (.int .i64 (dg z 1)) ∧ W.cell? ⟨g, 3, none⟩ = some (.int .i64 (dg z 2)) ∧ W.cell? ⟨g, 4, none⟩ = some (.int .i64 (dg z 3)) ∧ W.cell? ⟨g, 5, none⟩ = some (.int .i64 (dg z 4)) ∧ W.cell? ⟨g, 6, none⟩ = some (.int .i64 (dg z 5)) ∧ W.cell? ⟨g, 7, none⟩ = some (.int .i64 (dg z 6)) ∧ W.cell? ⟨g, 8, none⟩ = some (.int .i64 (dg z 7)) ∧ W.cell? ⟨g, 9, none⟩ = some (.int .i64 (dg z 8)) :=
  ⟨q1, q4, sgcells q1⟩
theorem one_keep {w W w1 : World} {k : Bool} {z g : Nat} (hb : Below W.heap.size W w1) (q1 : W.heap[g]? = some (.cells #[.bool k, .int .i64 (dg z 0), .int .i64 (dg z 1), .int .i64 (dg z 2), .int .i64 (dg z 3), .int .i64 (dg z 4), .int .i64 (dg z 5), .int .i64 (dg z 6), .int .i64 (dg z 7), .int .i64 (dg z 8)] 28 (0, 0))) (q4 : Below w.heap.size w W) : w1.heap[g]? = some (.cells #[.bool k, .int .i64 (dg z 0), .int .i64 (dg z 1), .int .i64 (dg z 2), .int .i64 (dg z 3), .int .i64 (dg z 4), .int .i64 (dg z 5), .int .i64 (dg z 6), .int .i64 (dg z 7), .int .i64 (dg z 8)] 28 (0, 0)) ∧ Below w.heap.size w w1 ∧ w1.cell? ⟨g, 0, none⟩ = some (.bool k) ∧ w1.cell? ⟨g, 1, none⟩ = some (.int .i64 (dg z 0)) ∧ w1.cell? ⟨g, 2, none⟩ = some (.int .i64 (dg z 1)) ∧ w1.cell? ⟨g, 3, none⟩ = some (.int .i64 (dg z 2)) ∧ w1.cell? ⟨g, 4, none⟩ = some (.int .i64 (dg z 3)) ∧ w1.cell? ⟨g, 5, none⟩ = some (.int .i64 (dg z 4)) ∧ w1.cell? ⟨g, 6, none⟩ = some (.int .i64 (dg z 5)) ∧ w1.cell? ⟨g, 7, none⟩ = some (.int .i64 (dg z 6)) ∧ w1.cell? ⟨g, 8, none⟩ = some (.int .i64 (dg z 7)) ∧ w1.cell? ⟨g, 9, none⟩ = some (.int .i64 (dg z 8)) :=
  ⟨(hb.block _ (lt_heap q1)).trans q1, bl_tr q4 hb, sgcells ((hb.block _ (lt_heap q1)).trans q1)⟩
theorem one_more {w W w1 : World} {k : Bool} {z g : Nat} (hb : Below W.heap.size W w1) (h : W.heap[g]? = some (.cells #[.bool k, .int .i64 (dg z 0), .int .i64 (dg z 1), .int .i64 (dg z 2), .int .i64 (dg z 3), .int .i64 (dg z 4), .int .i64 (dg z 5), .int .i64 (dg z 6), .int .i64 (dg z 7), .int .i64 (dg z 8)] 28 (0, 0)) ∧ Below w.heap.size w W ∧ W.cell? ⟨g, 0, none⟩ = some (.bool k) ∧ W.cell? ⟨g, 1, none⟩ = some (.int .i64 (dg z 0)) ∧ W.cell? ⟨g, 2, none⟩ = some (.int .i64 (dg z 1)) ∧ W.cell? ⟨g, 3, none⟩ = some (.int .i64 (dg z 2)) ∧ W.cell? ⟨g, 4, none⟩ = some (.int .i64 (dg z 3)) ∧ W.cell? ⟨g, 5, none⟩ = some (.int .i64 (dg z 4)) ∧ W.cell? ⟨g, 6, none⟩ = some (.int .i64 (dg z 5)) ∧ W.cell? ⟨g, 7, none⟩ = some (.int .i64 (dg z 6)) ∧ W.cell? ⟨g, 8, none⟩ = some (.int .i64 (dg z 7)) ∧ W.cell? ⟨g, 9, none⟩ = some (.int .i64 (dg z 8))) : w1.heap[g]? = some (.cells #[.bool k, .int .i64 (dg z 0), .int .i64 (dg z 1), .int .i64 (dg z 2), .int .i64 (dg z 3), .int .i64 (dg z 4), .int .i64 (dg z 5), .int .i64 (dg z 6), .int .i64 (dg z 7), .int .i64 (dg z 8)] 28 (0, 0)) ∧ Below w.heap.size w w1 ∧ w1.cell? ⟨g, 0, none⟩ = some (.bool k) ∧ w1.cell? ⟨g, 1, none⟩ = some (.int .i64 (dg z 0)) ∧ w1.cell? ⟨g, 2, none⟩ = some (.int .i64 (dg z 1)) ∧ w1.cell? ⟨g, 3, none⟩ = some (.int .i64 (dg z 2)) ∧ w1.cell? ⟨g, 4, none⟩ = some (.int .i64 (dg z 3)) ∧ w1.cell? ⟨g, 5, none⟩ = some (.int .i64 (dg z 4)) ∧ w1.cell? ⟨g, 6, none⟩ = some (.int .i64 (dg z 5)) ∧ w1.cell? ⟨g, 7, none⟩ = some (.int .i64 (dg z 6)) ∧ w1.cell? ⟨g, 8, none⟩ = some (.int .i64 (dg z 7)) ∧ w1.cell? ⟨g, 9, none⟩ = some (.int .i64 (dg z 8)) := one_keep hb h.1 h.2.1
theorem ediv_bounds (a b : Int) (a1 : -9223372036854775808 ≤ a) (a2 : a ≤ 9223372036854775807) (hb : 0 < b) : -9223372036854775808 ≤ a / b ∧ a / b ≤ 9223372036854775807 := by
  constructor
  · apply Int.le_ediv_of_mul_le hb; omega
  · rcases Int.lt_or_le a 0 with h | h
    · have := Int.ediv_neg_of_neg_of_pos h hb; omega
    · have := Int.ediv_le_self b h; omega
theorem walk_none (a b : Int) (h : b ≤ 0) (w : World) : Calls Try.prog 4 #[.int .i64 a, .int .i64 b] w fun e w' => e = .returned (.bool true) ∧ Below w.heap.size w w' := by
  go_enter Try.func4, Try.ntmps4
  go_wp2_with fail
  refine (div_no a b h _).mono ?_; rintro e w1 ⟨rfl, rfl⟩
  go_wp2_with fail
  refine (counts_any _).mono ?_; rintro e w2 ⟨rfl, hb2⟩
  go_wp2_with fail
  go_ret
  exact ⟨rfl, hb2⟩
set_option maxRecDepth 100000 in
set_option maxHeartbeats 400000 in
theorem walk_some (a b q r : Int) (a1 : -9223372036854775808 ≤ a) (a2 : a ≤ 9223372036854775807) (b1 : 0 < b) (b2 : b ≤ 9223372036854775807) (r1 : 0 ≤ r) (r2 : r < b) (q1 : -9223372036854775808 ≤ q) (q2 : q ≤ 9223372036854775807)
    (HD : ∀ W, Calls Try.prog 20 #[.int .i64 a, .int .i64 b] W fun e w' => e = .returned (.tuple #[.int .i64 q, .int .i64 r, .bool true]) ∧ Below W.heap.size W w') (hq : q * b + r = a) (w : World) : Calls Try.prog 4 #[.int .i64 a, .int .i64 b] w fun e w' => e = .returned (.bool true) ∧ Below w.heap.size w w' := by
  have HNq := fun W => num_any q q1 q2 W
  have HNb := fun W => num_any b (by omega) b2 W
  have HNr := fun W => num_any r (by omega) (by omega) W
  have HNa := fun W => num_any a a1 a2 W
  have b4 := B4; have b8 := B8; have b9 := B9; have b5 := B5
  have b89 : BB ^ 8 < BB ^ 9 := by decide
  have ha := abs_b a a1 a2; have hqq := abs_b q q1 q2; have hbb := abs_b b (by omega) b2; have hrr := abs_b r (by omega) (by omega)
  have hm := mul_bound hqq hbb
  have HM := fun W => mul_any (decide (q < 0)) (decide (b < 0)) q.natAbs b.natAbs (by omega) (by omega) W
  have sM : sv (decide (q < 0) != decide (b < 0)) (q.natAbs * b.natAbs) = q * b := by rw [sv_mul, sv_num, sv_num]
  generalize hM : q.natAbs * b.natAbs = M at *
  generalize (decide (q < 0) != decide (b < 0)) = km at *
  have HA := fun W => add_any km (decide (r < 0)) M r.natAbs (by omega) (by omega) W
  have sA := add_sv km (decide (r < 0)) M r.natAbs
  have lA := addz_le km (decide (r < 0)) M r.natAbs
  rw [sM, sv_num, hq] at sA
  generalize addk km (decide (r < 0)) M r.natAbs = k at *
  generalize addz km (decide (r < 0)) M r.natAbs = z at *
  have HC := fun W => cmp_any k (decide (a < 0)) z a.natAbs (by omega) (by omega) W
  rw [sA, sv_num] at HC
  have ec : cmpv a a = 0 := by unfold cmpv; simp
  rw [ec] at HC
  rw [decide_eq_false (show ¬ b < 0 by omega)] at HNb HM
  rw [decide_eq_false (show ¬ r < 0 by omega)] at HNr HA
  clear hM sM sA lA hm b4 b8 b9 b5 b89 ha hqq hbb hrr hq ec
  generalize decide (q < 0) = kq at *
  generalize decide (a < 0) = ka at *
  have I1 := Lib.hid HNq; have I2 := Lib.hid HNb; have I3 := Lib.hid HNr; have I4 := Lib.hid HNa; have I5 := Lib.hid HM; have I6 := Lib.hid HA; have I7 := Lib.hid HC; have I8 := Lib.hid HD
  clear HNq HNb HNr HNa HM HA HC HD
  go_enter Try.func4, Try.ntmps4
  go_wp2_with fail
  refine (I8.out _).mono ?_; rintro e w1 ⟨rfl, hb1⟩
  go_wp2_with fail
  refine (counts_any _).mono ?_; rintro e w2 ⟨rfl, hb2⟩
  go_wp2_with fail
  refine (I1.out _).mono ?_; rintro e w3 ⟨rfl, hb3⟩
  go_wp2_with fail
  refine (I2.out _).mono ?_; rintro e w4 ⟨rfl, hb4⟩
  go_wp2_with fail
  refine (I5.out _).mono ?_; rintro e w5 ⟨rfl, hb5⟩
  go_wp2_with fail
  refine (I3.out _).mono ?_; rintro e w6 ⟨rfl, hb6⟩
  go_wp2_with fail
  refine (I6.out _).mono ?_; rintro e w7 ⟨rfl, hb7⟩
  have bl := bl_tr (bl_tr (bl_tr (bl_tr (bl_tr (bl_tr hb1 hb2) hb3) hb4) hb5) hb6) hb7
  clear hb1 hb2 hb3 hb4 hb5 hb6 hb7
  go_wp2
  have S0 := one_start (w := w) (W := (w7.alloc (.cells #[.bool k, .int .i64 (dg z 0), .int .i64 (dg z 1), .int .i64 (dg z 2), .int .i64 (dg z 3), .int .i64 (dg z 4), .int .i64 (dg z 5), .int .i64 (dg z 6), .int .i64 (dg z 7), .int .i64 (dg z 8)] 28)).drew) (heap_alloc_new w7 _) (bl_al bl _).drew
  have d1 : decide (0 ≤ r) = true := decide_eq_true r1
  have d2 : decide (r < b) = true := decide_eq_true r2
  go_region_held3 (fun w' => w'.heap[w7.heap.size]? = some (.cells #[.bool k, .int .i64 (dg z 0), .int .i64 (dg z 1), .int .i64 (dg z 2), .int .i64 (dg z 3), .int .i64 (dg z 4), .int .i64 (dg z 5), .int .i64 (dg z 6), .int .i64 (dg z 7), .int .i64 (dg z 8)] 28 (0, 0)) ∧ Below w.heap.size w w' ∧ w'.cell? ⟨w7.heap.size, 0, none⟩ = some (.bool k) ∧ w'.cell? ⟨w7.heap.size, 1, none⟩ = some (.int .i64 (dg z 0)) ∧ w'.cell? ⟨w7.heap.size, 2, none⟩ = some (.int .i64 (dg z 1)) ∧ w'.cell? ⟨w7.heap.size, 3, none⟩ = some (.int .i64 (dg z 2)) ∧ w'.cell? ⟨w7.heap.size, 4, none⟩ = some (.int .i64 (dg z 3)) ∧ w'.cell? ⟨w7.heap.size, 5, none⟩ = some (.int .i64 (dg z 4)) ∧ w'.cell? ⟨w7.heap.size, 6, none⟩ = some (.int .i64 (dg z 5)) ∧ w'.cell? ⟨w7.heap.size, 7, none⟩ = some (.int .i64 (dg z 6)) ∧ w'.cell? ⟨w7.heap.size, 8, none⟩ = some (.int .i64 (dg z 7)) ∧ w'.cell? ⟨w7.heap.size, 9, none⟩ = some (.int .i64 (dg z 8))) (first | exact S0 | exact S8 | exact S9 | (refine ⟨?_, ?_, ?_, ?_, ?_, ?_, ?_, ?_, ?_, ?_, ?_, ?_⟩ <;> assumption))
    (first
      | (go_at_call 14; refine (I4.out _).mono ?_; rintro e w8 ⟨rfl, hb⟩; have S8 := one_more (w := w) (k := k) (z := z) (g := w7.heap.size) hb (by assumption); clear hb)
      | (go_at_call 21; refine (I7.out _).mono ?_; rintro e w9 ⟨rfl, hb⟩; have S9 := one_more (w := w) (k := k) (z := z) (g := w7.heap.size) hb (by assumption); clear hb))
  all_goals (go_wp2; go_ret; exact ⟨rfl, S9.2.1⟩)

theorem walk (a0 : Int) (a1 : Int) (w0 : (Lit.int .i64 a0).wf = true) (w1 : (Lit.int .i64 a1).wf = true) (w : World) :
    Calls Try.prog 4 #[.int .i64 a0, .int .i64 a1] w fun e w' => e = .returned (.bool true) ∧ Below w.heap.size w w' := by
  obtain ⟨p1, p2⟩ := bounds_i64 w0
  obtain ⟨r1, r2⟩ := bounds_i64 w1
  by_cases hb : a1 ≤ 0
  · exact walk_none a0 a1 hb w
  · have h1 := Int.emod_nonneg a0 (show a1 ≠ 0 by omega)
    have h2 := Int.emod_lt_of_pos a0 (show 0 < a1 by omega)
    have h3 := Int.ediv_mul_add_emod a0 a1
    have h4 := ediv_bounds a0 a1 p1 p2 (by omega)
    exact walk_some a0 a1 (a0 / a1) (a0 % a1) p1 p2 (by omega) r2 h1 h2 h4.1 h4.2 (fun W => div_any a0 a1 p1 p2 (by omega) r2 W) h3 w

/-! ### THE ROW's STEP: WRITTEN OUT: LEAVE IT -/
set_option maxRecDepth 100000 in
theorem lifted (os : Os) (started : os.Started) (H : Type) (enc : TypeId × Value → H) :
    ReturnsInHanded {} Try.checked os 4 .any (Rows.arithDivsSpec.pre6 enc Try.prog Try.f4 Rows.arithDivsRow.domain false) (Rows.arithDivsSpec.post enc Try.prog Try.f4 false true false false) := by
  refine returnsInHanded_of_change (C := Try.checked) own started (by kernel_rfl) Try.func4
    (ChangeSpec.witness6 (enc := enc) (C := Try.checked) false ⟨#[], #[.int .i64 0, .int .i64 0], []⟩ 8 (by kernel_rfl) (by kernel_rfl) (by kernel_rfl) (by kernel_rfl)) ?_
  intro W base args ds gs before hval0 hW hcnd _
  have hval : ∀ (j : Nat) t v, Try.f4.params[j]? = some t → args[j]? = some v → Value.okWide Try.prog W .any base t v := hval0
  have hW' := hW
  obtain ⟨p, q, hA0, hV, rfl, hfz, hnd⟩ := hW
  have hA : DataW.TrodAll enc Try.prog W 0 (fun _ => true) true Try.f4.params.toList args.toList ds p := hA0
  rw [Try.params4] at hA hval
  obtain ⟨v0, vs0, d0, ds0, p0, q0, hargs, rfl, rfl, h0, r0⟩ := trodAll_cons hA
  obtain ⟨v1, vs1, d1, ds1, p1, q1, rfl, rfl, rfl, h1, r1⟩ := trodAll_cons r0
  obtain ⟨rfl, rfl, rfl⟩ := trodAll_nil r1
  obtain rfl : args = #[v0, v1] := by cases args; simp_all
  obtain ⟨rfl, rfl⟩ := trodVars_none hV
  obtain ⟨a0, rfl, rfl, rfl, w0⟩ := open_int Try.underlying3 (hval 0 3 v0 rfl rfl) h0
  obtain ⟨a1, rfl, rfl, rfl, w1⟩ := open_int Try.underlying3 (hval 1 3 v1 rfl rfl) h1
  clear hA0 hval0
  simp only [List.append_nil] at hW'
  refine (walk a0 a1 w0 w1 W).mono fun e W' ⟨he, hg⟩ => ?_
  subst he
  exact ⟨_, rfl, _, _, _, [], _, [], hW', trodAll_mk1 (shut_bool Try.underlying4 _), (trodAll_cons_mk (shut_int Try.underlying3 w0) (trodAll_cons_mk (shut_int Try.underlying3 w1) trodAll_mk0)), rfl, hg.frame _, fun h => by cases h⟩

theorem over : Rows.arithDivsRow.holds Try.pinned (OpenSpec.ofChange Rows.arithDivsSpec) :=
  OpenClaim.holds_of_wide 4 Try.f4 rfl rfl rfl rfl rfl rfl rfl ⟨rfl, rfl, rfl, rfl, rfl⟩ rfl rfl rfl rfl rfl (by kernel_rfl) Try.func4 (by kernel_rfl)
    (of_decide_eq_true (by kernel_rfl)) (by unfold Func.isWrapper; first | (rw [if_pos (by decide +kernel)]; kernel_rfl) | (rw [if_neg (by decide +kernel)]; exact ⟨rfl, rfl⟩))
    (fun os started H enc _ => lifted os started H enc)

/-- ████ THE STATEMENT ████ -/
theorem proved : Rows.ArithDivsSaid :=
  over
#print axioms proved
end Go.Proofs.Ytbcffefailhacaa.arithDivs
