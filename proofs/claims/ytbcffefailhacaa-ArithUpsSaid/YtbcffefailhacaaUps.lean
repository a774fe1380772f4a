/-
  For every two ints, kurganlaw01.ArithUps answers true and leaves both as they were: Up is the sum of two that are not below nought, or the greatest int; of others it is nought. No condition.
-/
import Derived.Test.YtbcffefailhacaaRows
import Derived.Test.YtbcffefailhacaaRefZ
import Derived.WalkKit
import Derived.ProofKit
import Derived.OpenShut
namespace Go.Proofs.Ytbcffefailhacaa.arithUps
open Go.ChangeShapes Go.WideShapes Go.ChangeAt Go.RowKit
set_option linter.unusedVariables false      -- a walk need not use every 'w<i>' (that an integer argument fits its kind)

theorem own : ownKnob Try.prog.godebug = none := by kernel_rfl


theorem up_none (a b : Int) (h : a < 0 ∨ (0 ≤ a ∧ b < 0)) (w : World) : Calls Try.prog 26 #[.int .i64 a, .int .i64 b] w fun e w' => e = .returned (.int .i64 0) ∧ w = w' := by
  rcases h with h | ⟨h, h2⟩
  all_goals
    go_enter Try.func26, Try.ntmps26
    go_wp2
    go_ret
    exact ⟨rfl, rfl⟩
theorem up_sum (a b : Int) (a1 : 0 ≤ a) (a2 : a ≤ 9223372036854775807) (b1 : 0 ≤ b) (b2 : b ≤ 9223372036854775807) (h : a + b ≤ 9223372036854775807) (w : World) : Calls Try.prog 26 #[.int .i64 a, .int .i64 b] w fun e w' => e = .returned (.int .i64 (a + b)) ∧ w = w' := by
  go_enter Try.func26, Try.ntmps26
  go_wp2
  go_ret
  exact ⟨rfl, rfl⟩
theorem up_top (a b : Int) (a1 : 0 ≤ a) (a2 : a ≤ 9223372036854775807) (b1 : 0 ≤ b) (b2 : b ≤ 9223372036854775807) (h : 9223372036854775807 < a + b) (w : World) : Calls Try.prog 26 #[.int .i64 a, .int .i64 b] w fun e w' => e = .returned (.int .i64 9223372036854775807) ∧ w = w' := by
  go_enter Try.func26, Try.ntmps26
  go_wp2
  go_ret
  exact ⟨rfl, rfl⟩
theorem walk_none (a b : Int) (h : a < 0 ∨ (0 ≤ a ∧ b < 0)) (w : World) : Calls Try.prog 9 #[.int .i64 a, .int .i64 b] w fun e w' => e = .returned (.bool true) ∧ Below w.heap.size w w' := by
  have H := fun W => up_none a b h W
  rcases h with h | ⟨h, h2⟩
  all_goals
    go_enter Try.func9, Try.ntmps9
    go_wp2_with fail
    refine (H _).mono ?_; rintro e w1 ⟨rfl, rfl⟩
    go_wp2_with fail
    refine (counts_any _).mono ?_; rintro e w2 ⟨rfl, hb2⟩
    go_wp2_with fail
    go_ret
    exact ⟨rfl, hb2⟩
theorem int_of_sum (a b : Int) (a1 : -9223372036854775808 ≤ a) (a2 : a ≤ 9223372036854775807) (b1 : -9223372036854775808 ≤ b) (b2 : b ≤ 9223372036854775807) :
    addz (decide (a < 0)) (decide (b < 0)) a.natAbs b.natAbs < BB ^ 9 ∧ sv (addk (decide (a < 0)) (decide (b < 0)) a.natAbs b.natAbs) (addz (decide (a < 0)) (decide (b < 0)) a.natAbs b.natAbs) = a + b := by
  have h := addz_le (decide (a < 0)) (decide (b < 0)) a.natAbs b.natAbs
  have h9 := B9
  have h10 : 18446744073709551616 < BB ^ 9 := by decide
  refine ⟨by omega, ?_⟩
  rw [add_sv, sv_num, sv_num]
theorem walk_some (a b u s : Int) (ok : Bool) (a1 : 0 ≤ a) (a2 : a ≤ 9223372036854775807) (b1 : 0 ≤ b) (b2 : b ≤ 9223372036854775807)
    (HU : ∀ W, Calls Try.prog 26 #[.int .i64 a, .int .i64 b] W fun e w' => e = .returned (.int .i64 u) ∧ W = w') (hs : fitv (a + b) = s) (ho : fits (a + b) = ok) (hu : ok = true ∧ u = s ∨ ok = false ∧ u = 9223372036854775807) (w : World) : Calls Try.prog 9 #[.int .i64 a, .int .i64 b] w fun e w' => e = .returned (.bool true) ∧ Below w.heap.size w w' := by
  obtain ⟨z1, z2⟩ := int_of_sum a b (by omega) a2 (by omega) b2
  have HN1 := fun W => num_any a (by omega) a2 W
  have HN2 := fun W => num_any b (by omega) b2 W
  have h9 := B9
  have HA := fun W => add_any (decide (a < 0)) (decide (b < 0)) a.natAbs b.natAbs (by omega) (by omega) W
  have HI := fun W => int_any (addk (decide (a < 0)) (decide (b < 0)) a.natAbs b.natAbs) (addz (decide (a < 0)) (decide (b < 0)) a.natAbs b.natAbs) z1 W
  rw [z2, hs, ho] at HI
  clear z1 z2 h9 hs ho
  rw [decide_eq_false (show ¬ a < 0 by omega)] at HN1 HA HI
  rw [decide_eq_false (show ¬ b < 0 by omega)] at HN2 HA HI
  generalize addk false false a.natAbs b.natAbs = k at *
  generalize addz false false a.natAbs b.natAbs = z at *
  have I1 := Lib.hid HN1; have I2 := Lib.hid HN2; have I3 := Lib.hid HA; have I4 := Lib.hid HI; have I5 := Lib.hid HU
  clear HN1 HN2 HA HI HU
  rcases hu with ⟨rfl, rfl⟩ | ⟨rfl, rfl⟩
  all_goals
    go_enter Try.func9, Try.ntmps9
    go_wp2_with fail
    refine (I5.out _).mono ?_; rintro e w1 ⟨rfl, rfl⟩
    go_wp2_with fail
    refine (I1.out _).mono ?_; rintro e w2 ⟨rfl, hb2⟩
    go_wp2_with fail
    refine (I2.out _).mono ?_; rintro e w3 ⟨rfl, hb3⟩
    go_wp2_with fail
    refine (I3.out _).mono ?_; rintro e w4 ⟨rfl, hb4⟩
    go_wp2_with fail
    refine (I4.out _).mono ?_; rintro e w5 ⟨rfl, hb5⟩
    go_wp2_with fail
    refine (counts_any _).mono ?_; rintro e w6 ⟨rfl, hb6⟩
    go_wp2_with fail
    go_ret
    exact ⟨rfl, bl_tr (bl_tr (bl_tr (bl_tr hb2 hb3) hb4) hb5) hb6⟩
theorem walk (a0 : Int) (a1 : Int) (w0 : (Lit.int .i64 a0).wf = true) (w1 : (Lit.int .i64 a1).wf = true) (w : World) :
    Calls Try.prog 9 #[.int .i64 a0, .int .i64 a1] w fun e w' => e = .returned (.bool true) ∧ Below w.heap.size w w' := by
  obtain ⟨p1, p2⟩ := bounds_i64 w0
  obtain ⟨r1, r2⟩ := bounds_i64 w1
  by_cases hn : a0 < 0 ∨ (0 ≤ a0 ∧ a1 < 0)
  · exact walk_none a0 a1 hn w
  · by_cases hs : a0 + a1 ≤ 9223372036854775807
    · exact walk_some a0 a1 (a0 + a1) (a0 + a1) true (by omega) p2 (by omega) r2 (fun W => up_sum a0 a1 (by omega) p2 (by omega) r2 hs W) (fitv_yes (by omega)) (fits_yes (by omega)) (Or.inl ⟨rfl, rfl⟩) w
    · exact walk_some a0 a1 9223372036854775807 0 false (by omega) p2 (by omega) r2 (fun W => up_top a0 a1 (by omega) p2 (by omega) r2 (by omega) W) (fitv_no (by omega)) (fits_no (by omega)) (Or.inr ⟨rfl, rfl⟩) w

/-! ### THE ROW's STEP: WRITTEN OUT: LEAVE IT -/
set_option maxRecDepth 100000 in
theorem lifted (os : Os) (started : os.Started) (H : Type) (enc : TypeId × Value → H) :
    ReturnsInHanded {} Try.checked os 9 .any (Rows.arithUpsSpec.pre6 enc Try.prog Try.f9 Rows.arithUpsRow.domain false) (Rows.arithUpsSpec.post enc Try.prog Try.f9 false true false false) := by
  refine returnsInHanded_of_change (C := Try.checked) own started (by kernel_rfl) Try.func9
    (ChangeSpec.witness6 (enc := enc) (C := Try.checked) false ⟨#[], #[.int .i64 0, .int .i64 0], []⟩ 8 (by kernel_rfl) (by kernel_rfl) (by kernel_rfl) (by kernel_rfl)) ?_
  intro W base args ds gs before hval0 hW hcnd _
  have hval : ∀ (j : Nat) t v, Try.f9.params[j]? = some t → args[j]? = some v → Value.okWide Try.prog W .any base t v := hval0
  have hW' := hW
  obtain ⟨p, q, hA0, hV, rfl, hfz, hnd⟩ := hW
  have hA : DataW.TrodAll enc Try.prog W 0 (fun _ => true) true Try.f9.params.toList args.toList ds p := hA0
  rw [Try.params9] at hA hval
  obtain ⟨v0, vs0, d0, ds0, p0, q0, hargs, rfl, rfl, h0, r0⟩ := trodAll_cons hA
  obtain ⟨v1, vs1, d1, ds1, p1, q1, rfl, rfl, rfl, h1, r1⟩ := trodAll_cons r0
  obtain ⟨rfl, rfl, rfl⟩ := trodAll_nil r1
  obtain rfl : args = #[v0, v1] := by cases args; simp_all
  obtain ⟨rfl, rfl⟩ := trodVars_none hV
  obtain ⟨a0, rfl, rfl, rfl, w0⟩ := open_int Try.underlying3 (hval 0 3 v0 rfl rfl) h0
  obtain ⟨a1, rfl, rfl, rfl, w1⟩ := open_int Try.underlying3 (hval 1 3 v1 rfl rfl) h1
  clear hA0 hval0
  simp only [List.append_nil] at hW'
  refine (walk a0 a1 w0 w1 W).mono fun e W' ⟨he, hg⟩ => ?_
  subst he
  exact ⟨_, rfl, _, _, _, [], _, [], hW', trodAll_mk1 (shut_bool Try.underlying4 _), (trodAll_cons_mk (shut_int Try.underlying3 w0) (trodAll_cons_mk (shut_int Try.underlying3 w1) trodAll_mk0)), rfl, hg.frame _, fun h => by cases h⟩

theorem over : Rows.arithUpsRow.holds Try.pinned (OpenSpec.ofChange Rows.arithUpsSpec) :=
  OpenClaim.holds_of_wide 9 Try.f9 rfl rfl rfl rfl rfl rfl rfl ⟨rfl, rfl, rfl, rfl, rfl⟩ rfl rfl rfl rfl rfl (by kernel_rfl) Try.func9 (by kernel_rfl)
    (of_decide_eq_true (by kernel_rfl)) (by unfold Func.isWrapper; first | (rw [if_pos (by decide +kernel)]; kernel_rfl) | (rw [if_neg (by decide +kernel)]; exact ⟨rfl, rfl⟩))
    (fun os started H enc _ => lifted os started H enc)

/-- ████ THE STATEMENT ████ -/
theorem proved : Rows.ArithUpsSaid :=
  over
#print axioms proved
end Go.Proofs.Ytbcffefailhacaa.arithUps
