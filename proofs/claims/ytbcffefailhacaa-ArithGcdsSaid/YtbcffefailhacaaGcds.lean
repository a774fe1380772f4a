/-
  For every two ints, kurganlaw01.ArithGcds answers true and leaves both as they were: what Gcd answers divides both, what is left of both has no divisor in common but 1, and the order and the signs are nothing. No condition.
-/
import Derived.Test.YtbcffefailhacaaRows
import Derived.Test.YtbcffefailhacaaBase
import Derived.WalkKit
import Derived.IntWalk
import Derived.ProofKit
import Derived.OpenShut
namespace Go.Proofs.Ytbcffefailhacaa.arithGcds
open Go.ChangeShapes Go.WideShapes Go.ChangeAt Go.RowKit
set_option linter.unusedVariables false      -- a walk need not use every 'w<i>' (that an integer argument fits its kind)

theorem own : ownKnob Try.prog.godebug = none := by kernel_rfl


theorem walk_nought (a b g : Int) (a1 : -9223372036854775808 ≤ a) (a2 : a ≤ 9223372036854775807) (b1 : -9223372036854775808 ≤ b) (b2 : b ≤ 9223372036854775807) (w : World)
    (e1 : gcdv a b = 0) (e2 : gcdv b a = 0)
    (hc : (a = 0 ∧ b = 0) ∨ (a = -9223372036854775808 ∧ b = 0) ∨ (a = 0 ∧ b = -9223372036854775808) ∨ (a = -9223372036854775808 ∧ b = -9223372036854775808)) :
    Calls Try.prog 8 #[.int .i64 a, .int .i64 b] w fun e w' => e = .returned (.bool true) ∧ Below w.heap.size w w' := by
  rcases hc with ⟨rfl, rfl⟩ | ⟨rfl, rfl⟩ | ⟨rfl, rfl⟩ | ⟨rfl, rfl⟩
  all_goals
    go_enter Try.func8, Try.ntmps8
    go_wp2_with fail
    refine (gcd_any _ _ a1 a2 b1 b2 _).mono ?_; rintro e w1 ⟨rfl, hb1⟩
    rw [e1]
    go_wp2_with fail
    refine (counts_any _).mono ?_; rintro e w2 ⟨rfl, hb2⟩
    go_wp2_with fail
    refine (gcd_any _ _ b1 b2 a1 a2 _).mono ?_; rintro e w3 ⟨rfl, hb3⟩
    rw [e2]
    go_wp2_with fail
    go_ret
    exact ⟨rfl, bl_tr (bl_tr hb1 hb2) hb3⟩

theorem walk_main (a b g : Int) (a1 : -9223372036854775808 ≤ a) (a2 : a ≤ 9223372036854775807) (b1 : -9223372036854775808 ≤ b) (b2 : b ≤ 9223372036854775807) (w : World)
    (e1 : gcdv a b = g) (e2 : gcdv b a = g) (g1 : 0 < g) (g2 : g ≤ 9223372036854775807) (m1 : a.tmod g = 0) (m2 : b.tmod g = 0) (q1 : gcdv (a.tdiv g) (b.tdiv g) = 1) (q2 : gcdv (-a) b = g)
    (t1 : -9223372036854775808 ≤ a.tdiv g) (t2 : a.tdiv g ≤ 9223372036854775807) (t3 : -9223372036854775808 ≤ b.tdiv g) (t4 : b.tdiv g ≤ 9223372036854775807)
    (c1 : (a == 0) = false) (c2 : (a == -9223372036854775808) = false) (c3 : -9223372036854775807 ≤ a) :
    Calls Try.prog 8 #[.int .i64 a, .int .i64 b] w fun e w' => e = .returned (.bool true) ∧ Below w.heap.size w w' := by
  have E1 := Lib.hid e1; have E2 := Lib.hid e2; have Q1 := Lib.hid q1; have Q2 := Lib.hid q2
  clear e1 e2 q1 q2
  have n1 : -9223372036854775808 ≤ -a := by omega
  have n2 : -a ≤ 9223372036854775807 := by omega
  go_enter Try.func8, Try.ntmps8
  go_wp2_with fail
  refine (gcd_any _ _ a1 a2 b1 b2 _).mono ?_; rintro e w1 ⟨rfl, hb1⟩
  rw [E1.out]
  go_wp2_with fail
  refine (counts_any _).mono ?_; rintro e w2 ⟨rfl, hb2⟩
  go_wp2_with fail
  refine (gcd_any _ _ b1 b2 a1 a2 _).mono ?_; rintro e w3 ⟨rfl, hb3⟩
  rw [E2.out]
  go_wp2_with fail
  have wa : IntKind.i64.wrap (a.tdiv g) = a.tdiv g := IntWalk.i64_in _ (by omega)
  have wb : IntKind.i64.wrap (b.tdiv g) = b.tdiv g := IntWalk.i64_in _ (by omega)
  have wn : IntKind.i64.wrap (-a) = -a := IntWalk.i64_in _ (by omega)
  have Q3 := Q1.out
  have Q4 := Q2.out
  go_quiet ((go_at_call 25; first | (with_reducible exact Calls.quiet_of (gcd_drew (a.tdiv g) (b.tdiv g) t1 t2 t3 t4 _)) | (with_reducible exact Calls.quiet_of (gcd_drew (-a) b n1 n2 b1 b2 _))))
  go_wp2_with fail
  go_ret
  exact ⟨rfl, bl_dn (bl_tr (bl_tr hb1 hb2) hb3) _⟩
theorem walk_zero (a b g : Int) (a1 : -9223372036854775808 ≤ a) (a2 : a ≤ 9223372036854775807) (b1 : -9223372036854775808 ≤ b) (b2 : b ≤ 9223372036854775807) (w : World)
    (e1 : gcdv a b = g) (e2 : gcdv b a = g) (g1 : 0 < g) (g2 : g ≤ 9223372036854775807) (m1 : a.tmod g = 0) (m2 : b.tmod g = 0) (q1 : gcdv (a.tdiv g) (b.tdiv g) = 1) (q2 : gcdv (-a) b = g)
    (t1 : -9223372036854775808 ≤ a.tdiv g) (t2 : a.tdiv g ≤ 9223372036854775807) (t3 : -9223372036854775808 ≤ b.tdiv g) (t4 : b.tdiv g ≤ 9223372036854775807)
    (c1 : (a == 0) = true) (c2 : (a == -9223372036854775808) = false) (c3 : -9223372036854775807 ≤ a) (d1 : (b == 0) = false) (d2 : (b == -9223372036854775808) = false) :
    Calls Try.prog 8 #[.int .i64 a, .int .i64 b] w fun e w' => e = .returned (.bool true) ∧ Below w.heap.size w w' := by
  have E1 := Lib.hid e1; have E2 := Lib.hid e2; have Q1 := Lib.hid q1; have Q2 := Lib.hid q2
  clear e1 e2 q1 q2
  have n1 : -9223372036854775808 ≤ -a := by omega
  have n2 : -a ≤ 9223372036854775807 := by omega
  go_enter Try.func8, Try.ntmps8
  go_wp2_with fail
  refine (gcd_any _ _ a1 a2 b1 b2 _).mono ?_; rintro e w1 ⟨rfl, hb1⟩
  rw [E1.out]
  go_wp2_with fail
  refine (counts_any _).mono ?_; rintro e w2 ⟨rfl, hb2⟩
  go_wp2_with fail
  refine (gcd_any _ _ b1 b2 a1 a2 _).mono ?_; rintro e w3 ⟨rfl, hb3⟩
  rw [E2.out]
  go_wp2_with fail
  have wa : IntKind.i64.wrap (a.tdiv g) = a.tdiv g := IntWalk.i64_in _ (by omega)
  have wb : IntKind.i64.wrap (b.tdiv g) = b.tdiv g := IntWalk.i64_in _ (by omega)
  have wn : IntKind.i64.wrap (-a) = -a := IntWalk.i64_in _ (by omega)
  have Q3 := Q1.out
  have Q4 := Q2.out
  go_quiet ((go_at_call 25; first | (with_reducible exact Calls.quiet_of (gcd_drew (a.tdiv g) (b.tdiv g) t1 t2 t3 t4 _)) | (with_reducible exact Calls.quiet_of (gcd_drew (-a) b n1 n2 b1 b2 _))))
  go_wp2_with fail
  go_ret
  exact ⟨rfl, bl_dn (bl_tr (bl_tr hb1 hb2) hb3) _⟩
theorem walk_least (a b g : Int) (a1 : -9223372036854775808 ≤ a) (a2 : a ≤ 9223372036854775807) (b1 : -9223372036854775808 ≤ b) (b2 : b ≤ 9223372036854775807) (w : World)
    (e1 : gcdv a b = g) (e2 : gcdv b a = g) (g1 : 0 < g) (g2 : g ≤ 9223372036854775807) (m1 : a.tmod g = 0) (m2 : b.tmod g = 0) (q1 : gcdv (a.tdiv g) (b.tdiv g) = 1) (q2 : gcdv (-a) b = g)
    (t1 : -9223372036854775808 ≤ a.tdiv g) (t2 : a.tdiv g ≤ 9223372036854775807) (t3 : -9223372036854775808 ≤ b.tdiv g) (t4 : b.tdiv g ≤ 9223372036854775807)
    (c1 : (a == 0) = false) (c2 : (a == -9223372036854775808) = true) (d1 : (b == 0) = false) (d2 : (b == -9223372036854775808) = false) :
    Calls Try.prog 8 #[.int .i64 a, .int .i64 b] w fun e w' => e = .returned (.bool true) ∧ Below w.heap.size w w' := by
  have E1 := Lib.hid e1; have E2 := Lib.hid e2; have Q1 := Lib.hid q1; have Q2 := Lib.hid q2
  clear e1 e2 q1 q2
  go_enter Try.func8, Try.ntmps8
  go_wp2_with fail
  refine (gcd_any _ _ a1 a2 b1 b2 _).mono ?_; rintro e w1 ⟨rfl, hb1⟩
  rw [E1.out]
  go_wp2_with fail
  refine (counts_any _).mono ?_; rintro e w2 ⟨rfl, hb2⟩
  go_wp2_with fail
  refine (gcd_any _ _ b1 b2 a1 a2 _).mono ?_; rintro e w3 ⟨rfl, hb3⟩
  rw [E2.out]
  go_wp2_with fail
  have wa : IntKind.i64.wrap (a.tdiv g) = a.tdiv g := IntWalk.i64_in _ (by omega)
  have wb : IntKind.i64.wrap (b.tdiv g) = b.tdiv g := IntWalk.i64_in _ (by omega)
  have Q3 := Q1.out
  have Q4 := Q2.out
  go_quiet ((go_at_call 25; with_reducible exact Calls.quiet_of (gcd_drew (a.tdiv g) (b.tdiv g) t1 t2 t3 t4 _)))
  go_wp2_with fail
  go_ret
  exact ⟨rfl, bl_dn (bl_tr (bl_tr hb1 hb2) hb3) _⟩

theorem walk (a0 : Int) (a1 : Int) (w0 : (Lit.int .i64 a0).wf = true) (w1 : (Lit.int .i64 a1).wf = true) (w : World) :
    Calls Try.prog 8 #[.int .i64 a0, .int .i64 a1] w fun e w' => e = .returned (.bool true) ∧ Below w.heap.size w w' := by
  obtain ⟨p1, p2⟩ := bounds_i64 w0
  obtain ⟨r1, r2⟩ := bounds_i64 w1
  by_cases hn : (a0 = -9223372036854775808 ∨ a0 = 0) ∧ (a1 = -9223372036854775808 ∨ a1 = 0)
  · obtain ⟨h1, h2⟩ := hn
    have e : gcdv a0 a1 = 0 ∧ gcdv a1 a0 = 0 := by rcases h1 with rfl | rfl <;> rcases h2 with rfl | rfl <;> decide
    exact walk_nought a0 a1 0 p1 p2 r1 r2 w e.1 e.2 (by omega)
  · obtain ⟨g, e1, g1, g2, m1, m2, q1, t1, t2, t3, t4⟩ := gcdv_facts a0 a1 p1 p2 r1 r2 hn
    have e2 : gcdv a1 a0 = g := by rw [gcdv_comm]; exact e1
    have q2 : gcdv (-a0) a1 = g := by rw [gcdv_neg]; exact e1
    by_cases z : a0 = 0
    · exact walk_zero a0 a1 g p1 p2 r1 r2 w e1 e2 g1 g2 m1 m2 q1 q2 t1 t2 t3 t4 (by simpa using z) (by simp; omega) (by omega) (by simp; omega) (by simp; omega)
    · by_cases l : a0 = -9223372036854775808
      · exact walk_least a0 a1 g p1 p2 r1 r2 w e1 e2 g1 g2 m1 m2 q1 q2 t1 t2 t3 t4 (by simpa using z) (by simpa using l) (by simp; omega) (by simp; omega)
      · exact walk_main a0 a1 g p1 p2 r1 r2 w e1 e2 g1 g2 m1 m2 q1 q2 t1 t2 t3 t4 (by simpa using z) (by simpa using l) (by omega)

/-! ### THE ROW's STEP: WRITTEN OUT: LEAVE IT -/
set_option maxRecDepth 100000 in
theorem lifted (os : Os) (started : os.Started) (H : Type) (enc : TypeId × Value → H) :
    ReturnsInHanded {} Try.checked os 8 .any (Rows.arithGcdsSpec.pre6 enc Try.prog Try.f8 Rows.arithGcdsRow.domain false) (Rows.arithGcdsSpec.post enc Try.prog Try.f8 false true false false) := by
  refine returnsInHanded_of_change (C := Try.checked) own started (by kernel_rfl) Try.func8
    (ChangeSpec.witness6 (enc := enc) (C := Try.checked) false ⟨#[], #[.int .i64 0, .int .i64 0], []⟩ 8 (by kernel_rfl) (by kernel_rfl) (by kernel_rfl) (by kernel_rfl)) ?_
  intro W base args ds gs before hval0 hW hcnd _
  have hval : ∀ (j : Nat) t v, Try.f8.params[j]? = some t → args[j]? = some v → Value.okWide Try.prog W .any base t v := hval0
  have hW' := hW
  obtain ⟨p, q, hA0, hV, rfl, hfz, hnd⟩ := hW
  have hA : DataW.TrodAll enc Try.prog W 0 (fun _ => true) true Try.f8.params.toList args.toList ds p := hA0
  rw [Try.params8] at hA hval
  obtain ⟨v0, vs0, d0, ds0, p0, q0, hargs, rfl, rfl, h0, r0⟩ := trodAll_cons hA
  obtain ⟨v1, vs1, d1, ds1, p1, q1, rfl, rfl, rfl, h1, r1⟩ := trodAll_cons r0
  obtain ⟨rfl, rfl, rfl⟩ := trodAll_nil r1
  obtain rfl : args = #[v0, v1] := by cases args; simp_all
  obtain ⟨rfl, rfl⟩ := trodVars_none hV
  obtain ⟨a0, rfl, rfl, rfl, w0⟩ := open_int Try.underlying3 (hval 0 3 v0 rfl rfl) h0
  obtain ⟨a1, rfl, rfl, rfl, w1⟩ := open_int Try.underlying3 (hval 1 3 v1 rfl rfl) h1
  clear hA0 hval0
  simp only [List.append_nil] at hW'
  refine (walk a0 a1 w0 w1 W).mono fun e W' ⟨he, hg⟩ => ?_
  subst he
  exact ⟨_, rfl, _, _, _, [], _, [], hW', trodAll_mk1 (shut_bool Try.underlying4 _), (trodAll_cons_mk (shut_int Try.underlying3 w0) (trodAll_cons_mk (shut_int Try.underlying3 w1) trodAll_mk0)), rfl, hg.frame _, fun h => by cases h⟩

theorem over : Rows.arithGcdsRow.holds Try.pinned (OpenSpec.ofChange Rows.arithGcdsSpec) :=
  OpenClaim.holds_of_wide 8 Try.f8 rfl rfl rfl rfl rfl rfl rfl ⟨rfl, rfl, rfl, rfl, rfl⟩ rfl rfl rfl rfl rfl (by kernel_rfl) Try.func8 (by kernel_rfl)
    (of_decide_eq_true (by kernel_rfl)) (by unfold Func.isWrapper; first | (rw [if_pos (by decide +kernel)]; kernel_rfl) | (rw [if_neg (by decide +kernel)]; exact ⟨rfl, rfl⟩))
    (fun os started H enc _ => lifted os started H enc)

/-- ████ THE STATEMENT ████ -/
theorem proved : Rows.ArithGcdsSaid :=
  over
#print axioms proved
end Go.Proofs.Ytbcffefailhacaa.arithGcds
