/-
  The walk of kurganlaw07.GenMakes.
-/
import Derived.Test.YtnmolpogmkiikaaRw
import Derived.Test.YtnmolpogmkiikaaRm
namespace Go.Proofs.Ytnmolpogmkiikaa
open Go.RowKit
set_option linter.unusedVariables false
theorem one_box (W : World) (v0 v1 v2 v3 v4 v5 : Value) : (W.alloc (.cells #[v0, v1, v2, v3, v4, v5] 32)).heap[W.heap.size]? = some (.cells #[v0, v1, v2, v3, v4, v5] 32 (0, 0)) := by
  show (W.heap.push (Obj.cells #[v0, v1, v2, v3, v4, v5] 32))[W.heap.size]? = _
  simp
/-- both tell the same -/
theorem both_make (K n m s : Int) : ∃ (er K' N C : Int) (wl vl : List Int) (cl : List (List Int)), (∀ W, Calls Try.prog 8 #[.int .i64 K, .int .i64 n, .int .i64 m, .int .u64 s] W (MkP er K' N C wl vl cl W)) ∧ (∀ W, Calls Try.prog 9 #[.int .i64 K, .int .i64 n, .int .i64 m, .int .u64 s] W (MkP er K' N C wl vl cl W)) ∧ wl.length ≤ 1000 ∧ vl.length ≤ 1000 ∧ cl.length ≤ 1000 := by
  have z : ([] : List Int).length ≤ 1000 := by simp
  have z2 : ([] : List (List Int)).length ≤ 1000 := by simp
  by_cases k1 : K = 1
  · subst k1
    by_cases ha : n < 1 ∨ m < 0 ∨ 2147483647 < m
    · exact ⟨1, 0, 0, 0, [], [], [], make_arg1 n m s ha, rmake_arg1 n m s ha, z, z, z2⟩
    · by_cases hb : 64 < n
      · exact ⟨5, 0, 0, 0, [], [], [], make_big1 n m s hb (by omega) (by omega), rmake_big1 n m s hb (by omega) (by omega), z, z, z2⟩
      · obtain ⟨nn, rfl⟩ : ∃ nn : Nat, n = (nn : Int) := ⟨n.toNat, by omega⟩
        exact ⟨0, 1, nn, capOf m s nn, WL m s nn, VL m s nn, [], make_knap nn (by omega) (by omega) m s (by omega) (by omega), rmake_knap nn (by omega) (by omega) m s (by omega) (by omega), by rw [WL_len]; omega, by rw [VL_len]; omega, z2⟩
  · by_cases k2 : K = 2
    · subst k2
      by_cases ha : n < 1 ∨ m < 0 ∨ 2147483647 < m
      · exact ⟨1, 0, 0, 0, [], [], [], make_arg2 n m s ha, rmake_arg2 n m s ha, z, z, z2⟩
      · by_cases hb : 24 < n
        · exact ⟨5, 0, 0, 0, [], [], [], make_big2 n m s hb (by omega) (by omega), rmake_big2 n m s hb (by omega) (by omega), z, z, z2⟩
        · obtain ⟨nn, rfl⟩ : ∃ nn : Nat, n = (nn : Int) := ⟨n.toNat, by omega⟩
          exact ⟨0, 2, nn, 0, [], [], CL false m s nn, make_two nn (by omega) (by omega) m s (by omega) (by omega), rmake_two nn (by omega) (by omega) m s (by omega) (by omega), z, z, by rw [CL_len]; omega⟩
    · by_cases k3 : K = 3
      · subst k3
        by_cases ha : n < 1 ∨ m < 0 ∨ 2147483647 < m
        · exact ⟨1, 0, 0, 0, [], [], [], make_arg3 n m s ha, rmake_arg3 n m s ha, z, z, z2⟩
        · by_cases hb : 24 < n
          · exact ⟨5, 0, 0, 0, [], [], [], make_big3 n m s hb (by omega) (by omega), rmake_big3 n m s hb (by omega) (by omega), z, z, z2⟩
          · obtain ⟨nn, rfl⟩ : ∃ nn : Nat, n = (nn : Int) := ⟨n.toNat, by omega⟩
            exact ⟨0, 3, nn, 0, [], [], CL true m s nn, make_three nn (by omega) (by omega) m s (by omega) (by omega), rmake_three nn (by omega) (by omega) m s (by omega) (by omega), z, z, by rw [CL_len]; omega⟩
      · exact ⟨14, 0, 0, 0, [], [], [], make_kind K n m s k1 k2 k3, rmake_kind K n m s k1 k2 k3, z, z, z2⟩
set_option maxRecDepth 100000 in
set_option maxHeartbeats 2000000 in
theorem makes_core (K n a b top : Int) (a0 : 0 ≤ a) (a1 : a ≤ 4294967295) (b0 : 0 ≤ b) (b1 : b ≤ 4294967295) (ht : top = if a % 7 = 0 then -a else a) (w : World) :
    Calls Try.prog 4 #[.int .i64 K, .int .i64 n, .agg #[.int .u32 a, .int .u32 b]] w fun e w' => e = .returned (.bool true) ∧ Below w.heap.size w w' := by
  obtain ⟨er, K', N, C, wl, vl, cl, H8, H9, l1, l2, l3⟩ := both_make K n top (b * 4294967297)
  have J8 := Lib.hid H8
  have J9 := Lib.hid H9
  have B0 := Lib.hid (bl_al (Below.refl w.heap.size w) (.cells #[.int .u32 a, .int .u32 b] 28))
  have SM := Lib.hid (fun (wa va ca wa' va' ca' : Option Addr) (wc vc cc wc' vc' cc' : Nat) (W : World) (i1 : Ints W wa wl) (i2 : Ints W va vl) (i3 : Rws W ca cl) (j1 : Ints W wa' wl) (j2 : Ints W va' vl) (j3 : Rws W ca' cl) => same_any true K' N C K' N C wl vl wl vl cl cl ⟨fun _ => ⟨rfl, rfl, rfl, rfl, rfl, rfl⟩, fun _ => rfl⟩ wa va ca wa' va' ca' wc vc cc wc' vc' cc' W i1 i2 i3 j1 j2 j3 l1 l2 l3 l1 l2)
  clear H8 H9 l1 l2 l3
  by_cases h7 : a % 7 = 0
  · rw [if_pos h7] at ht
    have h7b : (a % 7 == 0) = true := by simpa using h7
    subst ht
    clear h7
    go_enter Try.func4, Try.ntmps4
    go_wp2_with fail
    with_reducible refine (J8.out _).mono ?_
    rintro e w1 ⟨wa, va, ca, wc, vc, cc, rfl, i1, i2, i3, d1⟩
    have D1 := Lib.hid (bl_tr B0.out d1)
    have q1 := one_box w1 (.int .i64 K') (.int .i64 N) (.int .i64 C) (.slice wa wl.length wc) (.slice va vl.length vc) (.slice ca cl.length cc)
    have bq := bl_al (Below.refl w1.heap.size w1) (.cells #[.int .i64 K', .int .i64 N, .int .i64 C, .slice wa wl.length wc, .slice va vl.length vc, .slice ca cl.length cc] 32)
    have I1 := Lib.hid (i1.keep bq)
    have I2 := Lib.hid (i2.keep bq)
    have I3 := Lib.hid (i3.keep bq)
    have D2 := Lib.hid (D1.out.trans (bq.mono D1.out.size))
    have Q1 := Lib.hid q1
    clear i1 i2 i3 d1 q1 bq
    go_wp2_with fail
    with_reducible refine (J9.out _).mono ?_
    rintro e w2 ⟨wa2, va2, ca2, wc2, vc2, cc2, rfl, j1, j2, j3, d2⟩
    have q2 := (d2.block _ (lt_hp Q1.out)).trans Q1.out
    have bq := bl_al (Below.refl w2.heap.size w2) (.cells #[.int .i64 K', .int .i64 N, .int .i64 C, .slice wa2 wl.length wc2, .slice va2 vl.length vc2, .slice ca2 cl.length cc2] 32)
    have D3 := Lib.hid ((bl_tr D2.out d2).trans (bq.mono (bl_tr D2.out d2).size))
    have S1 := Lib.hid (SM.out wa va ca wa2 va2 ca2 wc vc cc wc2 vc2 cc2 _ ((I1.out.keep d2).keep bq) ((I2.out.keep d2).keep bq) ((I3.out.keep d2).keep bq) (j1.keep bq) (j2.keep bq) (j3.keep bq))
    obtain ⟨x0, x1, x2, x3, x4, x5⟩ := box6 q2
    have hlt := lt_hp q2
    clear j1 j2 j3 d2 q2 bq I1 I2 I3 D1 D2 Q1 SM
    go_wp2_with fail
    refine (gens_any _).mono ?_; rintro e w3 ⟨rfl, rfl⟩
    go_wp2_with fail
    with_reducible refine S1.out.mono ?_
    rintro e w4 ⟨rfl, d4⟩
    have D4 := Lib.hid (bl_tr D3.out d4)
    clear d4
    go_wp2
    go_ret
    exact ⟨rfl, D4.out⟩
  · rw [if_neg h7] at ht
    have h7b : (a % 7 == 0) = false := by simpa using h7
    subst ht
    clear h7
    go_enter Try.func4, Try.ntmps4
    go_wp2_with fail
    with_reducible refine (J8.out _).mono ?_
    rintro e w1 ⟨wa, va, ca, wc, vc, cc, rfl, i1, i2, i3, d1⟩
    have D1 := Lib.hid (bl_tr B0.out d1)
    have q1 := one_box w1 (.int .i64 K') (.int .i64 N) (.int .i64 C) (.slice wa wl.length wc) (.slice va vl.length vc) (.slice ca cl.length cc)
    have bq := bl_al (Below.refl w1.heap.size w1) (.cells #[.int .i64 K', .int .i64 N, .int .i64 C, .slice wa wl.length wc, .slice va vl.length vc, .slice ca cl.length cc] 32)
    have I1 := Lib.hid (i1.keep bq)
    have I2 := Lib.hid (i2.keep bq)
    have I3 := Lib.hid (i3.keep bq)
    have D2 := Lib.hid (D1.out.trans (bq.mono D1.out.size))
    have Q1 := Lib.hid q1
    clear i1 i2 i3 d1 q1 bq
    go_wp2_with fail
    with_reducible refine (J9.out _).mono ?_
    rintro e w2 ⟨wa2, va2, ca2, wc2, vc2, cc2, rfl, j1, j2, j3, d2⟩
    have q2 := (d2.block _ (lt_hp Q1.out)).trans Q1.out
    have bq := bl_al (Below.refl w2.heap.size w2) (.cells #[.int .i64 K', .int .i64 N, .int .i64 C, .slice wa2 wl.length wc2, .slice va2 vl.length vc2, .slice ca2 cl.length cc2] 32)
    have D3 := Lib.hid ((bl_tr D2.out d2).trans (bq.mono (bl_tr D2.out d2).size))
    have S1 := Lib.hid (SM.out wa va ca wa2 va2 ca2 wc vc cc wc2 vc2 cc2 _ ((I1.out.keep d2).keep bq) ((I2.out.keep d2).keep bq) ((I3.out.keep d2).keep bq) (j1.keep bq) (j2.keep bq) (j3.keep bq))
    obtain ⟨x0, x1, x2, x3, x4, x5⟩ := box6 q2
    have hlt := lt_hp q2
    clear j1 j2 j3 d2 q2 bq I1 I2 I3 D1 D2 Q1 SM
    go_wp2_with fail
    refine (gens_any _).mono ?_; rintro e w3 ⟨rfl, rfl⟩
    go_wp2_with fail
    with_reducible refine S1.out.mono ?_
    rintro e w4 ⟨rfl, d4⟩
    have D4 := Lib.hid (bl_tr D3.out d4)
    clear d4
    go_wp2
    go_ret
    exact ⟨rfl, D4.out⟩
end Go.Proofs.Ytnmolpogmkiikaa
