/-
  What New, none and fresh answer; counts() is true.
-/
import Derived.Test.YtoncmgkpfjkmgaaAct
namespace Go.Proofs.Ytoncmgkpfjkmgaa
open Go.RowKit Go.MuLone
set_option linter.unusedVariables false
theorem none_any (w : World) : Calls Try.prog 8 #[] w fun e w' => e = .returned (.pointer none) ∧ w = w' := by
  go_enter Try.func8, Try.ntmps8
  go_wp2
  go_ret
  exact ⟨rfl, rfl⟩
theorem new_nil (x y z : Int) (w : World) : Calls Try.prog 7 #[.pointer none, .int .i64 x, .int .i64 y, .int .i64 z] w fun e w' => e = .returned (.tuple #[.pointer none, .int .i64 1]) ∧ w = w' := by
  go_enter Try.func7, Try.ntmps7
  go_wp2
  go_ret2
  exact ⟨rfl, rfl⟩
set_option maxHeartbeats 2000000 in
theorem new_bad (g b : Nat) (l : List Int) (s k c o n : Int) (d : Bool) (x y z : Int) (hl : l.length ≤ 1000) (hbad : x < 0 ∨ (l.length : Int) - 2 < x ∨ y < 0 ∨ z < 1 ∨ 16 < z) (w : World) (h : MB 0 g b l s k c o n d w) :
    Calls Try.prog 7 #[.pointer (some ⟨g, 0, none⟩), .int .i64 x, .int .i64 y, .int .i64 z] w fun e w' => e = .returned (.tuple #[.pointer none, .int .i64 1]) ∧ w = w' := by
  have S := Lib.hid (size_any 0 g b l s k c o n d w h)
  clear h
  generalize l.length = m at *
  have hw : IntKind.i64.wrap ((m : Int) - 2) = (m : Int) - 2 := IntWalk.i64_in _ (by omega)
  by_cases h1 : x < 0
  · clear hbad
    go_enter Try.func7, Try.ntmps7
    go_wp2
    go_ret2
    exact ⟨rfl, rfl⟩
  have d1 : decide (x < 0) = false := decide_eq_false h1
  by_cases h2 : (m : Int) - 2 < x
  · clear hbad
    have d2 : decide ((m : Int) - 2 < x) = true := decide_eq_true h2
    go_enter Try.func7, Try.ntmps7
    go_wp2_with fail
    refine S.out.mono ?_; rintro e w1 ⟨rfl, rfl⟩
    go_wp2
    go_ret2
    exact ⟨rfl, rfl⟩
  have d2 : decide ((m : Int) - 2 < x) = false := decide_eq_false h2
  by_cases h3 : y < 0
  · clear hbad h2
    go_enter Try.func7, Try.ntmps7
    go_wp2_with fail
    refine S.out.mono ?_; rintro e w1 ⟨rfl, rfl⟩
    go_wp2
    go_ret2
    exact ⟨rfl, rfl⟩
  have d3 : decide (y < 0) = false := decide_eq_false h3
  by_cases h4 : z < 1
  · clear hbad h2
    go_enter Try.func7, Try.ntmps7
    go_wp2_with fail
    refine S.out.mono ?_; rintro e w1 ⟨rfl, rfl⟩
    go_wp2
    go_ret2
    exact ⟨rfl, rfl⟩
  have d4 : decide (z < 1) = false := decide_eq_false h4
  have h5 : 16 < z := by omega
  clear hbad h2
  go_enter Try.func7, Try.ntmps7
  go_wp2_with fail
  refine S.out.mono ?_; rintro e w1 ⟨rfl, rfl⟩
  go_wp2
  go_ret2
  exact ⟨rfl, rfl⟩
theorem setS (q g b base : Nat) (l : List Int) (s : Int) (i y : Int) (ix : Nat) (hi : i = ix) (hx : ix < l.length) (s0 : 0 ≤ s) (s1 : s ≤ 1000000) (w : World) (h : St q g b base l s w) :
    Calls Try.prog 22 #[.pointer (some ⟨g, 0, none⟩), .int .i64 i, .int .i64 y] w fun e w' => e = .returned (.int .i64 0) ∧ St q g b base (l.set ix y) (s + 1) w' ∧ Tw [g, b] w w' := by
  obtain ⟨k, c, o, n, d, hm⟩ := h.mem
  refine (set_ok g b l s k c o n d i (nth l ix) y ix hi hx rfl s0 s1 w hm).mono ?_
  intro e w1 hd
  exact h.did hd (by simp)
set_option maxHeartbeats 4000000 in
theorem new_good (g b base : Nat) (l : List Int) (s k c o n : Int) (d : Bool) (y z : Int) (hb : base + 1 < l.length) (hl : l.length ≤ 1000) (hy : 0 ≤ y) (hz : 1 ≤ z) (hz2 : z ≤ 16) (s0 : 0 ≤ s) (s1 : s ≤ 100000) (w : World) (h : MB 0 g b l s k c o n d w) :
    Calls Try.prog 7 #[.pointer (some ⟨g, 0, none⟩), .int .i64 base, .int .i64 y, .int .i64 z] w fun e w' => ∃ q, e = .returned (.tuple #[.pointer (some ⟨q, 0, none⟩), .int .i64 0]) ∧ w.heap.size ≤ q ∧ St q g b base ((l.set base y).set (base + 1) z) (s + 2) w' ∧ Tw [g, b] w w' := by
  have S := Lib.hid (size_any 0 g b l s k c o n d w h)
  have B1 := bl_al (Below.refl _ w) (.cells #[.pointer (some ⟨g, 0, none⟩), .int .i64 base] 60)
  have F1 : Hid (St w.heap.size g b base l s (w.alloc (.cells #[.pointer (some ⟨g, 0, none⟩), .int .i64 base] 60))) := ⟨heap_alloc_new _ _, hb, hl, k, c, o, n, d, h.keep B1⟩
  have F2 := Lib.hid (Tw.of (S := [g, b]) B1)
  have O := Lib.hid (fun l2 s2 W (hW : St w.heap.size g b base l2 s2 W) => open_any w.heap.size (.int .i64 0) base W hW.c1)
  have K := Lib.hid (fun l2 s2 W (hW : St w.heap.size g b base l2 s2 W) => working_any w.heap.size base (by omega) W hW.c1)
  have P := Lib.hid (fun W (hW : St w.heap.size g b base l s W) => setS w.heap.size g b base l s base y base rfl (by omega) s0 (by omega) W hW)
  have R := Lib.hid (fun W (hW : St w.heap.size g b base (l.set base y) (s + 1) W) => setS w.heap.size g b base (l.set base y) (s + 1) ((base : Int) + 1) z (base + 1) (by omega) (by simp; omega) (by omega) (by omega) W hW)
  rw [show s + 1 + 1 = s + 2 by omega] at R
  clear B1 h
  have HL := Lib.hid (show (base : Int) ≤ (l.length : Int) - 2 by omega)
  generalize (l.set base y).set (base + 1) z = l3 at *
  generalize l.set base y = l2 at *
  generalize l.length = m at *
  have hw : IntKind.i64.wrap ((m : Int) - 2) = (m : Int) - 2 := IntWalk.i64_in _ (by omega)
  have d1 : decide ((m : Int) - 2 < (base : Int)) = false := decide_eq_false (by have := HL.out; omega)
  have d0 : decide ((base : Int) < 0) = false := decide_eq_false (by omega)
  have d2 : decide (y < 0) = false := decide_eq_false (by omega)
  have d3 : decide (z < 1) = false := decide_eq_false (by omega)
  have d4 : decide (16 < z) = false := decide_eq_false (by omega)
  have HZ : Hid (w.heap.size ≤ w.heap.size) := Nat.le_refl _
  clear hb hl
  go_enter Try.func7, Try.ntmps7
  go_wp2_with fail
  refine S.out.mono ?_; rintro e w1 ⟨rfl, rfl⟩
  go_wp2_with fail
  generalize hq : w.heap.size = q at *
  have HQ := Lib.hid (show w.heap.size ≤ q by omega)
  clear hq
  refine (O.out l s _ F1.out).mono ?_; rintro e w1 ⟨rfl, rfl⟩
  go_wp2_with fail
  refine (P.out _ F1.out).mono ?_; rintro e w1 ⟨rfl, f1, f2⟩
  have F1 := Lib.hid f1
  have F2 := Lib.hid (F2.out.trans f2)
  clear f1 f2
  go_wp2_with fail
  refine (K.out l2 (s + 1) _ F1.out).mono ?_; rintro e w2 ⟨rfl, rfl⟩
  go_wp2_with fail
  refine (R.out _ F1.out).mono ?_; rintro e w2 ⟨rfl, f1, f2⟩
  have F1 := Lib.hid f1
  have F2 := Lib.hid (F2.out.trans f2)
  clear f1 f2 O P K R S
  go_wp2
  go_ret2
  exact ⟨q, rfl, HQ.out, F1.out, F2.out⟩
theorem n41 (y z : Int) : nth [0, y, z, 0] 1 = y := by rw [nth_at _ _ (by simp)]; rfl
theorem n42 (y z : Int) : nth [0, y, z, 0] 2 = z := by rw [nth_at _ _ (by simp)]; rfl
theorem sw_yes (y z : Int) : swl [0, y, z, 0] 1 z = [0, y, z - 1, 0] := by rw [swl_yes _ _ _ (n42 y z)]; rfl
theorem sw_no (y z a : Int) (h : z ≠ a) : swl [0, y, z, 0] 1 a = [0, y, z, 0] := swl_no _ _ _ (by rw [show 1 + 1 = 2 from rfl, n42]; exact h)
set_option maxHeartbeats 2000000 in
theorem fresh_any (y z : Int) (hy : 0 ≤ y) (hz : 1 ≤ z) (hz2 : z ≤ 16) (w : World) :
    Calls Try.prog 19 #[.int .i64 y, .int .i64 z] w fun e w' => ∃ q g b, e = .returned (.tuple #[.pointer (some ⟨q, 0, none⟩), .pointer (some ⟨g, 0, none⟩), .bool true]) ∧ w.heap.size ≤ q ∧ w.heap.size ≤ g ∧ w.heap.size ≤ b ∧ St q g b 1 [0, y, z, 0] 2 w' ∧ Below w.heap.size w w' := by
  have N := Lib.hid (new_ok 4 (by omega) w)
  have C := Lib.hid (fun g b W (hM : MB 0 g b (List.replicate 4 0) 0 0 0 0 0 false W) => new_good g b 1 (List.replicate 4 0) 0 0 0 0 0 false y z (by simp) (by simp) hy hz hz2 (by omega) (by omega) W hM)
  rw [show ((List.replicate 4 (0 : Int)).set 1 y).set (1 + 1) z = [0, y, z, 0] from rfl, show (0 : Int) + 2 = 2 from rfl] at C
  go_enter Try.func19, Try.ntmps19
  go_wp2_with fail
  refine N.out.mono ?_; rintro e w1 ⟨g, b, rfl, hg, hb, hm, hbl⟩
  have M := Lib.hid hm
  have B := Lib.hid hbl
  have G := Lib.hid hg
  have H := Lib.hid hb
  clear hm hbl hg hb N
  go_wp2_with fail
  refine (C.out g b _ M.out).mono ?_; rintro e w2 ⟨q, rfl, hq, f1, f2⟩
  have F1 := Lib.hid f1
  have F2 := Lib.hid (f2.below B.out (by intro i hi; simp at hi; have := G.out; have := H.out; omega) B.out.size)
  have Q := Lib.hid (Nat.le_trans B.out.size hq)
  clear hq f1 f2 C M B
  go_wp2
  go_ret3
  exact ⟨q, g, b, rfl, Q.out, G.out, H.out, F1.out, F2.out⟩
end Go.Proofs.Ytoncmgkpfjkmgaa
