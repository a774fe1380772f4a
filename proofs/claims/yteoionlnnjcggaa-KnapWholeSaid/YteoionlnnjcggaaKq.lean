/-
  knap: Kids, of no kernel and of one; Part of small numbers.
-/
import Derived.Test.YteoionlnnjcggaaKl
import Derived.Test.YteoionlnnjcggaaArShelf
import Derived.Laws.Bits64b
namespace Go.Proofs.Yteoionlnnjcggaa.kn
open Go.RowKit
set_option linter.unusedVariables false
theorem kids_none (v : Value) (w : World) : Calls Try.prog 11 #[.pointer none, v] w fun e w' => e = .returned (.tuple #[.slice none 0 0, .int .i64 1]) ∧ w = w' := by
  have D := Lib.hid (left_none v w)
  go_enter Try.func11, Try.ntmps11
  go_wp2_with fail
  refine D.out.mono ?_; rintro e w1 ⟨rfl, rfl⟩
  go_wp2
  go_ret2
  exact ⟨rfl, rfl⟩
theorem bound_none (v : Value) (w : World) : Calls Try.prog 12 #[.pointer none, v] w fun e w' => e = .returned (.tuple #[.int .i64 0, .int .i64 1]) ∧ w = w' := by
  have D := Lib.hid (left_none v w)
  go_enter Try.func12, Try.ntmps12
  go_wp2_with fail
  refine D.out.mono ?_; rintro e w1 ⟨rfl, rfl⟩
  go_wp2
  go_ret2
  exact ⟨rfl, rfl⟩
theorem answer_none (v : Value) (w : World) : Calls Try.prog 13 #[.pointer none, v] w fun e w' => e = .returned (.tuple #[.slice none 0 0, .int .i64 1]) ∧ w = w' := by
  have D := Lib.hid (left_none v w)
  go_enter Try.func13, Try.ntmps13
  go_wp2_with fail
  refine D.out.mono ?_; rintro e w1 ⟨rfl, rfl⟩
  go_wp2
  go_ret2
  exact ⟨rfl, rfl⟩
/-- what may follow: the list and the error -/
structure KdV (C : Int) (T Wl pl l : List Int) (er : Int) : Prop where
  no : ¬ LeftOk C Wl pl → l = [] ∧ er = 1
  whole : LeftOk C Wl pl → pl.length = T.length → l = [] ∧ er = 0
  big : LeftOk C Wl pl → pl.length ≠ T.length → rm C Wl pl pl.length < nt Wl pl.length → l = [0] ∧ er = 0
  fit : LeftOk C Wl pl → pl.length ≠ T.length → nt Wl pl.length ≤ rm C Wl pl pl.length → l = [1, 0] ∧ er = 0
/-- a list that is handed back -/
def RetL (w : World) (e : Ending) (w' : World) (l : List Int) (er : Int) : Prop := ∃ v, e = .returned (.tuple #[v, .int .i64 er]) ∧ Ol w.heap.size v l w' ∧ Below w.heap.size w w'
def KdP (C : Int) (T Wl pl : List Int) (w : World) (e : Ending) (w' : World) : Prop := ∃ l er, KdV C T Wl pl l er ∧ RetL w e w' l er
/-- Part of small numbers -/
theorem div_small (lo y : Nat) (h1 : 0 < y) (h2 : y < 9223372036854775808) (h3 : lo < 18446744073709551616) (w : World) :
    Calls Try.prog 55 #[.int .u64 0, .int .u64 lo, .int .u64 y] w fun e w' => (∃ r : Int, e = .returned (.tuple #[.int .u64 ((lo / y : Nat) : Int), .int .u64 r])) ∧ Below w.heap.size w w' := by
  have hy0 : ((y : Int) == 0) = false := by simp; omega
  have hq : (lo : Int) / (y : Int) = ((lo / y : Nat) : Int) := (Int.natCast_ediv lo y).symm
  have hq2 : lo / y < 18446744073709551616 := Nat.lt_of_le_of_lt (Nat.div_le_self lo y) h3
  generalize lo / y = q at *
  go_enter Try.func55, Try.ntmps55
  go_wp2
  go_region
  all_goals
    go_wp2
    go_ret2
    exact ⟨⟨_, rfl⟩, Below.drew (Below.refl _ _)⟩
theorem part_small (a b c : Nat) (ha : a ≤ 2147483647) (hb : b ≤ 2147483647) (hc : c ≤ 2147483647) (hc0 : 0 < c) (w : World) :
    Calls Try.prog 44 #[.int .i64 a, .int .i64 b, .int .i64 c] w fun e w' => e = .returned (.tuple #[.int .i64 ((a * b / c : Nat) : Int), .bool true]) ∧ Below w.heap.size w w' := by
  have hab : a * b ≤ 2147483647 * 2147483647 := Nat.mul_le_mul ha hb
  have HM := Lib.hid (fun W => Try.bits_Mul64 a b (by omega) (by omega) W)
  have HD := Lib.hid (fun W => div_small (a * b) c hc0 (by omega) (by omega) W)
  have e1 : a * b / 18446744073709551616 = 0 := by omega
  have e2 : a * b % 18446744073709551616 = a * b := by omega
  rw [e1, e2] at HM
  have hq : a * b / c ≤ 2147483647 * 2147483647 := Nat.le_trans (Nat.div_le_self _ _) hab
  clear e1 e2
  generalize a * b / c = q at *
  generalize a * b = N at *
  have hq2 : q < 9223372036854775808 := by omega
  clear hab hq
  go_enter Try.func44, Try.ntmps44
  go_wp2_with fail
  refine (HM.out _).mono ?_; rintro e w1 ⟨rfl, rfl⟩
  go_wp2_with fail
  refine (HD.out _).mono ?_; rintro e w2 ⟨⟨r, rfl⟩, hb1⟩
  go_wp2
  go_ret2
  exact ⟨rfl, hb1⟩
theorem ol_one (w : World) (a : Int) : Ol w.heap.size (.slice (some ⟨w.heap.size, 0, none⟩) 1 1) [a] (w.alloc (.cells #[.int .i64 a] 3)) := World.ownsRow_lit w #[.int .i64 a] 1 (Nat.le_refl _) (by decide) rfl
theorem ol_two (w : World) (a b : Int) : Ol w.heap.size (.slice (some ⟨w.heap.size, 0, none⟩) 2 2) [a, b] (w.alloc (.cells #[.int .i64 a, .int .i64 b] 3)) := World.ownsRow_lit w #[.int .i64 a, .int .i64 b] 2 (Nat.le_refl _) (by decide) rfl
theorem ret_nil (w : World) (er : Int) {w' : World} (hb : Below w.heap.size w w') : RetL w (.returned (.tuple #[.slice none 0 0, .int .i64 er])) w' [] er := ⟨_, rfl, ol_nil _ _, hb⟩
set_option maxHeartbeats 4000000 in
theorem kids_any {p : Nat} {C : Int} {T Wl Vl pl : List Int} {v : Value} {w : World} (ok : KnOk C T Wl Vl) (h : Kn p C T Wl Vl w) (hp : Ls v pl w) (hl : pl.length ≤ 1000) :
    Calls Try.prog 11 #[.pointer (some ⟨p, 0, none⟩), v] w (KdP C T Wl pl w) := by
  have D := Lib.hid (depth_any h)
  have LF := Lib.hid (left_any ok h hp hl)
  obtain ⟨pa, pc, rfl⟩ := hp.form
  obtain ⟨ia, ic, wa, wc, va, vc, c0, c1, c2, c3, li, lw, lv⟩ := h.cells
  have LW := Lib.hid lw
  have OK := Lib.hid ok
  clear h hp li lw lv ok
  by_cases hk : LeftOk C Wl pl
  · have LF2 := Lib.hid (show Calls Try.prog 30 #[.pointer (some ⟨p, 0, none⟩), .slice pa pl.length pc] w fun e w' => e = .returned (.tuple #[.int .i64 (rm C Wl pl pl.length), .int .i64 0]) ∧ w = w' from LF.out.mono fun e w' q => ⟨q.2.1 hk, q.1⟩)
    have HK := Lib.hid hk
    clear LF hk
    by_cases hn : pl.length = T.length
    · have U := Lib.hid (show KdP C T Wl pl w (.returned (.tuple #[.slice none 0 0, .int .i64 0])) w from ⟨[], 0, ⟨fun g => absurd HK.out g, fun _ _ => ⟨rfl, rfl⟩, fun _ g => absurd hn g, fun _ g => absurd hn g⟩, ret_nil w 0 (Below.refl _ _)⟩)
      have b1 : ((pl.length : Int) == (T.length : Int)) = true := by simp [hn]
      clear hn
      go_enter Try.func11, Try.ntmps11
      go_wp2_with fail
      refine LF2.out.mono ?_; rintro e w1 ⟨rfl, rfl⟩
      go_wp2_with fail
      refine D.out.mono ?_; rintro e w1 ⟨rfl, rfl⟩
      go_wp2
      go_ret2
      exact U.out
    · have b1 : ((pl.length : Int) == (T.length : Int)) = false := beq_eq_false_iff_ne.mpr (by omega)
      have le := HK.out.le
      have lw := OK.out.lw
      have hlt : pl.length < Wl.length := by omega
      obtain ⟨g, o, rfl, m1⟩ := LW.out.at_ pl.length hlt
      have i1 : (pl.length : Int) < (Wl.length : Int) := by omega
      have HN := Lib.hid hn
      clear hn hlt le lw
      by_cases hb : rm C Wl pl pl.length < nt Wl pl.length
      · have U := Lib.hid (show KdP C T Wl pl w (.returned (.tuple #[.slice (some ⟨w.heap.size, 0, none⟩) 1 1, .int .i64 0])) (w.alloc (.cells #[.int .i64 0] 3)) from ⟨[0], 0, ⟨fun g => absurd HK.out g, fun _ g => absurd g HN.out, fun _ _ _ => ⟨rfl, rfl⟩, fun _ _ g => by omega⟩, _, rfl, ol_one w 0, bl_al (Below.refl _ _) _⟩)
        generalize rm C Wl pl pl.length = R at *
        generalize nt Wl pl.length = y at *
        go_enter Try.func11, Try.ntmps11
        go_wp2_with fail
        refine LF2.out.mono ?_; rintro e w1 ⟨rfl, rfl⟩
        go_wp2_with fail
        refine D.out.mono ?_; rintro e w1 ⟨rfl, rfl⟩
        go_wp2
        go_ret2
        exact U.out
      · have U := Lib.hid (show KdP C T Wl pl w (.returned (.tuple #[.slice (some ⟨w.heap.size, 0, none⟩) 2 2, .int .i64 0])) (w.alloc (.cells #[.int .i64 1, .int .i64 0] 3)) from ⟨[1, 0], 0, ⟨fun g => absurd HK.out g, fun _ g => absurd g HN.out, fun _ _ g => by omega, fun _ _ _ => ⟨rfl, rfl⟩⟩, _, rfl, ol_two w 1 0, bl_al (Below.refl _ _) _⟩)
        generalize rm C Wl pl pl.length = R at *
        generalize nt Wl pl.length = y at *
        go_enter Try.func11, Try.ntmps11
        go_wp2_with fail
        refine LF2.out.mono ?_; rintro e w1 ⟨rfl, rfl⟩
        go_wp2_with fail
        refine D.out.mono ?_; rintro e w1 ⟨rfl, rfl⟩
        go_wp2
        go_ret2
        exact U.out
  · have LF2 := Lib.hid (show Calls Try.prog 30 #[.pointer (some ⟨p, 0, none⟩), .slice pa pl.length pc] w fun e w' => e = .returned (.tuple #[.int .i64 0, .int .i64 1]) ∧ w = w' from LF.out.mono fun e w' q => ⟨q.2.2 hk, q.1⟩)
    have U := Lib.hid (show KdP C T Wl pl w (.returned (.tuple #[.slice none 0 0, .int .i64 1])) w from ⟨[], 1, ⟨fun _ => ⟨rfl, rfl⟩, fun g => absurd g hk, fun g => absurd g hk, fun g => absurd g hk⟩, ret_nil w 1 (Below.refl _ _)⟩)
    clear LF hk
    go_enter Try.func11, Try.ntmps11
    go_wp2_with fail
    refine LF2.out.mono ?_; rintro e w1 ⟨rfl, rfl⟩
    go_wp2
    go_ret2
    exact U.out
end Go.Proofs.Yteoionlnnjcggaa.kn
