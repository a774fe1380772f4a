/-
  What value.inForm answers of a problem and a list.
-/
import Derived.Test.YtfpffggeehmedaaSets2
import Derived.Deep.QuietTactic
import Derived.BigQuiet
import Derived.ChangeKeysEq
namespace Go.Proofs.Ytfpffggeehmedaa
open Go.RowKit
set_option linter.unusedVariables false

theorem clos_any (n : Int) (w : World) : Calls Try.prog 32 #[.int .i64 n] w fun e w' => e = .returned (.bool (decide (n ≠ 0) && decide (n ≠ 1))) ∧ w = w' := by
  by_cases h0 : n = 0
  · subst h0
    go_enter Try.func32, Try.ntmps32
    go_wp2
    go_ret
    exact ⟨rfl, rfl⟩
  · by_cases h1 : n = 1
    · subst h1
      go_enter Try.func32, Try.ntmps32
      go_wp2
      go_ret
      exact ⟨rfl, rfl⟩
    · have e0 : (n != 0) = true := by simp [h0]
      have e1 : (n != 1) = true := by simp [h1]
      go_enter Try.func32, Try.ntmps32
      go_wp2
      go_ret
      exact ⟨by simp [h0, h1], rfl⟩
def anyBad : List Int → Bool
  | [] => false
  | x :: xs => (decide (x ≠ 0) && decide (x ≠ 1)) || anyBad xs
theorem bad_at {l : List Int} {k : Nat} (h : k < l.length) : anyBad (l.drop k) = ((decide (l[k]?.getD 0 ≠ 0) && decide (l[k]?.getD 0 ≠ 1)) || anyBad (l.drop (k + 1))) := by
  rw [drop_get h]; rfl
theorem bad_end {l : List Int} {k : Nat} (h : l.length ≤ k) : anyBad (l.drop k) = false := by rw [List.drop_eq_nil_of_le h]; rfl
attribute [irreducible] anyBad
def Idx (l : List Int) (w : World) (e : Ending) (w' : World) : Prop := ∃ n : Int, e = .returned (.int .i64 n) ∧ w = w' ∧ (0 ≤ n ↔ anyBad l = true)
set_option maxHeartbeats 1000000 in
theorem index_any (l : List Int) (a : Option Addr) (c : Nat) (w : World) (hI : Ints w a l) (hl : l.length ≤ 1000) :
    Calls Try.prog 36 #[.slice a l.length c, .func (.func 32) #[] #[]] w (Idx l w) := by
  have HI := Lib.hid hI
  generalize hn : l.length = n at *
  have HN := Lib.hid hn
  clear hI hn
  go_enter Try.func36, Try.ntmps36
  go_wp2
  go_loop [8] (fun i => ∃ k : Nat, k ≤ n ∧ i = .int .i64 k ∧ Hid (anyBad l = anyBad (l.drop k))) (fun i => n - (intOf i).toNat)
  case atStart => exact ⟨0, by omega, rfl, rfl⟩
  case round =>
    obtain ⟨k, hk, rfl, HE⟩ := hrel
    by_cases hlt : k < n
    · obtain ⟨b, o, rfl, hbl, hc⟩ := HI.out k (by have := HN.out; omega)
      have hit := Lib.hid (bad_at (l := l) (k := k) (by have := HN.out; omega))
      generalize l[k]?.getD 0 = x at *
      have HC := Lib.hid (fun W => clos_any x W)
      generalize hbd : (decide (x ≠ 0) && decide (x ≠ 1)) = bd at *
      cases bd
      · have HF := Lib.hid (show anyBad l = anyBad (l.drop (k + 1)) from HE.out.trans (by rw [hit.out, Bool.false_or]))
        clear hbd
        go_wp2_with fail
        refine (HC.out _).mono ?_; rintro e w1 ⟨rfl, rfl⟩
        go_wp2
        go_round
        case rel => exact ⟨k + 1, by omega, by go_num, HF⟩
        case measure => simp [intOf]; omega
      · have HF := Lib.hid (show anyBad l = true from HE.out.trans (by rw [hit.out, Bool.true_or]))
        clear hbd
        go_wp2_with fail
        refine (HC.out _).mono ?_; rintro e w1 ⟨rfl, rfl⟩
        go_wp2
        go_ret
        exact ⟨k, rfl, rfl, ⟨fun _ => HF.out, fun _ => by omega⟩⟩
    · have HF := Lib.hid (show anyBad l = false from HE.out.trans (bad_end (by have := HN.out; omega)))
      go_wp2
      go_ret
      exact ⟨-1, rfl, rfl, ⟨fun h => by omega, fun h => by rw [HF.out] at h; cases h⟩⟩
theorem contains_any (l : List Int) (a : Option Addr) (c : Nat) (w : World) (hI : Ints w a l) (hl : l.length ≤ 1000) :
    Calls Try.prog 31 #[.slice a l.length c, .func (.func 32) #[] #[]] w fun e w' => e = .returned (.bool (anyBad l)) ∧ w = w' := by
  have H := Lib.hid (index_any l a c w hI hl)
  clear hI hl
  cases hb : anyBad l
  all_goals
    have HB := Lib.hid hb
    clear hb
    go_enter Try.func31, Try.ntmps31
    go_wp2_with fail
    refine H.out.mono ?_; rintro e w1 ⟨n, rfl, rfl, hn⟩
    first
      | (have h1 : 0 ≤ n := hn.2 HB.out
         clear hn
         go_wp2
         go_ret
         exact ⟨rfl, rfl⟩)
      | (have h1 : ¬ 0 ≤ n := fun h => by have := hn.1 h; rw [HB.out] at this; cases this
         clear hn
         go_wp2
         go_ret
         exact ⟨by simp; omega, rfl⟩)
/-- may a list answer a problem, whatever its items weigh? -/
def okx (K N : Int) (x : List Int) : Prop := (x.length : Int) = N ∧ ((K = 1 ∧ anyBad x = false) ∨ (K ≠ 1 ∧ (K = 3 → x[0]?.getD 0 = 0) ∧ permP x N.toNat))
theorem set_eq (a b : Nat) : ((Value.agg #[.int .u64 (lo a), .int .u64 (hi a)]) = (Value.agg #[.int .u64 (lo b), .int .u64 (hi b)])) ↔ a = b := by
  constructor
  · intro h
    simp at h
    exact lo_hi a b (by omega) (by omega)
  · rintro rfl; rfl
set_option maxHeartbeats 1000000 in
theorem form_item (C : Int) (n : Nat) (wa va ca : Option Addr) (wn vn cn wc vc cc : Nat) (x : List Int) (a : Option Addr) (c : Nat) (w : World) (hI : Ints w a x) (hl : x.length ≤ 1000) :
    Calls Try.prog 20 #[.agg #[.int .i64 1, .int .i64 x.length, .int .i64 C, .slice wa wn wc, .slice va vn vc, .slice ca cn cc], .slice a x.length c] w
      fun e w' => e = .returned (.bool (!anyBad x)) ∧ Below w.heap.size w w' := by
  have bA : Below w.heap.size w (w.alloc (.cells #[.int .i64 1, .int .i64 x.length, .int .i64 C, .slice wa wn wc, .slice va vn vc, .slice ca cn cc] 25)) := bl_al (Below.refl _ _) _
  have H := Lib.hid (contains_any x a c _ (hI.keep bA) hl)
  have BA := Lib.hid bA
  clear hI hl bA
  generalize x.length = m at *
  generalize anyBad x = b at *
  go_enter Try.func20, Try.ntmps20
  go_wp2_with fail
  refine H.out.mono ?_; rintro e w1 ⟨rfl, rfl⟩
  go_wp2
  go_ret
  exact ⟨rfl, BA.out⟩
theorem form_len (K N C : Int) (wa va ca : Option Addr) (wn vn cn wc vc cc : Nat) (m : Nat) (hm : ¬ (m : Int) = N) (a : Option Addr) (c : Nat) (w : World) :
    Calls Try.prog 20 #[.agg #[.int .i64 K, .int .i64 N, .int .i64 C, .slice wa wn wc, .slice va vn vc, .slice ca cn cc], .slice a m c] w
      fun e w' => e = .returned (.bool false) ∧ Below w.heap.size w w' := by
  go_enter Try.func20, Try.ntmps20
  go_wp2
  go_ret
  exact ⟨rfl, bl_al (Below.refl _ _) _⟩
theorem form_home (C : Int) (wa va ca : Option Addr) (wn vn cn wc vc cc : Nat) (x : List Int) (h0 : 0 < x.length) (hx : ¬ x[0]?.getD 0 = 0) (a : Option Addr) (c : Nat) (w : World) (hI : Ints w a x) :
    Calls Try.prog 20 #[.agg #[.int .i64 3, .int .i64 x.length, .int .i64 C, .slice wa wn wc, .slice va vn vc, .slice ca cn cc], .slice a x.length c] w
      fun e w' => e = .returned (.bool false) ∧ Below w.heap.size w w' := by
  obtain ⟨b, o, rfl, hb, hc⟩ := hI 0 h0
  rw [Nat.add_zero] at hc
  have h0' : ((x.length : Int)) > 0 := by omega
  generalize x[0]?.getD 0 = y at *
  generalize x.length = m at *
  clear hI
  go_enter Try.func20, Try.ntmps20
  go_wp2
  go_ret
  exact ⟨rfl, bl_al (Below.refl _ _) _⟩
theorem eq_two (a0 a1 b0 b1 : Int) (w : World) :
    (Op.equalIn 10000 47 (.agg #[.int .u64 a0, .int .u64 a1]) (.agg #[.int .u64 b0, .int .u64 b1])).run Try.prog w = .ok ((a0 == b0) && (a1 == b1)) w := by
  have h3 : ∀ (a b : Int) (w : World), (Op.equalIn 9999 45 (.int .u64 a) (.int .u64 b)).run Try.prog w = .ok (a == b) w := fun a b w => run_equalIn_int w 9998 45 .u64 .u64 a b Try.underlying45
  rw [run_equalIn_array w 9999 (n := 2) (e := 45) (i := (Try.prog.info? 45).get (by kernel_rfl)) _ _ Try.underlying47 (by kernel_rfl)]
  have hc : Try.prog.cellsOf 45 = 1 := by kernel_rfl
  rw [hc]
  simp [List.range_succ, Op.eqItems, part, go_sem, h3]
  by_cases e0 : a0 = b0
  rotate_left
  · simp [e0]
  rw [if_pos e0]
  by_cases e1 : a1 = b1
  · simp [e0, e1]
  · simp [e0, e1]
end Go.Proofs.Ytfpffggeehmedaa
