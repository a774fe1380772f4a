/-
  ParseLimits, the walk.
-/
import Derived.Test.YtjojdpohifdghaaLimM
namespace Go.Proofs.Ytjojdpohifdghaa
open Go.RowKit
set_option linter.unusedVariables false
theorem md (x : Int) (m : Nat) (hm : 0 < m) : ∃ a : Nat, a < m ∧ (IntKind.u64.wrap x).tmod m = a := by
  rw [IntKind.wrap_u64]
  have h : 0 ≤ x % 18446744073709551616 := Int.emod_nonneg x (by decide)
  obtain ⟨y, hy⟩ : ∃ y : Nat, x % 18446744073709551616 = y := ⟨_, (Int.toNat_of_nonneg h).symm⟩
  rw [hy]; exact ⟨y % m, Nat.mod_lt _ hm, (Int.ofNat_tmod y m).symm⟩
theorem dzf_len : ∀ b u, (dzf b u).length ≤ b
  | 0, u => by simp [dzf]
  | b + 1, u => by
    simp only [dzf]
    split
    · simp
    · have := dzf_len b (u / 10); simp; omega
theorem decF_size (u : Nat) : (decF u).size ≤ 10 := by
  unfold decF
  split
  · decide
  · show (dzf 10 u).toArray.size ≤ 10
    have := dzf_len 10 u
    simpa using this
/-- a Parse that answers place, error and room -/
def AnP (p e z : Int) (w : World) (r : Ending) (w' : World) : Prop := ∃ (x y : Int) (d1 d2 d3 : Option Addr) (l1 l2 l3 c1 c2 c3 : Nat), r = .returned (.tuple #[.agg #[.int .i64 x, .int .i64 y, .int .i64 z, .slice d1 l1 c1, .slice d2 l2 c2, .slice d3 l3 c3], .int .i64 p, .int .i64 e]) ∧ Below w.heap.size w w'
theorem anp (s : ByteArray) (w : World) : Calls Try.prog 7 #[.string s] w (AnP (tstP (PXX s)).1 (tstP (PXX s)).2.1 (tstP (PXX s)).2.2 w) := (parse_any s w).mono fun e w' h => pap_any h
set_option maxRecDepth 100000 in
set_option maxHeartbeats 8000000 in
theorem lim_walk1 (n number kind : Int) (w : World) (hk : (IntKind.u64.wrap kind).tmod 3 = 0) (a b : Nat) (ha : a < 5) (hb : b < 5) (hn : (IntKind.u64.wrap n).tmod 5 = a) (hm : (IntKind.u64.wrap number).tmod 5 = b) :
    Calls Try.prog 5 #[.int .i64 n, .int .i64 number, .int .i64 kind] w fun e w' => e = .returned (.bool true) ∧ Below w.heap.size w w' := by
  have HPs := Lib.hid (fun W => parses_any W)
  obtain ⟨D, hD⟩ : ∃ D, D = decF (62 + a) := ⟨_, rfl⟩
  obtain ⟨D2, hD2⟩ : ∃ D2, D2 = decF (2147483645 + b) := ⟨_, rfl⟩
  have W1 : Hid (∀ W, Calls Try.prog 12 #[.int .i64 (62 + (a : Int))] W fun e w' => e = .returned (.string D) ∧ Below W.heap.size W w') := fun W => by
    have := refwrite_nat (62 + a) (by omega) W
    rw [dec_f (by omega), ← hD] at this
    rw [show (62 : Int) + (a : Int) = ((62 + a : Nat) : Int) from by omega]
    exact this
  have W2 : Hid (∀ W, Calls Try.prog 12 #[.int .i64 (2147483645 + (b : Int))] W fun e w' => e = .returned (.string D2) ∧ Below W.heap.size W w') := fun W => by
    have := refwrite_nat (2147483645 + b) (by omega) W
    rw [dec_f (by omega), ← hD2] at this
    rw [show (2147483645 : Int) + (b : Int) = ((2147483645 + b : Nat) : Int) from by omega]
    exact this
  have s1 := decF_size (62 + a)
  have s2 := decF_size (2147483645 + b)
  rw [← hD] at s1
  rw [← hD2] at s2
  obtain ⟨p1, q1⟩ := lim1 ⟨a, ha⟩
  obtain ⟨p2, q2, q3⟩ := lim4 ⟨b, hb⟩
  simp only at p1 q1 p2 q2 q3
  rw [← hD] at p1 q1
  rw [← hD2] at p2 q2 q3
  have A1 := Lib.hid (fun W => anp (wd1 ++ D) W)
  have A2 := Lib.hid (fun W => anp (pre1 ++ D2 ++ suf1) W)
  generalize (tstP (PXX (wd1 ++ D))).1 = t1 at *
  generalize (tstP (PXX (wd1 ++ D))).2.1 = t2 at *
  generalize (tstP (PXX (wd1 ++ D))).2.2 = t3 at *
  generalize (tstP (PXX (pre1 ++ D2 ++ suf1))).1 = r1 at *
  generalize (tstP (PXX (pre1 ++ D2 ++ suf1))).2.1 = r2 at *
  generalize (tstP (PXX (pre1 ++ D2 ++ suf1))).2.2 = r3 at *
  unfold wd1 at A1
  unfold pre1 suf1 at A2
  clear hD hD2
  have z1 : ¬ 9223372036854775807 < 9 + D.size := by omega
  have z2 : ¬ 9223372036854775807 < 11 + D2.size := by omega
  have z3 : ¬ 9223372036854775807 < 11 + D2.size + 4 := by omega
  have HD : Hid (D.size ≤ 10 ∧ D2.size ≤ 10) := ⟨s1, s2⟩
  clear s1 s2
  have o0 : IntKind.i64.wrap (a : Int) = (a : Int) := IntWalk.i64_in _ (by omega)
  have o1 : IntKind.i64.wrap (62 + (a : Int)) = 62 + (a : Int) := IntWalk.i64_in _ (by omega)
  have o2 : IntKind.i64.wrap (b : Int) = (b : Int) := IntWalk.i64_in _ (by omega)
  have o3 : IntKind.i64.wrap (2147483645 + (b : Int)) = 2147483645 + (b : Int) := IntWalk.i64_in _ (by omega)
  by_cases ha2 : a ≤ 2
  · rw [if_pos ha2] at p1
    subst p1
    have g1 : (62 : Int) + (a : Int) ≤ 64 := by omega
    have g1' : ¬ (64 : Int) < 62 + (a : Int) := by omega
    clear q1
    by_cases hb2 : b ≤ 2
    · rw [if_pos hb2] at p2
      subst p2
      obtain rfl : r3 = 2147483645 + (b : Int) := by rcases q3 with h | h; exact absurd hb2 h; exact h
      have g2 : ¬ (2147483647 : Int) < 2147483645 + (b : Int) := by omega
      clear q2 q3
      go_enter Try.func5, Try.ntmps5
      go_wp2_with fail
      with_reducible refine (W1.out _).mono ?_
      rintro e w1 ⟨rfl, hB1⟩
      have B1 : Hid (Below w.heap.size w w1) := bl_tr (bl_al (Below.refl _ _) _) hB1
      clear hB1 W1
      go_wp2_with fail
      with_reducible refine (A1.out _).mono ?_
      rintro e w2 ⟨x, y, d1, d2, d3, l1, l2, l3, c1, c2, c3, rfl, hB2⟩
      have B2 : Hid (Below w.heap.size w (w2.alloc (.cells #[.int .i64 x, .int .i64 y, .int .i64 t3, .slice d1 l1 c1, .slice d2 l2 c2, .slice d3 l3 c3] 26))) := bl_al (bl_tr B1.out hB2) _
      clear hB2 B1 A1 z1
      go_wp2_with fail
      with_reducible refine (W2.out _).mono ?_
      rintro e w3 ⟨rfl, hB3⟩
      have B3 := Lib.hid (bl_tr B2.out hB3)
      clear hB3 B2 W2
      go_wp2_with fail
      with_reducible refine (A2.out _).mono ?_
      rintro e w4 ⟨x', y', d1', d2', d3', l1', l2', l3', c1', c2', c3', rfl, hB4⟩
      have hq := heap_alloc_new w4 (.cells #[.int .i64 x', .int .i64 y', .int .i64 (2147483645 + (b : Int)), .slice d1' l1' c1', .slice d2' l2' c2', .slice d3' l3' c3'] 26)
      have B4 : Hid (Below w.heap.size w (w4.alloc (.cells #[.int .i64 x', .int .i64 y', .int .i64 (2147483645 + (b : Int)), .slice d1' l1' c1', .slice d2' l2' c2', .slice d3' l3' c3'] 26))) := bl_al (bl_tr B3.out hB4) _
      have Q4 : Hid (∀ W, Below (w4.alloc (.cells #[.int .i64 x', .int .i64 y', .int .i64 (2147483645 + (b : Int)), .slice d1' l1' c1', .slice d2' l2' c2', .slice d3' l3' c3'] 26)).heap.size (w4.alloc (.cells #[.int .i64 x', .int .i64 y', .int .i64 (2147483645 + (b : Int)), .slice d1' l1' c1', .slice d2' l2' c2', .slice d3' l3' c3'] 26)) W → W.cell? ⟨w4.heap.size, 2, none⟩ = some (.int .i64 (2147483645 + (b : Int)))) := fun W hW => cell_of_row _ _ 2 _ _ _ ((hW.block _ (by simp)).trans hq)
      clear hB4 B3 A2 z2 z3 hq
      go_wp2_with fail
      refine (HPs.out _).mono ?_
      rintro e w5 ⟨rfl, hB5⟩
      have k2 := Q4.out w5 hB5
      have B5 := Lib.hid (bl_tr B4.out hB5)
      clear hB5 B4 HPs Q4
      go_wp2
      go_ret
      exact ⟨rfl, B5.out⟩
    · rw [if_neg hb2] at p2
      subst p2
      obtain rfl : r1 = 11 := by rcases q2 with h | h; exact absurd h hb2; exact h
      have g2 : (2147483647 : Int) < 2147483645 + (b : Int) := by omega
      clear q3
      go_enter Try.func5, Try.ntmps5
      go_wp2_with fail
      with_reducible refine (W1.out _).mono ?_
      rintro e w1 ⟨rfl, hB1⟩
      have B1 : Hid (Below w.heap.size w w1) := bl_tr (bl_al (Below.refl _ _) _) hB1
      clear hB1 W1
      go_wp2_with fail
      with_reducible refine (A1.out _).mono ?_
      rintro e w2 ⟨x, y, d1, d2, d3, l1, l2, l3, c1, c2, c3, rfl, hB2⟩
      have B2 : Hid (Below w.heap.size w (w2.alloc (.cells #[.int .i64 x, .int .i64 y, .int .i64 t3, .slice d1 l1 c1, .slice d2 l2 c2, .slice d3 l3 c3] 26))) := bl_al (bl_tr B1.out hB2) _
      clear hB2 B1 A1 z1
      go_wp2_with fail
      with_reducible refine (W2.out _).mono ?_
      rintro e w3 ⟨rfl, hB3⟩
      have B3 := Lib.hid (bl_tr B2.out hB3)
      clear hB3 B2 W2
      go_wp2_with fail
      with_reducible refine (A2.out _).mono ?_
      rintro e w4 ⟨x', y', d1', d2', d3', l1', l2', l3', c1', c2', c3', rfl, hB4⟩
      have hq := heap_alloc_new w4 (.cells #[.int .i64 x', .int .i64 y', .int .i64 r3, .slice d1' l1' c1', .slice d2' l2' c2', .slice d3' l3' c3'] 26)
      have B4 : Hid (Below w.heap.size w (w4.alloc (.cells #[.int .i64 x', .int .i64 y', .int .i64 r3, .slice d1' l1' c1', .slice d2' l2' c2', .slice d3' l3' c3'] 26))) := bl_al (bl_tr B3.out hB4) _
      have Q4 : Hid (∀ W, Below (w4.alloc (.cells #[.int .i64 x', .int .i64 y', .int .i64 r3, .slice d1' l1' c1', .slice d2' l2' c2', .slice d3' l3' c3'] 26)).heap.size (w4.alloc (.cells #[.int .i64 x', .int .i64 y', .int .i64 r3, .slice d1' l1' c1', .slice d2' l2' c2', .slice d3' l3' c3'] 26)) W → W.cell? ⟨w4.heap.size, 2, none⟩ = some (.int .i64 r3)) := fun W hW => cell_of_row _ _ 2 _ _ _ ((hW.block _ (by simp)).trans hq)
      clear hB4 B3 A2 z2 z3 hq
      go_wp2_with fail
      refine (HPs.out _).mono ?_
      rintro e w5 ⟨rfl, hB5⟩
      have k2 := Q4.out w5 hB5
      have B5 := Lib.hid (bl_tr B4.out hB5)
      clear hB5 B4 HPs Q4
      go_wp2
      go_ret
      exact ⟨rfl, B5.out⟩
  · rw [if_neg ha2] at p1
    subst p1
    obtain rfl : t1 = 9 := by rcases q1 with h | h; exact absurd h ha2; exact h
    have g1 : (64 : Int) < 62 + (a : Int) := by omega
    have g1' : ¬ (62 : Int) + (a : Int) ≤ 64 := by omega
    by_cases hb2 : b ≤ 2
    · rw [if_pos hb2] at p2
      subst p2
      obtain rfl : r3 = 2147483645 + (b : Int) := by rcases q3 with h | h; exact absurd hb2 h; exact h
      have g2 : ¬ (2147483647 : Int) < 2147483645 + (b : Int) := by omega
      clear q2 q3
      go_enter Try.func5, Try.ntmps5
      go_wp2_with fail
      with_reducible refine (W1.out _).mono ?_
      rintro e w1 ⟨rfl, hB1⟩
      have B1 : Hid (Below w.heap.size w w1) := bl_tr (bl_al (Below.refl _ _) _) hB1
      clear hB1 W1
      go_wp2_with fail
      with_reducible refine (A1.out _).mono ?_
      rintro e w2 ⟨x, y, d1, d2, d3, l1, l2, l3, c1, c2, c3, rfl, hB2⟩
      have B2 : Hid (Below w.heap.size w (w2.alloc (.cells #[.int .i64 x, .int .i64 y, .int .i64 t3, .slice d1 l1 c1, .slice d2 l2 c2, .slice d3 l3 c3] 26))) := bl_al (bl_tr B1.out hB2) _
      clear hB2 B1 A1 z1
      go_wp2_with fail
      with_reducible refine (W2.out _).mono ?_
      rintro e w3 ⟨rfl, hB3⟩
      have B3 := Lib.hid (bl_tr B2.out hB3)
      clear hB3 B2 W2
      go_wp2_with fail
      with_reducible refine (A2.out _).mono ?_
      rintro e w4 ⟨x', y', d1', d2', d3', l1', l2', l3', c1', c2', c3', rfl, hB4⟩
      have hq := heap_alloc_new w4 (.cells #[.int .i64 x', .int .i64 y', .int .i64 (2147483645 + (b : Int)), .slice d1' l1' c1', .slice d2' l2' c2', .slice d3' l3' c3'] 26)
      have B4 : Hid (Below w.heap.size w (w4.alloc (.cells #[.int .i64 x', .int .i64 y', .int .i64 (2147483645 + (b : Int)), .slice d1' l1' c1', .slice d2' l2' c2', .slice d3' l3' c3'] 26))) := bl_al (bl_tr B3.out hB4) _
      have Q4 : Hid (∀ W, Below (w4.alloc (.cells #[.int .i64 x', .int .i64 y', .int .i64 (2147483645 + (b : Int)), .slice d1' l1' c1', .slice d2' l2' c2', .slice d3' l3' c3'] 26)).heap.size (w4.alloc (.cells #[.int .i64 x', .int .i64 y', .int .i64 (2147483645 + (b : Int)), .slice d1' l1' c1', .slice d2' l2' c2', .slice d3' l3' c3'] 26)) W → W.cell? ⟨w4.heap.size, 2, none⟩ = some (.int .i64 (2147483645 + (b : Int)))) := fun W hW => cell_of_row _ _ 2 _ _ _ ((hW.block _ (by simp)).trans hq)
      clear hB4 B3 A2 z2 z3 hq
      go_wp2_with fail
      refine (HPs.out _).mono ?_
      rintro e w5 ⟨rfl, hB5⟩
      have k2 := Q4.out w5 hB5
      have B5 := Lib.hid (bl_tr B4.out hB5)
      clear hB5 B4 HPs Q4
      go_wp2
      go_ret
      exact ⟨rfl, B5.out⟩
    · rw [if_neg hb2] at p2
      subst p2
      obtain rfl : r1 = 11 := by rcases q2 with h | h; exact absurd h hb2; exact h
      have g2 : (2147483647 : Int) < 2147483645 + (b : Int) := by omega
      clear q3
      go_enter Try.func5, Try.ntmps5
      go_wp2_with fail
      with_reducible refine (W1.out _).mono ?_
      rintro e w1 ⟨rfl, hB1⟩
      have B1 : Hid (Below w.heap.size w w1) := bl_tr (bl_al (Below.refl _ _) _) hB1
      clear hB1 W1
      go_wp2_with fail
      with_reducible refine (A1.out _).mono ?_
      rintro e w2 ⟨x, y, d1, d2, d3, l1, l2, l3, c1, c2, c3, rfl, hB2⟩
      have B2 : Hid (Below w.heap.size w (w2.alloc (.cells #[.int .i64 x, .int .i64 y, .int .i64 t3, .slice d1 l1 c1, .slice d2 l2 c2, .slice d3 l3 c3] 26))) := bl_al (bl_tr B1.out hB2) _
      clear hB2 B1 A1 z1
      go_wp2_with fail
      with_reducible refine (W2.out _).mono ?_
      rintro e w3 ⟨rfl, hB3⟩
      have B3 := Lib.hid (bl_tr B2.out hB3)
      clear hB3 B2 W2
      go_wp2_with fail
      with_reducible refine (A2.out _).mono ?_
      rintro e w4 ⟨x', y', d1', d2', d3', l1', l2', l3', c1', c2', c3', rfl, hB4⟩
      have hq := heap_alloc_new w4 (.cells #[.int .i64 x', .int .i64 y', .int .i64 r3, .slice d1' l1' c1', .slice d2' l2' c2', .slice d3' l3' c3'] 26)
      have B4 : Hid (Below w.heap.size w (w4.alloc (.cells #[.int .i64 x', .int .i64 y', .int .i64 r3, .slice d1' l1' c1', .slice d2' l2' c2', .slice d3' l3' c3'] 26))) := bl_al (bl_tr B3.out hB4) _
      have Q4 : Hid (∀ W, Below (w4.alloc (.cells #[.int .i64 x', .int .i64 y', .int .i64 r3, .slice d1' l1' c1', .slice d2' l2' c2', .slice d3' l3' c3'] 26)).heap.size (w4.alloc (.cells #[.int .i64 x', .int .i64 y', .int .i64 r3, .slice d1' l1' c1', .slice d2' l2' c2', .slice d3' l3' c3'] 26)) W → W.cell? ⟨w4.heap.size, 2, none⟩ = some (.int .i64 r3)) := fun W hW => cell_of_row _ _ 2 _ _ _ ((hW.block _ (by simp)).trans hq)
      clear hB4 B3 A2 z2 z3 hq
      go_wp2_with fail
      refine (HPs.out _).mono ?_
      rintro e w5 ⟨rfl, hB5⟩
      have k2 := Q4.out w5 hB5
      have B5 := Lib.hid (bl_tr B4.out hB5)
      clear hB5 B4 HPs Q4
      go_wp2
      go_ret
      exact ⟨rfl, B5.out⟩
set_option maxRecDepth 100000 in
set_option maxHeartbeats 8000000 in
theorem lim_walk2 (n number kind : Int) (w : World) (hk : (IntKind.u64.wrap kind).tmod 3 = 1) (a b : Nat) (ha : a < 5) (hb : b < 5) (hn : (IntKind.u64.wrap n).tmod 5 = a) (hm : (IntKind.u64.wrap number).tmod 5 = b) :
    Calls Try.prog 5 #[.int .i64 n, .int .i64 number, .int .i64 kind] w fun e w' => e = .returned (.bool true) ∧ Below w.heap.size w w' := by
  have HPs := Lib.hid (fun W => parses_any W)
  obtain ⟨D, hD⟩ : ∃ D, D = decF (22 + a) := ⟨_, rfl⟩
  obtain ⟨D2, hD2⟩ : ∃ D2, D2 = decF (2147483645 + b) := ⟨_, rfl⟩
  have W1 : Hid (∀ W, Calls Try.prog 12 #[.int .i64 (22 + (a : Int))] W fun e w' => e = .returned (.string D) ∧ Below W.heap.size W w') := fun W => by
    have := refwrite_nat (22 + a) (by omega) W
    rw [dec_f (by omega), ← hD] at this
    rw [show (22 : Int) + (a : Int) = ((22 + a : Nat) : Int) from by omega]
    exact this
  have W2 : Hid (∀ W, Calls Try.prog 12 #[.int .i64 (2147483645 + (b : Int))] W fun e w' => e = .returned (.string D2) ∧ Below W.heap.size W w') := fun W => by
    have := refwrite_nat (2147483645 + b) (by omega) W
    rw [dec_f (by omega), ← hD2] at this
    rw [show (2147483645 : Int) + (b : Int) = ((2147483645 + b : Nat) : Int) from by omega]
    exact this
  have s1 := decF_size (22 + a)
  have s2 := decF_size (2147483645 + b)
  rw [← hD] at s1
  rw [← hD2] at s2
  obtain ⟨p1, q1⟩ := lim2 ⟨a, ha⟩
  obtain ⟨p2, q2, q3⟩ := lim4 ⟨b, hb⟩
  simp only at p1 q1 p2 q2 q3
  rw [← hD] at p1 q1
  rw [← hD2] at p2 q2 q3
  have A1 := Lib.hid (fun W => anp (wd2 ++ D) W)
  have A2 := Lib.hid (fun W => anp (pre1 ++ D2 ++ suf1) W)
  generalize (tstP (PXX (wd2 ++ D))).1 = t1 at *
  generalize (tstP (PXX (wd2 ++ D))).2.1 = t2 at *
  generalize (tstP (PXX (wd2 ++ D))).2.2 = t3 at *
  generalize (tstP (PXX (pre1 ++ D2 ++ suf1))).1 = r1 at *
  generalize (tstP (PXX (pre1 ++ D2 ++ suf1))).2.1 = r2 at *
  generalize (tstP (PXX (pre1 ++ D2 ++ suf1))).2.2 = r3 at *
  unfold wd2 at A1
  unfold pre1 suf1 at A2
  clear hD hD2
  have z1 : ¬ 9223372036854775807 < 11 + D.size := by omega
  have z2 : ¬ 9223372036854775807 < 11 + D2.size := by omega
  have z3 : ¬ 9223372036854775807 < 11 + D2.size + 4 := by omega
  have HD : Hid (D.size ≤ 10 ∧ D2.size ≤ 10) := ⟨s1, s2⟩
  clear s1 s2
  have o0 : IntKind.i64.wrap (a : Int) = (a : Int) := IntWalk.i64_in _ (by omega)
  have o1 : IntKind.i64.wrap (22 + (a : Int)) = 22 + (a : Int) := IntWalk.i64_in _ (by omega)
  have o2 : IntKind.i64.wrap (b : Int) = (b : Int) := IntWalk.i64_in _ (by omega)
  have o3 : IntKind.i64.wrap (2147483645 + (b : Int)) = 2147483645 + (b : Int) := IntWalk.i64_in _ (by omega)
  by_cases ha2 : a ≤ 2
  · rw [if_pos ha2] at p1
    subst p1
    have g1 : (22 : Int) + (a : Int) ≤ 24 := by omega
    have g1' : ¬ (24 : Int) < 22 + (a : Int) := by omega
    clear q1
    by_cases hb2 : b ≤ 2
    · rw [if_pos hb2] at p2
      subst p2
      obtain rfl : r3 = 2147483645 + (b : Int) := by rcases q3 with h | h; exact absurd hb2 h; exact h
      have g2 : ¬ (2147483647 : Int) < 2147483645 + (b : Int) := by omega
      clear q2 q3
      go_enter Try.func5, Try.ntmps5
      go_wp2_with fail
      with_reducible refine (W1.out _).mono ?_
      rintro e w1 ⟨rfl, hB1⟩
      have B1 : Hid (Below w.heap.size w w1) := bl_tr (bl_al (Below.refl _ _) _) hB1
      clear hB1 W1
      go_wp2_with fail
      with_reducible refine (A1.out _).mono ?_
      rintro e w2 ⟨x, y, d1, d2, d3, l1, l2, l3, c1, c2, c3, rfl, hB2⟩
      have B2 : Hid (Below w.heap.size w (w2.alloc (.cells #[.int .i64 x, .int .i64 y, .int .i64 t3, .slice d1 l1 c1, .slice d2 l2 c2, .slice d3 l3 c3] 26))) := bl_al (bl_tr B1.out hB2) _
      clear hB2 B1 A1 z1
      go_wp2_with fail
      with_reducible refine (W2.out _).mono ?_
      rintro e w3 ⟨rfl, hB3⟩
      have B3 := Lib.hid (bl_tr B2.out hB3)
      clear hB3 B2 W2
      go_wp2_with fail
      with_reducible refine (A2.out _).mono ?_
      rintro e w4 ⟨x', y', d1', d2', d3', l1', l2', l3', c1', c2', c3', rfl, hB4⟩
      have hq := heap_alloc_new w4 (.cells #[.int .i64 x', .int .i64 y', .int .i64 (2147483645 + (b : Int)), .slice d1' l1' c1', .slice d2' l2' c2', .slice d3' l3' c3'] 26)
      have B4 : Hid (Below w.heap.size w (w4.alloc (.cells #[.int .i64 x', .int .i64 y', .int .i64 (2147483645 + (b : Int)), .slice d1' l1' c1', .slice d2' l2' c2', .slice d3' l3' c3'] 26))) := bl_al (bl_tr B3.out hB4) _
      have Q4 : Hid (∀ W, Below (w4.alloc (.cells #[.int .i64 x', .int .i64 y', .int .i64 (2147483645 + (b : Int)), .slice d1' l1' c1', .slice d2' l2' c2', .slice d3' l3' c3'] 26)).heap.size (w4.alloc (.cells #[.int .i64 x', .int .i64 y', .int .i64 (2147483645 + (b : Int)), .slice d1' l1' c1', .slice d2' l2' c2', .slice d3' l3' c3'] 26)) W → W.cell? ⟨w4.heap.size, 2, none⟩ = some (.int .i64 (2147483645 + (b : Int)))) := fun W hW => cell_of_row _ _ 2 _ _ _ ((hW.block _ (by simp)).trans hq)
      clear hB4 B3 A2 z2 z3 hq
      go_wp2_with fail
      refine (HPs.out _).mono ?_
      rintro e w5 ⟨rfl, hB5⟩
      have k2 := Q4.out w5 hB5
      have B5 := Lib.hid (bl_tr B4.out hB5)
      clear hB5 B4 HPs Q4
      go_wp2
      go_ret
      exact ⟨rfl, B5.out⟩
    · rw [if_neg hb2] at p2
      subst p2
      obtain rfl : r1 = 11 := by rcases q2 with h | h; exact absurd h hb2; exact h
      have g2 : (2147483647 : Int) < 2147483645 + (b : Int) := by omega
      clear q3
      go_enter Try.func5, Try.ntmps5
      go_wp2_with fail
      with_reducible refine (W1.out _).mono ?_
      rintro e w1 ⟨rfl, hB1⟩
      have B1 : Hid (Below w.heap.size w w1) := bl_tr (bl_al (Below.refl _ _) _) hB1
      clear hB1 W1
      go_wp2_with fail
      with_reducible refine (A1.out _).mono ?_
      rintro e w2 ⟨x, y, d1, d2, d3, l1, l2, l3, c1, c2, c3, rfl, hB2⟩
      have B2 : Hid (Below w.heap.size w (w2.alloc (.cells #[.int .i64 x, .int .i64 y, .int .i64 t3, .slice d1 l1 c1, .slice d2 l2 c2, .slice d3 l3 c3] 26))) := bl_al (bl_tr B1.out hB2) _
      clear hB2 B1 A1 z1
      go_wp2_with fail
      with_reducible refine (W2.out _).mono ?_
      rintro e w3 ⟨rfl, hB3⟩
      have B3 := Lib.hid (bl_tr B2.out hB3)
      clear hB3 B2 W2
      go_wp2_with fail
      with_reducible refine (A2.out _).mono ?_
      rintro e w4 ⟨x', y', d1', d2', d3', l1', l2', l3', c1', c2', c3', rfl, hB4⟩
      have hq := heap_alloc_new w4 (.cells #[.int .i64 x', .int .i64 y', .int .i64 r3, .slice d1' l1' c1', .slice d2' l2' c2', .slice d3' l3' c3'] 26)
      have B4 : Hid (Below w.heap.size w (w4.alloc (.cells #[.int .i64 x', .int .i64 y', .int .i64 r3, .slice d1' l1' c1', .slice d2' l2' c2', .slice d3' l3' c3'] 26))) := bl_al (bl_tr B3.out hB4) _
      have Q4 : Hid (∀ W, Below (w4.alloc (.cells #[.int .i64 x', .int .i64 y', .int .i64 r3, .slice d1' l1' c1', .slice d2' l2' c2', .slice d3' l3' c3'] 26)).heap.size (w4.alloc (.cells #[.int .i64 x', .int .i64 y', .int .i64 r3, .slice d1' l1' c1', .slice d2' l2' c2', .slice d3' l3' c3'] 26)) W → W.cell? ⟨w4.heap.size, 2, none⟩ = some (.int .i64 r3)) := fun W hW => cell_of_row _ _ 2 _ _ _ ((hW.block _ (by simp)).trans hq)
      clear hB4 B3 A2 z2 z3 hq
      go_wp2_with fail
      refine (HPs.out _).mono ?_
      rintro e w5 ⟨rfl, hB5⟩
      have k2 := Q4.out w5 hB5
      have B5 := Lib.hid (bl_tr B4.out hB5)
      clear hB5 B4 HPs Q4
      go_wp2
      go_ret
      exact ⟨rfl, B5.out⟩
  · rw [if_neg ha2] at p1
    subst p1
    obtain rfl : t1 = 11 := by rcases q1 with h | h; exact absurd h ha2; exact h
    have g1 : (24 : Int) < 22 + (a : Int) := by omega
    have g1' : ¬ (22 : Int) + (a : Int) ≤ 24 := by omega
    by_cases hb2 : b ≤ 2
    · rw [if_pos hb2] at p2
      subst p2
      obtain rfl : r3 = 2147483645 + (b : Int) := by rcases q3 with h | h; exact absurd hb2 h; exact h
      have g2 : ¬ (2147483647 : Int) < 2147483645 + (b : Int) := by omega
      clear q2 q3
      go_enter Try.func5, Try.ntmps5
      go_wp2_with fail
      with_reducible refine (W1.out _).mono ?_
      rintro e w1 ⟨rfl, hB1⟩
      have B1 : Hid (Below w.heap.size w w1) := bl_tr (bl_al (Below.refl _ _) _) hB1
      clear hB1 W1
      go_wp2_with fail
      with_reducible refine (A1.out _).mono ?_
      rintro e w2 ⟨x, y, d1, d2, d3, l1, l2, l3, c1, c2, c3, rfl, hB2⟩
      have B2 : Hid (Below w.heap.size w (w2.alloc (.cells #[.int .i64 x, .int .i64 y, .int .i64 t3, .slice d1 l1 c1, .slice d2 l2 c2, .slice d3 l3 c3] 26))) := bl_al (bl_tr B1.out hB2) _
      clear hB2 B1 A1 z1
      go_wp2_with fail
      with_reducible refine (W2.out _).mono ?_
      rintro e w3 ⟨rfl, hB3⟩
      have B3 := Lib.hid (bl_tr B2.out hB3)
      clear hB3 B2 W2
      go_wp2_with fail
      with_reducible refine (A2.out _).mono ?_
      rintro e w4 ⟨x', y', d1', d2', d3', l1', l2', l3', c1', c2', c3', rfl, hB4⟩
      have hq := heap_alloc_new w4 (.cells #[.int .i64 x', .int .i64 y', .int .i64 (2147483645 + (b : Int)), .slice d1' l1' c1', .slice d2' l2' c2', .slice d3' l3' c3'] 26)
      have B4 : Hid (Below w.heap.size w (w4.alloc (.cells #[.int .i64 x', .int .i64 y', .int .i64 (2147483645 + (b : Int)), .slice d1' l1' c1', .slice d2' l2' c2', .slice d3' l3' c3'] 26))) := bl_al (bl_tr B3.out hB4) _
      have Q4 : Hid (∀ W, Below (w4.alloc (.cells #[.int .i64 x', .int .i64 y', .int .i64 (2147483645 + (b : Int)), .slice d1' l1' c1', .slice d2' l2' c2', .slice d3' l3' c3'] 26)).heap.size (w4.alloc (.cells #[.int .i64 x', .int .i64 y', .int .i64 (2147483645 + (b : Int)), .slice d1' l1' c1', .slice d2' l2' c2', .slice d3' l3' c3'] 26)) W → W.cell? ⟨w4.heap.size, 2, none⟩ = some (.int .i64 (2147483645 + (b : Int)))) := fun W hW => cell_of_row _ _ 2 _ _ _ ((hW.block _ (by simp)).trans hq)
      clear hB4 B3 A2 z2 z3 hq
      go_wp2_with fail
      refine (HPs.out _).mono ?_
      rintro e w5 ⟨rfl, hB5⟩
      have k2 := Q4.out w5 hB5
      have B5 := Lib.hid (bl_tr B4.out hB5)
      clear hB5 B4 HPs Q4
      go_wp2
      go_ret
      exact ⟨rfl, B5.out⟩
    · rw [if_neg hb2] at p2
      subst p2
      obtain rfl : r1 = 11 := by rcases q2 with h | h; exact absurd h hb2; exact h
      have g2 : (2147483647 : Int) < 2147483645 + (b : Int) := by omega
      clear q3
      go_enter Try.func5, Try.ntmps5
      go_wp2_with fail
      with_reducible refine (W1.out _).mono ?_
      rintro e w1 ⟨rfl, hB1⟩
      have B1 : Hid (Below w.heap.size w w1) := bl_tr (bl_al (Below.refl _ _) _) hB1
      clear hB1 W1
      go_wp2_with fail
      with_reducible refine (A1.out _).mono ?_
      rintro e w2 ⟨x, y, d1, d2, d3, l1, l2, l3, c1, c2, c3, rfl, hB2⟩
      have B2 : Hid (Below w.heap.size w (w2.alloc (.cells #[.int .i64 x, .int .i64 y, .int .i64 t3, .slice d1 l1 c1, .slice d2 l2 c2, .slice d3 l3 c3] 26))) := bl_al (bl_tr B1.out hB2) _
      clear hB2 B1 A1 z1
      go_wp2_with fail
      with_reducible refine (W2.out _).mono ?_
      rintro e w3 ⟨rfl, hB3⟩
      have B3 := Lib.hid (bl_tr B2.out hB3)
      clear hB3 B2 W2
      go_wp2_with fail
      with_reducible refine (A2.out _).mono ?_
      rintro e w4 ⟨x', y', d1', d2', d3', l1', l2', l3', c1', c2', c3', rfl, hB4⟩
      have hq := heap_alloc_new w4 (.cells #[.int .i64 x', .int .i64 y', .int .i64 r3, .slice d1' l1' c1', .slice d2' l2' c2', .slice d3' l3' c3'] 26)
      have B4 : Hid (Below w.heap.size w (w4.alloc (.cells #[.int .i64 x', .int .i64 y', .int .i64 r3, .slice d1' l1' c1', .slice d2' l2' c2', .slice d3' l3' c3'] 26))) := bl_al (bl_tr B3.out hB4) _
      have Q4 : Hid (∀ W, Below (w4.alloc (.cells #[.int .i64 x', .int .i64 y', .int .i64 r3, .slice d1' l1' c1', .slice d2' l2' c2', .slice d3' l3' c3'] 26)).heap.size (w4.alloc (.cells #[.int .i64 x', .int .i64 y', .int .i64 r3, .slice d1' l1' c1', .slice d2' l2' c2', .slice d3' l3' c3'] 26)) W → W.cell? ⟨w4.heap.size, 2, none⟩ = some (.int .i64 r3)) := fun W hW => cell_of_row _ _ 2 _ _ _ ((hW.block _ (by simp)).trans hq)
      clear hB4 B3 A2 z2 z3 hq
      go_wp2_with fail
      refine (HPs.out _).mono ?_
      rintro e w5 ⟨rfl, hB5⟩
      have k2 := Q4.out w5 hB5
      have B5 := Lib.hid (bl_tr B4.out hB5)
      clear hB5 B4 HPs Q4
      go_wp2
      go_ret
      exact ⟨rfl, B5.out⟩
set_option maxRecDepth 100000 in
set_option maxHeartbeats 8000000 in
theorem lim_walk3 (n number kind : Int) (w : World) (hk : (IntKind.u64.wrap kind).tmod 3 = 2) (a b : Nat) (ha : a < 5) (hb : b < 5) (hn : (IntKind.u64.wrap n).tmod 5 = a) (hm : (IntKind.u64.wrap number).tmod 5 = b) :
    Calls Try.prog 5 #[.int .i64 n, .int .i64 number, .int .i64 kind] w fun e w' => e = .returned (.bool true) ∧ Below w.heap.size w w' := by
  have HPs := Lib.hid (fun W => parses_any W)
  obtain ⟨D, hD⟩ : ∃ D, D = decF (22 + a) := ⟨_, rfl⟩
  obtain ⟨D2, hD2⟩ : ∃ D2, D2 = decF (2147483645 + b) := ⟨_, rfl⟩
  have W1 : Hid (∀ W, Calls Try.prog 12 #[.int .i64 (22 + (a : Int))] W fun e w' => e = .returned (.string D) ∧ Below W.heap.size W w') := fun W => by
    have := refwrite_nat (22 + a) (by omega) W
    rw [dec_f (by omega), ← hD] at this
    rw [show (22 : Int) + (a : Int) = ((22 + a : Nat) : Int) from by omega]
    exact this
  have W2 : Hid (∀ W, Calls Try.prog 12 #[.int .i64 (2147483645 + (b : Int))] W fun e w' => e = .returned (.string D2) ∧ Below W.heap.size W w') := fun W => by
    have := refwrite_nat (2147483645 + b) (by omega) W
    rw [dec_f (by omega), ← hD2] at this
    rw [show (2147483645 : Int) + (b : Int) = ((2147483645 + b : Nat) : Int) from by omega]
    exact this
  have s1 := decF_size (22 + a)
  have s2 := decF_size (2147483645 + b)
  rw [← hD] at s1
  rw [← hD2] at s2
  obtain ⟨p1, q1⟩ := lim3 ⟨a, ha⟩
  obtain ⟨p2, q2, q3⟩ := lim4 ⟨b, hb⟩
  simp only at p1 q1 p2 q2 q3
  rw [← hD] at p1 q1
  rw [← hD2] at p2 q2 q3
  have A1 := Lib.hid (fun W => anp (wd3 ++ D) W)
  have A2 := Lib.hid (fun W => anp (pre1 ++ D2 ++ suf1) W)
  generalize (tstP (PXX (wd3 ++ D))).1 = t1 at *
  generalize (tstP (PXX (wd3 ++ D))).2.1 = t2 at *
  generalize (tstP (PXX (wd3 ++ D))).2.2 = t3 at *
  generalize (tstP (PXX (pre1 ++ D2 ++ suf1))).1 = r1 at *
  generalize (tstP (PXX (pre1 ++ D2 ++ suf1))).2.1 = r2 at *
  generalize (tstP (PXX (pre1 ++ D2 ++ suf1))).2.2 = r3 at *
  unfold wd3 at A1
  unfold pre1 suf1 at A2
  clear hD hD2
  have z1 : ¬ 9223372036854775807 < 4 + D.size := by omega
  have z2 : ¬ 9223372036854775807 < 11 + D2.size := by omega
  have z3 : ¬ 9223372036854775807 < 11 + D2.size + 4 := by omega
  have HD : Hid (D.size ≤ 10 ∧ D2.size ≤ 10) := ⟨s1, s2⟩
  clear s1 s2
  have o0 : IntKind.i64.wrap (a : Int) = (a : Int) := IntWalk.i64_in _ (by omega)
  have o1 : IntKind.i64.wrap (22 + (a : Int)) = 22 + (a : Int) := IntWalk.i64_in _ (by omega)
  have o2 : IntKind.i64.wrap (b : Int) = (b : Int) := IntWalk.i64_in _ (by omega)
  have o3 : IntKind.i64.wrap (2147483645 + (b : Int)) = 2147483645 + (b : Int) := IntWalk.i64_in _ (by omega)
  by_cases ha2 : a ≤ 2
  · rw [if_pos ha2] at p1
    subst p1
    have g1 : (22 : Int) + (a : Int) ≤ 24 := by omega
    have g1' : ¬ (24 : Int) < 22 + (a : Int) := by omega
    clear q1
    by_cases hb2 : b ≤ 2
    · rw [if_pos hb2] at p2
      subst p2
      obtain rfl : r3 = 2147483645 + (b : Int) := by rcases q3 with h | h; exact absurd hb2 h; exact h
      have g2 : ¬ (2147483647 : Int) < 2147483645 + (b : Int) := by omega
      clear q2 q3
      go_enter Try.func5, Try.ntmps5
      go_wp2_with fail
      with_reducible refine (W1.out _).mono ?_
      rintro e w1 ⟨rfl, hB1⟩
      have B1 : Hid (Below w.heap.size w w1) := bl_tr (bl_al (Below.refl _ _) _) hB1
      clear hB1 W1
      go_wp2_with fail
      with_reducible refine (A1.out _).mono ?_
      rintro e w2 ⟨x, y, d1, d2, d3, l1, l2, l3, c1, c2, c3, rfl, hB2⟩
      have B2 : Hid (Below w.heap.size w (w2.alloc (.cells #[.int .i64 x, .int .i64 y, .int .i64 t3, .slice d1 l1 c1, .slice d2 l2 c2, .slice d3 l3 c3] 26))) := bl_al (bl_tr B1.out hB2) _
      clear hB2 B1 A1 z1
      go_wp2_with fail
      with_reducible refine (W2.out _).mono ?_
      rintro e w3 ⟨rfl, hB3⟩
      have B3 := Lib.hid (bl_tr B2.out hB3)
      clear hB3 B2 W2
      go_wp2_with fail
      with_reducible refine (A2.out _).mono ?_
      rintro e w4 ⟨x', y', d1', d2', d3', l1', l2', l3', c1', c2', c3', rfl, hB4⟩
      have hq := heap_alloc_new w4 (.cells #[.int .i64 x', .int .i64 y', .int .i64 (2147483645 + (b : Int)), .slice d1' l1' c1', .slice d2' l2' c2', .slice d3' l3' c3'] 26)
      have B4 : Hid (Below w.heap.size w (w4.alloc (.cells #[.int .i64 x', .int .i64 y', .int .i64 (2147483645 + (b : Int)), .slice d1' l1' c1', .slice d2' l2' c2', .slice d3' l3' c3'] 26))) := bl_al (bl_tr B3.out hB4) _
      have Q4 : Hid (∀ W, Below (w4.alloc (.cells #[.int .i64 x', .int .i64 y', .int .i64 (2147483645 + (b : Int)), .slice d1' l1' c1', .slice d2' l2' c2', .slice d3' l3' c3'] 26)).heap.size (w4.alloc (.cells #[.int .i64 x', .int .i64 y', .int .i64 (2147483645 + (b : Int)), .slice d1' l1' c1', .slice d2' l2' c2', .slice d3' l3' c3'] 26)) W → W.cell? ⟨w4.heap.size, 2, none⟩ = some (.int .i64 (2147483645 + (b : Int)))) := fun W hW => cell_of_row _ _ 2 _ _ _ ((hW.block _ (by simp)).trans hq)
      clear hB4 B3 A2 z2 z3 hq
      go_wp2_with fail
      refine (HPs.out _).mono ?_
      rintro e w5 ⟨rfl, hB5⟩
      have k2 := Q4.out w5 hB5
      have B5 := Lib.hid (bl_tr B4.out hB5)
      clear hB5 B4 HPs Q4
      go_wp2
      go_ret
      exact ⟨rfl, B5.out⟩
    · rw [if_neg hb2] at p2
      subst p2
      obtain rfl : r1 = 11 := by rcases q2 with h | h; exact absurd h hb2; exact h
      have g2 : (2147483647 : Int) < 2147483645 + (b : Int) := by omega
      clear q3
      go_enter Try.func5, Try.ntmps5
      go_wp2_with fail
      with_reducible refine (W1.out _).mono ?_
      rintro e w1 ⟨rfl, hB1⟩
      have B1 : Hid (Below w.heap.size w w1) := bl_tr (bl_al (Below.refl _ _) _) hB1
      clear hB1 W1
      go_wp2_with fail
      with_reducible refine (A1.out _).mono ?_
      rintro e w2 ⟨x, y, d1, d2, d3, l1, l2, l3, c1, c2, c3, rfl, hB2⟩
      have B2 : Hid (Below w.heap.size w (w2.alloc (.cells #[.int .i64 x, .int .i64 y, .int .i64 t3, .slice d1 l1 c1, .slice d2 l2 c2, .slice d3 l3 c3] 26))) := bl_al (bl_tr B1.out hB2) _
      clear hB2 B1 A1 z1
      go_wp2_with fail
      with_reducible refine (W2.out _).mono ?_
      rintro e w3 ⟨rfl, hB3⟩
      have B3 := Lib.hid (bl_tr B2.out hB3)
      clear hB3 B2 W2
      go_wp2_with fail
      with_reducible refine (A2.out _).mono ?_
      rintro e w4 ⟨x', y', d1', d2', d3', l1', l2', l3', c1', c2', c3', rfl, hB4⟩
      have hq := heap_alloc_new w4 (.cells #[.int .i64 x', .int .i64 y', .int .i64 r3, .slice d1' l1' c1', .slice d2' l2' c2', .slice d3' l3' c3'] 26)
      have B4 : Hid (Below w.heap.size w (w4.alloc (.cells #[.int .i64 x', .int .i64 y', .int .i64 r3, .slice d1' l1' c1', .slice d2' l2' c2', .slice d3' l3' c3'] 26))) := bl_al (bl_tr B3.out hB4) _
      have Q4 : Hid (∀ W, Below (w4.alloc (.cells #[.int .i64 x', .int .i64 y', .int .i64 r3, .slice d1' l1' c1', .slice d2' l2' c2', .slice d3' l3' c3'] 26)).heap.size (w4.alloc (.cells #[.int .i64 x', .int .i64 y', .int .i64 r3, .slice d1' l1' c1', .slice d2' l2' c2', .slice d3' l3' c3'] 26)) W → W.cell? ⟨w4.heap.size, 2, none⟩ = some (.int .i64 r3)) := fun W hW => cell_of_row _ _ 2 _ _ _ ((hW.block _ (by simp)).trans hq)
      clear hB4 B3 A2 z2 z3 hq
      go_wp2_with fail
      refine (HPs.out _).mono ?_
      rintro e w5 ⟨rfl, hB5⟩
      have k2 := Q4.out w5 hB5
      have B5 := Lib.hid (bl_tr B4.out hB5)
      clear hB5 B4 HPs Q4
      go_wp2
      go_ret
      exact ⟨rfl, B5.out⟩
  · rw [if_neg ha2] at p1
    subst p1
    obtain rfl : t1 = 4 := by rcases q1 with h | h; exact absurd h ha2; exact h
    have g1 : (24 : Int) < 22 + (a : Int) := by omega
    have g1' : ¬ (22 : Int) + (a : Int) ≤ 24 := by omega
    by_cases hb2 : b ≤ 2
    · rw [if_pos hb2] at p2
      subst p2
      obtain rfl : r3 = 2147483645 + (b : Int) := by rcases q3 with h | h; exact absurd hb2 h; exact h
      have g2 : ¬ (2147483647 : Int) < 2147483645 + (b : Int) := by omega
      clear q2 q3
      go_enter Try.func5, Try.ntmps5
      go_wp2_with fail
      with_reducible refine (W1.out _).mono ?_
      rintro e w1 ⟨rfl, hB1⟩
      have B1 : Hid (Below w.heap.size w w1) := bl_tr (bl_al (Below.refl _ _) _) hB1
      clear hB1 W1
      go_wp2_with fail
      with_reducible refine (A1.out _).mono ?_
      rintro e w2 ⟨x, y, d1, d2, d3, l1, l2, l3, c1, c2, c3, rfl, hB2⟩
      have B2 : Hid (Below w.heap.size w (w2.alloc (.cells #[.int .i64 x, .int .i64 y, .int .i64 t3, .slice d1 l1 c1, .slice d2 l2 c2, .slice d3 l3 c3] 26))) := bl_al (bl_tr B1.out hB2) _
      clear hB2 B1 A1 z1
      go_wp2_with fail
      with_reducible refine (W2.out _).mono ?_
      rintro e w3 ⟨rfl, hB3⟩
      have B3 := Lib.hid (bl_tr B2.out hB3)
      clear hB3 B2 W2
      go_wp2_with fail
      with_reducible refine (A2.out _).mono ?_
      rintro e w4 ⟨x', y', d1', d2', d3', l1', l2', l3', c1', c2', c3', rfl, hB4⟩
      have hq := heap_alloc_new w4 (.cells #[.int .i64 x', .int .i64 y', .int .i64 (2147483645 + (b : Int)), .slice d1' l1' c1', .slice d2' l2' c2', .slice d3' l3' c3'] 26)
      have B4 : Hid (Below w.heap.size w (w4.alloc (.cells #[.int .i64 x', .int .i64 y', .int .i64 (2147483645 + (b : Int)), .slice d1' l1' c1', .slice d2' l2' c2', .slice d3' l3' c3'] 26))) := bl_al (bl_tr B3.out hB4) _
      have Q4 : Hid (∀ W, Below (w4.alloc (.cells #[.int .i64 x', .int .i64 y', .int .i64 (2147483645 + (b : Int)), .slice d1' l1' c1', .slice d2' l2' c2', .slice d3' l3' c3'] 26)).heap.size (w4.alloc (.cells #[.int .i64 x', .int .i64 y', .int .i64 (2147483645 + (b : Int)), .slice d1' l1' c1', .slice d2' l2' c2', .slice d3' l3' c3'] 26)) W → W.cell? ⟨w4.heap.size, 2, none⟩ = some (.int .i64 (2147483645 + (b : Int)))) := fun W hW => cell_of_row _ _ 2 _ _ _ ((hW.block _ (by simp)).trans hq)
      clear hB4 B3 A2 z2 z3 hq
      go_wp2_with fail
      refine (HPs.out _).mono ?_
      rintro e w5 ⟨rfl, hB5⟩
      have k2 := Q4.out w5 hB5
      have B5 := Lib.hid (bl_tr B4.out hB5)
      clear hB5 B4 HPs Q4
      go_wp2
      go_ret
      exact ⟨rfl, B5.out⟩
    · rw [if_neg hb2] at p2
      subst p2
      obtain rfl : r1 = 11 := by rcases q2 with h | h; exact absurd h hb2; exact h
      have g2 : (2147483647 : Int) < 2147483645 + (b : Int) := by omega
      clear q3
      go_enter Try.func5, Try.ntmps5
      go_wp2_with fail
      with_reducible refine (W1.out _).mono ?_
      rintro e w1 ⟨rfl, hB1⟩
      have B1 : Hid (Below w.heap.size w w1) := bl_tr (bl_al (Below.refl _ _) _) hB1
      clear hB1 W1
      go_wp2_with fail
      with_reducible refine (A1.out _).mono ?_
      rintro e w2 ⟨x, y, d1, d2, d3, l1, l2, l3, c1, c2, c3, rfl, hB2⟩
      have B2 : Hid (Below w.heap.size w (w2.alloc (.cells #[.int .i64 x, .int .i64 y, .int .i64 t3, .slice d1 l1 c1, .slice d2 l2 c2, .slice d3 l3 c3] 26))) := bl_al (bl_tr B1.out hB2) _
      clear hB2 B1 A1 z1
      go_wp2_with fail
      with_reducible refine (W2.out _).mono ?_
      rintro e w3 ⟨rfl, hB3⟩
      have B3 := Lib.hid (bl_tr B2.out hB3)
      clear hB3 B2 W2
      go_wp2_with fail
      with_reducible refine (A2.out _).mono ?_
      rintro e w4 ⟨x', y', d1', d2', d3', l1', l2', l3', c1', c2', c3', rfl, hB4⟩
      have hq := heap_alloc_new w4 (.cells #[.int .i64 x', .int .i64 y', .int .i64 r3, .slice d1' l1' c1', .slice d2' l2' c2', .slice d3' l3' c3'] 26)
      have B4 : Hid (Below w.heap.size w (w4.alloc (.cells #[.int .i64 x', .int .i64 y', .int .i64 r3, .slice d1' l1' c1', .slice d2' l2' c2', .slice d3' l3' c3'] 26))) := bl_al (bl_tr B3.out hB4) _
      have Q4 : Hid (∀ W, Below (w4.alloc (.cells #[.int .i64 x', .int .i64 y', .int .i64 r3, .slice d1' l1' c1', .slice d2' l2' c2', .slice d3' l3' c3'] 26)).heap.size (w4.alloc (.cells #[.int .i64 x', .int .i64 y', .int .i64 r3, .slice d1' l1' c1', .slice d2' l2' c2', .slice d3' l3' c3'] 26)) W → W.cell? ⟨w4.heap.size, 2, none⟩ = some (.int .i64 r3)) := fun W hW => cell_of_row _ _ 2 _ _ _ ((hW.block _ (by simp)).trans hq)
      clear hB4 B3 A2 z2 z3 hq
      go_wp2_with fail
      refine (HPs.out _).mono ?_
      rintro e w5 ⟨rfl, hB5⟩
      have k2 := Q4.out w5 hB5
      have B5 := Lib.hid (bl_tr B4.out hB5)
      clear hB5 B4 HPs Q4
      go_wp2
      go_ret
      exact ⟨rfl, B5.out⟩
theorem parseLimits_walk (n number kind : Int) (w : World) : Calls Try.prog 5 #[.int .i64 n, .int .i64 number, .int .i64 kind] w fun e w' => e = .returned (.bool true) ∧ Below w.heap.size w w' := by
  obtain ⟨c, hc, hk⟩ := md kind 3 (by decide)
  obtain ⟨a, ha, hn⟩ := md n 5 (by decide)
  obtain ⟨b, hb, hm⟩ := md number 5 (by decide)
  match c, hc with
  | 0, _ => exact lim_walk1 n number kind w hk a b ha hb hn hm
  | 1, _ => exact lim_walk2 n number kind w hk a b ha hb hn hm
  | 2, _ => exact lim_walk3 n number kind w hk a b ha hb hn hm
end Go.Proofs.Ytjojdpohifdghaa
