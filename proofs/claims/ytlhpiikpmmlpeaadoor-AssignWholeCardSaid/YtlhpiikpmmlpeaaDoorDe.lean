/-
  assign: how many answers there are; the number of nodes that wait.
-/
import Derived.Test.YtlhpiikpmmlpeaaDoorDd
import Derived.Test.YtlhpiikpmmlpeaaDoorDb
namespace Go.Proofs.YtlhpiikpmmlpeaaDoor.kn
open Go.RowKit
set_option linter.unusedVariables false
set_option linter.unusedSimpArgs false
open Classical in
/-- what waits, told by the memory -/
noncomputable def msrV (n : Nat) (v : Value) (W : World) : Nat := if h : ∃ M, MXg 0 0 W.heap.size v M W then msr n (Classical.choose h) else 0
theorem MXg.zero {B B0 H : Nat} {v : Value} {M : List (List Int)} {W : World} (h : MXg B B0 H v M W) : MXg 0 0 W.heap.size v M W := by
  obtain ⟨ws, h1, h2, h3⟩ := h.top
  refine ⟨ws, own_mono h1 (Nat.zero_le _), h2, fun j hj => ?_⟩
  obtain ⟨r, e1, e2, e3⟩ := h3 j hj
  exact ⟨r, e1, e2.mono (Nat.zero_le _), e3⟩
theorem msrV_eq {n B B0 H : Nat} {v : Value} {M : List (List Int)} {W : World} (h : MXg B B0 H v M W) : msrV n v W = msr n M := by
  unfold msrV
  have hh : ∃ M, MXg 0 0 W.heap.size v M W := ⟨M, h.zero⟩
  rw [dif_pos hh]
  exact congrArg (msr n) ((Classical.choose_spec hh).inj h)
theorem fac_small : fac 5 = 120 := by decide
theorem fac_le {n : Nat} (h : n ≤ 5) : fac n ≤ 120 := by rw [← fac_small]; exact fac_mono h
set_option maxRecDepth 100000 in
set_option maxHeartbeats 4000000 in
theorem answers_any (K C : Int) (n : Nat) (h1 : 1 ≤ n) (h5 : n ≤ 5) (v3 v4 v5 : Value) (xa : Value) (w : World) :
    Calls Tryd.prog 31 #[.agg #[.int .i64 K, .int .i64 n, .int .i64 C, v3, v4, v5], xa] w fun e w' => e = .returned (.int .i64 (fac n : Nat)) ∧ Below w.heap.size w w' := by
  have HB := Lib.hid (bl_al (Below.refl _ w) (.cells #[.int .i64 K, .int .i64 n, .int .i64 C, v3, v4, v5] 25))
  have c1 := (cell_of_row _ _ 1 _ _ _ (heap_alloc_new w (.cells #[.int .i64 K, .int .i64 n, .int .i64 C, v3, v4, v5] 25))).trans (show _ = some (Value.int .i64 n) from rfl)
  have HF : Hid (∀ k, k + 1 ≤ 5 → (fac (k + 1) : Int) = (fac k : Int) * ((k : Int) + 1) ∧ 0 ≤ (fac k : Int) ∧ (fac (k + 1) : Int) ≤ 120) := Lib.hid fun k hk => by
    have := fac_le hk
    refine ⟨?_, by omega, by omega⟩
    show (((k + 1) * fac k : Nat) : Int) = _
    push_cast
    rw [Int.mul_comm]
  have F1 := Lib.hid (show (fac 1 : Int) = 1 from by decide)
  go_enter Tryd.func31, Tryd.ntmps31
  go_wp2
  generalize (w.alloc (.cells #[.int .i64 K, .int .i64 n, .int .i64 C, v3, v4, v5] 25)) = X at *
  go_loop [5, 6] (fun m i => ∃ k : Nat, 1 ≤ k ∧ k ≤ n ∧ m = .int .i64 (fac k : Nat) ∧ i = .int .i64 ((k : Int) + 1)) (fun _ i => n + 1 - (intOf i).toNat)
  case atStart => exact ⟨1, by omega, by omega, by rw [F1.out], by simp⟩
  case round =>
    obtain ⟨k, hk1, hk, rfl, rfl⟩ := hrel
    by_cases hlt : k < n
    · obtain ⟨e1, e2, e3⟩ := HF.out k (by omega)
      have E1 := Lib.hid e1
      rw [e1] at e3
      clear e1
      have q1 : (k : Int) + 1 ≤ (n : Int) := by omega
      have hw1 : IntKind.i64.wrap ((fac k : Int) * ((k : Int) + 1)) = (fac k : Int) * ((k : Int) + 1) := by
        rw [IntKind.wrap_i64]
        have : 0 ≤ (fac k : Int) * ((k : Int) + 1) := Int.mul_nonneg e2 (by omega)
        omega
      have hw2 : IntKind.i64.wrap ((k : Int) + 1 + 1) = (k : Int) + 1 + 1 := by rw [IntKind.wrap_i64]; omega
      have HP := Lib.hid (And.intro (show 0 ≤ (fac k : Int) * ((k : Int) + 1) from Int.mul_nonneg e2 (by omega)) e3)
      clear hw1 e3
      go_wp2
      go_round
      case rel => exact ⟨k + 1, by omega, by omega, (by
        have hp := HP.out
        rw [E1.out]
        generalize (fac k : Int) * ((k : Int) + 1) = m at *
        obtain ⟨p1, p2⟩ := hp
        rw [IntWalk.wrap64_in m (by omega)]), by push_cast; rfl⟩
      case measure => simp [intOf]; omega
    · obtain rfl : n = k := by omega
      have q1 : ¬ (n : Int) + 1 ≤ (n : Int) := by omega
      go_wp2
      first
        | exact ⟨rfl, HB.out⟩
        | (go_ret; exact ⟨rfl, HB.out⟩)
end Go.Proofs.YtlhpiikpmmlpeaaDoor.kn
