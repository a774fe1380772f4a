/-
  What rising, anyNegative, Same and Is answer.
-/
import Derived.Test.YtaobaiifbmhegaaNtBase
namespace Go.Proofs.Ytaobaiifbmhegaa.nt
open Go.RowKit
set_option linter.unusedVariables false

theorem info3 : (Try.prog.info? 3).map (fun i => (i.zero, i.size, i.bytes)) = some (some (.int .i64 0), 1, 8) := by kernel_rfl
def pre (n k : Nat) : List Int := (List.range n).map fun j => if j < k then (j : Int) else 0
theorem pre_len (n k : Nat) : (pre n k).length = n := by unfold pre; simp
theorem pre_nth (n k j : Nat) (h : j < n) : nth (pre n k) j = if j < k then (j : Int) else 0 := by
  rw [nth_at _ _ (by rw [pre_len]; exact h)]; unfold pre; simp
theorem pre_zero (n : Nat) : pre n 0 = List.replicate n 0 := by
  refine nth_ext _ _ (by rw [pre_len]; simp) (fun j hj => ?_)
  rw [pre_len] at hj
  rw [pre_nth n 0 j hj, nth_at _ _ (by simpa using hj)]; simp
theorem pre_next (n k : Nat) (hk : k < n) : (pre n k).set k (k : Int) = pre n (k + 1) := by
  refine nth_ext _ _ (by rw [List.length_set, pre_len, pre_len]) (fun j hj => ?_)
  rw [List.length_set, pre_len] at hj
  rw [nth_set _ _ _ _ (by rw [pre_len]; exact hk), pre_nth n k j hj, pre_nth n (k + 1) j hj]
  by_cases h : k = j
  · subst h; simp
  · have : j < k ↔ j < k + 1 := by omega
    simp [h, this]
attribute [irreducible] pre
/-- the numbers from nought on -/
def upTo (n : Nat) : List Int := pre n n
theorem upTo_len (n : Nat) : (upTo n).length = n := pre_len n n
theorem upTo_nth (n j : Nat) (h : j < n) : nth (upTo n) j = j := by unfold upTo; rw [pre_nth n n j h, if_pos h]
set_option maxHeartbeats 2000000 in
theorem rising_any (n : Nat) (hn : n ≤ 1000) (w : World) :
    Calls Try.prog 52 #[.int .i64 n] w fun e w' => ∃ g, e = .returned (.slice (some ⟨g, 0, none⟩) n n) ∧ Own w.heap.size g n n (upTo n) w w' := by
  obtain ⟨i0, hi, hz0, hz1, hz2⟩ := info_parts info3
  go_enter Try.func52, Try.ntmps52
  go_wp2_with (at_make; refine wpList_make_full _ rfl _ _ 22 rfl w.heap.size 3 i0 (.int .i64 0) 1 Try.underlying22 hi hz0 hz1 .i64 .i64 _ _ n rfl rfl rfl rfl (by rw [hz2]; omega) (by unfold maxLen; omega) (Nat.le_refl _) ?_)
  intro w2 hown hgrow
  have A0 : Hid (Own w.heap.size w.heap.size n n (pre n 0) w w2) := ⟨pre_len n 0, Nat.le_refl _, by rw [pre_zero, List.map_replicate, ← toList_madeCells_one]; exact hown, (Below.refl _ _).grown hgrow (Nat.le_refl _) (fun j hj => by cases hj)⟩
  clear hown hgrow
  have gg : ∃ g, g = w.heap.size := ⟨_, rfl⟩
  obtain ⟨g, hg⟩ := gg
  rw [← hg] at A0
  go_wp2
  rw [← hg]
  have HG := Lib.hid hg
  clear hg
  go_loopw [9] (fun i wr => ∃ k : Nat, k ≤ n ∧ i = .int .i64 k ∧ Hid (Own g g n n (pre n k) w wr)) (fun i _ => n - (intOf i).toNat)
  case atStart => exact ⟨0, by omega, rfl, A0⟩
  case round =>
    clear A0
    obtain ⟨k, hk, rfl, HP⟩ := hrel
    by_cases hlt : k < n
    · have o1 := HP.out.cell k hlt
      have o2 := HP.out.frozen k
      go_wp2
      go_roundw
      case rel => exact ⟨k + 1, by omega, by go_num, by rw [← pre_next n k hlt]; exact HP.out.set k _⟩
      case measure => simp [intOf]; omega
    · obtain rfl : n = k := by omega
      go_wp2
      go_ret
      exact ⟨g, rfl, by rw [← HG.out]; exact HP.out⟩
end Go.Proofs.Ytaobaiifbmhegaa.nt
