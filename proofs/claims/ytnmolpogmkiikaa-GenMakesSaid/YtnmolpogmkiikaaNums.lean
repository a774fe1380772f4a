/-
  What the reference's Numbers answers.
-/
import Derived.Test.YtnmolpogmkiikaaCsw
namespace Go.Proofs.Ytnmolpogmkiikaa
open Go.RowKit
set_option linter.unusedVariables false
/-- the first k numbers that are drawn -/
def DL (m s : Int) (k : Nat) : List Int := (List.range k).map fun j => dr m s j
theorem DL_len (m s : Int) (k : Nat) : (DL m s k).length = k := by simp [DL]
theorem DL_succ (m s : Int) (k : Nat) : DL m s (k + 1) = DL m s k ++ [dr m s k] := by simp [DL, List.range_succ]
theorem DL_zero (m s : Int) : DL m s 0 = [] := rfl
theorem DL_at (m s : Int) (n j : Nat) (h : j < n) : (enc (DL m s n))[j]? = some (.int .i64 (dr m s j)) := by unfold enc DL; simp [h]
attribute [irreducible] DL
set_option maxRecDepth 100000 in
set_option maxHeartbeats 2000000 in
theorem numbers_any (m s : Int) (h0 : 0 ≤ m) (h1 : m ≤ 2147483647) (n : Nat) (n2 : n ≤ 128) (w : World) :
    Calls Try.prog 14 #[.int .i64 n, .int .i64 m, .int .u64 s] w fun e w' => ∃ v, e = .returned (.tuple #[v, .int .u64 (sd s n)]) ∧ w'.ownsRow w.heap.size 3 1 v n (enc (DL m s n)) ∧ Below w.heap.size w w' := by
  obtain ⟨i0, hi, hz0, hz1, hz2⟩ := info_parts info3
  have HD := Lib.hid (fun k W => refdraw_any m s h0 h1 k W)
  have hs0 : Hid (s = sd s 0) := (sd_zero s).symm
  go_enter Try.func14, Try.ntmps14
  go_wp2
  go_loopw [2, 8, 9] (fun q v i wr => ∃ k : Nat, k ≤ n ∧ i = .int .i64 k ∧ q = .int .u64 (sd s k) ∧ Hid (wr.ownsRow w.heap.size 3 1 v k (enc (DL m s k))) ∧ Hid (Below w.heap.size w wr)) (fun _ _ i _ => n - (intOf i).toNat)
  case atStart => exact ⟨0, by omega, rfl, by rw [sd_zero], by rw [DL_zero]; exact World.ownsRow_nil _ _ _ _, Below.refl _ _⟩
  case round =>
    obtain ⟨k, hk, rfl, rfl, HO, HB⟩ := hrel
    by_cases hlt : k < n
    · have g1 : (k : Int) < (n : Int) := by omega
      have hbs : w.heap.size ≤ (wr.alloc (.cells #[.int .i64 (dr m s k)] 3)).heap.size := by have := HB.out.size; simp; omega
      have HN : Hid (∀ (v' : Value) (w1 : World), w1.ownsRow w.heap.size 3 1 v' (k + 1) (enc (DL m s k) ++ [.int .i64 (dr m s k)]) → w1.ownsRow w.heap.size 3 1 v' (k + 1) (enc (DL m s (k + 1)))) := fun v' w1 h => by
        rw [DL_succ, enc_app]; exact h
      go_wp2_with fail
      refine (HD.out k _).mono ?_; rintro e w1 ⟨rfl, rfl⟩
      generalize dr m s k = x at *
      go_wp2_with (at_builtin; refine wpList_append_own _ rfl _ _ 29 rfl w.heap.size 3 i0 (.int .i64 0) 1 8 Try.underlying29 hi hz0 hz1 hz2 rfl (by decide) _ k _ rfl (HO.out.alloc _) ⟨World.heap _ |>.size, 0, none⟩ 1 1 [.int .i64 x] rfl rfl (cell_one_new _ _ _) (by simp [Value.oneCell']) (by unfold maxLen; omega) (by omega) hbs ?_)
      intro v' w5 ho' hg' _
      have hrow := HO.out.lt
      have HO2 := Lib.hid (HN.out v' w5 ho')
      have HB2 := Lib.hid ((HB.out.alloc HB.out.size (.cells #[.int .i64 x] 3)).grown hg' hbs (fun kk hkk => (hrow kk hkk).1))
      clear ho' hg' HN HO HB hrow
      go_wp2
      go_roundw
      case rel => exact ⟨k + 1, by omega, by go_num, rfl, HO2, HB2⟩
      case measure => simp [intOf]; omega
    · obtain rfl : k = n := by omega
      go_wp2
      go_ret2
      exact ⟨_, rfl, HO.out, HB.out⟩
end Go.Proofs.Ytnmolpogmkiikaa
