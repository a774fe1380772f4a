/-
  What cut answers.
-/
import Derived.Test.YtlgmmddomhhobaaBlkN
import Derived.Deep.Cut
namespace Go.Proofs.Ytlgmmddomhhobaa
open Go.RowKit
set_option linter.unusedVariables false
theorem undef_neB (b : Bool) : ¬ (undef = Value.bool b) := by intro h; unfold undef at h; cases h
set_option maxRecDepth 100000 in
set_option maxHeartbeats 4000000 in
theorem cut_any (x : ByteArray) (n : Nat) (hn : n ≤ x.size) (hx : x.size ≤ 1000) (hall : ∀ j, j < n → kb x j = 2 ∨ kb x j = 3) (he : n < x.size → kb x n ≠ 2 ∧ kb x n ≠ 3) (w : World) :
    Calls Try.prog 12 #[.string x] w fun e w' => e = .returned (.string (x.extract 0 n)) ∧ w = w' := by
  have HA := Lib.hid hall
  have HE := Lib.hid he
  clear hall he
  go_enter Try.func12, Try.ntmps12
  go_wp2
  go_loopw [3] (fun iv wr => ∃ k, k ≤ n ∧ iv = .int .i64 (k : Nat) ∧ wr = w) (fun iv _ => x.size + 1 - (intOf iv).toNat)
  case atStart => exact ⟨0, by omega, rfl, rfl⟩
  case round =>
    obtain ⟨k, hk, rfl, rfl⟩ := hrel
    by_cases hlt : k < x.size
    · have h1 : (k : Int) < (x.size : Int) := by omega
      have hkb := kb_of hlt
      obtain ⟨c, hc⟩ : ∃ c : Nat, (x[k]'hlt).toNat = c := ⟨_, rfl⟩
      rw [hc] at hkb
      have hud := undef_neB
      by_cases hkn : k < n
      · have hd := HA.out k hkn
        rw [hkb] at hd
        have h3 : (48 ≤ (c : Int) ∧ (c : Int) ≤ 57) ∨ (65 ≤ (c : Int) ∧ (c : Int) ≤ 90) ∨ (97 ≤ (c : Int) ∧ (c : Int) ≤ 122) := by
          unfold kindv at hd
          split at hd
          · omega
          · split at hd
            · exact .inl (by assumption)
            · split at hd
              · rename_i q; exact .inr q
              · split at hd <;> omega
        clear hd hkb
        rcases h3 with ⟨q1, q2⟩ | ⟨q1, q2⟩ | ⟨q1, q2⟩
        · go_wp2
          go_roundw
          case rel => exact ⟨k + 1, by omega, by go_num, by first | rfl | trivial⟩
          case measure => simp [intOf]; omega
        · have q3 : 48 ≤ (c : Int) := by omega
          have q4 : ¬ (c : Int) ≤ 57 := by omega
          go_wp2
          go_roundw
          case rel => exact ⟨k + 1, by omega, by go_num, by first | rfl | trivial⟩
          case measure => simp [intOf]; omega
        · have q3 : 48 ≤ (c : Int) := by omega
          have q4 : ¬ (c : Int) ≤ 57 := by omega
          have q5 : 65 ≤ (c : Int) := by omega
          have q6 : ¬ (c : Int) ≤ 90 := by omega
          go_wp2
          go_roundw
          case rel => exact ⟨k + 1, by omega, by go_num, by first | rfl | trivial⟩
          case measure => simp [intOf]; omega
      · obtain rfl : k = n := by omega
        have hd := HE.out hlt
        rw [hkb] at hd
        have h3 : ¬ 48 ≤ (c : Int) ∨ (¬ (c : Int) ≤ 57 ∧ ¬ 65 ≤ (c : Int)) ∨ (¬ (c : Int) ≤ 90 ∧ ¬ 97 ≤ (c : Int)) ∨ ¬ (c : Int) ≤ 122 := by
          unfold kindv at hd
          split at hd
          · omega
          · split at hd
            · omega
            · split at hd
              · omega
              · omega
        clear hd hkb
        rcases h3 with q1 | ⟨q1, q2⟩ | ⟨q1, q2⟩ | q1
        · have q2 : ¬ 65 ≤ (c : Int) := by omega
          have q3 : ¬ 97 ≤ (c : Int) := by omega
          go_wp2
          go_ret
          exact ⟨rfl, rfl⟩
        · by_cases q3 : 48 ≤ (c : Int)
          · have q4 : ¬ 97 ≤ (c : Int) := by omega
            go_wp2
            go_ret
            exact ⟨rfl, rfl⟩
          · have q4 : ¬ 97 ≤ (c : Int) := by omega
            go_wp2
            go_ret
            exact ⟨rfl, rfl⟩
        · have q3 : 48 ≤ (c : Int) := by omega
          have q4 : ¬ (c : Int) ≤ 57 := by omega
          have q5 : 65 ≤ (c : Int) := by omega
          go_wp2
          go_ret
          exact ⟨rfl, rfl⟩
        · have q3 : 48 ≤ (c : Int) := by omega
          have q4 : ¬ (c : Int) ≤ 57 := by omega
          have q5 : 65 ≤ (c : Int) := by omega
          have q6 : ¬ (c : Int) ≤ 90 := by omega
          have q7 : 97 ≤ (c : Int) := by omega
          go_wp2
          go_ret
          exact ⟨rfl, rfl⟩
    · have h1 : ¬ (k : Int) < (x.size : Int) := by omega
      obtain rfl : k = n := by omega
      go_wp2
      go_ret
      exact ⟨rfl, rfl⟩
end Go.Proofs.Ytlgmmddomhhobaa
