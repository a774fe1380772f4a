/-
  What the reference's same and Same answer of lists and problems that lie in memory.
-/
import Derived.Test.YtjlaankgfpjeeaaInRefC
import Derived.Deep.QuietTactic
import Derived.BigQuiet
namespace Go.Proofs.Ytjlaankgfpjeeaa.ip
open Go.RowKit
set_option linter.unusedVariables false

theorem list_eq {l m : List Int} (hl : l.length = m.length) (h : ∀ j, j < l.length → l[j]?.getD 0 = m[j]?.getD 0) : l = m := by
  refine List.ext_getElem hl (fun j h1 h2 => ?_)
  have e := h j h1
  rw [List.getElem?_eq_getElem h1, List.getElem?_eq_getElem h2] at e
  exact e
set_option maxHeartbeats 1000000 in
theorem lists_any (b : Bool) (l m : List Int) (hb : b = true ↔ l = m) (la ma : Option Addr) (lc mc : Nat) (w : World) (hl : Ints w la l) (hm : Ints w ma m) (l1 : l.length ≤ 1000) (l2 : m.length ≤ 1000) :
    Calls Try.prog 16 #[.slice la l.length lc, .slice ma m.length mc] w fun e w' => e = .returned (.bool b) ∧ Below w.heap.size w w' := by
  have HL := Lib.hid hl
  have HM := Lib.hid hm
  have HB := Lib.hid hb
  clear hl hm hb
  by_cases hlen : l.length = m.length
  · rw [← hlen]
    have HE := Lib.hid hlen
    clear hlen l2
    go_enter Try.func16, Try.ntmps16
    go_wp2
    go_loopw [5] (fun i wr => ∃ k : Nat, k ≤ l.length ∧ i = .int .i64 k ∧ Hid (∀ j, j < k → l[j]?.getD 0 = m[j]?.getD 0) ∧ ∃ n, wr = w.drewN n) (fun i _ => l.length - (intOf i).toNat)
    case atStart => exact ⟨0, by omega, rfl, fun j hj => absurd hj (by omega), 0, rfl⟩
    case round =>
      obtain ⟨k, hk, rfl, HS, n, rfl⟩ := hrel
      by_cases hlt : k < l.length
      · obtain ⟨b1, o1, rfl, hb1, hc1⟩ := HL.out k hlt
        obtain ⟨b2, o2, rfl, hb2, hc2⟩ := HM.out k (by rw [← HE.out]; exact hlt)
        have kb : (0 : Int) ≤ (k : Int) ∧ (k : Int) < (l.length : Int) := by omega
        by_cases hxy : l[k]?.getD 0 = m[k]?.getD 0
        · have HF : Hid (∀ j, j < k + 1 → l[j]?.getD 0 = m[j]?.getD 0) := fun j hj => by
            rcases Nat.lt_or_ge j k with h | h
            · exact HS.out j h
            · obtain rfl : j = k := by omega
              exact hxy
          generalize l[k]?.getD 0 = x at *
          generalize m[k]?.getD 0 = y at *
          subst hxy
          go_wp2
          go_quiet (fail)
          all_goals go_wp2
          all_goals
            go_roundw
            case rel => exact ⟨k + 1, by omega, by go_num, HF, _, rfl⟩
            case measure => simp [intOf]; omega
        · have hbf : b = false := by
            cases b
            · rfl
            · exact absurd (by rw [HB.out.1 rfl]) hxy
          subst hbf
          generalize l[k]?.getD 0 = x at *
          generalize m[k]?.getD 0 = y at *
          go_wp2
          go_quiet (fail)
          all_goals go_wp2
          all_goals
            go_ret
            exact ⟨rfl, bl_dn (bl_dn (Below.refl _ _) _) _⟩
      · have hbt : b = true := HB.out.2 (list_eq HE.out (fun j hj => HS.out j (by omega)))
        subst hbt
        go_wp2
        go_ret
        exact ⟨rfl, bl_dn (Below.refl _ _) _⟩
  · have hbf : b = false := by
      cases b
      · rfl
      · exact absurd (by rw [HB.out.1 rfl]) hlen
    subst hbf
    have hne : ¬ (l.length : Int) = (m.length : Int) := by omega
    go_enter Try.func16, Try.ntmps16
    go_wp2
    go_ret
    exact ⟨rfl, Below.refl _ _⟩
end Go.Proofs.Ytjlaankgfpjeeaa.ip
