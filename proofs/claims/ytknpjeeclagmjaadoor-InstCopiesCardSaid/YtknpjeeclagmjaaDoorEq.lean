/-
  What slices.Equal of two lists of numbers answers.
-/
import Derived.Test.YtknpjeeclagmjaaDoorSame2
import Derived.BigQuiet
import Derived.Deep.QuietTactic
namespace Go.Proofs.YtknpjeeclagmjaaDoor
open Go.RowKit
set_option linter.unusedVariables false
theorem bl_dN {B : Nat} {a w : World} (h : Below B a w) (n : Nat) : Below B a (w.drewN n) := ⟨h.os, h.tape, h.output, h.size, h.block⟩
theorem eq_of_gets {l l' : List Int} (h : l.length = l'.length) (hg : ∀ j, j < l.length → l[j]?.getD 0 = l'[j]?.getD 0) : l = l' := by
  apply List.ext_getElem h
  intro i h1 h2
  have := hg i h1
  rw [List.getElem?_eq_getElem h1, List.getElem?_eq_getElem h2] at this
  exact this
set_option maxHeartbeats 2000000 in
theorem eqi_any (b : Bool) (l l' : List Int) (hb : b = true ↔ l = l') (a a' : Option Addr) (c c' : Nat) (w : World) (h1 : Ints w a l) (h2 : Ints w a' l') (l1 : l.length ≤ 1000) (l2 : l'.length ≤ 1000) :
    Calls Tryd.prog 31 #[.slice a l.length c, .slice a' l'.length c'] w fun e w' => e = .returned (.bool b) ∧ Below w.heap.size w w' := by
  by_cases hl : l.length = l'.length
  · obtain ⟨n, hn⟩ : ∃ n, l.length = n := ⟨_, rfl⟩
    have hn2 : l'.length = n := by omega
    have HB := Lib.hid hb
    have H1 := Lib.hid h1
    have H2 := Lib.hid h2
    have HL := Lib.hid (show l.length = n ∧ l'.length = n from ⟨hn, hn2⟩)
    rw [hn, hn2]
    have l1 : n ≤ 1000 := by omega
    clear hb h1 h2 hl hn hn2 l2
    go_enter Tryd.func31, Tryd.ntmps31
    go_wp2
    go_loopw [13] (fun i wr => ∃ k : Nat, k ≤ n ∧ i = .int .i64 k ∧ Hid (∀ j, j < k → l[j]?.getD 0 = l'[j]?.getD 0) ∧ Hid (Below w.heap.size w wr)) (fun i _ => n - (intOf i).toNat)
    case atStart => exact ⟨0, by omega, rfl, Lib.hid (fun j hj => by omega), Lib.hid (Below.refl _ _)⟩
    case round =>
      obtain ⟨k, hk, rfl, HE, B⟩ := hrel
      by_cases hlt : k < n
      · have h3 : (k : Int) < (n : Int) := by omega
        obtain ⟨b1, o1, rfl, hb1, d1⟩ := (H1.out.keep B.out) k (by have := HL.out; omega)
        obtain ⟨b2, o2, rfl, hb2, d2⟩ := (H2.out.keep B.out) k (by have := HL.out; omega)
        obtain ⟨x, hx⟩ : ∃ x, l[k]?.getD 0 = x := ⟨_, rfl⟩
        obtain ⟨y, hy⟩ : ∃ y, l'[k]?.getD 0 = y := ⟨_, rfl⟩
        rw [hx] at d1
        rw [hy] at d2
        by_cases hxy : x = y
        · subst hxy
          have hq : ((x : Int) != x) = false := by simp
          have HN := Lib.hid (show ∀ j, j < k + 1 → l[j]?.getD 0 = l'[j]?.getD 0 from fun j hj => by
            rcases Nat.lt_or_ge j k with q | q
            · exact HE.out j q
            · obtain rfl : j = k := by omega
              rw [hx, hy])
          clear hx hy HE
          go_wp2
          go_quiet (fail)
          go_wp2
          go_roundw
          case rel => exact ⟨k + 1, by omega, by go_num, HN, Lib.hid (bl_dN B.out _)⟩
          case measure => simp [intOf]; omega
        · have hq : ((x : Int) != y) = true := by simpa using hxy
          have hbf : b = false := by
            cases b
            · rfl
            · exact absurd (by rw [← hx, ← hy, HB.out.1 rfl]) hxy
          subst hbf
          clear hx hy hxy HE HB
          go_wp2
          go_quiet (fail)
          go_wp2
          go_ret
          exact ⟨rfl, bl_dN B.out _⟩
      · have h3 : ¬ (k : Int) < (n : Int) := by omega
        have hbt : b = true := HB.out.2 (eq_of_gets (by have := HL.out; omega) (fun j hj => HE.out j (by have := HL.out; omega)))
        subst hbt
        clear HB
        go_wp2
        go_ret
        exact ⟨rfl, B.out⟩
  · have hbf : b = false := by
      cases b
      · rfl
      · exact absurd (by rw [hb.1 rfl]) hl
    subst hbf
    have h3 : ((l.length : Int) != (l'.length : Int)) = true := by simp; omega
    clear hb hl h1 h2
    go_enter Tryd.func31, Tryd.ntmps31
    go_wp2
    go_ret
    exact ⟨rfl, Below.refl _ _⟩
end Go.Proofs.YtknpjeeclagmjaaDoor
