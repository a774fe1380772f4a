/-
  What slices.EqualFunc of two lists of lists, by slices.Equal, answers.
-/
import Derived.Test.YtknpjeeclagmjaaDoorEq
namespace Go.Proofs.YtknpjeeclagmjaaDoor
open Go.RowKit
set_option linter.unusedVariables false
theorem eq_of_rows {l l' : List (List Int)} (h : l.length = l'.length) (hg : ∀ j, j < l.length → l[j]?.getD [] = l'[j]?.getD []) : l = l' := by
  apply List.ext_getElem h
  intro i h1 h2
  have := hg i h1
  rw [List.getElem?_eq_getElem h1, List.getElem?_eq_getElem h2] at this
  exact this
set_option maxHeartbeats 2000000 in
theorem eqf_any (b : Bool) (l l' : List (List Int)) (hb : b = true ↔ l = l') (a a' : Option Addr) (c c' : Nat) (w : World) (h1 : Rws w a l) (h2 : Rws w a' l') (l1 : l.length ≤ 1000) (l2 : l'.length ≤ 1000) :
    Calls Tryd.prog 32 #[.slice a l.length c, .slice a' l'.length c', .func (.func 31) #[] #[]] w fun e w' => e = .returned (.bool b) ∧ Below w.heap.size w w' := by
  by_cases hl : l.length = l'.length
  · obtain ⟨n, hn⟩ : ∃ n, l.length = n := ⟨_, rfl⟩
    have hn2 : l'.length = n := by omega
    have HB := Lib.hid hb
    have H1 := Lib.hid h1
    have H2 := Lib.hid h2
    have HL := Lib.hid (show l.length = n ∧ l'.length = n from ⟨hn, hn2⟩)
    rw [hn, hn2]
    have l1 : n ≤ 1000 := by omega
    clear hb h1 h2 hl hn hn2 l2
    go_enter Tryd.func32, Tryd.ntmps32
    go_wp2
    go_loopw [17] (fun i wr => ∃ k : Nat, k ≤ n ∧ i = .int .i64 k ∧ Hid (∀ j, j < k → l[j]?.getD [] = l'[j]?.getD []) ∧ Hid (Below w.heap.size w wr)) (fun i _ => n - (intOf i).toNat)
    case atStart => exact ⟨0, by omega, rfl, Lib.hid (fun j hj => by omega), Lib.hid (Below.refl _ _)⟩
    case round =>
      obtain ⟨k, hk, rfl, HE, B⟩ := hrel
      by_cases hlt : k < n
      · have h3 : (k : Int) < (n : Int) := by omega
        obtain ⟨b1, o1, a1, c1, rfl, hb1, d1, r1, m1⟩ := (H1.out.keep B.out) k (by have := HL.out; omega)
        obtain ⟨b2, o2, a2, c2, rfl, hb2, d2, r2, m2⟩ := (H2.out.keep B.out) k (by have := HL.out; omega)
        obtain ⟨x, hx⟩ : ∃ x, l[k]?.getD [] = x := ⟨_, rfl⟩
        obtain ⟨y, hy⟩ : ∃ y, l'[k]?.getD [] = y := ⟨_, rfl⟩
        rw [hx] at d1 r1 m1
        rw [hy] at d2 r2 m2
        by_cases hxy : x = y
        · subst hxy
          have CE := Lib.hid (eqi_any true x x (by simp) a1 a2 c1 c2 wr r1 r2 m1 m2)
          have HN := Lib.hid (show ∀ j, j < k + 1 → l[j]?.getD [] = l'[j]?.getD [] from fun j hj => by
            rcases Nat.lt_or_ge j k with q | q
            · exact HE.out j q
            · obtain rfl : j = k := by omega
              rw [hx, hy])
          clear hx hy HE r1 r2
          go_wp2_with fail
          refine CE.out.mono ?_; rintro e w2 ⟨rfl, hb4⟩
          have B2 := Lib.hid (bl_tr B.out hb4)
          clear d1 d2 hb4
          go_wp2
          go_roundw
          case rel => exact ⟨k + 1, by omega, by go_num, HN, B2⟩
          case measure => simp [intOf]; omega
        · have CE := Lib.hid (eqi_any false x y ⟨fun h => (by cases h), fun h => absurd h hxy⟩ a1 a2 c1 c2 wr r1 r2 m1 m2)
          have hbf : b = false := by
            cases b
            · rfl
            · exact absurd (by rw [← hx, ← hy, HB.out.1 rfl]) hxy
          subst hbf
          clear hx hy hxy HE HB r1 r2
          go_wp2_with fail
          refine CE.out.mono ?_; rintro e w2 ⟨rfl, hb4⟩
          have B2 := Lib.hid (bl_tr B.out hb4)
          clear d1 d2 hb4
          go_wp2
          go_ret
          exact ⟨rfl, B2.out⟩
      · have h3 : ¬ (k : Int) < (n : Int) := by omega
        have hbt : b = true := HB.out.2 (eq_of_rows (by have := HL.out; omega) (fun j hj => HE.out j (by have := HL.out; omega)))
        subst hbt
        clear HB
        go_wp2
        go_ret
        exact ⟨rfl, B.out⟩
  · have hbf : b = false := by
      cases b
      · rfl
      · exact absurd (by rw [hb.1 rfl]) hl
    subst hbf
    have h3 : ((l.length : Int) != (l'.length : Int)) = true := by simp; omega
    clear hb hl h1 h2
    go_enter Tryd.func32, Tryd.ntmps32
    go_wp2
    go_ret
    exact ⟨rfl, Below.refl _ _⟩
end Go.Proofs.YtknpjeeclagmjaaDoor
