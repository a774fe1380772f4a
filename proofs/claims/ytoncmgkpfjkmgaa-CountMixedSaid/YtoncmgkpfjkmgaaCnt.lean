/-
  A Step, whatever the act is about; counts() is true.
-/
import Derived.Test.YtoncmgkpfjkmgaaNw
import Derived.LoopN
namespace Go.Proofs.Ytoncmgkpfjkmgaa
open Go.RowKit Go.MuLone
set_option linter.unusedVariables false
/-- what a Step makes of an act (nx, ac, lf) where z are at work -/
def stN (nx ac z : Int) : Int := if nx = 0 then (if z ≤ 1 then 2 else 1) else if nx = 1 then (if z = ac then 2 else 0) else nx
def stA (nx ac z : Int) : Int := if nx = 0 then z else ac
def stL (nx ac z : Int) (lf : Bool) : Bool := if nx = 1 then decide (z = ac) else lf
def stZ (nx ac z : Int) : Int := if nx = 1 ∧ z = ac then z - 1 else z
def stS (nx : Int) : Int := if nx = 2 then 0 else 1
attribute [irreducible] stN stA stL stZ stS
theorem Af.mk0 {p q g b base : Nat} {l : List Int} {s nx ac : Int} {lf : Bool} {w : World} (h : St q g b base l s w) (ha : Ac p q nx ac lf w) : Af p q g b base l s nx ac lf w w := ⟨h, ha, ha.ne h, Tw.refl _ _⟩
theorem step_gen (p q g b : Nat) (y z s nx ac : Int) (lf : Bool) (hn : nx = 0 ∨ nx = 1 ∨ nx = 2) (a0 : 0 ≤ ac) (a1 : ac ≤ 1000) (s0 : 0 ≤ s) (s1 : s ≤ 1000000) (w : World) (h : St q g b 1 [0, y, z, 0] s w) (ha : Ac p q nx ac lf w) :
    Calls Try.prog 16 #[.pointer (some ⟨p, 0, none⟩)] w fun e w' => e = .returned (.bool (stN nx ac z == 2)) ∧ Af p q g b 1 [0, y, stZ nx ac z, 0] (s + stS nx) (stN nx ac z) (stA nx ac z) (stL nx ac z lf) w w' := by
  unfold stN stA stL stZ stS
  rcases hn with rfl | rfl | rfl
  · refine (step_look p q g b 1 [0, y, z, 0] s z ac (if z ≤ 1 then 2 else 1) lf (n42 y z) rfl s0 s1 w h ha).mono ?_
    rintro e w' ⟨rfl, f⟩
    simp
    exact f
  · by_cases hz : z = ac
    · subst hz
      have := step_swap p q g b 1 [0, y, z, 0] s z z 2 lf true (n42 y z) (by simp) rfl a0 a1 s0 s1 w h ha
      rw [sw_yes] at this
      refine this.mono ?_
      rintro e w' ⟨rfl, f⟩
      simp
      exact f
    · have := step_swap p q g b 1 [0, y, z, 0] s z ac 0 lf false (n42 y z) (by simp [hz]) rfl a0 a1 s0 s1 w h ha
      rw [sw_no _ _ _ hz] at this
      refine this.mono ?_
      rintro e w' ⟨rfl, f⟩
      simp [hz]
      exact f
  · refine (step_overA p q ac lf w ha).mono ?_
    rintro e w' ⟨rfl, rfl⟩
    simp
    exact Af.mk0 h ha
theorem st_00 (z : Int) (h : 1 < z) : stN 0 0 z = 1 ∧ stA 0 0 z = z ∧ (∀ lf, stL 0 0 z lf = lf) ∧ stZ 0 0 z = z := by
  unfold stN stA stL stZ; simp; omega
set_option maxHeartbeats 8000000 in
theorem counts_any (w : World) : Calls Try.prog 11 #[] w fun e w' => e = .returned (.bool true) ∧ Below w.heap.size w w' := by
  have F := Lib.hid (fresh_any 1 2 (by omega) (by omega) (by omega) w)
  go_enter Try.func11, Try.ntmps11
  go_wp2_with fail
  refine F.out.mono ?_; rintro e w1 ⟨q, g, b, rfl, hq, hg, hb, st, bl⟩
  have G := Lib.hid (show w.heap.size ≤ q ∧ w.heap.size ≤ g ∧ w.heap.size ≤ b from ⟨hq, hg, hb⟩)
  have S := Lib.hid st
  have B := Lib.hid bl
  clear hq hg hb st bl F
  go_wp2_with fail
  refine (leave_any q _).mono ?_; rintro e w2 ⟨p1, rfl, hp, ha, hb⟩
  have P1 := Lib.hid (Nat.le_trans B.out.size hp)
  have S := Lib.hid (S.out.keep (Tw.of (S := []) hb) (by simp) (by simp) (by simp))
  have A1 := Lib.hid ha
  have B := Lib.hid (bl_tr B.out hb)
  clear hp ha hb
  go_wp2_with fail
  refine (leave_any q _).mono ?_; rintro e w3 ⟨p2, rfl, hp, ha, hb⟩
  have P2 := Lib.hid (Nat.le_trans B.out.size hp)
  have S := Lib.hid (S.out.keep (Tw.of (S := []) hb) (by simp) (by simp) (by simp))
  have NE := Lib.hid (show p1 ≠ p2 by have := lt_hp A1.out; omega)
  have A1 := Lib.hid (A1.out.keep (Tw.of (S := []) hb) (by simp))
  have A2 := Lib.hid ha
  have B := Lib.hid (bl_tr B.out hb)
  clear hp ha hb
  go_wp2_with fail
  refine wp_loop_rounds 5 ?_
  rw [rounds_succ]
  go_wp2_with fail
  refine (step_look p1 q g b 1 [0, 1, 2, 0] 2 2 0 1 false (n42 1 2) (by decide) (by omega) (by omega) _ S.out A1.out).mono ?_; rintro e wx ⟨rfl, f⟩
  rw [show ((2 : Int) + 1) = 3 from rfl] at f
  have So := S
  have S := Lib.hid f.st
  have B := Lib.hid (f.tw.below B.out (by intro i hi; simp at hi; have := G.out; have := P1.out; omega) B.out.size)
  have A2 := Lib.hid (A2.out.keep f.tw (by have h1 := NE.out; have h2 := (A2.out.ne So.out); simp; omega))
  have A1 := Lib.hid f.ac
  clear f So
  go_wp2_with fail
  refine (step_look p2 q g b 1 [0, 1, 2, 0] 3 2 0 1 false (n42 1 2) (by decide) (by omega) (by omega) _ S.out A2.out).mono ?_; rintro e wx ⟨rfl, f⟩
  rw [show ((3 : Int) + 1) = 4 from rfl] at f
  have So := S
  have S := Lib.hid f.st
  have B := Lib.hid (f.tw.below B.out (by intro i hi; simp at hi; have := G.out; have := P2.out; omega) B.out.size)
  have A1 := Lib.hid (A1.out.keep f.tw (by have h1 := NE.out; have h2 := (A1.out.ne So.out); simp; omega))
  have A2 := Lib.hid f.ac
  clear f So
  go_wp2_with fail
  rw [rounds_succ]
  go_wp2_with fail
  refine (step_swap p1 q g b 1 [0, 1, 2, 0] 4 2 2 2 false true (n42 1 2) (by decide) (by decide) (by omega) (by omega) (by omega) (by omega) _ S.out A1.out).mono ?_; rintro e wx ⟨rfl, f⟩
  rw [sw_yes, show ((4 : Int) + 1) = 5 from rfl, show ((2 : Int) - 1) = 1 from rfl] at f
  have So := S
  have S := Lib.hid f.st
  have B := Lib.hid (f.tw.below B.out (by intro i hi; simp at hi; have := G.out; have := P1.out; omega) B.out.size)
  have A2 := Lib.hid (A2.out.keep f.tw (by have h1 := NE.out; have h2 := (A2.out.ne So.out); simp; omega))
  have A1 := Lib.hid f.ac
  clear f So
  go_wp2_with fail
  refine (step_swap p2 q g b 1 [0, 1, 1, 0] 5 1 2 0 false false (n42 1 1) (by decide) (by decide) (by omega) (by omega) (by omega) (by omega) _ S.out A2.out).mono ?_; rintro e wx ⟨rfl, f⟩
  rw [sw_no _ _ _ (by decide), show ((5 : Int) + 1) = 6 from rfl] at f
  have So := S
  have S := Lib.hid f.st
  have B := Lib.hid (f.tw.below B.out (by intro i hi; simp at hi; have := G.out; have := P2.out; omega) B.out.size)
  have A1 := Lib.hid (A1.out.keep f.tw (by have h1 := NE.out; have h2 := (A1.out.ne So.out); simp; omega))
  have A2 := Lib.hid f.ac
  clear f So
  go_wp2_with fail
  rw [rounds_succ]
  go_wp2_with fail
  refine (step_overA p1 q 2 true _ A1.out).mono ?_; rintro e wx ⟨rfl, rfl⟩
  go_wp2_with fail
  refine (step_look p2 q g b 1 [0, 1, 1, 0] 6 1 2 2 false (n42 1 1) (by decide) (by omega) (by omega) _ S.out A2.out).mono ?_; rintro e wx ⟨rfl, f⟩
  rw [show ((6 : Int) + 1) = 7 from rfl] at f
  have So := S
  have S := Lib.hid f.st
  have B := Lib.hid (f.tw.below B.out (by intro i hi; simp at hi; have := G.out; have := P2.out; omega) B.out.size)
  have A1 := Lib.hid (A1.out.keep f.tw (by have h1 := NE.out; have h2 := (A1.out.ne So.out); simp; omega))
  have A2 := Lib.hid f.ac
  clear f So
  go_wp2_with fail
  rw [rounds_succ]
  go_wp2_with fail
  refine (step_overA p1 q 2 true _ A1.out).mono ?_; rintro e wx ⟨rfl, rfl⟩
  go_wp2_with fail
  refine (step_overA p2 q 1 false _ A2.out).mono ?_; rintro e wx ⟨rfl, rfl⟩
  go_wp2_with fail
  rw [rounds_succ]
  go_wp2_with fail
  refine (over_any p1 q 2 2 true true rfl _ A1.out).mono ?_; rintro e wx ⟨rfl, rfl⟩
  go_wp2_with fail
  refine (over_any p2 q 2 1 false true rfl _ A2.out).mono ?_; rintro e wx ⟨rfl, rfl⟩
  go_wp2_with fail
  refine (left_any p1 q 2 2 true _ A1.out).mono ?_; rintro e wx ⟨rfl, rfl⟩
  go_wp2_with fail
  refine (left_any p2 q 2 1 false _ A2.out).mono ?_; rintro e wx ⟨rfl, rfl⟩
  go_wp2_with fail
  refine (workingN_any q g b 1 [0, 1, 1, 0] 7 (by omega) (by omega) _ S.out).mono ?_; rintro e wx ⟨rfl, f1, f2⟩
  rw [show (1 : Nat) + 1 = 2 from rfl, n42]
  have S := Lib.hid f1
  have B := Lib.hid (f2.below B.out (by intro i hi; simp at hi; have := G.out; omega) B.out.size)
  clear f1 f2
  go_wp2_with fail
  refine (openN_any q g b 1 [0, 1, 1, 0] (7 + 1) (by omega) (by omega) _ S.out).mono ?_; rintro e wx ⟨rfl, f1, f2⟩
  rw [n41]
  have B := Lib.hid (f2.below B.out (by intro i hi; simp at hi; have := G.out; omega) B.out.size)
  clear f1 f2 S A1 A2
  go_wp2
  go_ret
  exact ⟨rfl, B.out⟩
end Go.Proofs.Ytoncmgkpfjkmgaa
