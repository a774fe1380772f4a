/-
  What the reference's Less answers.
-/
import Derived.Test.YtdeggnefbkcegaaArRef
namespace Go.Proofs.Ytdeggnefbkcegaa.ar
open Go.RowKit
set_option linter.unusedVariables false


theorem dg_inj {x y j : Nat} (h : dg x j = dg y j) : dgn x j = dgn y j := by unfold dg at h; omega
theorem dg_lt {x y j : Nat} (h : dg x j < dg y j) : dgn x j < dgn y j := by unfold dg at h; omega

structure B2 (w wr : World) (x y : Nat) : Prop where
  ba : wr.heap[w.heap.size]? = some (.cells (bgA x) 76 (0, 0))
  bb : wr.heap[w.heap.size + 1]? = some (.cells (bgA y) 76 (0, 0))
  bl : Below w.heap.size w wr
theorem B2.ca {w wr : World} {x y : Nat} (h : B2 w wr x y) (j : Nat) (hj : j < 9) : wr.cell? ⟨w.heap.size, j, none⟩ = some (.int .i64 (dg x j)) := by rw [cell_of_row _ _ _ _ _ _ h.ba, bgA_at x j hj]
theorem B2.cb {w wr : World} {x y : Nat} (h : B2 w wr x y) (j : Nat) (hj : j < 9) : wr.cell? ⟨w.heap.size + 1, j, none⟩ = some (.int .i64 (dg y j)) := by rw [cell_of_row _ _ _ _ _ _ h.bb, bgA_at y j hj]
theorem B2.start (w : World) (x y : Nat) : B2 w ((w.alloc (.cells #[.int .i64 (dg x 0), .int .i64 (dg x 1), .int .i64 (dg x 2), .int .i64 (dg x 3), .int .i64 (dg x 4), .int .i64 (dg x 5), .int .i64 (dg x 6), .int .i64 (dg x 7), .int .i64 (dg x 8)] 76)).alloc (.cells #[.int .i64 (dg y 0), .int .i64 (dg y 1), .int .i64 (dg y 2), .int .i64 (dg y 3), .int .i64 (dg y 4), .int .i64 (dg y 5), .int .i64 (dg y 6), .int .i64 (dg y 7), .int .i64 (dg y 8)] 76)) x y := by
  refine ⟨?_, ?_, bl_al (bl_al (Below.refl _ _) _) _⟩
  · exact heap_alloc2_old w _ _
  · exact heap_alloc2_new w _ _
theorem B2.drewN {w wr : World} {x y : Nat} (h : B2 w wr x y) (n : Nat) : B2 w (wr.drewN n) x y := ⟨h.ba, h.bb, bl_dn h.bl n⟩

/-- what stands when part j is looked at -/
def Looked (x y : Nat) (t : Value) : Prop := (∃ j : Nat, j < 9 ∧ t = .int .i64 j ∧ eqAbove x y (j + 1)) ∨ (t = .int .i64 (-1) ∧ x = y)
theorem looked_down {x y j : Nat} (hj : j < 9) (h : eqAbove x y (j + 1)) (hd : dg x j = dg y j) : Looked x y (.int .i64 ((j : Int) - 1)) := by
  have h1 := eqAbove_step h (dg_inj hd)
  rcases j with _ | j
  · exact Or.inr ⟨rfl, eqAbove_zero h1⟩
  · exact Or.inl ⟨j, by omega, by simp, h1⟩
theorem looked_lt {x y j : Nat} (h : eqAbove x y (j + 1)) (hd : dg x j < dg y j) : ltb x y = true := by unfold ltb; exact decide_eq_true (lt_of_digit h (dg_lt hd))
theorem looked_gt {x y j : Nat} (h : eqAbove x y (j + 1)) (hd : dg y j < dg x j) : ltb x y = false := by
  unfold ltb; have := lt_of_digit (x := y) (y := x) (show eqAbove y x (j + 1) from Eq.symm h) (dg_lt hd); exact decide_eq_false (by omega)
set_option maxRecDepth 100000 in
theorem less_any (x y : Nat) (hx : x < BB ^ 9) (hy : y < BB ^ 9) (w : World) :
    Calls Try.prog 44 #[.agg #[.int .i64 (dg x 0), .int .i64 (dg x 1), .int .i64 (dg x 2), .int .i64 (dg x 3), .int .i64 (dg x 4), .int .i64 (dg x 5), .int .i64 (dg x 6), .int .i64 (dg x 7), .int .i64 (dg x 8)], .agg #[.int .i64 (dg y 0), .int .i64 (dg y 1), .int .i64 (dg y 2), .int .i64 (dg y 3), .int .i64 (dg y 4), .int .i64 (dg y 5), .int .i64 (dg y 6), .int .i64 (dg y 7), .int .i64 (dg y 8)]] w fun e w' => e = .returned (.bool (ltb x y)) ∧ Below w.heap.size w w' := by
  have S := B2.start w x y
  have T := eqAbove_top hx hy
  have HT : Looked x y (.int .i64 8) := Or.inl ⟨8, by omega, rfl, T⟩
  clear hx hy T
  go_enter Try.func44, Try.ntmps44
  go_wp2_with fail
  go_loopw [5] (fun t wr => Looked x y t ∧ B2 w wr x y) (fun t _ => (intOf t + 1).toNat)
  case atStart => exact ⟨HT, S⟩
  case round =>
    obtain ⟨hl, hb⟩ := hrel
    clear S HT
    rcases hl with ⟨j, hj, rfl, he⟩ | ⟨rfl, hxy⟩
    · have fa := hb.ca j hj
      have fb := hb.cb j hj
      have k1 : (0 : Int) ≤ (j : Int) := by omega
      have k2 : (j : Int) < 9 := by omega
      have st := fun n => hb.drewN n
      have HE := Lib.hid he
      clear hb he
      by_cases hd : dg x j = dg y j
      · have H1 : (dg x j == dg y j) = true := by simpa using hd
        have H2 : (dg x j != dg y j) = false := by simpa using hd
        have HL : Looked x y (.int .i64 (j - 1)) := looked_down hj HE.out hd
        clear hd
        go_wp2
        go_quiet (fail)
        go_wp2
        go_roundw
        case rel => exact ⟨HL, st _⟩
        case measure => simp [intOf]
      · have H1 : (dg x j == dg y j) = false := by simpa using hd
        have H2 : (dg x j != dg y j) = true := by simpa using hd
        by_cases hdl : dg x j < dg y j
        · have R : ltb x y = true := looked_lt HE.out hdl
          have HR := Lib.hid R
          clear hd R
          go_wp2
          go_quiet (fail)
          go_wp2
          go_quiet (fail)
          go_wp2
          go_ret
          exact ⟨by rw [HR.out]; rfl, by simpa using (st _).bl⟩
        · have R : ltb x y = false := looked_gt HE.out (by omega)
          have HD : decide (dg x j < dg y j) = false := decide_eq_false hdl
          have HR := Lib.hid R
          clear hd R
          go_wp2
          go_quiet (fail)
          go_wp2
          go_quiet (fail)
          go_wp2
          go_ret
          exact ⟨by rw [HR.out]; rfl, by simpa using (st _).bl⟩
    · have R : ltb x y = false := by unfold ltb; rw [hxy]; simp
      have HR := Lib.hid R
      have bl := hb.bl
      clear hxy R hb
      go_wp2
      go_ret
      exact ⟨by rw [HR.out]; rfl, bl⟩
end Go.Proofs.Ytdeggnefbkcegaa.ar
