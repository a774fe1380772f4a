/-
  What the reference's Times answers.
-/
import Derived.Test.YtdeggnefbkcegaaArRef
namespace Go.Proofs.Ytdeggnefbkcegaa.ar
open Go.RowKit
set_option linter.unusedVariables false


/-- nine parts, told by a function -/
def arr (f : Nat → Int) : Array Value := #[.int .i64 (f 0), .int .i64 (f 1), .int .i64 (f 2), .int .i64 (f 3), .int .i64 (f 4), .int .i64 (f 5), .int .i64 (f 6), .int .i64 (f 7), .int .i64 (f 8)]
theorem arr_at (f : Nat → Int) (k : Nat) (h : k < 9) : (arr f)[k]? = some (.int .i64 (f k)) := by
  unfold arr
  rcases k with _ | _ | _ | _ | _ | _ | _ | _ | _ | k
  all_goals first | rfl | omega
theorem arr_congr {f g : Nat → Int} (h : ∀ j, f j = g j) : arr f = arr g := by rw [show f = g from funext h]
theorem arr_set (f : Nat → Int) (k : Nat) (v : Int) (h : k < 9) : (arr f).setIfInBounds k (.int .i64 v) = arr (fun j => if j = k then v else f j) := by
  unfold arr
  rcases k with _ | _ | _ | _ | _ | _ | _ | _ | _ | k
  all_goals first | (simp; done) | omega
theorem arr_dg (z : Nat) : arr (dg z) = bgA z := rfl
structure BT (w wr : World) (x y : Nat) (f : Nat → Int) : Prop where
  ba : wr.heap[w.heap.size]? = some (.cells (bgA x) 76 (0, 0))
  bb : wr.heap[w.heap.size + 1]? = some (.cells (bgA y) 76 (0, 0))
  br : wr.heap[w.heap.size + 1 + 1]? = some (.cells #[.int .i64 0, .int .i64 0, .int .i64 0, .int .i64 0, .int .i64 0, .int .i64 0, .int .i64 0, .int .i64 0, .int .i64 0] 76 (0, 0))
  bc : wr.heap[w.heap.size + 1 + 1 + 1]? = some (.cells (arr f) 76 (0, 0))
  bl : Below w.heap.size w wr
theorem BT.ca {w wr : World} {x y : Nat} {f : Nat → Int} (h : BT w wr x y f) (j : Nat) (hj : j < 9) : wr.cell? ⟨w.heap.size, j, none⟩ = some (.int .i64 (dg x j)) := by rw [cell_of_row _ _ _ _ _ _ h.ba, bgA_at x j hj]
theorem BT.cb {w wr : World} {x y : Nat} {f : Nat → Int} (h : BT w wr x y f) (j : Nat) (hj : j < 9) : wr.cell? ⟨w.heap.size + 1, j, none⟩ = some (.int .i64 (dg y j)) := by rw [cell_of_row _ _ _ _ _ _ h.bb, bgA_at y j hj]
theorem BT.cc {w wr : World} {x y : Nat} {f : Nat → Int} (h : BT w wr x y f) (j : Nat) (hj : j < 9) : wr.cell? ⟨w.heap.size + 1 + 1 + 1, j, none⟩ = some (.int .i64 (f j)) := by rw [cell_of_row _ _ _ _ _ _ h.bc, arr_at f j hj]
theorem BT.fc {w wr : World} {x y : Nat} {f : Nat → Int} (h : BT w wr x y f) (j : Nat) : wr.frozen? ⟨w.heap.size + 1 + 1 + 1, j, none⟩ = false := frozen_of_row _ _ _ _ _ h.bc
theorem BT.start (w : World) (x y : Nat) : BT w ((((w.alloc (.cells #[.int .i64 (dg x 0), .int .i64 (dg x 1), .int .i64 (dg x 2), .int .i64 (dg x 3), .int .i64 (dg x 4), .int .i64 (dg x 5), .int .i64 (dg x 6), .int .i64 (dg x 7), .int .i64 (dg x 8)] 76)).alloc (.cells #[.int .i64 (dg y 0), .int .i64 (dg y 1), .int .i64 (dg y 2), .int .i64 (dg y 3), .int .i64 (dg y 4), .int .i64 (dg y 5), .int .i64 (dg y 6), .int .i64 (dg y 7), .int .i64 (dg y 8)] 76)).alloc (.cells #[.int .i64 0, .int .i64 0, .int .i64 0, .int .i64 0, .int .i64 0, .int .i64 0, .int .i64 0, .int .i64 0, .int .i64 0] 76)).alloc (.cells #[.int .i64 0, .int .i64 0, .int .i64 0, .int .i64 0, .int .i64 0, .int .i64 0, .int .i64 0, .int .i64 0, .int .i64 0] 76)) x y (fun j => dg (pp x y 0) j) := by
  have S := BL.start w x y 0
  refine ⟨S.ba, S.bb, S.br, ?_, S.bl⟩
  have e : arr (fun j => dg (pp x y 0) j) = prt 0 0 := by
    rw [arr_congr (g := fun _ => 0) (fun j => by rw [pp_zero, dg_zero]), prt_zero]; rfl
  rw [e]; exact S.bc
theorem BT.put {w wr : World} {x y : Nat} {f g : Nat → Int} (h : BT w wr x y f) (i : Nat) (hi : i < 9) (v : Int) (hg : ∀ j, (if j = i then v else f j) = g j) : BT w (wr.setCell ⟨w.heap.size + 1 + 1 + 1, i, none⟩ (.int .i64 v)) x y g := by
  refine ⟨?_, ?_, ?_, ?_, h.bl.setCell (by show _ ≤ _ + 1 + 1 + 1; omega) _⟩
  · rw [heap_setCell_other _ _ _ _ (by show _ ≠ _ + 1 + 1 + 1; omega)]; exact h.ba
  · rw [heap_setCell_other _ _ _ _ (by show _ ≠ _ + 1 + 1 + 1; omega)]; exact h.bb
  · rw [heap_setCell_other _ _ _ _ (by show _ ≠ _ + 1 + 1 + 1; omega)]; exact h.br
  · rw [heap_setCell_same _ _ _ _ _ _ h.bc, arr_set f i v hi, arr_congr hg]
theorem BT.drewN {w wr : World} {x y : Nat} {f : Nat → Int} (h : BT w wr x y f) (n : Nat) : BT w (wr.drewN n) x y f := ⟨h.ba, h.bb, h.br, h.bc, bl_dn h.bl n⟩
theorem BT.congr {w wr : World} {x y : Nat} {f g : Nat → Int} (h : BT w wr x y f) (hg : ∀ j, f j = g j) : BT w wr x y g := ⟨h.ba, h.bb, h.br, by rw [h.bc, arr_congr hg], h.bl⟩
theorem BT.out {w wr : World} {x y z : Nat} (h : BT w wr x y (fun j => dg z j)) :
    wr.cell? ⟨w.heap.size + 1 + 1 + 1, 0, none⟩ = some (.int .i64 (dg z 0)) ∧ wr.cell? ⟨w.heap.size + 1 + 1 + 1, 1, none⟩ = some (.int .i64 (dg z 1)) ∧ wr.cell? ⟨w.heap.size + 1 + 1 + 1, 2, none⟩ = some (.int .i64 (dg z 2)) ∧ wr.cell? ⟨w.heap.size + 1 + 1 + 1, 3, none⟩ = some (.int .i64 (dg z 3)) ∧ wr.cell? ⟨w.heap.size + 1 + 1 + 1, 4, none⟩ = some (.int .i64 (dg z 4)) ∧ wr.cell? ⟨w.heap.size + 1 + 1 + 1, 5, none⟩ = some (.int .i64 (dg z 5)) ∧ wr.cell? ⟨w.heap.size + 1 + 1 + 1, 6, none⟩ = some (.int .i64 (dg z 6)) ∧ wr.cell? ⟨w.heap.size + 1 + 1 + 1, 7, none⟩ = some (.int .i64 (dg z 7)) ∧ wr.cell? ⟨w.heap.size + 1 + 1 + 1, 8, none⟩ = some (.int .i64 (dg z 8)) ∧
    wr.cell? ⟨w.heap.size + 1 + 1, 0, none⟩ = some (.int .i64 0) ∧ wr.cell? ⟨w.heap.size + 1 + 1, 1, none⟩ = some (.int .i64 0) ∧ wr.cell? ⟨w.heap.size + 1 + 1, 2, none⟩ = some (.int .i64 0) ∧ wr.cell? ⟨w.heap.size + 1 + 1, 3, none⟩ = some (.int .i64 0) ∧ wr.cell? ⟨w.heap.size + 1 + 1, 4, none⟩ = some (.int .i64 0) ∧ wr.cell? ⟨w.heap.size + 1 + 1, 5, none⟩ = some (.int .i64 0) ∧ wr.cell? ⟨w.heap.size + 1 + 1, 6, none⟩ = some (.int .i64 0) ∧ wr.cell? ⟨w.heap.size + 1 + 1, 7, none⟩ = some (.int .i64 0) ∧ wr.cell? ⟨w.heap.size + 1 + 1, 8, none⟩ = some (.int .i64 0) ∧ (∀ j, wr.frozen? ⟨w.heap.size + 1 + 1, j, none⟩ = false) := by
  have R := fun j => cell_of_row wr _ j _ _ _ h.br
  exact ⟨h.cc 0 (by decide), h.cc 1 (by decide), h.cc 2 (by decide), h.cc 3 (by decide), h.cc 4 (by decide), h.cc 5 (by decide), h.cc 6 (by decide), h.cc 7 (by decide), h.cc 8 (by decide), R 0, R 1, R 2, R 3, R 4, R 5, R 6, R 7, R 8, fun j => frozen_of_row _ _ _ _ _ h.br⟩
/-- the relations of the two loops, behind names -/
def Outer (w : World) (x y : Nat) (t : Value) (wr : World) : Prop := ∃ i : Nat, i ≤ 4 ∧ t = .int .i64 i ∧ BT w wr x y (fun j => dg (pp x y i) j)
def Inner (w : World) (x y i : Nat) (s t : Value) (wr : World) : Prop := ∃ k : Nat, k ≤ 4 ∧ t = .int .i64 k ∧ s = .int .i64 (ov x y i k) ∧ BT w wr x y (fun j => fc x y i k j)
end Go.Proofs.Ytdeggnefbkcegaa.ar
