/-
  What Is, Same, anyNegative and the reference's Is answer.
-/
import Derived.Test.YtaobaiifbmhegaaNtRise
import Derived.Test.YtaobaiifbmhegaaNtMath
namespace Go.Proofs.Ytaobaiifbmhegaa.nt
open Go.RowKit
set_option linter.unusedVariables false

/-- a list of numbers in memory -/
def Ints (W : World) (a : Option Addr) (l : List Int) : Prop := ∀ j, j < l.length → ∃ b o, a = some ⟨b, o, none⟩ ∧ b < W.heap.size ∧ W.cell? ⟨b, o + j, none⟩ = some (.int .i64 (nth l j))
theorem Ints.keep {W W1 : World} {a : Option Addr} {l : List Int} (h : Ints W a l) (hb : Below W.heap.size W W1) : Ints W1 a l := fun j hj => by
  obtain ⟨b, o, h1, h2, h3⟩ := h j hj
  exact ⟨b, o, h1, Nat.lt_of_lt_of_le h2 hb.size, (hb.cell (p := ⟨b, o + j, none⟩) h2).trans h3⟩
theorem Own.ints {B g n cap : Nat} {l : List Int} {w0 wr : World} (h : Own B g n cap l w0 wr) : Ints wr (some ⟨g, 0, none⟩) l := fun j hj => by
  obtain ⟨cur, hg⟩ := h.blk
  exact ⟨g, 0, rfl, lt_hp hg, by rw [Nat.zero_add]; exact h.cell j (by rw [h.1] at hj; exact hj)⟩
def NoNeg (l : List Int) : Prop := ∀ j, j < l.length → 0 ≤ nth l j
def Idx (l : List Int) (w : World) (e : Ending) (w' : World) : Prop := ∃ n : Int, e = .returned (.int .i64 n) ∧ w = w' ∧ (0 ≤ n ↔ ¬ NoNeg l)
end Go.Proofs.Ytaobaiifbmhegaa.nt
