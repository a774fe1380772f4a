/-
  What the functions of the package arith (widen, plus, narrow, Add, Div, size, Gcd) and the law package's counts answer, function by function, for every int within its bounds.
-/
import Derived.Test.YteceibafagekiaaArNum
import Derived.WalkKit
import Derived.ProofKit
import Derived.Deep.QuietTactic
import Derived.BigQuiet
import Derived.WalkSpells
import Derived.WalkLawsBesides
import Derived.Deep.RegionHeld3
import Derived.Laws.Externs
import Derived.Laws.Pointers
import Derived.Lib.Hide
import Derived.Below
namespace Go.Proofs.Yteceibafagekiaa.ar
open Go.RowKit
set_option linter.unusedVariables false

theorem bcell {W w1 : World} (hb : Below W.heap.size W w1) : (∀ b o, b < W.heap.size → w1.cell? ⟨b, o, none⟩ = W.cell? ⟨b, o, none⟩) ∧ (∀ b o, b < W.heap.size → w1.frozen? ⟨b, o, none⟩ = W.frozen? ⟨b, o, none⟩) :=
  ⟨fun b o h => hb.cell (p := ⟨b, o, none⟩) h, fun b o h => hb.frozen (p := ⟨b, o, none⟩) h⟩

theorem bl_al {a w : World} (h : Below a.heap.size a w) (o : Obj) : Below a.heap.size a (w.alloc o) := h.alloc h.size o
theorem bl_tr {a w w' : World} (h : Below a.heap.size a w) (k : Below w.heap.size w w') : Below a.heap.size a w' := h.trans (k.mono h.size)
theorem bl_dn {B : Nat} {a w : World} (h : Below B a w) (n : Nat) : Below B a (w.drewN n) := ⟨h.os, h.tape, h.output, h.size, h.block⟩

/-- The borrow, under a name. -/
def bor (x y : Int) : Int := if x < y then 1 else 0
theorem bor_b (x y : Int) : 0 ≤ bor x y ∧ bor x y ≤ 1 := by unfold bor; split <;> decide
theorem ret_int {k : IntKind} {a b : Int} (h : a = b) : Ending.returned (.int k a) = .returned (.int k b) := by rw [h]
theorem gcd_step {x y g : Nat} (h : Hid (Nat.gcd x y = g)) : Hid (Nat.gcd y (x % y) = g) := by
  have h1 := h.out
  rw [Nat.gcd_comm, ← Nat.gcd_rec, Nat.gcd_comm] at *
  exact h1
theorem gcdv_12 : gcdv (-12) 18 = 6 := by decide
end Go.Proofs.Yteceibafagekiaa.ar
