/-
  slices.symMergeCmpFunc where both halves have more numbers than one.
-/
import Derived.Test.YtlhpiikpmmlpeaaDoorOdSymA
namespace Go.Proofs.YtlhpiikpmmlpeaaDoor.od
open Go.RowKit
set_option linter.unusedVariables false
variable {N : Nat}
structure Bnd (a m b mid s : Nat) : Prop where
  h1 : a ≤ s
  h2 : s ≤ m
  h3 : s ≤ mid
  h4 : m ≤ mid + m - s
  h5 : mid + m - s ≤ b
/-- what a merge leaves -/
def MrgP (K : Int → Int) (B g n cap : Nat) (l : List Int) (a b : Nat) (w0 : World) (e : Ending) (w' : World) : Prop := e = .returned (.tuple #[]) ∧ ∃ T, Sm T l a b ∧ Up K T a b ∧ OwS B g n cap T w0 w'
end Go.Proofs.YtlhpiikpmmlpeaaDoor.od
