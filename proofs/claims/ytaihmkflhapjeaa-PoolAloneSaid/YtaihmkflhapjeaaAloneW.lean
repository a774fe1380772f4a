/-
  PoolAlone: the walk, for every number.
-/
import Derived.Test.YtaihmkflhapjeaaAloneL
namespace Go.Proofs.Ytaihmkflhapjeaa
open Go.RowKit Go.MuLone
set_option linter.unusedVariables false
theorem poolAlone_walk (z : Int) (L : List Int) (a : Option Addr) (m c : Nat) (w : World) (h0 : (Lit.int .i64 z).wf = true) (hA : Arg 30 w a m c L) :
    Calls Try.prog 5 #[.int .i64 z, .slice a m c] w fun e w' => e = .returned (.bool true) ∧ Below w.heap.size w w' := by
  have h1 := (u64_bd z).1
  have h2 : 0 ≤ IntKind.u64.wrap z % 30 := Int.emod_nonneg _ (by omega)
  have h3 : IntKind.u64.wrap z % 30 < 30 := Int.emod_lt_of_pos _ (by omega)
  obtain ⟨r, hr⟩ := Int.eq_ofNat_of_zero_le h2
  exact alone_any z _ (r + 1) r rfl h1 hr (by omega) rfl a m c L w hA
end Go.Proofs.Ytaihmkflhapjeaa
