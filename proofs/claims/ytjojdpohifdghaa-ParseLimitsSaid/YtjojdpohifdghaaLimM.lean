/-
  ParseLimits: the texts that it writes.
-/
import Derived.Test.YtjojdpohifdghaaWr
import Derived.Test.YtjojdpohifdghaaPs
namespace Go.Proofs.Ytjojdpohifdghaa
open Go.RowKit
set_option linter.unusedVariables false
/-- place, error, room -/
def tstP : PRes → Int × Int × Int
  | .ok K N C wl vl cl => (0, 0, C)
  | .bad p e => (p, e, 0)
def decF (u : Nat) : ByteArray := if u = 0 then ⟨#[48]⟩ else ⟨(dzf 10 u).toArray⟩
theorem dec_f {u : Nat} (h : u < 10000000000) : dec u = decF u := by
  unfold dec decF dz
  rw [dzf_fuel u 10 u (lt_ten u) (by simpa using h)]
def wd1 : ByteArray := ⟨#[75, 78, 65, 80, 83, 65, 67, 75, 32]⟩
def wd2 : ByteArray := ⟨#[65, 83, 83, 73, 71, 78, 77, 69, 78, 84, 32]⟩
def wd3 : ByteArray := ⟨#[84, 83, 80, 32]⟩
def pre1 : ByteArray := ⟨#[75, 78, 65, 80, 83, 65, 67, 75, 32, 49, 32]⟩
def suf1 : ByteArray := ⟨#[32, 48, 32, 48]⟩
theorem lim1 : ∀ i : Fin 5, (tstP (PXX (wd1 ++ decF (62 + i)))).2.1 = (if (i : Nat) ≤ 2 then 6 else 5) ∧ ((i : Nat) ≤ 2 ∨ (tstP (PXX (wd1 ++ decF (62 + i)))).1 = 9) := by decide +kernel
theorem lim2 : ∀ i : Fin 5, (tstP (PXX (wd2 ++ decF (22 + i)))).2.1 = (if (i : Nat) ≤ 2 then 6 else 5) ∧ ((i : Nat) ≤ 2 ∨ (tstP (PXX (wd2 ++ decF (22 + i)))).1 = 11) := by decide +kernel
theorem lim3 : ∀ i : Fin 5, (tstP (PXX (wd3 ++ decF (22 + i)))).2.1 = (if (i : Nat) ≤ 2 then 6 else 5) ∧ ((i : Nat) ≤ 2 ∨ (tstP (PXX (wd3 ++ decF (22 + i)))).1 = 4) := by decide +kernel
theorem lim4 : ∀ i : Fin 5, (tstP (PXX (pre1 ++ decF (2147483645 + i) ++ suf1))).2.1 = (if (i : Nat) ≤ 2 then 0 else 5) ∧ ((i : Nat) ≤ 2 ∨ (tstP (PXX (pre1 ++ decF (2147483645 + i) ++ suf1))).1 = 11) ∧ (¬ (i : Nat) ≤ 2 ∨ (tstP (PXX (pre1 ++ decF (2147483645 + i) ++ suf1))).2.2 = 2147483645 + i) := by decide +kernel
theorem pap_any {w w' : World} {r : PRes} {e : Ending} (h : PaP w r e w') : ∃ (x y : Int) (d1 d2 d3 : Option Addr) (l1 l2 l3 c1 c2 c3 : Nat), e = .returned (.tuple #[.agg #[.int .i64 x, .int .i64 y, .int .i64 (tstP r).2.2, .slice d1 l1 c1, .slice d2 l2 c2, .slice d3 l3 c3], .int .i64 (tstP r).1, .int .i64 (tstP r).2.1]) ∧ Below w.heap.size w w' := by
  cases r with
  | ok K N C wl vl cl =>
    obtain ⟨v, rfl, hV, hB⟩ := h
    obtain ⟨wa, va, ca, wc, vc, cc, rfl, _⟩ := hV.ex
    exact ⟨_, _, _, _, _, _, _, _, _, _, _, rfl, hB⟩
  | bad p er =>
    obtain ⟨rfl, hB⟩ := h
    exact ⟨_, _, _, _, _, _, _, _, _, _, _, rfl, hB⟩
end Go.Proofs.Ytjojdpohifdghaa
