/-
  An argument that is a list of bytes, opened.
-/
import Derived.Test.YtlgmmddomhhobaaBlanksL
import Derived.OpenShut
namespace Go.Proofs.Ytlgmmddomhhobaa
open Go.ChangeShapes Go.WideShapes Go.RowKit
set_option linter.unusedVariables false
theorem u8_wf {z : Int} (h : (Lit.int .u8 z).wf = true) : ∃ v : Nat, z = v ∧ v < 256 := by
  have h2 : 0 ≤ z ∧ z ≤ 255 := by
    simpa [Lit.wf, IntKind.min, IntKind.max, IntKind.signed, IntKind.bits] using h
  exact ⟨z.toNat, by omega, by omega⟩
theorem lt_of_cell {W : World} {b k : Nat} {v : Value} (h : W.cell? ⟨b, k, none⟩ = some v) : b < W.heap.size := by
  unfold World.cell? at h
  rcases Nat.lt_or_ge b W.heap.size with q | q
  · exact q
  · simp [Array.getElem?_eq_none q] at h
theorem open_byt {H : Type} {enc : TypeId × Value → H} {W : World} {n : Nat} {v : Value} {y : DataW H × List MemPlace} (h : DataW.trod enc Try.prog W 0 (fun _ => true) true n 33 [v] = some y) :
    ∃ (a : Option Addr) (m c : Nat), v = .slice a m c ∧ Byt W a m := by
  rcases open_ints Try.underlying33 Try.underlying5 (by kernel_rfl) h with ⟨hcs, _⟩ | ⟨x, m, c, zs, hcs, _, hl, hm, hz, _, hcell, hwf⟩
  · have e : v = .slice none 0 0 := by simpa using hcs
    exact ⟨_, _, _, e, fun i hi => by omega⟩
  · have e : v = .slice (some x) m c := by simpa using hcs
    simp only [if_true] at hz
    refine ⟨_, _, _, e, fun i hi => ?_⟩
    obtain ⟨b, off, rfl, hb⟩ := ints_at (zs := zs) hcell (by omega)
    have hb2 := hb i (by omega)
    have hmem : zs.getD i 0 ∈ zs := by
      have hi2 : i < zs.length := by omega
      rw [List.getD_eq_getElem?_getD, List.getElem?_eq_getElem hi2]
      exact List.getElem_mem hi2
    obtain ⟨v0, e0, hv⟩ := u8_wf (hwf _ hmem)
    rw [e0] at hb2
    exact ⟨b, off, v0, rfl, lt_of_cell hb2, hv, hb2⟩
end Go.Proofs.Ytlgmmddomhhobaa
