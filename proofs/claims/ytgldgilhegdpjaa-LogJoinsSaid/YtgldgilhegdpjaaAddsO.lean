/-
  A list of records that came in, opened; the walk of LogAdds.
-/
import Derived.Test.YtgldgilhegdpjaaAddsL
import Derived.OpenShut
import Derived.Deep.Slices
import Derived.Deep.Fields
import Derived.ChangeSame
namespace Go.Proofs.Ytgldgilhegdpjaa
open Go.ChangeShapes Go.WideShapes Go.Deep Go.RowKit
set_option linter.unusedVariables false
section
variable {H : Type} {enc : TypeId × Value → H} {P : Program} {w : World} {base : Nat} {spare : Nat → Bool} {held : Bool}
theorem open_slice_fields {t e : TypeId} {fs : Array Field} {fuel : Nat} {cs : List Value} {x : DataW H × List MemPlace} (ht : P.underlying t = some (.slice e)) (he : P.underlying e = some (.struct fs))
    (hone : oneCellFields P fs = true) (hC : P.cellsOf e = fs.size) (h : DataW.trod enc P w base spare held fuel t cs = some x) :
    (cs = [.slice none 0 0] ∧ x = (.nil, [])) ∨
    ∃ (a : Addr) (len cap m : Nat) (D : Nat → DataW H) (Pl : Nat → List MemPlace), cs = [.slice (some a) len cap] ∧ base ≤ a.block ∧ len ≤ cap ∧ cap ≤ maxLen ∧ m = (if spare a.block then cap else len) ∧
      x = (.slice ((List.range len).map D) ((List.range (m - len)).map fun j => D (len + j)), MemPlace.row a (m * fs.size) ++ (List.range m).flatMap Pl) ∧
      ∀ i, i < m → ∃ (ys : List (DataW H × List MemPlace)) (n : Nat), D i = .agg (ys.map (·.1)) ∧ Pl i = ys.flatMap (·.2) ∧ ys.length = fs.size ∧
        ∀ (j : Nat) (f : Field), fs[j]? = some f → ∃ (v : Value) (y : DataW H × List MemPlace), w.cell? (a.add (i * fs.size + j)) = some v ∧ ys[j]? = some y ∧ DataW.trod enc P w base spare held n f.type [v] = some y := by
  rcases open_slice ht h with h0 | ⟨a, len, cap, m, n, D, Pl, hcs, hb, hl, hm, hmm, hx, hi⟩
  · exact .inl h0
  · refine .inr ⟨a, len, cap, m, D, Pl, hcs, hb, hl, hm, hmm, by rw [hC] at hx; exact hx, fun i him => ?_⟩
    obtain ⟨cs', hc, ht'⟩ := hi i him
    rw [hC] at hc
    obtain ⟨ys, n', hn', hy, hlen, hyl, hf⟩ := DataW.trod_struct he ht'
    obtain ⟨_, hcl, hat⟩ := World.cells?_some hc
    simp only [Prod.mk.injEq] at hy
    refine ⟨ys, n', hy.1, hy.2, hyl, fun j f hj => ?_⟩
    obtain ⟨ho, hk⟩ := hone_of hone j f hj
    have hjl : j < fs.size := (Array.getElem?_eq_some_iff.1 hj).1
    have hcell := hat j hjl
    have hv : cs'[j]? = some (cs'[j]'(by omega)) := List.getElem?_eq_getElem (by omega)
    have h1 := hf j f hj
    rw [ho, hk] at h1
    have hone' : (cs'.drop j).take 1 = [cs'[j]'(by omega)] := by
      rw [List.drop_eq_getElem_cons (by omega)]
      rfl
    rw [hone'] at h1
    have hys : ys[j]? = some (ys[j]'(by omega)) := List.getElem?_eq_getElem (by omega)
    refine ⟨_, _, ?_, hys, h1.trans hys⟩
    rw [← Go.Deep.add_add, hcell, hv]
end

theorem open_recs {H : Type} {enc : TypeId × Value → H} {W : World} {fuel : Nat} {a : Option Addr} {m c : Nat} {y : DataW H × List MemPlace} (h : DataW.trod enc Try.prog W 0 (fun _ => true) true fuel 22 [.slice a m c] = some y) :
    ∃ rs, RArg W a m c rs := by
  rcases open_slice_fields Try.underlying22 Try.underlying45 (by kernel_rfl) (by kernel_rfl) h with ⟨hcs, _⟩ | ⟨x, len, cap, q, D, Pl, hcs, _, hl, hm, hq, _, hf⟩
  · have e : Value.slice a m c = .slice none 0 0 := by simpa using hcs
    injection e with e1 e2 e3
    subst e1 e2 e3
    exact ⟨[], .inl ⟨by omega, rfl⟩, fun k r h => by simp at h⟩
  · have e : Value.slice a m c = .slice (some x) len cap := by simpa using hcs
    injection e with e1 e2 e3
    subst e1 e2 e3
    simp only [if_true] at hq
    have key : ∀ k, ∃ r : Rec, k < m → ∃ pa pm pc, W.cell? (x.add (k * 2)) = some (.int .i64 r.1) ∧ W.cell? (x.add (k * 2 + 1)) = some (.slice pa pm pc) ∧ Arg 20 W pa pm pc r.2 := fun k => by
      by_cases hk : k < m
      · obtain ⟨ys, n, _, _, hyl, hff⟩ := hf k (by omega)
        obtain ⟨v0, y0, c0, _, t0⟩ := hff 0 _ rfl
        obtain ⟨v1, y1, c1, _, t1⟩ := hff 1 _ rfl
        obtain ⟨z, hz, _, hw⟩ := DataW.trod_int Try.underlying3 t0
        simp at hz
        subst hz
        obtain ⟨pa, pm, pc, l, rfl, ha⟩ := open_arg 20 t1
        exact ⟨(z, l), fun _ => ⟨pa, pm, pc, c0, c1, ha⟩⟩
      · exact ⟨(0, []), fun h => absurd h hk⟩
    obtain ⟨f, hF⟩ := Classical.axiomOfChoice key
    refine ⟨(List.range (min m 40)).map f, ?_, fun k r hk => ?_⟩
    · simp only [List.length_map, List.length_range]; omega
    · obtain ⟨hk1, hk2⟩ := List.getElem?_eq_some_iff.1 hk
      simp only [List.length_map, List.length_range] at hk1
      simp at hk2
      subst hk2
      obtain ⟨pa, pm, pc, c0, c1, ha⟩ := hF k (by omega)
      obtain ⟨b, off, spot⟩ := x
      obtain ⟨_, _, _, z0, _, _⟩ := hF 0 (by omega)
      have hspot : spot = none := by simpa [Addr.add] using World.cell?_spot z0
      subst hspot
      rw [Go.WideShapes.add_plain] at c0 c1
      exact ⟨b, off, pa, pm, pc, rfl, block_lt_of_cell c0, c0, c1, ha⟩
theorem logAdds_walk (rs : List Rec) (a : Option Addr) (n c : Nat) (w : World) (hA : RArg w a n c rs) :
    Calls Try.prog 3 #[.slice a n c] w fun e w' => e = .returned (.bool true) ∧ Below w.heap.size w w' := adds_walk a n c rs w hA
end Go.Proofs.Ytgldgilhegdpjaa
