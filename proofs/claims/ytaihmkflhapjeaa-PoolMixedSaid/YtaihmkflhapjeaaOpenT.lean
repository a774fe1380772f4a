/-
  A list of turns that came in, opened.
-/
import Derived.Test.YtaihmkflhapjeaaMxN
import Derived.OpenShut
import Derived.Deep.Slices
import Derived.Deep.Fields
import Derived.ChangeSame
namespace Go.Proofs.Ytaihmkflhapjeaa
open Go.ChangeShapes Go.WideShapes Go.Deep Go.RowKit
set_option linter.unusedVariables false
section
variable {H : Type} {enc : TypeId × Value → H} {P : Program} {w : World} {base : Nat} {spare : Nat → Bool} {held : Bool}
theorem open_slice_fields {t e : TypeId} {fs : Array Field} {fuel : Nat} {cs : List Value} {x : DataW H × List MemPlace} (ht : P.underlying t = some (.slice e)) (he : P.underlying e = some (.struct fs))
    (hone : oneCellFields P fs = true) (hC : P.cellsOf e = fs.size) (h : DataW.trod enc P w base spare held fuel t cs = some x) :
    (cs = [.slice none 0 0] ∧ x = (.nil, [])) ∨
    ∃ (a : Addr) (len cap m : Nat) (D : Nat → DataW H) (Pl : Nat → List MemPlace), cs = [.slice (some a) len cap] ∧ base ≤ a.block ∧ len ≤ cap ∧ cap ≤ maxLen ∧ m = (if spare a.block then cap else len) ∧
      x = (.slice ((List.range len).map D) ((List.range (m - len)).map fun j => D (len + j)), MemPlace.row a (m * fs.size) ++ (List.range m).flatMap Pl) ∧
      ∀ i, i < m → ∃ (ys : List (DataW H × List MemPlace)) (n : Nat), D i = .agg (ys.map (·.1)) ∧ Pl i = ys.flatMap (·.2) ∧ ys.length = fs.size ∧
        ∀ (j : Nat) (f : Field), fs[j]? = some f → ∃ (v : Value) (y : DataW H × List MemPlace), w.cell? (a.add (i * fs.size + j)) = some v ∧ ys[j]? = some y ∧ DataW.trod enc P w base spare held n f.type [v] = some y := by
  rcases open_slice ht h with h0 | ⟨a, len, cap, m, n, D, Pl, hcs, hb, hl, hm, hmm, hx, hi⟩
  · exact .inl h0
  · refine .inr ⟨a, len, cap, m, D, Pl, hcs, hb, hl, hm, hmm, by rw [hC] at hx; exact hx, fun i him => ?_⟩
    obtain ⟨cs', hc, ht'⟩ := hi i him
    rw [hC] at hc
    obtain ⟨ys, n', hn', hy, hlen, hyl, hf⟩ := DataW.trod_struct he ht'
    obtain ⟨_, hcl, hat⟩ := World.cells?_some hc
    simp only [Prod.mk.injEq] at hy
    refine ⟨ys, n', hy.1, hy.2, hyl, fun j f hj => ?_⟩
    obtain ⟨ho, hk⟩ := hone_of hone j f hj
    have hjl : j < fs.size := (Array.getElem?_eq_some_iff.1 hj).1
    have hcell := hat j hjl
    have hv : cs'[j]? = some (cs'[j]'(by omega)) := List.getElem?_eq_getElem (by omega)
    have h1 := hf j f hj
    rw [ho, hk] at h1
    have hone' : (cs'.drop j).take 1 = [cs'[j]'(by omega)] := by
      rw [List.drop_eq_getElem_cons (by omega)]
      rfl
    rw [hone'] at h1
    have hys : ys[j]? = some (ys[j]'(by omega)) := List.getElem?_eq_getElem (by omega)
    refine ⟨_, _, ?_, hys, h1.trans hys⟩
    rw [← Go.Deep.add_add, hcell, hv]
end

/-- the turns that came in -/
def TI (W : World) (a : Option Addr) (n : Nat) (tw tt ta : Nat → Int) : Prop :=
  ∀ j, j < n → ∃ b o, a = some ⟨b, o, none⟩ ∧ b < W.heap.size ∧ W.cell? ⟨b, o + j * 3, none⟩ = some (.int .i64 (tw j)) ∧ W.cell? ⟨b, o + j * 3 + 1, none⟩ = some (.int .i64 (tt j)) ∧ W.cell? ⟨b, o + j * 3 + 2, none⟩ = some (.int .i64 (ta j))
theorem open_turns {H : Type} {enc : TypeId × Value → H} {W : World} {fuel : Nat} {a : Option Addr} {m c : Nat} {y : DataW H × List MemPlace} (h : DataW.trod enc Try.prog W 0 (fun _ => true) true fuel 41 [.slice a m c] = some y) :
    ∃ tw tt ta, TI W a m tw tt ta := by
  rcases open_slice_fields Try.underlying41 Try.underlying50 (by kernel_rfl) (by kernel_rfl) h with ⟨hcs, _⟩ | ⟨x, len, cap, q, D, Pl, hcs, _, hl, hm, hq, _, hf⟩
  · have e : Value.slice a m c = .slice none 0 0 := by simpa using hcs
    injection e with e1 e2 e3
    subst e1 e2 e3
    exact ⟨fun _ => 0, fun _ => 0, fun _ => 0, fun j h => absurd h (by omega)⟩
  · have e : Value.slice a m c = .slice (some x) len cap := by simpa using hcs
    injection e with e1 e2 e3
    subst e1 e2 e3
    simp only [if_true] at hq
    have hqc : q = c := hq
    clear hq
    by_cases h0 : m = 0
    · subst h0; exact ⟨fun _ => 0, fun _ => 0, fun _ => 0, fun j h => absurd h (by omega)⟩
    have key : ∀ k, ∃ z : Int, k < 3 * c → W.cell? (x.add k) = some (.int .i64 z) := fun k => by
      by_cases hk : k < 3 * c
      · obtain ⟨ys, n, _, _, hyl, hff⟩ := hf (k / 3) (by omega)
        have hone : ∀ j, j < 3 → ∃ z : Int, W.cell? (x.add (k / 3 * 3 + j)) = some (.int .i64 z) := fun j hj => by
          rcases (show j = 0 ∨ j = 1 ∨ j = 2 by omega) with rfl | rfl | rfl
          · obtain ⟨v, y', hc, _, ht⟩ := hff 0 _ rfl
            obtain ⟨z, hz, _, hw⟩ := DataW.trod_int Try.underlying3 ht
            simp at hz
            subst hz
            exact ⟨z, hc⟩
          · obtain ⟨v, y', hc, _, ht⟩ := hff 1 _ rfl
            obtain ⟨z, hz, _, hw⟩ := DataW.trod_int Try.underlying3 ht
            simp at hz
            subst hz
            exact ⟨z, hc⟩
          · obtain ⟨v, y', hc, _, ht⟩ := hff 2 _ rfl
            obtain ⟨z, hz, _, hw⟩ := DataW.trod_int Try.underlying3 ht
            simp at hz
            subst hz
            exact ⟨z, hc⟩
        obtain ⟨z, hz⟩ := hone (k % 3) (by omega)
        rw [show k / 3 * 3 + k % 3 = k by omega] at hz
        exact ⟨z, fun _ => hz⟩
      · exact ⟨0, fun h => absurd h hk⟩
    obtain ⟨f, hF⟩ := Classical.axiomOfChoice key
    obtain ⟨b, off, rfl, hb⟩ := ints_at (zs := (List.range (3 * c)).map f) (w := W) (a := x) (k := .i64) (fun i hi => by
      simp at hi
      have := hF i hi
      simpa [hi] using this) (by simp; omega)
    have hb' : ∀ k, k < 3 * c → W.cell? ⟨b, off + k, none⟩ = some (.int .i64 (f k)) := fun k hk => by
      have := hb k (by simpa using hk)
      simpa [hk] using this
    exact ⟨fun j => f (j * 3), fun j => f (j * 3 + 1), fun j => f (j * 3 + 2), fun j h1 => ⟨b, off, rfl, block_lt_of_cell (hb' 0 (by omega)), hb' (j * 3) (by omega), hb' (j * 3 + 1) (by omega), hb' (j * 3 + 2) (by omega)⟩⟩
end Go.Proofs.Ytaihmkflhapjeaa
