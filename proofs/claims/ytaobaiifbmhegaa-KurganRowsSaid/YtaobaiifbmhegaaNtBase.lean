/-
  Words for lists of numbers in blocks of their own.
-/
import Derived.Test.YtaobaiifbmhegaaProg
import Derived.WalkKit
import Derived.ProofKit
import Derived.OpenShut
import Derived.Below
import Derived.Lib.Hide
import Derived.LoopTactic
import Derived.IntWalk
import Derived.OwnWalk
import Derived.Laws.AppendOwn
import Derived.Laws.OwnMore
import Derived.Deep.AppendLies
import Derived.Maps.AppendAt
import Derived.Deep.QuietTactic
import Derived.BigQuiet
import Derived.Deep.RegionWith
import Derived.Deep.RegionHeld3
namespace Go.Proofs.Ytaobaiifbmhegaa.nt
open Go.RowKit
set_option linter.unusedVariables false

theorem bl_al {a w : World} (h : Below a.heap.size a w) (o : Obj) : Below a.heap.size a (w.alloc o) := h.alloc h.size o
theorem bl_tr {a w w1 : World} (h : Below a.heap.size a w) (k : Below w.heap.size w w1) : Below a.heap.size a w1 := h.trans (k.mono h.size)
theorem bl_dn {B : Nat} {a w : World} (h : Below B a w) (n : Nat) : Below B a (w.drewN n) := ⟨h.os, h.tape, h.output, h.size, h.block⟩
theorem bl_drew (X : World) : Below X.heap.size X X.drew := ⟨rfl, rfl, rfl, Nat.le_refl _, fun _ _ => rfl⟩
theorem bl_undr {X w : World} (h : Below X.drew.heap.size X.drew w) : Below X.heap.size X w := ⟨h.os, h.tape, h.output, h.size, h.block⟩
theorem lt_hp {w : World} {k : Nat} {o : Obj} (h : w.heap[k]? = some o) : k < w.heap.size := by
  rcases Nat.lt_or_ge k w.heap.size with hlt | hge
  · exact hlt
  · rw [Array.getElem?_eq_none hge] at h; cases h
/-- a number of a list -/
def nth (l : List Int) (j : Nat) : Int := l[j]?.getD 0
theorem nth_at (l : List Int) (j : Nat) (h : j < l.length) : nth l j = l[j] := by unfold nth; rw [List.getElem?_eq_getElem h]; rfl
theorem nth_set (l : List Int) (i j : Nat) (v : Int) (hi : i < l.length) : nth (l.set i v) j = if i = j then v else nth l j := by
  unfold nth
  rw [List.getElem?_set]
  by_cases h : i = j
  · subst h; simp [hi]
  · simp [h]
theorem nth_ext (l m : List Int) (h : l.length = m.length) (he : ∀ j, j < l.length → nth l j = nth m j) : l = m := by
  apply List.ext_getElem h
  intro j h1 h2
  have := he j h1
  rwa [nth_at l j h1, nth_at m j h2] at this
attribute [irreducible] nth
/-- a list in a block of its own, all of it -/
def Own (B g n cap : Nat) (l : List Int) (w0 wr : World) : Prop := l.length = n ∧ B ≤ g ∧ wr.ownsRow B 3 1 (.slice (some ⟨g, 0, none⟩) n cap) n (l.map (Value.int .i64)) ∧ Below B w0 wr
theorem Own.cell {B g n cap : Nat} {l : List Int} {w0 wr : World} (h : Own B g n cap l w0 wr) (j : Nat) (hj : j < n) : wr.cell? ⟨g, j, none⟩ = some (.int .i64 (nth l j)) := by
  obtain ⟨h1, h2, h3, h4⟩ := h
  rw [h3.cellAt j (by omega), List.getElem?_map, List.getElem?_eq_getElem (by omega), nth_at l j (by omega)]
  rfl
theorem Own.frozen {B g n cap : Nat} {l : List Int} {w0 wr : World} (h : Own B g n cap l w0 wr) (j : Nat) : wr.frozen? ⟨g, j, none⟩ = false := h.2.2.1.frozenAt j
theorem Own.set {B g n cap : Nat} {l : List Int} {w0 wr : World} (h : Own B g n cap l w0 wr) (j : Nat) (v : Int) : Own B g n cap (l.set j v) w0 (wr.setCell ⟨g, j, none⟩ (.int .i64 v)) := by
  obtain ⟨h1, h2, h3, h4⟩ := h
  refine ⟨by simpa using h1, h2, ?_, h4.setCell (p := ⟨g, j, none⟩) h2 _⟩
  rw [List.map_set]
  exact (h3.stored j _).1
theorem Own.blk {B g n cap : Nat} {l : List Int} {w0 wr : World} (h : Own B g n cap l w0 wr) : ∃ cur, wr.heap[g]? = some (.cells cur 3 (0, 0)) := by
  rcases h.2.2.1.2 with ⟨h', _⟩ | ⟨g', cap', cur, h', _, hg, _⟩
  · cases h'
  · injection h' with h' _ _
    injection h' with h'
    injection h' with h'
    subst h'
    exact ⟨cur, hg⟩
theorem Own.keep {B g n cap : Nat} {l : List Int} {w0 wr w1 : World} (h : Own B g n cap l w0 wr) (hb : Below wr.heap.size wr w1) : Own B g n cap l w0 w1 := by
  obtain ⟨cur, hg⟩ := h.blk
  have hl := lt_hp hg
  obtain ⟨h1, h2, h3, h4⟩ := h
  refine ⟨h1, h2, ?_, h4.trans (hb.mono (by omega))⟩
  obtain ⟨a1, a2⟩ := h3
  refine ⟨a1, ?_⟩
  rcases a2 with hn | ⟨g', cap', cur', hv, hg', hh, r⟩
  · exact Or.inl hn
  · exact Or.inr ⟨g', cap', cur', hv, hg', (hb.block g' (lt_hp hh)).trans hh, r⟩
end Go.Proofs.Ytaobaiifbmhegaa.nt
