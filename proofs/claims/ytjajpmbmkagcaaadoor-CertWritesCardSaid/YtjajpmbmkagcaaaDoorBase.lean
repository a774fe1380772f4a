/-
  Words for blocks in memory.
-/
import Derived.Test.YtjajpmbmkagcaaaDoorRefR
import Derived.OpenShut
import Derived.Laws.AppendOwn
import Derived.Laws.OwnMore
import Derived.Deep.AppendLies
import Derived.Maps.AppendAt
import Derived.Deep.QuietTactic
import Derived.BigQuiet
import Derived.Deep.RegionWith
import Derived.Deep.RegionHeld3
import Derived.BigRegion
import Derived.Deep.Cut
namespace Go.Proofs.YtjajpmbmkagcaaaDoor
open Go.RowKit
set_option linter.unusedVariables false
theorem lt_hp {w : World} {k : Nat} {o : Obj} (h : w.heap[k]? = some o) : k < w.heap.size := by
  rcases Nat.lt_or_ge k w.heap.size with hlt | hge
  · exact hlt
  · rw [Array.getElem?_eq_none hge] at h; cases h
theorem blk_set {w : World} {g : Nat} {cs : Array Value} {t : TypeId} (h : w.heap[g]? = some (.cells cs t (0, 0))) (j : Nat) (v : Value) : (w.setCell ⟨g, j, none⟩ v).heap[g]? = some (.cells (cs.setIfInBounds j v) t (0, 0)) := heap_setCell_same w g j cs t v h
theorem blk_oth {w : World} {g q : Nat} {o : Obj} (h : w.heap[g]? = some o) (hne : g ≠ q) (j : Nat) (v : Value) : (w.setCell ⟨q, j, none⟩ v).heap[g]? = some o := (Below.heap_setCell w ⟨q, j, none⟩ v g hne).trans h
theorem bl_drew (X : World) : Below X.heap.size X X.drew := ⟨rfl, rfl, rfl, Nat.le_refl _, fun _ _ => rfl⟩
/-- the blocks of a list may have turned, and there may be new ones -/
structure Tw (S : List Nat) (w w' : World) : Prop where
  os : w'.os = w.os
  tape : w'.tape = w.tape
  output : w'.output = w.output
  size : w.heap.size ≤ w'.heap.size
  block : ∀ i, i < w.heap.size → i ∉ S → w'.heap[i]? = w.heap[i]?
theorem Tw.refl (S : List Nat) (w : World) : Tw S w w := ⟨rfl, rfl, rfl, Nat.le_refl _, fun _ _ _ => rfl⟩
theorem Tw.trans {S : List Nat} {w w1 w2 : World} (h : Tw S w w1) (k : Tw S w1 w2) : Tw S w w2 :=
  ⟨k.os.trans h.os, k.tape.trans h.tape, k.output.trans h.output, Nat.le_trans h.size k.size, fun i hi hn => (k.block i (Nat.lt_of_lt_of_le hi h.size) hn).trans (h.block i hi hn)⟩
theorem Tw.mono {S T : List Nat} {w w1 : World} (h : Tw S w w1) (k : ∀ i, i ∈ S → i ∈ T) : Tw T w w1 := ⟨h.os, h.tape, h.output, h.size, fun i hi hn => h.block i hi (fun hs => hn (k i hs))⟩
theorem Tw.al {S : List Nat} {w w1 : World} (h : Tw S w w1) (o : Obj) : Tw S w (w1.alloc o) :=
  ⟨h.os, h.tape, h.output, Nat.le_trans h.size (by simp), fun i hi hn => (Below.heap_alloc w1 o i (Nat.lt_of_lt_of_le hi h.size)).trans (h.block i hi hn)⟩
theorem Tw.dn {S : List Nat} {w w1 : World} (h : Tw S w w1) (n : Nat) : Tw S w (w1.drewN n) := ⟨h.os, h.tape, h.output, h.size, h.block⟩
theorem Tw.dr {S : List Nat} {w w1 : World} (h : Tw S w w1) : Tw S w w1.drew := ⟨h.os, h.tape, h.output, h.size, h.block⟩
theorem Tw.undr {S : List Nat} {w w1 : World} (h : Tw S w.drew w1) : Tw S w w1 := ⟨h.os, h.tape, h.output, h.size, h.block⟩
theorem Tw.st {S : List Nat} {w w1 : World} (h : Tw S w w1) (q : Nat) (hq : q ∈ S ∨ w.heap.size ≤ q) (j : Nat) (v : Value) : Tw S w (w1.setCell ⟨q, j, none⟩ v) :=
  ⟨h.os, h.tape, h.output, by simpa [World.setCell] using h.size, fun i hi hn => (Below.heap_setCell w1 ⟨q, j, none⟩ v i (by show i ≠ q; rintro rfl; rcases hq with hq | hq; exact hn hq; omega)).trans (h.block i hi hn)⟩
theorem Tw.of {S : List Nat} {w w1 : World} (h : Below w.heap.size w w1) : Tw S w w1 := ⟨h.os, h.tape, h.output, h.size, fun i hi _ => h.block i hi⟩
theorem Tw.below {S : List Nat} {B : Nat} {a w w1 : World} (h : Below B a w) (k : Tw S w w1) (hS : ∀ i, i ∈ S → B ≤ i) (hB : B ≤ w.heap.size) : Below B a w1 :=
  ⟨k.os.trans h.os, k.tape.trans h.tape, k.output.trans h.output, Nat.le_trans h.size k.size, fun i hi => (k.block i (by omega) (fun hs => by have := hS i hs; omega)).trans (h.block i hi)⟩
theorem blk_tw {S : List Nat} {p : Nat} {o : Obj} {w w1 : World} (h : w.heap[p]? = some o) (q : Tw S w w1) (h1 : p ∉ S) : w1.heap[p]? = some o := (q.block p (lt_hp h) h1).trans h
theorem cell_tw {S : List Nat} {p : Nat} {w w1 : World} (q : Tw S w w1) (hp : p < w.heap.size) (h1 : p ∉ S) (j : Nat) : w1.cell? ⟨p, j, none⟩ = w.cell? ⟨p, j, none⟩ := by simp [World.cell?, q.block p hp h1]
theorem blk_ty {w : World} {p q : Nat} {c d : Array Value} {t u : TypeId} (h1 : w.heap[p]? = some (.cells c t (0, 0))) (h2 : w.heap[q]? = some (.cells d u (0, 0))) (ht : t ≠ u) : p ≠ q := by
  rintro rfl
  rw [h1] at h2
  simp at h2
  exact ht h2.2

/-- the reader's box -/
def RB (p : Nat) (s : ByteArray) (a : Nat) (e : Int) (w : World) : Prop := w.heap[p]? = some (.cells #[.string s, .int .i64 (a : Int), .int .i64 e] 51 (0, 0))
section
variable {p : Nat} {s : ByteArray} {a : Nat} {e : Int} {w w1 : World}
theorem RB.cells (h : RB p s a e w) : w.cell? ⟨p, 0, none⟩ = some (.string s) ∧ w.cell? ⟨p, 1, none⟩ = some (.int .i64 (a : Int)) ∧ w.cell? ⟨p, 2, none⟩ = some (.int .i64 e) ∧ ∀ j, w.frozen? ⟨p, j, none⟩ = false :=
  ⟨(cell_of_row w p 0 _ 51 _ h).trans rfl, (cell_of_row w p 1 _ 51 _ h).trans rfl, (cell_of_row w p 2 _ 51 _ h).trans rfl, fun j => by simp [World.frozen?, show w.heap[p]? = _ from h]⟩
theorem RB.at_ (h : RB p s a e w) (b : Nat) : RB p s b e (w.setCell ⟨p, 1, none⟩ (.int .i64 (b : Int))) := (blk_set h 1 _).trans rfl
theorem RB.er (h : RB p s a e w) (f : Int) : RB p s a f (w.setCell ⟨p, 2, none⟩ (.int .i64 f)) := (blk_set h 2 _).trans rfl
theorem RB.keep {S : List Nat} (h : RB p s a e w) (k : Tw S w w1) (hp : p ∉ S) : RB p s a e w1 := blk_tw h k hp
theorem RB.up (h : RB p s a e w) (k : Below w.heap.size w w1) : RB p s a e w1 := h.keep (Tw.of (S := []) k) (by simp)
end
theorem tw_it (S : List Nat) (w : World) (s : ByteArray) (k : Nat) : Tw S w (w.iter s k) := by
  unfold World.iter
  exact (Tw.refl S w).al _
end Go.Proofs.YtjajpmbmkagcaaaDoor
