/-
  Lists of numbers in blocks, told by their shape alone; what a store of a number into one of them leaves; which numbers they are.
-/
import Derived.Test.YtknpjeeclagmjaaDoorLoop
namespace Go.Proofs.YtknpjeeclagmjaaDoor
open Go.RowKit
set_option linter.unusedVariables false

/-- a block whose first n cells are numbers -/
def IntsX (W : World) (g n : Nat) : Prop := ∃ cur : Array Value, W.heap[g]? = some (.cells cur 3 (0, 0)) ∧ ∀ j, j < n → ∃ z, cur[j]? = some (.int .i64 z)
def readInts (W : World) (g n : Nat) : List Int := (List.range n).map fun i => match W.cell? ⟨g, i, none⟩ with | some (.int _ z) => z | _ => 0
theorem readInts_len (W : World) (g n : Nat) : (readInts W g n).length = n := by simp [readInts]
theorem readInts_at {W : World} {g n j : Nat} (hj : j < n) : (readInts W g n)[j]?.getD 0 = match W.cell? ⟨g, j, none⟩ with | some (.int _ z) => z | _ => 0 := by
  unfold readInts
  rw [List.getElem?_map, List.getElem?_range hj]
  rfl
theorem IntsX.read {W : World} {g n : Nat} (h : IntsX W g n) : IntsO W g (readInts W g n) := by
  obtain ⟨cur, h1, h2⟩ := h
  refine ⟨cur, h1, fun j hj => ?_⟩
  rw [readInts_len] at hj
  obtain ⟨z, hz⟩ := h2 j hj
  rw [hz, readInts_at hj, cell_of_row _ _ _ _ _ _ h1, hz]
theorem IntsO.shape {W : World} {g : Nat} {l : List Int} (h : IntsO W g l) : IntsX W g l.length := by
  obtain ⟨cur, h1, h2⟩ := h
  exact ⟨cur, h1, fun j hj => ⟨_, h2 j hj⟩⟩
theorem IntsX.set {W : World} {g n b c : Nat} {x : Int} {cs : Array Value} (h : IntsX W g n) (hb : W.heap[b]? = some (.cells cs 3 (0, 0))) : IntsX (W.setCell ⟨b, c, none⟩ (.int .i64 x)) g n := by
  obtain ⟨cur, h1, h2⟩ := h
  by_cases e : g = b
  · subst e
    refine ⟨_, heap_setCell_same W g c _ 3 (.int .i64 x) h1, fun j hj => ?_⟩
    obtain ⟨z, hz⟩ := h2 j hj
    rw [Array.getElem?_setIfInBounds]
    by_cases e : c = j
    · subst e
      have : c < cur.size := (Array.getElem?_eq_some_iff.1 hz).1
      rw [if_pos rfl, if_pos this]
      exact ⟨x, rfl⟩
    · rw [if_neg e]
      exact ⟨z, hz⟩
  · exact ⟨cur, (heap_setCell_other W ⟨b, c, none⟩ g _ e).trans h1, h2⟩
theorem set_other {W : World} {b c k : Nat} {x : Int} {cs cs2 : Array Value} {t : TypeId} (hb : W.heap[b]? = some (.cells cs 3 (0, 0))) (hk : W.heap[k]? = some (.cells cs2 t (0, 0))) (ht : t ≠ 3) :
    (W.setCell ⟨b, c, none⟩ (.int .i64 x)).heap[k]? = W.heap[k]? := heap_setCell_other W ⟨b, c, none⟩ k _ (blk_ne hk hb ht)
/-- lists of numbers in blocks, listed in a block: their lengths -/
def Shp (B : Nat) (W : World) (a : Option Addr) (ls : List Nat) : Prop :=
  ls = [] ∨ ∃ (g : Nat) (cur : Array Value), a = some ⟨g, 0, none⟩ ∧ W.heap[g]? = some (.cells cur 22 (0, 0)) ∧
    ∀ j, j < ls.length → ∃ g' cj : Nat, cur[j]? = some (.slice (some ⟨g', 0, none⟩) (ls[j]?.getD 0) cj) ∧ IntsX W g' (ls[j]?.getD 0) ∧ ls[j]?.getD 0 ≤ 1000 ∧ B ≤ g'
theorem len_at {l : List (List Int)} {j : Nat} (hj : j < l.length) : (l.map List.length)[j]?.getD 0 = (l[j]?.getD []).length := by
  rw [List.getElem?_map, List.getElem?_eq_getElem hj]
  rfl
theorem RwsO.shape {B : Nat} {W : World} {a : Option Addr} {l : List (List Int)} (h : RwsO B W a l) : Shp B W a (l.map List.length) := by
  by_cases h0 : l = []
  · exact Or.inl (by rw [h0]; rfl)
  · have hp : 0 < l.length := List.length_pos_iff.2 h0
    obtain ⟨g, cur, g0, c0, e1, e2, _⟩ := h 0 hp
    refine Or.inr ⟨g, cur, e1, e2, fun j hj => ?_⟩
    have hj' : j < l.length := by simpa using hj
    obtain ⟨g2, cur2, g', cj, f1, f2, f3, f4, f5, f6⟩ := h j hj'
    have eg : g2 = g := by rw [e1] at f1; injection f1 with f1; injection f1 with f1; exact f1.symm
    subst eg
    have ec : cur2 = cur := by rw [e2] at f2; injection f2 with f2; injection f2 with f2; exact f2.symm
    subst ec
    rw [len_at hj']
    exact ⟨g', cj, f3, f4.shape, f5, f6⟩
theorem Shp.keep {B : Nat} {W W1 : World} {a : Option Addr} {ls : List Nat} (h : Shp B W a ls) (hb : Below W.heap.size W W1) : Shp B W1 a ls := by
  rcases h with h | ⟨g, cur, e1, e2, e3⟩
  · exact Or.inl h
  · refine Or.inr ⟨g, cur, e1, (hb.block _ (lt_hp e2)).trans e2, fun j hj => ?_⟩
    obtain ⟨g', cj, f1, ⟨c', f2, f2'⟩, f3, f4⟩ := e3 j hj
    exact ⟨g', cj, f1, ⟨c', (hb.block _ (lt_hp f2)).trans f2, f2'⟩, f3, f4⟩
theorem Shp.set {B : Nat} {W : World} {a : Option Addr} {ls : List Nat} {b c : Nat} {x : Int} {cs : Array Value} (h : Shp B W a ls) (hb : W.heap[b]? = some (.cells cs 3 (0, 0))) : Shp B (W.setCell ⟨b, c, none⟩ (.int .i64 x)) a ls := by
  rcases h with h | ⟨g, cur, e1, e2, e3⟩
  · exact Or.inl h
  · refine Or.inr ⟨g, cur, e1, (set_other hb e2 (by decide)).trans e2, fun j hj => ?_⟩
    obtain ⟨g', cj, f1, f2, f3, f4⟩ := e3 j hj
    exact ⟨g', cj, f1, f2.set hb, f3, f4⟩
def rowAt (W : World) (a : Option Addr) (j : Nat) : List Int :=
  match a with
  | none => []
  | some p => match W.cell? ⟨p.block, j, none⟩ with | some (.slice (some q) n _) => readInts W q.block n | _ => []
/-- the lists that lie there -/
theorem Shp.read {B : Nat} {W : World} {a : Option Addr} {ls : List Nat} (h : Shp B W a ls) : ∃ cl : List (List Int), cl.length = ls.length ∧ RwsO B W a cl := by
  refine ⟨(List.range ls.length).map (rowAt W a), by simp, fun j hj => ?_⟩
  have hj' : j < ls.length := by simpa using hj
  rcases h with h | ⟨g, cur, e1, e2, e3⟩
  · rw [h] at hj'; simp at hj'
  · obtain ⟨g', cj, f1, f2, f3, f4⟩ := e3 j hj'
    have er : ((List.range ls.length).map (rowAt W a))[j]?.getD [] = readInts W g' (ls[j]?.getD 0) := by
      rw [List.getElem?_map, List.getElem?_range hj', e1]
      simp only [Option.map_some, Option.getD_some, rowAt]
      rw [cell_of_row _ _ _ _ _ _ e2, f1]
    rw [er]
    refine ⟨g, cur, g', cj, e1, e2, ?_, f2.read, ?_, f4⟩
    · rw [readInts_len]; exact f1
    · rw [readInts_len]; exact f3
end Go.Proofs.YtknpjeeclagmjaaDoor
