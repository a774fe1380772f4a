/-
  What stays, and what keeps its shape, when numbers are stored into a copy's lists.
-/
import Derived.Test.YtknpjeeclagmjaaDoorICopy
namespace Go.Proofs.YtknpjeeclagmjaaDoor
open Go.RowKit
set_option linter.unusedVariables false
def IX (W : World) (g n : Nat) : Prop := ∃ cur : Array Value, W.heap[g]? = some (.cells cur 3 (0, 0)) ∧ ∀ j, j < n → ∃ z, cur[j]? = some (.int .i64 z)
def SI (lo hi : Nat) (W : World) (a : Option Addr) (n : Nat) : Prop := n = 0 ∨ ∃ g, a = some ⟨g, 0, none⟩ ∧ IX W g n ∧ lo ≤ g ∧ g < hi
def SR (lo hi : Nat) (W : World) (a : Option Addr) (n : Nat) : Prop := n = 0 ∨ ∃ g cur, a = some ⟨g, 0, none⟩ ∧ W.heap[g]? = some (.cells cur 22 (0, 0)) ∧ ∀ j, j < n → ∃ aj nj cj, cur[j]? = some (.slice aj nj cj) ∧ SI lo hi W aj nj ∧ nj ≤ 1000
theorem IX.set {W : World} {g n b c : Nat} {x : Int} {cs : Array Value} (h : IX W g n) (hb : W.heap[b]? = some (.cells cs 3 (0, 0))) : IX (W.setCell ⟨b, c, none⟩ (.int .i64 x)) g n := by
  obtain ⟨cur, h1, h2⟩ := h
  by_cases e : g = b
  · subst e
    refine ⟨_, heap_setCell_same W g c _ 3 (.int .i64 x) h1, fun j hj => ?_⟩
    obtain ⟨z, hz⟩ := h2 j hj
    rw [Array.getElem?_setIfInBounds]
    by_cases e : c = j
    · subst e
      have : c < cur.size := (Array.getElem?_eq_some_iff.1 hz).1
      rw [if_pos rfl, if_pos this]
      exact ⟨x, rfl⟩
    · rw [if_neg e]
      exact ⟨z, hz⟩
  · exact ⟨cur, (heap_setCell_other W ⟨b, c, none⟩ g _ e).trans h1, h2⟩
theorem SI.set {lo hi : Nat} {W : World} {a : Option Addr} {n b c : Nat} {x : Int} {cs : Array Value} (h : SI lo hi W a n) (hb : W.heap[b]? = some (.cells cs 3 (0, 0))) : SI lo hi (W.setCell ⟨b, c, none⟩ (.int .i64 x)) a n := by
  rcases h with h | ⟨g, e, h1, h2⟩
  · exact .inl h
  · exact .inr ⟨g, e, h1.set hb, h2⟩
theorem SR.set {lo hi : Nat} {W : World} {a : Option Addr} {n b c : Nat} {x : Int} {cs : Array Value} (h : SR lo hi W a n) (hb : W.heap[b]? = some (.cells cs 3 (0, 0))) : SR lo hi (W.setCell ⟨b, c, none⟩ (.int .i64 x)) a n := by
  rcases h with h | ⟨g, cur, e, h1, h2⟩
  · exact .inl h
  · refine .inr ⟨g, cur, e, (heap_setCell_other W ⟨b, c, none⟩ g _ (blk_ne h1 hb (by decide))).trans h1, fun j hj => ?_⟩
    obtain ⟨aj, nj, cj, k1, k2, k3⟩ := h2 j hj
    exact ⟨aj, nj, cj, k1, k2.set hb, k3⟩
def rdI (W : World) (a : Option Addr) (n : Nat) : List Int := (List.range n).map fun i => match a with | none => 0 | some p => match W.cell? ⟨p.block, i, none⟩ with | some (.int _ z) => z | _ => 0
theorem rdI_len (W : World) (a : Option Addr) (n : Nat) : (rdI W a n).length = n := by simp [rdI]
theorem SI.ints {lo hi : Nat} {W : World} {a : Option Addr} {n : Nat} (h : SI lo hi W a n) : Ints W a (rdI W a n) := fun j hj => by
  rw [rdI_len] at hj
  rcases h with h | ⟨g, rfl, ⟨cur, h1, h2⟩, h3⟩
  · omega
  · obtain ⟨z, hz⟩ := h2 j hj
    have hc : W.cell? ⟨g, j, none⟩ = some (.int .i64 z) := by rw [cell_of_row _ _ _ _ _ _ h1]; exact hz
    refine ⟨g, 0, rfl, lt_hp h1, ?_⟩
    rw [Nat.zero_add, hc]
    unfold rdI
    rw [List.getElem?_map, List.getElem?_range hj]
    simp only [Option.map_some, Option.getD_some, hc]
def rdR (W : World) (a : Option Addr) (n : Nat) : List (List Int) := (List.range n).map fun i => match a with | none => [] | some p => match W.cell? ⟨p.block, i, none⟩ with | some (.slice aj nj _) => rdI W aj nj | _ => []
theorem rdR_len (W : World) (a : Option Addr) (n : Nat) : (rdR W a n).length = n := by simp [rdR]
theorem SR.rws {lo hi : Nat} {W : World} {a : Option Addr} {n : Nat} (h : SR lo hi W a n) : Rws W a (rdR W a n) := fun j hj => by
  rw [rdR_len] at hj
  rcases h with h | ⟨g, cur, rfl, h1, h2⟩
  · omega
  · obtain ⟨aj, nj, cj, k1, k2, k3⟩ := h2 j hj
    have hc : W.cell? ⟨g, j, none⟩ = some (.slice aj nj cj) := by rw [cell_of_row _ _ _ _ _ _ h1]; exact k1
    have e : (rdR W (some ⟨g, 0, none⟩) n)[j]?.getD [] = rdI W aj nj := by
      unfold rdR
      rw [List.getElem?_map, List.getElem?_range hj]
      simp only [Option.map_some, Option.getD_some, hc]
    rw [e]
    exact ⟨g, 0, aj, cj, rfl, lt_hp h1, by rw [Nat.zero_add, hc, rdI_len], k2.ints, by rw [rdI_len]; exact k3⟩
theorem SI.of {B hi : Nat} {W : World} {a : Option Addr} {l : List Int} (h : LO B W a l) (hh : W.heap.size ≤ hi) : SI B hi W a l.length := by
  rcases h with rfl | ⟨g, e, ⟨cur, h1, h2⟩, h3⟩
  · exact .inl rfl
  · exact .inr ⟨g, e, ⟨cur, h1, fun j hj => ⟨_, h2 j hj⟩⟩, h3, Nat.lt_of_lt_of_le (lt_hp h1) hh⟩
theorem SR.of {B hi : Nat} {W : World} {a : Option Addr} {l : List (List Int)} (h : RO B W a l) (hh : W.heap.size ≤ hi) : SR B hi W a l.length := by
  rcases h with rfl | ⟨g, cur, e, h1, h2, h3⟩
  · exact .inl rfl
  · refine .inr ⟨g, cur, e, h1, fun j hj => ?_⟩
    obtain ⟨aj, cj, k1, k2, k3⟩ := h3 j hj
    exact ⟨aj, _, cj, k1, SI.of k2 hh, k3⟩
theorem IX.keep {W W1 : World} {g n : Nat} (h : IX W g n) (hb : Below W.heap.size W W1) : IX W1 g n := by
  obtain ⟨cur, h1, h2⟩ := h
  exact ⟨cur, (hb.block _ (lt_hp h1)).trans h1, h2⟩
theorem SI.keep {lo hi : Nat} {W W1 : World} {a : Option Addr} {n : Nat} (h : SI lo hi W a n) (hb : Below W.heap.size W W1) : SI lo hi W1 a n := by
  rcases h with h | ⟨g, e, h1, h2⟩
  · exact .inl h
  · exact .inr ⟨g, e, h1.keep hb, h2⟩
theorem SR.keep {lo hi : Nat} {W W1 : World} {a : Option Addr} {n : Nat} (h : SR lo hi W a n) (hb : Below W.heap.size W W1) : SR lo hi W1 a n := by
  rcases h with h | ⟨g, cur, e, h1, h2⟩
  · exact .inl h
  · refine .inr ⟨g, cur, e, (hb.block _ (lt_hp h1)).trans h1, fun j hj => ?_⟩
    obtain ⟨aj, nj, cj, k1, k2, k3⟩ := h2 j hj
    exact ⟨aj, nj, cj, k1, k2.keep hb, k3⟩
/-- what holds while numbers are stored into the copy c: a's memory (below X), the boxes, the second copy's lists (from y on), the shape of c's -/
structure CF (X : World) (y : Nat) (p7 p8 : Nat) (cs7 cs8 : Array Value) (wl vl : List Int) (cl : List (List Int)) (h1 h2 : Nat) (ca3 : Option Addr) (a1 a2 a3 : Option Addr) (W : World) : Prop where
  bx : Below X.heap.size X W
  b7 : W.heap[p7]? = some (.cells cs7 25 (0, 0))
  b8 : W.heap[p8]? = some (.cells cs8 25 (0, 0))
  k1 : IntsO W h1 wl
  k2 : IntsO W h2 vl
  k3 : RwsO y W ca3 cl
  y1 : y ≤ h1
  y2 : y ≤ h2
  s1 : SI X.heap.size y W a1 wl.length
  s2 : SI X.heap.size y W a2 vl.length
  s3 : SR X.heap.size y W a3 cl.length
theorem CF.set {X : World} {y p7 p8 : Nat} {cs7 cs8 : Array Value} {wl vl : List Int} {cl : List (List Int)} {h1 h2 : Nat} {ca3 a1 a2 a3 : Option Addr} {W : World} (h : CF X y p7 p8 cs7 cs8 wl vl cl h1 h2 ca3 a1 a2 a3 W) {g c : Nat} {cs : Array Value} (hg : W.heap[g]? = some (.cells cs 3 (0, 0))) (lo : X.heap.size ≤ g) (hi : g < y) (x : Int) :
    CF X y p7 p8 cs7 cs8 wl vl cl h1 h2 ca3 a1 a2 a3 (W.setCell ⟨g, c, none⟩ (.int .i64 x)) := by
  have ot : ∀ b, b ≠ g → (W.setCell ⟨g, c, none⟩ (.int .i64 x)).heap[b]? = W.heap[b]? := fun b hb => heap_setCell_other W ⟨g, c, none⟩ b _ hb
  exact {
    bx := h.bx.setCell (p := ⟨g, c, none⟩) lo _
    b7 := (ot _ (blk_ne h.b7 hg (by decide))).trans h.b7
    b8 := (ot _ (blk_ne h.b8 hg (by decide))).trans h.b8
    k1 := h.k1.same (ot _ (by have := h.y1; omega))
    k2 := h.k2.same (ot _ (by have := h.y2; omega))
    k3 := fun j hj => by
      obtain ⟨q, cur, g', cj, e1, e2, e3, e4, e5, e6, e7, e8⟩ := h.k3 j hj
      exact ⟨q, cur, g', cj, e1, (ot q (by omega)).trans e2, e3, e4.same (ot g' (by omega)), e5, e6, e7, e8⟩
    y1 := h.y1
    y2 := h.y2
    s1 := h.s1.set hg
    s2 := h.s2.set hg
    s3 := h.s3.set hg }
end Go.Proofs.YtknpjeeclagmjaaDoor
