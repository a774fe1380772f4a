/-
  slices.Delete of one element, of a list in a block of its own.
-/
import Derived.Test.YtaobaiifbmhegaaNtShelf
import Derived.Test.YtaobaiifbmhegaaNtClone
import Derived.Lib.OwnBridge
namespace Go.Proofs.Ytaobaiifbmhegaa.nt
open Go.RowKit
set_option linter.unusedVariables false
/-- writes behind a block leave it -/
theorem Own.over {B g n cap : Nat} {l : List Int} {w0 wr w1 : World} (h : Own B g n cap l w0 wr) (hb : Below (g + 1) wr w1) : Own B g n cap l w0 w1 := by
  obtain ⟨h1, h2, h3, h4⟩ := h
  refine ⟨h1, h2, ?_, h4.trans (hb.mono (by omega))⟩
  obtain ⟨a1, a2⟩ := h3
  refine ⟨a1, ?_⟩
  rcases a2 with hn | ⟨g', cap', cur', hv, hg', hh, r⟩
  · exact Or.inl hn
  · refine Or.inr ⟨g', cap', cur', hv, hg', ?_, r⟩
    injection hv with hv _ _
    injection hv with hv
    injection hv with hv
    subst hv
    exact (hb.block g (by omega)).trans hh
/-- a store into another block leaves it -/
theorem Own.aside {B g n cap : Nat} {l : List Int} {w0 wr : World} (h : Own B g n cap l w0 wr) (g2 j : Nat) (v : Value) (hne : g2 ≠ g) (hB : B ≤ g2) : Own B g n cap l w0 (wr.setCell ⟨g2, j, none⟩ v) := by
  obtain ⟨h1, h2, h3, h4⟩ := h
  refine ⟨h1, h2, ?_, h4.setCell (p := ⟨g2, j, none⟩) hB _⟩
  obtain ⟨a1, a2⟩ := h3
  refine ⟨a1, ?_⟩
  rcases a2 with hn | ⟨g', cap', cur', hv, hg', hh, r⟩
  · exact Or.inl hn
  · refine Or.inr ⟨g', cap', cur', hv, hg', ?_, r⟩
    injection hv with hv _ _
    injection hv with hv
    injection hv with hv
    subst hv
    exact (Below.heap_setCell wr ⟨g2, j, none⟩ v g (by simpa using fun h => hne h.symm)).trans hh
theorem Own.same {B g n cap : Nat} {l : List Int} {w0 wr w1 : World} (h : Own B g n cap l w0 wr) (hk : w1.heap[g]? = wr.heap[g]?) (hb : Below B w0 w1) : Own B g n cap l w0 w1 := by
  obtain ⟨h1, h2, h3, h4⟩ := h
  refine ⟨h1, h2, ?_, hb⟩
  obtain ⟨a1, a2⟩ := h3
  refine ⟨a1, ?_⟩
  rcases a2 with hn | ⟨g', cap', cur', hv, hg', hh, r⟩
  · exact Or.inl hn
  · refine Or.inr ⟨g', cap', cur', hv, hg', ?_, r⟩
    injection hv with hv _ _
    injection hv with hv
    injection hv with hv
    subst hv
    exact hk.trans hh
theorem Own.down {B0 g n cap : Nat} {l : List Int} {w0 w1 w2 : World} (h : Own w1.heap.size g n cap l w1 w2) (hb : Below B0 w0 w1) (hB : B0 ≤ w1.heap.size) : Own B0 g n cap l w0 w2 :=
  ⟨h.1, Nat.le_trans hB h.2.1, ⟨h.2.2.1.1, by
    rcases h.2.2.1.2 with hn | ⟨g', cap', cur', hv, hg', r⟩
    · exact Or.inl hn
    · exact Or.inr ⟨g', cap', cur', hv, Nat.le_trans hB hg', r⟩⟩, hb.trans (h.2.2.2.mono hB)⟩
theorem del_any (B g n cap : Nat) (l : List Int) (w0 w : World) (i : Nat) (h : Own B g n cap l w0 w) (hi : i < n) :
    Calls Try.prog 53 #[.slice (some ⟨g, 0, none⟩) n cap, .int .i64 i, .int .i64 ((i : Int) + 1)] w fun e w' => e = .returned (.slice (some ⟨g, 0, none⟩) (n - 1) cap) ∧ Own B g (n - 1) cap (l.eraseIdx i) w0 w' ∧ ∀ k, k ≠ g → w'.heap[k]? = w.heap[k]? := by
  have hc := h.cap
  obtain ⟨h1, h2, h3, h4⟩ := h
  obtain ⟨g', cap', e, b1, b2, b3, b4, b5, b6⟩ := Lib.holds_of_ownsRow h3 (by intro h; cases h)
  injection e with e1 _ e3
  injection e1 with e1
  injection e1 with e1
  subst e1; subst e3
  have hd := Try.slices_Delete_int g 0 cap i (i + 1) l w b6 (by omega) hc.2 (by omega) (by omega)
  rw [h1, show ((i + 1 : Nat) : Int) = (i : Int) + 1 by omega] at hd
  refine hd.mono ?_
  rintro e w' ⟨rfl, q, rfl⟩
  have hs : i + 1 - i = 1 := by omega
  have hy : (l.take i ++ l.drop (i + 1) ++ List.replicate (i + 1 - i) 0).length = n := by simp; omega
  have hu := Lib.ownsRow_putRow (q := q) (k := n - 1) h3 hy (by omega)
  have ht : (l.take i ++ l.drop (i + 1) ++ List.replicate (i + 1 - i) 0).take (n - 1) = l.eraseIdx i := by
    rw [List.eraseIdx_eq_take_drop_succ, List.take_append_of_le_length (by simp; omega), List.take_of_length_le (by simp; omega)]
  rw [ht] at hu
  refine ⟨by rw [hs], ⟨by rw [List.length_eraseIdx, if_pos (by omega)]; omega, h2, hu, Lib.below_putRow h4 h2⟩, fun k hk => by simp [Sort.putRow, Sort.mapBlock, Sort.ahead, Array.getElem?_modify, show g ≠ k from fun h => hk h.symm]⟩
end Go.Proofs.Ytaobaiifbmhegaa.nt
