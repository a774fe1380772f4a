/-
  assign: a list of rows that a loop builds, in memory.
-/
import Derived.Test.YtlhpiikpmmlpeaaDoorBr
import Derived.Test.YtlhpiikpmmlpeaaDoorLoop
namespace Go.Proofs.YtlhpiikpmmlpeaaDoor.kn
open Go.RowKit
set_option linter.unusedVariables false
/-- rows in blocks of their own, and the list of them -/
def MX (B : Nat) (v : Value) (M : List (List Int)) (W : World) : Prop :=
  ∃ ws : List Value, W.ownsRow B 22 1 v M.length ws ∧ ws.length = M.length ∧ ∀ j, j < M.length → ∃ r, ws[j]? = some r ∧ Ol B r (M[j]?.getD []) W
theorem mx_nil (B : Nat) (W : World) : MX B (.slice none 0 0) [] W := ⟨[], World.ownsRow_nil _ _ _ _, rfl, fun j hj => absurd hj (by simp)⟩
theorem MX.keep {B : Nat} {v : Value} {M : List (List Int)} {W W1 : World} (h : MX B v M W) (hb : Below W.heap.size W W1) : MX B v M W1 := by
  obtain ⟨ws, ⟨a1, a2⟩, h2, h3⟩ := h
  refine ⟨ws, ⟨a1, ?_⟩, h2, fun j hj => ?_⟩
  · rcases a2 with hn | ⟨g', cap', cur', hv, hg', hh, r⟩
    · exact Or.inl hn
    · exact Or.inr ⟨g', cap', cur', hv, hg', (hb.block g' (lt_hp hh)).trans hh, r⟩
  · obtain ⟨r, e1, e2⟩ := h3 j hj
    exact ⟨r, e1, e2.keep (Tw.of (S := []) hb) (by simp)⟩
/-- one more row -/
theorem MX.app {B : Nat} {v v' r : Value} {M : List (List Int)} {L : List Int} {W W' : World} {o : Obj} (h : MX B v M W) (hr : Ol B r L W) (hB : B ≤ W.heap.size)
    (hown : W'.ownsRow B 22 1 v' (M.length + 1) ((Classical.choose h) ++ [r])) (hgrow : (W.alloc o).grownBy W' v.ownBlock) : MX B v' (M ++ [L]) W' := by
  obtain ⟨s1, s2, s3⟩ := Classical.choose_spec h
  generalize Classical.choose h = ws at *
  have kp : ∀ (q : Value) (l : List Int), Ol B q l W → Ol B q l W' := fun q l hq => by
    refine ⟨hq.1, ?_⟩
    rcases hq.2 with hn | ⟨g, cap, cur, e, hg, hh, r'⟩
    · exact Or.inl hn
    · refine Or.inr ⟨g, cap, cur, e, hg, ?_, r'⟩
      have h1 := heap_alloc_old W o (lt_hp hh)
      rw [hgrow.block g (by simp; have := lt_hp hh; omega) (row_ne s1 hh (by decide)), h1, hh]
  refine ⟨ws ++ [r], ?_, by simp [s2], fun j hj => ?_⟩
  · rw [List.length_append]; exact hown
  · rw [List.length_append, List.length_singleton] at hj
    by_cases hjl : j < M.length
    · obtain ⟨q, e1, e2⟩ := s3 j hjl
      refine ⟨q, ?_, ?_⟩
      · rw [List.getElem?_append_left (by omega)]; exact e1
      · rw [List.getElem?_append_left hjl]; exact kp _ _ e2
    · obtain rfl : j = M.length := by omega
      refine ⟨r, ?_, ?_⟩
      · rw [List.getElem?_append_right (by omega), s2]; simp
      · rw [List.getElem?_append_right (Nat.le_refl _)]; simp; exact kp _ _ hr
end Go.Proofs.YtlhpiikpmmlpeaaDoor.kn
