/-
  values() of kurganlaw08 is true.
-/
import Derived.Test.YtaobaiifbmhegaaPlain
namespace Go.Proofs.Ytaobaiifbmhegaa
open Go.RowKit
set_option linter.unusedVariables false

def vcl : List (List Int) := [[0, 1, 2], [3, 0, 4], [5, 6, 0]]
theorem v_chk : chk 3 3 0 [] [] vcl = 0 := by
  rw [chk_costs (by decide) (by decide) (by decide) (by unfold formP; exact Or.inr ⟨by decide, rfl, rfl, rfl, rfl, fun j hj => by
    have : j < 3 := hj
    rcases j with _ | _ | _ | j
    · rfl
    · rfl
    · rfl
    · omega⟩) (by decide)]
  unfold vcl
  simp [costE, rowE, num]
theorem v_okx : okx 3 3 [0, 2, 1] := by
  unfold okx
  refine ⟨rfl, Or.inr ⟨by decide, fun _ => rfl, rfl, fun j hj => ?_⟩⟩
  have : j < 3 := hj
  rcases j with _ | _ | _ | j
  · simp
  · simp
  · simp
  · omega
theorem v_cost : costR 3 3 0 [] [] vcl [0, 2, 1] = (11, 0) := by
  rw [cost_ways v_chk v_okx]
  show (ps (wayc vcl [0, 2, 1]) 3, (0 : Int)) = _
  rw [ps_succ, ps_succ, ps_succ, ps_zero]
  simp [wayc, hereAt, ent, nth, vcl]
theorem v_total : totalR 3 3 0 [] [] vcl = 12 := by
  rw [total_ok v_chk]
  show ps (nth []) 0 + ps (rowm vcl) 3 = _
  rw [ps_succ, ps_succ, ps_succ, ps_zero, ps_zero]
  unfold rowm
  show 0 + (0 + mxp [0, 1, 2] 2 + mxp [3, 0, 4] 2 + mxp [5, 6, 0] 2) = 12
  simp only [mxp_succ, mxp_zero]
  simp [nth]
  decide
theorem v_plain : plainR 3 3 0 [] [] vcl = [0, 1, 2] := by
  rw [plain_rows v_chk (by decide)]
  rfl
theorem ints_blk {W : World} {g : Nat} (l : List Int) (h : W.heap[g]? = some (.cells (l.map (Value.int .i64)).toArray 3 (0, 0))) : Ints W (some ⟨g, 0, none⟩) l :=
  IntsO.ints ⟨_, h, fun j hj => by
    rw [List.getElem?_toArray, List.getElem?_map, List.getElem?_eq_getElem hj]; rfl⟩
theorem ints_nil (W : World) (a : Option Addr) : Ints W a [] := fun j hj => absurd hj (by simp)
theorem v_prob (w : World) (W : World) (h0 : W.heap[w.heap.size]? = some (.cells #[.int .i64 0, .int .i64 1, .int .i64 2] 3 (0, 0))) (h1 : W.heap[w.heap.size + 1]? = some (.cells #[.int .i64 3, .int .i64 0, .int .i64 4] 3 (0, 0)))
    (h2 : W.heap[w.heap.size + 1 + 1]? = some (.cells #[.int .i64 5, .int .i64 6, .int .i64 0] 3 (0, 0)))
    (h3 : W.heap[w.heap.size + 1 + 1 + 1]? = some (.cells #[.slice (some ⟨w.heap.size, 0, none⟩) 3 3, .slice (some ⟨w.heap.size + 1, 0, none⟩) 3 3, .slice (some ⟨w.heap.size + 1 + 1, 0, none⟩) 3 3] 22 (0, 0))) :
    Prob W [] [] vcl none none (some ⟨w.heap.size + 1 + 1 + 1, 0, none⟩) := by
  refine ⟨ints_nil _ _, ints_nil _ _, fun j hj => ?_, by simp, by simp, by decide⟩
  have : j < 3 := hj
  rcases j with _ | _ | _ | j
  · exact ⟨_, 0, _, 3, rfl, lt_hp h3, cell_of_row _ _ 0 _ _ _ h3, ints_blk [0, 1, 2] h0, by decide⟩
  · exact ⟨_, 0, _, 3, rfl, lt_hp h3, cell_of_row _ _ 1 _ _ _ h3, ints_blk [3, 0, 4] h1, by decide⟩
  · exact ⟨_, 0, _, 3, rfl, lt_hp h3, cell_of_row _ _ 2 _ _ _ h3, ints_blk [5, 6, 0] h2, by decide⟩
  · omega
def V (w : World) : World := ((((((w.alloc (.cells #[.int .i64 0, .int .i64 1, .int .i64 2] 3)).alloc (.cells #[.int .i64 3, .int .i64 0, .int .i64 4] 3)).alloc (.cells #[.int .i64 5, .int .i64 6, .int .i64 0] 3)).alloc
    (.cells #[.slice (some ⟨w.heap.size, 0, none⟩) 3 3, .slice (some ⟨w.heap.size + 1, 0, none⟩) 3 3, .slice (some ⟨w.heap.size + 1 + 1, 0, none⟩) 3 3] 22)).alloc
    (.cells #[.int .i64 3, .int .i64 3, .int .i64 0, .slice none 0 0, .slice none 0 0, .slice (some ⟨w.heap.size + 1 + 1 + 1, 0, none⟩) 3 3] 25)).alloc (.cells #[.int .i64 0, .int .i64 2, .int .i64 1] 3))
theorem at_new (X : World) (o : Obj) (k : Nat) (h : k = X.heap.size) : (X.alloc o).heap[k]? = some o := by subst h; exact heap_alloc_new X o
theorem at_old (X : World) (o : Obj) (k : Nat) (h : k < X.heap.size) : (X.alloc o).heap[k]? = X.heap[k]? := ((Below.refl X.heap.size X).alloc (Nat.le_refl _) o).block k h
theorem V_facts (w : World) : Prob (V w) [] [] vcl none none (some ⟨w.heap.size + 1 + 1 + 1, 0, none⟩) ∧ Ints (V w) (some ⟨w.heap.size + 1 + 1 + 1 + 1 + 1, 0, none⟩) [0, 2, 1] ∧
    (V w).heap[w.heap.size + 1 + 1 + 1 + 1]? = some (.cells #[.int .i64 3, .int .i64 3, .int .i64 0, .slice none 0 0, .slice none 0 0, .slice (some ⟨w.heap.size + 1 + 1 + 1, 0, none⟩) 3 3] 25 (0, 0)) ∧ Below w.heap.size w (V w) := by
  refine ⟨v_prob w _ ?_ ?_ ?_ ?_, ints_blk [0, 2, 1] ?_, ?_, bl_al (bl_al (bl_al (bl_al (bl_al (bl_al (Below.refl _ _) _) _) _) _) _) _⟩
  all_goals
    unfold V
    repeat (first | exact at_new _ _ _ (by simp) | refine (at_old _ _ _ (by simp <;> omega)).trans ?_)
end Go.Proofs.Ytaobaiifbmhegaa
