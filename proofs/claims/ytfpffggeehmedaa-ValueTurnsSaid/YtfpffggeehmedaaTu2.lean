/-
  kurganlaw08.ValueTurns at an assignment, walked.
-/
import Derived.Test.YtfpffggeehmedaaTuL
namespace Go.Proofs.Ytfpffggeehmedaa
open Go.RowKit
open kc (IO RwsC)
set_option linter.unusedVariables false
/-- a copy's rows in memory, none of them in the block gy -/
def JT (gt gy n : Nat) (R : Nat → List Int) (W : World) : Prop := ∃ cur : Array Value, W.heap[gt]? = some (.cells cur 22 (0, 0)) ∧ ∀ a, a < n → ∃ g c, cur[a]? = some (.slice (some ⟨g, 0, none⟩) n c) ∧ IntsO W g (R a) ∧ (R a).length = n ∧ g ≠ gy
def YT (gy n : Nat) (F : Nat → Int) (W : World) : Prop := ∃ cur : Array Value, W.heap[gy]? = some (.cells cur 3 (0, 0)) ∧ ∀ a, a < n → cur[a]? = some (.int .i64 (F a))
theorem JT.keep {gt gy n : Nat} {R : Nat → List Int} {W W1 : World} (h : JT gt gy n R W) (hb : Below W.heap.size W W1) : JT gt gy n R W1 := by
  obtain ⟨cur, h1, h2⟩ := h
  refine ⟨cur, (hb.block _ (lt_hp h1)).trans h1, fun a ha => ?_⟩
  obtain ⟨g, c, e1, e2, e3⟩ := h2 a ha
  exact ⟨g, c, e1, e2.keep hb, e3⟩
theorem YT.keep {gy n : Nat} {F : Nat → Int} {W W1 : World} (h : YT gy n F W) (hb : Below W.heap.size W W1) : YT gy n F W1 := by
  obtain ⟨cur, h1, h2⟩ := h
  exact ⟨cur, (hb.block _ (lt_hp h1)).trans h1, h2⟩
theorem set_oth (W : World) (g j : Nat) (v : Value) {b : Nat} (hb : b ≠ g) : (W.setCell ⟨g, j, none⟩ v).heap[b]? = W.heap[b]? := heap_setCell_other W ⟨g, j, none⟩ b v hb
theorem JT.row {gt gy n : Nat} {R : Nat → List Int} {W : World} (h : JT gt gy n R W) {k : Nat} (hk : k < n) {g c : Nat} {r : List Int} (hr : IntsO W g r) (hl : r.length = n) (hg : g ≠ gy) : JT gt gy n (fun a => if a = k then r else R a) (W.setCell ⟨gt, k, none⟩ (.slice (some ⟨g, 0, none⟩) n c)) := by
  obtain ⟨cur, h1, h2⟩ := h
  have hz : k < cur.size := by
    obtain ⟨g0, c0, e, _⟩ := h2 k hk
    exact (Array.getElem?_eq_some_iff.1 e).1
  have oth : ∀ {g' : Nat} {l : List Int}, IntsO W g' l → IntsO (W.setCell ⟨gt, k, none⟩ (.slice (some ⟨g, 0, none⟩) n c)) g' l := fun hi => hi.same (set_oth W gt k _ (hi.ne h1 (by decide)))
  refine ⟨_, heap_setCell_same W gt k _ 22 _ h1, fun a ha => ?_⟩
  by_cases e : a = k
  · subst e
    refine ⟨g, c, by rw [Array.getElem?_setIfInBounds_self_of_lt hz], by dsimp only; rw [if_pos rfl]; exact oth hr, by dsimp only; rw [if_pos rfl]; exact hl, hg⟩
  · obtain ⟨g0, c0, e1, e2, e3, e4⟩ := h2 a ha
    refine ⟨g0, c0, by rw [Array.getElem?_setIfInBounds_ne (fun q => e q.symm)]; exact e1, by dsimp only; rw [if_neg e]; exact oth e2, by dsimp only; rw [if_neg e]; exact e3, e4⟩
theorem JT.cell {gt gy n : Nat} {R : Nat → List Int} {W : World} (h : JT gt gy n R W) {k : Nat} (hk : k < n) : (∃ g c, W.cell? ⟨gt, k, none⟩ = some (.slice (some ⟨g, 0, none⟩) n c)) ∧ W.frozen? ⟨gt, k, none⟩ = false ∧ gt < W.heap.size := by
  obtain ⟨cur, h1, h2⟩ := h
  obtain ⟨g, c, e1, _⟩ := h2 k hk
  exact ⟨⟨g, c, by rw [cell_of_row _ _ _ _ _ _ h1]; exact e1⟩, frozen_of_row _ _ _ _ _ h1, lt_hp h1⟩
theorem JT.y {gt gy n : Nat} {R : Nat → List Int} {F : Nat → Int} {W : World} (h : JT gt gy n R W) (hy : YT gy n F W) (k : Nat) (v : Value) : JT gt gy n R (W.setCell ⟨gy, k, none⟩ v) := by
  obtain ⟨cur, h1, h2⟩ := h
  obtain ⟨cy, h3, _⟩ := hy
  refine ⟨cur, (set_oth W gy k v (blk_ne h1 h3 (by decide))).trans h1, fun a ha => ?_⟩
  obtain ⟨g, c, e1, e2, e3, e4⟩ := h2 a ha
  exact ⟨g, c, e1, e2.same (set_oth W gy k v e4), e3, e4⟩
theorem JT.congr {gt gy n : Nat} {R R' : Nat → List Int} {W : World} (h : JT gt gy n R W) (e : ∀ a, a < n → R a = R' a) : JT gt gy n R' W := by
  obtain ⟨cur, h1, h2⟩ := h
  exact ⟨cur, h1, fun a ha => by rw [← e a ha]; exact h2 a ha⟩
theorem JT.rws {gt gy n : Nat} {R : Nat → List Int} {W : World} (h : JT gt gy n R W) (hn : n ≤ 24) {L : List (List Int)} (hl : L.length = n) (hL : ∀ a, a < n → L[a]?.getD [] = R a) : Rws W (some ⟨gt, 0, none⟩) L := fun j hj => by
  obtain ⟨cur, h1, h2⟩ := h
  obtain ⟨g, c, e1, e2, e3, _⟩ := h2 j (by omega)
  rw [hL j (by omega)]
  refine ⟨gt, 0, some ⟨g, 0, none⟩, c, rfl, lt_hp h1, ?_, e2.ints, by omega⟩
  rw [Nat.zero_add, cell_of_row _ _ _ _ _ _ h1, e3]
  exact e1
theorem YT.set {gy n : Nat} {F : Nat → Int} {W : World} (h : YT gy n F W) {k : Nat} (hk : k < n) (v : Int) : YT gy n (fun a => if a = k then v else F a) (W.setCell ⟨gy, k, none⟩ (.int .i64 v)) := by
  obtain ⟨cur, h1, h2⟩ := h
  refine ⟨_, heap_setCell_same W gy k _ 3 _ h1, fun a ha => ?_⟩
  have hz := (Array.getElem?_eq_some_iff.1 (h2 k hk)).1
  by_cases e : a = k
  · subst e; rw [Array.getElem?_setIfInBounds_self_of_lt hz]; dsimp only; rw [if_pos rfl]
  · rw [Array.getElem?_setIfInBounds_ne (fun q => e q.symm)]; dsimp only; rw [if_neg e]; exact h2 a ha
theorem YT.congr {gy n : Nat} {F F' : Nat → Int} {W : World} (h : YT gy n F W) (e : ∀ a, a < n → F a = F' a) : YT gy n F' W := by
  obtain ⟨cur, h1, h2⟩ := h
  exact ⟨cur, h1, fun a ha => by rw [← e a ha]; exact h2 a ha⟩
theorem YT.row {gt gy n : Nat} {R : Nat → List Int} {F : Nat → Int} {W : World} (h : YT gy n F W) (hj : JT gt gy n R W) (k : Nat) (v : Value) : YT gy n F (W.setCell ⟨gt, k, none⟩ v) := by
  obtain ⟨cur, h1, h2⟩ := hj
  obtain ⟨cy, h3, h4⟩ := h
  exact ⟨cy, (set_oth W gt k v (blk_ne h3 h1 (by decide))).trans h3, h4⟩
theorem YT.cell {gy n : Nat} {F : Nat → Int} {W : World} (h : YT gy n F W) {k : Nat} (hk : k < n) : W.cell? ⟨gy, k, none⟩ = some (.int .i64 (F k)) ∧ W.frozen? ⟨gy, k, none⟩ = false := by
  obtain ⟨cur, h1, h2⟩ := h
  exact ⟨by rw [cell_of_row _ _ _ _ _ _ h1]; exact h2 k hk, frozen_of_row _ _ _ _ _ h1⟩
theorem YT.ints {gy n : Nat} {F : Nat → Int} {W : World} (h : YT gy n F W) {l : List Int} (hl : l.length = n) (e : ∀ a, a < n → l[a]?.getD 0 = F a) : Ints W (some ⟨gy, 0, none⟩) l := by
  obtain ⟨cur, h1, h2⟩ := h
  exact IntsO.ints ⟨cur, h1, fun j hj => by rw [e j (by omega)]; exact h2 j (by omega)⟩
theorem jt_start {B gy n : Nat} {W : World} {a : Option Addr} {c : Nat} {cl : List (List Int)} (h : RwsC B W a c cl) (hl : cl.length = n) (hr : ∀ j, j < n → (cl[j]?.getD []).length = n) (h1 : 1 ≤ n) (hy : W.heap.size ≤ gy) : ∃ gt, a = some ⟨gt, 0, none⟩ ∧ JT gt gy n (fun j => cl[j]?.getD []) W := by
  obtain ⟨g, cur, g', cj, e1, e2, e3, e4, e5⟩ := h.2 0 (by omega)
  refine ⟨g, e1, cur, e2, fun j hj => ?_⟩
  obtain ⟨gg, cu, g2, c2, f1, f2, f3, f4, f5⟩ := h.2 j (by omega)
  rw [e1] at f1
  injection f1 with f1
  injection f1 with f1 _ _
  subst f1
  rw [e2] at f2
  injection f2 with f2
  injection f2 with f2 _ _
  subst f2
  rw [hr j hj] at f3
  refine ⟨g2, c2, f3, f4.1, hr j hj, ?_⟩
  have := f4.1.lt
  omega
theorem src_rows {B n : Nat} {W : World} {a : Option Addr} {c : Nat} {cl : List (List Int)} (h : RwsC B W a c cl) (hl : cl.length = n) (hr : ∀ j, j < n → (cl[j]?.getD []).length = n) (h1 : 1 ≤ n) : ∃ gi, a = some ⟨gi, 0, none⟩ ∧ gi < W.heap.size ∧ ∀ j, j < n → ∃ gr cr, W.cell? ⟨gi, j, none⟩ = some (.slice (some ⟨gr, 0, none⟩) n cr) ∧ IntsO W gr (cl[j]?.getD []) ∧ n ≤ cr ∧ cr ≤ 9223372036854775807 := by
  obtain ⟨g, cur, g', cj, e1, e2, e3, e4, e5⟩ := h.2 0 (by omega)
  refine ⟨g, e1, lt_hp e2, fun j hj => ?_⟩
  obtain ⟨gg, cu, g2, c2, f1, f2, f3, f4, f5⟩ := h.2 j (by omega)
  rw [e1] at f1
  injection f1 with f1
  injection f1 with f1 _ _
  subst f1
  rw [hr j hj] at f3
  have l4 := f4.2.1
  rw [hr j hj] at l4
  exact ⟨g2, c2, by rw [cell_of_row _ _ _ _ _ _ f2]; exact f3, f4.1, l4, f4.2.2.1⟩
theorem io_yt {g n : Nat} {l : List Int} {W : World} (h : IntsO W g l) (hl : l.length = n) : YT g n (fun a => l[a]?.getD 0) W := by
  obtain ⟨cur, h1, h2⟩ := h
  exact ⟨cur, h1, fun a ha => h2 a (by omega)⟩
theorem YT.lt {gy n : Nat} {F : Nat → Int} {W : World} (h : YT gy n F W) : gy < W.heap.size := by
  obtain ⟨cur, h1, _⟩ := h
  exact lt_hp h1
theorem cell_oth {W : World} {g k b j : Nat} {v : Value} (hb : b ≠ g) : (W.setCell ⟨g, k, none⟩ v).cell? ⟨b, j, none⟩ = W.cell? ⟨b, j, none⟩ := by
  unfold World.cell?
  simp only [set_oth W g k v hb]
theorem cell_at {W : World} {b : Nat} {cs : Array Value} {t : TypeId} (h : W.heap[b]? = some (.cells cs t (0, 0))) {j : Nat} {v : Value} (hv : cs[j]? = some v) : W.cell? ⟨b, j, none⟩ = some v := by rw [cell_of_row _ _ _ _ _ _ h]; exact hv
end Go.Proofs.Ytfpffggeehmedaa
