/-
  What the reference's Copy answers: what it reads, and the words for it.
-/
import Derived.Test.YteoionlnnjcggaaCut
import Derived.Test.YteoionlnnjcggaaChk4
namespace Go.Proofs.Yteoionlnnjcggaa
open Go.RowKit
set_option linter.unusedVariables false

/-- a list to be copied: its first seventy numbers are l -/
def Src (W : World) (a : Option Addr) (n c : Nat) (l : List Int) : Prop :=
  l.length = min n 70 ∧ n ≤ c ∧ c ≤ 9223372036854775807 ∧ ((n = 0 ∧ (a = none → c = 0)) ∨ ∃ b o, a = some ⟨b, o, none⟩ ∧ b < W.heap.size ∧ ∀ j, j < l.length → W.cell? ⟨b, o + j, none⟩ = some (.int .i64 (l[j]?.getD 0)))
theorem Src.keep {W W1 : World} {a : Option Addr} {n c : Nat} {l : List Int} (h : Src W a n c l) (hb : Below W.heap.size W W1) : Src W1 a n c l := by
  obtain ⟨h1, h2, h3, h4⟩ := h
  refine ⟨h1, h2, h3, ?_⟩
  rcases h4 with h4 | ⟨b, o, e, hlt, hc⟩
  · exact Or.inl h4
  · exact Or.inr ⟨b, o, e, Nat.lt_of_lt_of_le hlt hb.size, fun j hj => (hb.cell (p := ⟨b, o + j, none⟩) hlt).trans (hc j hj)⟩
/-- a list of numbers in a block of its own -/
def IntsO (W : World) (g : Nat) (l : List Int) : Prop := ∃ cur : Array Value, W.heap[g]? = some (.cells cur 3 (0, 0)) ∧ ∀ j, j < l.length → cur[j]? = some (.int .i64 (l[j]?.getD 0))
theorem IntsO.same {W W1 : World} {g : Nat} {l : List Int} (h : IntsO W g l) (he : W1.heap[g]? = W.heap[g]?) : IntsO W1 g l := by
  obtain ⟨cur, h1, h2⟩ := h
  exact ⟨cur, he.trans h1, h2⟩
theorem lt_hp {w : World} {k : Nat} {o : Obj} (h : w.heap[k]? = some o) : k < w.heap.size := by
  rcases Nat.lt_or_ge k w.heap.size with hlt | hge
  · exact hlt
  · rw [Array.getElem?_eq_none hge] at h; cases h
theorem IntsO.lt {W : World} {g : Nat} {l : List Int} (h : IntsO W g l) : g < W.heap.size := by
  obtain ⟨cur, h1, h2⟩ := h
  exact lt_hp h1
theorem IntsO.keep {W W1 : World} {g : Nat} {l : List Int} (h : IntsO W g l) (hb : Below W.heap.size W W1) : IntsO W1 g l := h.same (hb.block _ h.lt)
theorem IntsO.ne {W : World} {g b : Nat} {l : List Int} {cs : Array Value} {t : TypeId} (h : IntsO W g l) (hb : W.heap[b]? = some (.cells cs t (0, 0))) (ht : t ≠ 3) : g ≠ b := by
  obtain ⟨cur, h1, h2⟩ := h
  rintro rfl
  rw [h1] at hb
  injection hb with hb
  injection hb with _ hb
  exact ht hb.symm
theorem IntsO.ints {W : World} {g : Nat} {l : List Int} (h : IntsO W g l) : Ints W (some ⟨g, 0, none⟩) l := fun j hj => by
  have hl := h.lt
  obtain ⟨cur, h1, h2⟩ := h
  refine ⟨g, 0, rfl, hl, ?_⟩
  rw [Nat.zero_add, cell_of_row _ _ _ _ _ _ h1]
  exact h2 j hj
theorem ints_own {W : World} {B g m cap : Nat} {l : List Int} (hl : l.length = m) (h : W.ownsRow B 3 1 (.slice (some ⟨g, 0, none⟩) m cap) m (l.map (Value.int .i64))) : IntsO W g l := by
  have hc := h.cellAt
  rcases h.2 with ⟨h', _⟩ | ⟨g', cap', cur, h', _, hg, _⟩
  · cases h'
  · injection h' with h' _ _
    injection h' with h'
    injection h' with h'
    subst h'
    refine ⟨cur, hg, fun j hj => ?_⟩
    have e := hc j (by omega)
    rw [cell_of_row _ _ _ _ _ _ hg] at e
    rw [e, List.getElem?_map, List.getElem?_eq_getElem hj]
    rfl
theorem cut_src {W : World} {a : Option Addr} {n c : Nat} {l : List Int} (h : Src W a n c l) :
    Calls Try.prog 27 #[.slice a n c] W fun e w' => ∃ g cap, e = .returned (.slice (some ⟨g, 0, none⟩) l.length cap) ∧ Below W.heap.size W w' ∧ IntsO w' g l ∧ W.heap.size ≤ g := by
  obtain ⟨h1, h2, h3, h4⟩ := h
  rcases h4 with ⟨rfl, h4⟩ | ⟨b, o, rfl, hlt, hc⟩
  · have hl : l = [] := List.eq_nil_of_length_eq_zero (by omega)
    subst hl
    cases a with
    | none =>
      obtain rfl := h4 rfl
      refine (cut_nil W).mono ?_
      rintro e w' ⟨g, cap, he, hb, ho⟩
      exact ⟨g, cap, he, hb, ints_own rfl ho, (ho.lt g rfl).1⟩
    | some x =>
      refine (cut_zero x c W h3).mono ?_
      rintro e w' ⟨g, cap, he, hb, ho⟩
      exact ⟨g, cap, he, hb, ints_own rfl ho, (ho.lt g rfl).1⟩
  · refine (cut_some b o n c l.length l W rfl (by omega) h2 h3 hlt hc).mono ?_
    rintro e w' ⟨g, cap, he, hb, ho⟩
    exact ⟨g, cap, he, hb, ints_own rfl ho, (ho.lt g rfl).1⟩
/-- a list of lists to be copied: the first thirty, the first seventy of each -/
def RSrc (W : World) (a : Option Addr) (n c : Nat) (cl : List (List Int)) : Prop :=
  cl.length = min n 30 ∧ n ≤ c ∧ c ≤ 9223372036854775807 ∧ ((n = 0 ∧ (a = none → c = 0)) ∨ ∃ b o, a = some ⟨b, o, none⟩ ∧ b < W.heap.size ∧ ∀ j, j < cl.length → ∃ aj nj cj, W.cell? ⟨b, o + j, none⟩ = some (.slice aj nj cj) ∧ Src W aj nj cj (cl[j]?.getD []))
theorem RSrc.keep {W W1 : World} {a : Option Addr} {n c : Nat} {cl : List (List Int)} (h : RSrc W a n c cl) (hb : Below W.heap.size W W1) : RSrc W1 a n c cl := by
  obtain ⟨h1, h2, h3, h4⟩ := h
  refine ⟨h1, h2, h3, ?_⟩
  rcases h4 with h4 | ⟨b, o, e, hlt, hc⟩
  · exact Or.inl h4
  · refine Or.inr ⟨b, o, e, Nat.lt_of_lt_of_le hlt hb.size, fun j hj => ?_⟩
    obtain ⟨aj, nj, cj, k1, k2⟩ := hc j hj
    exact ⟨aj, nj, cj, (hb.cell (p := ⟨b, o + j, none⟩) hlt).trans k1, k2.keep hb⟩
/-- lists of numbers in blocks of their own, listed in a block of its own -/
def RwsO (B : Nat) (W : World) (a : Option Addr) (l : List (List Int)) : Prop :=
  ∀ j, j < l.length → ∃ (g : Nat) (cur : Array Value) (g' cj : Nat), a = some ⟨g, 0, none⟩ ∧ W.heap[g]? = some (.cells cur 22 (0, 0)) ∧ cur[j]? = some (.slice (some ⟨g', 0, none⟩) (l[j]?.getD []).length cj) ∧ IntsO W g' (l[j]?.getD []) ∧ (l[j]?.getD []).length ≤ 1000 ∧ B ≤ g'
theorem blk_ne {W : World} {a b : Nat} {c1 c2 : Array Value} {t1 t2 : TypeId} (h1 : W.heap[a]? = some (.cells c1 t1 (0, 0))) (h2 : W.heap[b]? = some (.cells c2 t2 (0, 0))) (h : t1 ≠ t2) : a ≠ b := by
  rintro rfl
  rw [h1] at h2
  injection h2 with h2
  injection h2 with _ h2
  exact h h2
theorem RwsO.other {B : Nat} {W W1 : World} {a : Option Addr} {l : List (List Int)} {b : Nat} {cs : Array Value} (h : RwsO B W a l) (hb : W.heap[b]? = some (.cells cs 25 (0, 0))) (he : ∀ k, k ≠ b → W1.heap[k]? = W.heap[k]?) : RwsO B W1 a l := fun j hj => by
  obtain ⟨g, cur, g', cj, e1, e2, e3, e4, e5⟩ := h j hj
  exact ⟨g, cur, g', cj, e1, (he g (blk_ne e2 hb (by decide))).trans e2, e3, e4.same (he g' (e4.ne hb (by decide))), e5⟩
theorem RwsO.keep {B : Nat} {W W1 : World} {a : Option Addr} {l : List (List Int)} (h : RwsO B W a l) (hb : Below W.heap.size W W1) : RwsO B W1 a l := fun j hj => by
  obtain ⟨g, cur, g', cj, e1, e2, e3, e4, e5⟩ := h j hj
  exact ⟨g, cur, g', cj, e1, (hb.block _ (lt_hp e2)).trans e2, e3, e4.keep hb, e5⟩
theorem RwsO.rws {B : Nat} {W : World} {a : Option Addr} {l : List (List Int)} (h : RwsO B W a l) : Rws W a l := fun j hj => by
  obtain ⟨g, cur, g', cj, e1, e2, e3, e4, e5⟩ := h j hj
  refine ⟨g, 0, some ⟨g', 0, none⟩, cj, e1, lt_hp e2, ?_, e4.ints, e5.1⟩
  rw [Nat.zero_add, cell_of_row _ _ _ _ _ _ e2]
  exact e3
theorem box6 {W : World} {b : Nat} {v0 v1 v2 v3 v4 v5 : Value} (q : W.heap[b]? = some (.cells #[v0, v1, v2, v3, v4, v5] 25 (0, 0))) :
    W.cell? ⟨b, 0, none⟩ = some v0 ∧ W.cell? ⟨b, 1, none⟩ = some v1 ∧ W.cell? ⟨b, 2, none⟩ = some v2 ∧ W.cell? ⟨b, 3, none⟩ = some v3 ∧ W.cell? ⟨b, 4, none⟩ = some v4 ∧ W.cell? ⟨b, 5, none⟩ = some v5 :=
  ⟨cell_of_row _ _ 0 _ _ _ q, cell_of_row _ _ 1 _ _ _ q, cell_of_row _ _ 2 _ _ _ q, cell_of_row _ _ 3 _ _ _ q, cell_of_row _ _ 4 _ _ _ q, cell_of_row _ _ 5 _ _ _ q⟩
theorem fr6 {W : World} {b : Nat} {cs : Array Value} (q : W.heap[b]? = some (.cells cs 25 (0, 0))) : ∀ j, W.frozen? ⟨b, j, none⟩ = false := fun j => frozen_of_row _ _ _ _ _ q
theorem six {w : World} {g : Nat} {u0 u1 u2 u3 u4 u5 : Value} (h : w.heap[g]? = some (.cells #[u0, u1, u2, u3, u4, u5] 25 (0, 0))) (v0 v1 v2 v3 v4 v5 : Value) :
    ((((((w.setCell ⟨g, 0, none⟩ (v0)).setCell ⟨g, 1, none⟩ (v1)).setCell ⟨g, 2, none⟩ (v2)).setCell ⟨g, 3, none⟩ (v3)).setCell ⟨g, 4, none⟩ (v4)).setCell ⟨g, 5, none⟩ (v5)).heap[g]? = some (.cells #[v0, v1, v2, v3, v4, v5] 25 (0, 0)) := by
  have h0 := heap_setCell_same w g 0 _ 25 v0 h
  have h1 := heap_setCell_same _ g 1 _ 25 v1 h0
  have h2 := heap_setCell_same _ g 2 _ 25 v2 h1
  have h3 := heap_setCell_same _ g 3 _ 25 v3 h2
  have h4 := heap_setCell_same _ g 4 _ 25 v4 h3
  have h5 := heap_setCell_same _ g 5 _ 25 v5 h4
  exact h5
theorem six_other {w : World} {g k : Nat} (hk : k ≠ g) (v0 v1 v2 v3 v4 v5 : Value) : ((((((w.setCell ⟨g, 0, none⟩ (v0)).setCell ⟨g, 1, none⟩ (v1)).setCell ⟨g, 2, none⟩ (v2)).setCell ⟨g, 3, none⟩ (v3)).setCell ⟨g, 4, none⟩ (v4)).setCell ⟨g, 5, none⟩ (v5)).heap[k]? = w.heap[k]? :=
  (heap_setCell_other _ ⟨g, 5, none⟩ k _ hk).trans ((heap_setCell_other _ ⟨g, 4, none⟩ k _ hk).trans ((heap_setCell_other _ ⟨g, 3, none⟩ k _ hk).trans ((heap_setCell_other _ ⟨g, 2, none⟩ k _ hk).trans ((heap_setCell_other _ ⟨g, 1, none⟩ k _ hk).trans (heap_setCell_other _ ⟨g, 0, none⟩ k _ hk)))))
theorem six_below {B : Nat} {a w : World} (h : Below B a w) {g : Nat} (hg : B ≤ g) (v0 v1 v2 v3 v4 v5 : Value) : Below B a ((((((w.setCell ⟨g, 0, none⟩ (v0)).setCell ⟨g, 1, none⟩ (v1)).setCell ⟨g, 2, none⟩ (v2)).setCell ⟨g, 3, none⟩ (v3)).setCell ⟨g, 4, none⟩ (v4)).setCell ⟨g, 5, none⟩ (v5)) :=
  Below.setCell (p := ⟨g, 5, none⟩) (Below.setCell (p := ⟨g, 4, none⟩) (Below.setCell (p := ⟨g, 3, none⟩) (Below.setCell (p := ⟨g, 2, none⟩) (Below.setCell (p := ⟨g, 1, none⟩) (Below.setCell (p := ⟨g, 0, none⟩) h hg v0) hg v1) hg v2) hg v3) hg v4) hg v5
end Go.Proofs.Yteoionlnnjcggaa
