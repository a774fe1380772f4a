/-
  assign: stores into a copy's rows, and what they leave.
-/
import Derived.Test.YtlhpiikpmmlpeaaDoorBt
import Derived.Test.YtlhpiikpmmlpeaaDoorZr
import Derived.Test.YtlhpiikpmmlpeaaDoorBa
import Derived.Test.YtlhpiikpmmlpeaaDoorAx
namespace Go.Proofs.YtlhpiikpmmlpeaaDoor.kn
open Go.RowKit
set_option linter.unusedVariables false
set_option linter.unusedSimpArgs false
/-- stores into lists of numbers, those of S alone -/
structure SL (S : List Nat) (w W : World) : Prop where
  tw : Tw S w W
  num : ∀ (b : Nat) (C : Array Value), w.heap[b]? = some (.cells C 3 (0, 0)) → ∃ C' : Array Value, W.heap[b]? = some (.cells C' 3 (0, 0)) ∧ C'.size = C.size
  oth : ∀ (b : Nat) (C : Array Value) (t : TypeId), t ≠ 3 → w.heap[b]? = some (.cells C t (0, 0)) → W.heap[b]? = some (.cells C t (0, 0))
theorem SL.refl (S : List Nat) (w : World) : SL S w w := ⟨Tw.refl S w, fun b C h => ⟨C, h, rfl⟩, fun b C t _ h => h⟩
theorem SL.st {S : List Nat} {w W : World} (h : SL S w W) {q : Nat} {C : Array Value} (hq : q ∈ S) (hc : w.heap[q]? = some (.cells C 3 (0, 0))) (j : Nat) (v : Value) : SL S w (W.setCell ⟨q, j, none⟩ v) := by
  obtain ⟨C1, e1, z1⟩ := h.num q C hc
  refine ⟨h.tw.st q (.inl hq) j v, fun b D hb => ?_, fun b D t ht hb => ?_⟩
  · by_cases e : b = q
    · subst e
      rw [hc] at hb
      injection hb with hb
      injection hb with hb
      subst hb
      exact ⟨_, heap_setCell_same W b j C1 3 v e1, by simpa using z1⟩
    · obtain ⟨D1, e2, z2⟩ := h.num b D hb
      exact ⟨D1, (heap_setCell_other W ⟨q, j, none⟩ b v e).trans e2, z2⟩
  · exact (heap_setCell_other W ⟨q, j, none⟩ b v (blk_ne hb hc ht)).trans (h.oth b D t ht hb)
theorem SL.ints {S : List Nat} {w W : World} (h : SL S w W) {g : Nat} {l : List Int} (hi : IntsO w g l) (hg : g ∉ S) : IntsO W g l := hi.same (h.tw.block g hi.lt hg)
theorem SL.rws {S : List Nat} {w W : World} (h : SL S w W) {B : Nat} {a : Option Addr} {l : List (List Int)} (hi : RwsO B w a l) (hS : ∀ i, i ∈ S → i < B) : RwsO B W a l := fun j hj => by
  obtain ⟨g, cur, g', cj, e1, e2, e3, e4, e5, e6, e7⟩ := hi j hj
  exact ⟨g, cur, g', cj, e1, h.oth g cur 22 (by decide) e2, e3, h.ints e4 (fun hm => by have := hS _ hm; omega), e5, e6, e7⟩
theorem SL.ak {S : List Nat} {w W : World} (h : SL S w W) {B b n : Nat} {cl : List (List Int)} (hi : AK B b n cl w) (hS : ∀ i, i ∈ S → i < B) : AK B b n cl W := by
  obtain ⟨h1, h2, h3, gt, c, h4, h5, cur, h6, h7⟩ := hi
  refine ⟨h1, h2, h3, gt, c, h.oth b _ 52 (by decide) h4, h5, cur, h.oth gt _ 22 (by decide) h6, fun a ha => ?_⟩
  obtain ⟨g, c', e1, e2, e3, e4⟩ := h7 a ha
  exact ⟨g, c', e1, h.ints e2 (fun hm => by have := hS _ hm; omega), e3, e4⟩
/-- a copy's rows: they lie from lo on and ahead of hi -/
def RwsI (lo hi : Nat) (W : World) (a : Option Addr) (l : List (List Int)) : Prop :=
  ∀ j, j < l.length → ∃ (g : Nat) (cur : Array Value) (g' cj : Nat) (C : Array Value), a = some ⟨g, 0, none⟩ ∧ W.heap[g]? = some (.cells cur 22 (0, 0)) ∧ cur[j]? = some (.slice (some ⟨g', 0, none⟩) (l[j]?.getD []).length cj) ∧ W.heap[g']? = some (.cells C 3 (0, 0)) ∧ (∀ i, i < (l[j]?.getD []).length → C[i]? = some (.int .i64 ((l[j]?.getD [])[i]?.getD 0))) ∧ lo ≤ g' ∧ g' < hi ∧ g < hi
theorem RwsO.rwsI {B : Nat} {W : World} {a : Option Addr} {l : List (List Int)} (h : RwsO B W a l) : RwsI B W.heap.size W a l := fun j hj => by
  obtain ⟨g, cur, g', cj, e1, e2, e3, ⟨C, i1, i2⟩, e5, e6, e7⟩ := h j hj
  exact ⟨g, cur, g', cj, C, e1, e2, e3, i1, i2, e6, lt_hp i1, lt_hp e2⟩
theorem RwsI.keep {lo hi : Nat} {W W1 : World} {a : Option Addr} {l : List (List Int)} (h : RwsI lo hi W a l) (hb : Below hi W W1) : RwsI lo hi W1 a l := fun j hj => by
  obtain ⟨g, cur, g', cj, C, e1, e2, e3, e4, e5, e6, e7, e8⟩ := h j hj
  exact ⟨g, cur, g', cj, C, e1, (hb.block g e8).trans e2, e3, (hb.block g' e7).trans e4, e5, e6, e7, e8⟩
theorem RwsI.other {lo hi : Nat} {W W1 : World} {a : Option Addr} {l : List (List Int)} {b : Nat} {cs : Array Value} (h : RwsI lo hi W a l) (hb : W.heap[b]? = some (.cells cs 25 (0, 0))) (he : ∀ k, k ≠ b → W1.heap[k]? = W.heap[k]?) : RwsI lo hi W1 a l := fun j hj => by
  obtain ⟨g, cur, g', cj, C, e1, e2, e3, e4, e5, e6, e7, e8⟩ := h j hj
  exact ⟨g, cur, g', cj, C, e1, (he g (blk_ne e2 hb (by decide))).trans e2, e3, (he g' (blk_ne e4 hb (by decide))).trans e4, e5, e6, e7, e8⟩
/-- where a copy's rows are stored into -/
theorem SL.row {S : List Nat} {w W : World} (h : SL S w W) {lo hi : Nat} {ca : Option Addr} {l : List (List Int)} (hr : RwsI lo hi w ca l) (hS : ∀ g, lo ≤ g → g < hi → g ∈ S) {j : Nat} (hj : j < l.length) (hl : 0 < (l[j]?.getD []).length) :
    ∃ g a c v, ca = some ⟨g, 0, none⟩ ∧ W.cell? ⟨g, j, none⟩ = some (.slice (some ⟨a, 0, none⟩) (l[j]?.getD []).length c) ∧ W.cell? ⟨a, 0, none⟩ = some v ∧ W.frozen? ⟨a, 0, none⟩ = false ∧ ∀ x, SL S w (W.setCell ⟨a, 0, none⟩ x) := by
  obtain ⟨g, cur, a, c, C, e1, e2, e3, i1, i2, e6, e7, e8⟩ := hr j hj
  obtain ⟨C1, k1, k2⟩ := h.num a C i1
  have z : 0 < C1.size := by
    rw [k2]
    have := i2 0 hl
    rcases Nat.lt_or_ge 0 C.size with q | q
    · exact q
    · rw [Array.getElem?_eq_none q] at this; cases this
  refine ⟨g, a, c, C1[0], e1, ?_, ?_, frozen_of_row _ _ _ _ _ k1, fun x => h.st (hS a e6 e7) i1 0 x⟩
  · rw [cell_of_row _ _ _ _ _ _ (h.oth g cur 22 (by decide) e2)]; exact e3
  · rw [cell_of_row _ _ _ _ _ _ k1]; exact Array.getElem?_eq_getElem z
theorem rsrc_rows {W : World} {a : Option Addr} {n c : Nat} {cl : List (List Int)} (h : RSrc W a n c cl) : cl.length ≤ 30 ∧ ∀ j, j < cl.length → (cl[j]?.getD []).length ≤ 70 := by
  obtain ⟨h1, _, _, h4⟩ := h
  refine ⟨by omega, fun j hj => ?_⟩
  rcases h4 with ⟨rfl, _⟩ | ⟨b, o, _, _, h5⟩
  · omega
  · obtain ⟨_, _, _, _, q, _⟩ := h5 j hj
    omega
/-- Bound and its error -/
def BdV (n : Nat) (cl : List (List Int)) (p : List Int) (x y : Int) : Prop := (¬ Pre n p ∧ x = 0 ∧ y = 1) ∨ (Pre n p ∧ x = csm cl p p.length + restR n cl (frl n p) p.length ∧ y = 0)
theorem bd_v {n : Nat} {cl : List (List Int)} {p : List Int} {w w' : World} {e : Ending} (h : BdP n cl p w e w') : ∃ x y, BdV n cl p x y ∧ e = .returned (.tuple #[.int .i64 x, .int .i64 y]) ∧ Below w.heap.size w w' := by
  rcases h with ⟨h1, h2, h3⟩ | ⟨h1, h2, h3⟩
  · exact ⟨_, _, .inl ⟨h1, rfl, rfl⟩, h2, h3⟩
  · exact ⟨_, _, .inr ⟨h1, rfl, rfl⟩, h2, h3⟩
theorem bd_one {n : Nat} {cl : List (List Int)} {p : List Int} {x y a b : Int} (h : BdV n cl p x y) (k : BdV n cl p a b) : a = x ∧ b = y := by
  rcases h with ⟨h1, rfl, rfl⟩ | ⟨h1, rfl, rfl⟩ <;> rcases k with ⟨k1, rfl, rfl⟩ | ⟨k1, rfl, rfl⟩
  · exact ⟨rfl, rfl⟩
  · exact absurd k1 h1
  · exact absurd h1 k1
  · exact ⟨rfl, rfl⟩
end Go.Proofs.YtlhpiikpmmlpeaaDoor.kn
