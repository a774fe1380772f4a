/-
  A worker's own slots: a list that may begin within its block; slices.Insert ahead of it.
-/
import Derived.Test.YtaihmkflhapjeaaPl
import Derived.Test.YtaihmkflhapjeaaShelf
import Derived.Laws.AppendOwn
import Derived.Lib.Hide
namespace Go.Proofs.Ytaihmkflhapjeaa
open Go.RowKit Go.MuLone
set_option linter.unusedVariables false
/-- the blocks of a list may have turned, and there may be new ones -/
structure Tw (S : List Nat) (w w' : World) : Prop where
  os : w'.os = w.os
  tape : w'.tape = w.tape
  output : w'.output = w.output
  size : w.heap.size ≤ w'.heap.size
  block : ∀ i, i < w.heap.size → i ∉ S → w'.heap[i]? = w.heap[i]?
theorem Tw.refl (S : List Nat) (w : World) : Tw S w w := ⟨rfl, rfl, rfl, Nat.le_refl _, fun _ _ _ => rfl⟩
theorem Tw.trans {S : List Nat} {w w1 w2 : World} (h : Tw S w w1) (k : Tw S w1 w2) : Tw S w w2 :=
  ⟨k.os.trans h.os, k.tape.trans h.tape, k.output.trans h.output, Nat.le_trans h.size k.size, fun i hi hn => (k.block i (Nat.lt_of_lt_of_le hi h.size) hn).trans (h.block i hi hn)⟩
theorem Tw.mono {S T : List Nat} {w w1 : World} (h : Tw S w w1) (k : ∀ i, i ∈ S → i ∈ T) : Tw T w w1 := ⟨h.os, h.tape, h.output, h.size, fun i hi hn => h.block i hi (fun hs => hn (k i hs))⟩
theorem Tw.al {S : List Nat} {w w1 : World} (h : Tw S w w1) (o : Obj) : Tw S w (w1.alloc o) :=
  ⟨h.os, h.tape, h.output, Nat.le_trans h.size (by simp), fun i hi hn => (Below.heap_alloc w1 o i (Nat.lt_of_lt_of_le hi h.size)).trans (h.block i hi hn)⟩
theorem Tw.dn {S : List Nat} {w w1 : World} (h : Tw S w w1) (n : Nat) : Tw S w (w1.drewN n) := ⟨h.os, h.tape, h.output, h.size, h.block⟩
theorem Tw.dr {S : List Nat} {w w1 : World} (h : Tw S w w1) : Tw S w w1.drew := ⟨h.os, h.tape, h.output, h.size, h.block⟩
theorem Tw.undr {S : List Nat} {w w1 : World} (h : Tw S w.drew w1) : Tw S w w1 := ⟨h.os, h.tape, h.output, h.size, h.block⟩
theorem Tw.st {S : List Nat} {w w1 : World} (h : Tw S w w1) (q : Nat) (hq : q ∈ S ∨ w.heap.size ≤ q) (j : Nat) (v : Value) : Tw S w (w1.setCell ⟨q, j, none⟩ v) :=
  ⟨h.os, h.tape, h.output, by simpa [World.setCell] using h.size, fun i hi hn => (Below.heap_setCell w1 ⟨q, j, none⟩ v i (by show i ≠ q; rintro rfl; rcases hq with hq | hq; exact hn hq; omega)).trans (h.block i hi hn)⟩
theorem Ch.tw {g b : Nat} {w w1 : World} (h : Ch g b w w1) : Tw [g, b] w w1 := ⟨h.os, h.tape, h.output, h.size, fun i hi hn => h.block i hi (fun e => hn (by simp [e])) (fun e => hn (by simp [e]))⟩
theorem Tw.of {S : List Nat} {w w1 : World} (h : Below w.heap.size w w1) : Tw S w w1 := ⟨h.os, h.tape, h.output, h.size, fun i hi _ => h.block i hi⟩
theorem Tw.below {S : List Nat} {B : Nat} {a w w1 : World} (h : Below B a w) (k : Tw S w w1) (hS : ∀ i, i ∈ S → B ≤ i) (hB : B ≤ w.heap.size) : Below B a w1 :=
  ⟨k.os.trans h.os, k.tape.trans h.tape, k.output.trans h.output, Nat.le_trans h.size k.size, fun i hi => (k.block i (by omega) (fun hs => by have := hS i hs; omega)).trans (h.block i hi)⟩
theorem blk_tw {S : List Nat} {p : Nat} {o : Obj} {w w1 : World} (h : w.heap[p]? = some o) (q : Tw S w w1) (h1 : p ∉ S) : w1.heap[p]? = some o := (q.block p (lt_hp h) h1).trans h
theorem cell_tw {S : List Nat} {p : Nat} {w w1 : World} (q : Tw S w w1) (hp : p < w.heap.size) (h1 : p ∉ S) (j : Nat) : w1.cell? ⟨p, j, none⟩ = w.cell? ⟨p, j, none⟩ := by simp [World.cell?, q.block p hp h1]
theorem blk_ty {w : World} {p q : Nat} {c d : Array Value} {t u : TypeId} (h1 : w.heap[p]? = some (.cells c t (0, 0))) (h2 : w.heap[q]? = some (.cells d u (0, 0))) (ht : t ≠ u) : p ≠ q := by
  rintro rfl
  rw [h1] at h2
  simp at h2
  exact ht h2.2
/-- a list of numbers, that may begin within its block -/
def Ol (B : Nat) (v : Value) (l : List Int) (w : World) : Prop := (v = .slice none 0 0 ∧ l = []) ∨ ∃ g off cap cur, v = .slice (some ⟨g, off, none⟩) l.length cap ∧ B ≤ g ∧ l.length ≤ cap ∧ cap ≤ 9223372036854775807 ∧ w.heap[g]? = some (.cells cur 3 (0, 0)) ∧ off + cap ≤ cur.size ∧ ∀ j, j < l.length → w.cell? ⟨g, off + j, none⟩ = some (.int .i64 (nth l j))
/-- its block -/
def vblk : Value → List Nat
  | .slice (some ⟨g, _, _⟩) _ _ => [g]
  | _ => []
theorem Ol.keep {B : Nat} {v : Value} {l : List Int} {S : List Nat} {w w1 : World} (h : Ol B v l w) (k : Tw S w w1) (hS : ∀ i, i ∈ S → i ∉ vblk v) : Ol B v l w1 := by
  rcases h with h | ⟨g, off, cap, cur, rfl, h2, h3, h4, h5, h6, h7⟩
  · exact .inl h
  · have hg : g ∉ S := fun hm => hS g hm (by simp [vblk])
    exact .inr ⟨g, off, cap, cur, rfl, h2, h3, h4, blk_tw h5 k hg, h6, fun j hj => (cell_tw k (lt_hp h5) hg (off + j)).trans (h7 j hj)⟩
theorem Ol.blk {B : Nat} {v : Value} {l : List Int} {w : World} (h : Ol B v l w) : ∀ i, i ∈ vblk v → B ≤ i ∧ ∃ cur, w.heap[i]? = some (.cells cur 3 (0, 0)) := fun i hi => by
  rcases h with ⟨rfl, _⟩ | ⟨g, off, cap, cur, rfl, h2, h3, h4, h5, h6⟩
  · simp [vblk] at hi
  · simp [vblk] at hi
    subst hi
    exact ⟨h2, cur, h5⟩
theorem Ol.mono {B C : Nat} {v : Value} {l : List Int} {w : World} (h : Ol B v l w) (hc : C ≤ B) : Ol C v l w := by
  rcases h with h | ⟨g, off, cap, cur, h1, h2, h3⟩
  · exact .inl h
  · exact .inr ⟨g, off, cap, cur, h1, by omega, h3⟩
theorem n10 (x : Int) : nth [x] 0 = x := by unfold nth; rfl
theorem n20 (x y : Int) : nth [x, y] 0 = x := by unfold nth; rfl
theorem n21 (x y : Int) : nth [x, y] 1 = y := by unfold nth; rfl
/-- what Insert leaves -/
def InsOf (B : Nat) (v : Value) (x : Int) (l : List Int) (w : World) (e : Ending) (w' : World) : Prop := ∃ v', e = .returned v' ∧ Ol B v' (x :: l) w' ∧ Tw (vblk v) w w' ∧ ∀ i, i ∈ vblk v' → i ∈ vblk v ∨ w.heap.size ≤ i
theorem lay_ol {B g off cap : Nat} {cur : Array Value} {l : List Int} {w : World} (hB : B ≤ g) (h1 : l.length ≤ cap) (h2 : cap ≤ 9223372036854775807) (h3 : w.heap[g]? = some (.cells cur 3 (0, 0))) (h4 : off + cap ≤ cur.size) (h5 : ∀ j, j < l.length → cur[off + j]? = some (.int .i64 (nth l j))) : Ol B (.slice (some ⟨g, off, none⟩) l.length cap) l w :=
  .inr ⟨g, off, cap, cur, rfl, hB, h1, h2, h3, h4, fun j hj => (cell_of_row w g (off + j) _ 3 _ h3).trans (h5 j hj)⟩
theorem tw_alloc {S : List Nat} {w : World} (o : Obj) : Tw S w (w.alloc o) := (Tw.refl S w).al o
set_option maxHeartbeats 4000000 in
theorem ins_any (B vb : Nat) (v : Value) (x : Int) (l : List Int) (hl : l.length < 2) (w : World) (hB : B ≤ w.heap.size) (h : Ol B v l w) (hv : w.heap[vb]? = some (.cells #[.int .i64 x] 3 (0, 0))) (hne : vb ∉ vblk v) :
    Calls Try.prog 48 #[v, .int .i64 0, .slice (some ⟨vb, 0, none⟩) 1 1] w (InsOf B v x l w) := by
  have hvs : ∀ j u, ([.int .i64 x] : List Value)[j]? = some u → w.cell? ⟨vb, 0 + j, none⟩ = some u := fun j u hj => by
    cases j with
    | zero => simp at hj; subst hj; exact (cell_of_row w vb 0 _ 3 _ hv).trans rfl
    | succ j => simp at hj
  have h1v : ∀ u ∈ ([.int .i64 x] : List Value), u.oneCell' = true := by simp [Value.oneCell']
  have gle : ∀ a b, grownCap w a b 3 ≤ 9223372036854775807 ∨ ¬ a ≤ 9223372036854775807 := fun a b => by
    by_cases ha : a ≤ 9223372036854775807
    · exact .inl (by have := grownCap_le_maxLen w a b 3 (by unfold maxLen; omega); unfold maxLen at this; omega)
    · exact .inr ha
  rcases h with ⟨rfl, rfl⟩ | ⟨g, off, cap, cur, rfl, h2, h3, h4, h5, h6, h7⟩
  · refine (Any2.slices_Insert_int_end_grow Try.laysIns none 0 0 vb 0 1 1 [] [.int .i64 x] w (by omega) (by omega) (by omega) (by omega) rfl rfl (fun _ => rfl) (fun a h => by cases h) hvs h1v).mono ?_
    rintro e w' ⟨rfl, rfl⟩
    rw [show Try.laysIns_ren.t 3 = 3 from rfl]
    have hc := grownCap_ge w (0 + 1) 0 3
    have hc2 := gle (0 + 1) 0
    refine ⟨_, rfl, lay_ol (l := [x]) (off := 0) hB (by simpa using hc) (by omega) (heap_alloc_new _ _) ?_ (fun j hj => ?_), tw_alloc _ |>.trans (Tw.refl _ _) |> fun h => ⟨h.os, h.tape, h.output, h.size, h.block⟩, fun i hi => ?_⟩
    · have e := size_zeroCells (Value.int .i64 0).cells (grownCap w (0 + 1) 0 3 - (0 + 1))
      rw [show (Value.int .i64 0).cells.size = 1 from rfl] at e
      simp at e
      simp
      omega
    · have hj0 : j = 0 := by simp at hj; omega
      subst hj0
      rw [n10, Nat.add_zero]
      exact (Array.getElem?_append_left (by simp)).trans rfl
    · simp [vblk] at hi
      exact .inr (by rw [hi]; exact Nat.le_refl _)
  · rcases l with _ | ⟨y, _ | ⟨z, r⟩⟩
    · by_cases hc0 : cap = 0
      · subst hc0
        refine (Any2.slices_Insert_int_end_grow Try.laysIns (some ⟨g, off, none⟩) 0 0 vb 0 1 1 [] [.int .i64 x] w (by omega) (by omega) (by omega) (by omega) rfl rfl (fun h => by cases h) (fun a _ j u hj => by simp at hj) hvs h1v).mono ?_
        rintro e w' ⟨rfl, rfl⟩
        rw [show Try.laysIns_ren.t 3 = 3 from rfl]
        have hc := grownCap_ge w (0 + 1) 0 3
        have hc2 := gle (0 + 1) 0
        refine ⟨_, rfl, lay_ol (l := [x]) (off := 0) hB (by simpa using hc) (by omega) (heap_alloc_new _ _) ?_ (fun j hj => ?_), tw_alloc _ |>.trans (Tw.refl _ _) |> fun h => ⟨h.os, h.tape, h.output, h.size, h.block⟩, fun i hi => ?_⟩
        · have e := size_zeroCells (Value.int .i64 0).cells (grownCap w (0 + 1) 0 3 - (0 + 1))
          rw [show (Value.int .i64 0).cells.size = 1 from rfl] at e
          simp at e
          simp
          omega
        · have hj0 : j = 0 := by simp at hj; omega
          subst hj0
          rw [n10, Nat.add_zero]
          exact (Array.getElem?_append_left (by simp)).trans rfl
        · simp [vblk] at hi
          exact .inr (by rw [hi]; exact Nat.le_refl _)
      · refine (Any2.slices_Insert_int_end_room Try.laysIns g off 0 cap vb 0 1 1 [.int .i64 x] w (by omega) (by omega) h4 rfl (fun j hj => ?_) (fun j hj => by simp [World.frozen?, h5]) hvs h1v).mono ?_
        · rw [cell_of_row w g _ _ 3 _ h5, Array.getElem?_eq_getElem (by omega)]; rfl
        rintro e w' ⟨rfl, rfl⟩
        have hb := blk_set h5 (off + 0) (.int .i64 x)
        refine ⟨_, rfl, lay_ol (l := [x]) h2 (by simp; omega) h4 hb (by simpa using h6) (fun j hj => ?_), (Tw.refl _ w).st g (.inl (by simp [vblk])) _ _, fun i hi => .inl (by simpa [vblk] using hi)⟩
        have hj0 : j = 0 := by simp at hj; omega
        subst hj0
        rw [n10, Array.getElem?_setIfInBounds]
        simp
        omega
    · have c0 := h7 0 (by simp)
      rw [n10] at c0
      have hcs : ∀ j u, ([.int .i64 y] : List Value)[j]? = some u → w.cell? ⟨g, off + j, none⟩ = some u := fun j u hj => by
        cases j with
        | zero => simp at hj; subst hj; exact c0
        | succ j => simp at hj
      have h1c : ∀ u ∈ ([.int .i64 y] : List Value), u.oneCell' = true := by simp [Value.oneCell']
      have hcap : 1 ≤ cap := by simpa using h3
      by_cases hc2 : 2 ≤ cap
      · refine (Any2.slices_Insert_int_shift Try.laysIns g off 1 cap 0 vb 0 1 1 [.int .i64 y] [.int .i64 x] w (by omega) (by omega) (by omega) h4 (by simpa [vblk] using hne) rfl rfl hcs (fun j hj => ?_) (fun j hj => by simp [World.frozen?, h5]) hvs h1c h1v 3 3 1 cur.size (by simp [World.shape?, hv]) (by simp [World.shape?, h5]) (by omega) (by simp [World.frozen?, hv]) (by simp [World.frozen?, hv])).mono ?_
        · rw [cell_of_row w g _ _ 3 _ h5, Array.getElem?_eq_getElem (by omega)]; rfl
        rintro e w' ⟨rfl, rfl⟩
        have hb := blk_set (blk_set (show w.drew.heap[g]? = some (.cells cur 3 (0, 0)) from h5) (off + (0 + 1)) (.int .i64 y)) (off + 0) (.int .i64 x)
        refine ⟨_, rfl, lay_ol (l := [x, y]) h2 (by simp; omega) h4 hb (by simpa using h6) (fun j hj => ?_), ((Tw.refl _ w).dr.st g (.inl (by simp [vblk])) _ _).st g (.inl (by simp [vblk])) _ _, fun i hi => .inl (by simpa [vblk] using hi)⟩
        have hj0 : j = 0 ∨ j = 1 := by simp at hj; omega
        rcases hj0 with rfl | rfl
        · rw [n20, Array.getElem?_setIfInBounds]
          simp
          omega
        · rw [n21, Array.getElem?_setIfInBounds, if_neg (by omega), Array.getElem?_setIfInBounds]
          simp
          omega
      · refine (Any2.slices_Insert_int_grow Try.laysIns g off 1 cap 0 vb 0 1 1 [.int .i64 y] [.int .i64 x] w (by omega) (by omega) (by omega) (by omega) (by omega) rfl rfl hcs hvs h1c h1v).mono ?_
        rintro e w' ⟨rfl, rfl⟩
        rw [show Try.laysIns_ren.t 3 = 3 from rfl]
        have hc := grownCap_ge w (1 + 1) cap 3
        have hcm := gle (1 + 1) cap
        generalize grownCap w (1 + 1) cap 3 = gc at *
        generalize hA : ((List.take 0 [Value.int .i64 y]).toArray ++ Builtin.zeroCells (Value.int .i64 0).cells (1 + 1 - 0) ++ Builtin.zeroCells (Value.int .i64 0).cells (gc - (1 + 1))) = A
        have hs : A.size = gc := by
          rw [← hA]
          have e1 := size_zeroCells (Value.int .i64 0).cells (1 + 1 - 0)
          have e2 := size_zeroCells (Value.int .i64 0).cells (gc - (1 + 1))
          rw [show (Value.int .i64 0).cells.size = 1 from rfl] at e1 e2
          simp only [Array.size_append, e1, e2]
          simp
          omega
        have hb := blk_set (blk_set (heap_alloc_new w (.cells A 3 (0, 0))) 0 (.int .i64 x)) 1 (.int .i64 y)
        refine ⟨_, rfl, lay_ol (l := [x, y]) (off := 0) (cur := (A.setIfInBounds 0 (.int .i64 x)).setIfInBounds 1 (.int .i64 y)) hB (by simpa using hc) (by omega) hb (by simp [hs]) (fun j hj => ?_), ((tw_alloc (.cells A 3)).dr.st w.heap.size (.inr (Nat.le_refl _)) 0 (.int .i64 x)).dr.st w.heap.size (.inr (Nat.le_refl _)) 1 (.int .i64 y), fun i hi => ?_⟩
        · have hj0 : j = 0 ∨ j = 1 := by simp at hj; omega
          rcases hj0 with rfl | rfl
          · rw [n20, Array.getElem?_setIfInBounds, if_neg (by omega), Array.getElem?_setIfInBounds]
            simp
            intro h0; rw [h0] at hs; simp at hs; omega
          · rw [n21, Array.getElem?_setIfInBounds]
            simp
            omega
        · simp [vblk] at hi
          exact .inr (by rw [hi]; exact Nat.le_refl _)
    · simp at hl; omega
end Go.Proofs.Ytaihmkflhapjeaa
