/-
  assign: rest: the words, and its three loops over what is left.
-/
import Derived.Test.YtlhpiikpmmlpeaaDoorAr
import Derived.Test.YtlhpiikpmmlpeaaDoorSeTwo
import Derived.LoopIn
namespace Go.Proofs.YtlhpiikpmmlpeaaDoor
open Go.RowKit
set_option linter.unusedVariables false
set_option linter.unusedSimpArgs false
attribute [local go_sem] Oper.semAt_some
/-- the least of a row's numbers at some columns -/
def lea (row pre : List Int) : Int := pre.foldl (fun m c => min m (od.nth row c.toNat)) 9223372036854775807
/-- what is above the rows' least ones -/
def abv (row : List Int) (t : Int) (pre ab : List Int) : List Int := pre.foldl (fun ab c => ab.set c.toNat (min (od.nth ab c.toNat) (od.nth row c.toNat - t))) ab
def smv (ab pre : List Int) (s : Int) : Int := pre.foldl (fun s c => s + od.nth ab c.toNat) s
theorem lea_snoc (row pre : List Int) (c : Int) : lea row (pre ++ [c]) = min (lea row pre) (od.nth row c.toNat) := by unfold lea; simp
theorem abv_snoc (row : List Int) (t : Int) (pre ab : List Int) (c : Int) : abv row t (pre ++ [c]) ab = (abv row t pre ab).set c.toNat (min (od.nth (abv row t pre ab) c.toNat) (od.nth row c.toNat - t)) := by unfold abv; simp
theorem smv_snoc (ab pre : List Int) (s c : Int) : smv ab (pre ++ [c]) s = smv ab pre s + od.nth ab c.toNat := by unfold smv; simp
theorem abv_len (row : List Int) (t : Int) (ab : List Int) : ∀ pre : List Int, (abv row t pre ab).length = ab.length := by
  intro pre
  induction pre generalizing ab with
  | nil => rfl
  | cons c r ih =>
    show (abv row t r (ab.set c.toNat _)).length = _
    rw [ih]
    simp
/-- a list in a block, told by its cells -/
def Blk (W : World) (g : Nat) (l : List Int) : Prop := W.heap[g]? = some (.cells (l.map (Value.int .i64)).toArray 3 (0, 0))
theorem Blk.cell {W : World} {g : Nat} {l : List Int} (h : Blk W g l) (j : Nat) (hj : j < l.length) : W.cell? ⟨g, j, none⟩ = some (.int .i64 (od.nth l j)) := by
  rw [cell_of_row _ _ _ _ _ _ h]
  simp only [List.getElem?_toArray, List.getElem?_map]
  rw [List.getElem?_eq_getElem hj, od.nth_at l j hj]
  rfl
theorem Blk.set {W : World} {g : Nat} {l : List Int} (h : Blk W g l) (j : Nat) (v : Int) : Blk (W.setCell ⟨g, j, none⟩ (.int .i64 v)) g (l.set j v) := by
  unfold Blk
  rw [heap_setCell_same W g j _ 3 (.int .i64 v) h]
  congr 2
  apply Array.toList_inj.mp
  simp [List.map_set]
theorem Blk.frozen {W : World} {g : Nat} {l : List Int} (h : Blk W g l) (j : Nat) : W.frozen? ⟨g, j, none⟩ = false := frozen_of_row _ _ _ _ _ h
theorem Blk.kept {W X : World} {g : Nat} {l : List Int} {row : Option Nat} (h : Blk W g l) (hg : W.grownBy X row) (hne : some g ≠ row) : Blk X g l := (hg.block g (lt_hp h) hne).trans h
theorem blk_own {β : Type} (g : Nat) (f : β → List Int) : Own (fun s W => Blk W g (f s)) := fun s X Y row hs hg hrow =>
  Blk.kept hs hg (fun e' => by obtain ⟨o, ho, hc⟩ := hrow g e'.symm; rw [show X.heap[g]? = _ from hs] at ho; cases ho; cases hc)
theorem lea_acc (row : List Int) : ∀ (pre : List Int) (m : Int), (∀ c ∈ pre, 0 ≤ od.nth row c.toNat) → 0 ≤ m → 0 ≤ pre.foldl (fun m c => min m (od.nth row c.toNat)) m ∧ pre.foldl (fun m c => min m (od.nth row c.toNat)) m ≤ m ∧ ∀ c ∈ pre, pre.foldl (fun m c => min m (od.nth row c.toNat)) m ≤ od.nth row c.toNat
  | [], m, _, hm => ⟨hm, Int.le_refl _, fun c hc => by simp at hc⟩
  | a :: r, m, h, hm => by
    have ha := h a (List.mem_cons_self ..)
    obtain ⟨i1, i2, i3⟩ := lea_acc row r (min m (od.nth row a.toNat)) (fun c hc => h c (List.mem_cons_of_mem _ hc)) (by omega)
    refine ⟨i1, by show r.foldl _ (min m _) ≤ m; omega, fun c hc => ?_⟩
    show r.foldl _ (min m _) ≤ _
    rcases List.mem_cons.1 hc with rfl | q
    · omega
    · exact i3 c q
theorem lea_bd {row pre : List Int} (h : ∀ c ∈ pre, 0 ≤ od.nth row c.toNat) : 0 ≤ lea row pre ∧ lea row pre ≤ 9223372036854775807 ∧ ∀ c ∈ pre, lea row pre ≤ od.nth row c.toNat := lea_acc row pre _ h (by decide)
theorem abv_bd {n : Nat} {row : List Int} {t : Int} (h0 : 0 ≤ t) : ∀ (pre al : List Int), al.length = n → (∀ i, i < n → 0 ≤ od.nth al i ∧ od.nth al i ≤ 9223372036854775807) → (∀ c ∈ pre, (0 ≤ c ∧ c < n) ∧ t ≤ od.nth row c.toNat ∧ od.nth row c.toNat ≤ 2147483647) →
    ∀ i, i < n → (0 ≤ od.nth (abv row t pre al) i ∧ od.nth (abv row t pre al) i ≤ 9223372036854775807) ∧ od.nth (abv row t pre al) i ≤ od.nth al i ∧ ((i : Int) ∈ pre → od.nth (abv row t pre al) i ≤ 2147483647)
  | [], al, _, h, _ => fun i hi => ⟨h i hi, Int.le_refl _, fun q => by simp at q⟩
  | c :: r, al, hl, h, hc => fun i hi => by
    have k := hc c (List.mem_cons_self ..)
    have hcn := h c.toNat (by omega)
    have e : ∀ j, j < n → od.nth (al.set c.toNat (min (od.nth al c.toNat) (od.nth row c.toNat - t))) j = if c.toNat = j then min (od.nth al c.toNat) (od.nth row c.toNat - t) else od.nth al j := fun j hj => od.nth_set _ _ _ _ (by omega)
    have ih := abv_bd h0 r (al.set c.toNat (min (od.nth al c.toNat) (od.nth row c.toNat - t))) (by simp [hl]) (fun j hj => by
      rw [e j hj]
      have := h j hj
      split
      · rename_i q; subst q; omega
      · omega) (fun d hd => hc d (List.mem_cons_of_mem _ hd)) i hi
    have ei := e i hi
    have hi' := h i hi
    refine ⟨ih.1, ?_, fun q => ?_⟩
    · have i2 := ih.2.1
      rw [ei] at i2
      show od.nth (abv row t r (al.set c.toNat (min (od.nth al c.toNat) (od.nth row c.toNat - t)))) i ≤ _
      split at i2
      · rename_i q; subst q; omega
      · omega
    · rcases List.mem_cons.1 q with q | q
      · have i2 := ih.2.1
        rw [ei, if_pos (by omega)] at i2
        show od.nth (abv row t r (al.set c.toNat (min (od.nth al c.toNat) (od.nth row c.toNat - t)))) i ≤ _
        omega
      · exact ih.2.2 q
/-- the rows from one on, so many: the sum of their least numbers, and what is above -/
def rst (n : Nat) (cl : List (List Int)) (F : List Int) (fr : Nat) : Nat → Int × List Int
  | 0 => (0, List.replicate n 9223372036854775807)
  | j + 1 => ((rst n cl F fr j).1 + lea (cl[fr + j]?.getD []) F, abv (cl[fr + j]?.getD []) (lea (cl[fr + j]?.getD []) F) F (rst n cl F fr j).2)
theorem rst_bd {n : Nat} {cl : List (List Int)} {F : List Int} {fr : Nat} (hF : ∀ v ∈ F, 0 ≤ v ∧ v < n) (hne : fr < n → F ≠ []) (hE : ∀ r c : Nat, r < n → c < n → 0 ≤ od.nth (cl[r]?.getD []) c ∧ od.nth (cl[r]?.getD []) c ≤ 2147483647) :
    ∀ j, fr + j ≤ n → (0 ≤ (rst n cl F fr j).1 ∧ (rst n cl F fr j).1 ≤ j * 2147483647) ∧ (rst n cl F fr j).2.length = n ∧ (∀ i, i < n → 0 ≤ od.nth (rst n cl F fr j).2 i ∧ od.nth (rst n cl F fr j).2 i ≤ 9223372036854775807) ∧ (0 < j → ∀ c ∈ F, od.nth (rst n cl F fr j).2 c.toNat ≤ 2147483647)
  | 0, _ => ⟨⟨Int.le_refl _, by show (0 : Int) ≤ _; omega⟩, by simp [rst], fun i hi => by
      show 0 ≤ od.nth (List.replicate n _) i ∧ od.nth (List.replicate n _) i ≤ _
      rw [od.nth_at _ i (by simp; exact hi)]
      simp, fun h => by omega⟩
  | j + 1, h => by
    obtain ⟨i1, i2, i3, i4⟩ := rst_bd hF hne hE j (by omega)
    have hr : ∀ c ∈ F, 0 ≤ od.nth (cl[fr + j]?.getD []) c.toNat ∧ od.nth (cl[fr + j]?.getD []) c.toNat ≤ 2147483647 := fun c hc => hE _ _ (by omega) (by have := hF c hc; omega)
    obtain ⟨l1, l2, l3⟩ := lea_bd (fun c hc => (hr c hc).1)
    have l4 : lea (cl[fr + j]?.getD []) F ≤ 2147483647 := by
      cases F with
      | nil => exact absurd rfl (hne (by omega))
      | cons a r => have := l3 a (List.mem_cons_self ..); have := (hr a (List.mem_cons_self ..)).2; omega
    have ab := abv_bd l1 F _ i2 i3 (fun c hc => ⟨hF c hc, l3 c hc, (hr c hc).2⟩)
    refine ⟨⟨?_, ?_⟩, ?_, fun i hi => ?_, fun _ c hc => ?_⟩
    · show 0 ≤ (rst n cl F fr j).1 + _; omega
    · show (rst n cl F fr j).1 + _ ≤ _; push_cast; omega
    · show (abv _ _ _ _).length = n; rw [abv_len]; exact i2
    · exact (ab i hi).1
    · have := hF c hc
      exact (ab c.toNat (by omega)).2.2 (by rw [Int.toNat_of_nonneg this.1]; exact hc)
theorem lea_le {n : Nat} {cl : List (List Int)} {F : List Int} {r : Nat} (hr : r < n) (hF : ∀ v ∈ F, 0 ≤ v ∧ v < n) (hne : F ≠ []) (hE : ∀ r c : Nat, r < n → c < n → 0 ≤ od.nth (cl[r]?.getD []) c ∧ od.nth (cl[r]?.getD []) c ≤ 2147483647) : 0 ≤ lea (cl[r]?.getD []) F ∧ lea (cl[r]?.getD []) F ≤ 2147483647 ∧ ∀ c ∈ F, lea (cl[r]?.getD []) F ≤ od.nth (cl[r]?.getD []) c.toNat := by
  have h : ∀ c ∈ F, 0 ≤ od.nth (cl[r]?.getD []) c.toNat ∧ od.nth (cl[r]?.getD []) c.toNat ≤ 2147483647 := fun c hc => hE _ _ hr (by have := hF c hc; omega)
  obtain ⟨l1, l2, l3⟩ := lea_bd (fun c hc => (h c hc).1)
  refine ⟨l1, ?_, l3⟩
  cases F with
  | nil => exact absurd rfl hne
  | cons a r => have := l3 a (List.mem_cons_self ..); have := (h a (List.mem_cons_self ..)).2; omega
end Go.Proofs.YtlhpiikpmmlpeaaDoor
