/-
  What the reference's List answers: the numbers of a row of yes and no, rising, in a list of its own.
-/
import Derived.Test.YtnenpgndghdheaaDoorSetM
import Derived.Test.YtnenpgndghdheaaDoorSrcS
import Derived.Test.YtnenpgndghdheaaDoorSets2
import Derived.Lib.SmallJoins
namespace Go.Proofs.YtnenpgndghdheaaDoor
open Go.RowKit
set_option linter.unusedVariables false
theorem info3L : (Tryd.prog.info? 3).map (fun i => (i.zero, i.size, i.bytes)) = some (some (.int .i64 0), 1, 8) := by kernel_rfl
theorem lst_snoc (f : Nat → Bool) (k : Nat) : lst f 0 (k + 1) = lst f 0 k ++ (if f k = true then [k] else []) := by
  rw [lst_app f k 1 0, Nat.zero_add]
  congr 1
  by_cases h : f k = true
  · rw [lst_yes h, if_pos h]; congr 1; exact lst_none 0 _ (fun i h1 h2 => by omega)
  · rw [lst_no h, if_neg h]; exact lst_none 0 _ (fun i h1 h2 => by omega)
/-- the numbers below k that f tells yes of -/
def upTo (f : Nat → Bool) (k : Nat) : List Int := (lst f 0 k).map (fun (i : Nat) => (i : Int))
theorem upTo_zero (f : Nat → Bool) : upTo f 0 = [] := by unfold upTo; rw [lst_none 0 0 (fun i h1 h2 => by omega)]; rfl
theorem upTo_yes {f : Nat → Bool} {k : Nat} (h : f k = true) : upTo f (k + 1) = upTo f k ++ [(k : Int)] := by unfold upTo; rw [lst_snoc, if_pos h]; simp
theorem upTo_no {f : Nat → Bool} {k : Nat} (h : f k = false) : upTo f (k + 1) = upTo f k := by unfold upTo; rw [lst_snoc, if_neg (by simp [h])]; simp
theorem upTo_len (f : Nat → Bool) (k : Nat) : (upTo f k).length ≤ k := by unfold upTo; have := lst_len f k 0; simpa using this
attribute [irreducible] upTo
set_option maxRecDepth 100000 in
set_option maxHeartbeats 2000000 in
theorem refList_any (f : Nat → Bool) (A : Array Value) (hA : ∀ j, j < 128 → A[j]? = some (.bool (f j))) (w : World) :
    Calls Tryd.prog 12 #[.agg A] w fun e w' => ∃ v, e = .returned v ∧ w'.ownsRow w.heap.size 3 1 v (upTo f 128).length ((upTo f 128).map (Value.int .i64)) ∧ Below w.heap.size w w' := by
  obtain ⟨i0, hi, hz0, hz1, hz2⟩ := info_parts info3L
  go_enter Tryd.func12, Tryd.ntmps12
  go_wp2
  go_loopw [3, 4] (fun o i wr => ∃ k : Nat, k ≤ 128 ∧ i = .int .i64 k ∧ Hid (wr.ownsRow (w.heap.size + 1) 3 1 o (upTo f k).length ((upTo f k).map (Value.int .i64))) ∧ Hid (Below (w.heap.size + 1) (w.alloc (.cells A 26)) wr)) (fun _ i _ => 128 - (intOf i).toNat)
  case atStart =>
    refine ⟨0, by omega, rfl, ?_, ?_⟩
    · rw [upTo_zero]
      have := World.ownsRow_lit (base := w.heap.size + 1) (e := 3) (size := 1) (w.alloc (.cells A 26)) #[] 0 (by simp) (by decide) rfl
      exact Lib.hid (by simpa using this)
    · have := Below.refl (w.heap.size + 1) (w.alloc (.cells A 26))
      exact this.alloc (by simp) _
  case round =>
    obtain ⟨k, hk, rfl, HO, HB⟩ := hrel
    have hul := upTo_len f k
    by_cases hlt : k < 128
    · have c0 : wr.cell? ⟨w.heap.size, k, none⟩ = some (.bool (f k)) := by
        have q : (w.alloc (.cells A 26)).cell? ⟨w.heap.size, k, none⟩ = some (.bool (f k)) := by
          rw [World.cell?_alloc_at A 26 w.heap.size k rfl]; exact hA k hlt
        exact (HB.out.cell (p := ⟨w.heap.size, k, none⟩) (by show w.heap.size < w.heap.size + 1; omega)).trans q
      have g1 : (k : Int) < 128 := by omega
      have hbs : w.heap.size + 1 ≤ (wr.alloc (.cells #[.int .i64 k] 3)).heap.size := by have := HB.out.size; simp at this ⊢; omega
      cases hf : f k with
      | true =>
        rw [hf] at c0
        have HU := Lib.hid (upTo_yes hf)
        have HN : Hid (∀ (v' : Value) (w1 : World), w1.ownsRow (w.heap.size + 1) 3 1 v' ((upTo f k).length + 1) ((upTo f k).map (Value.int .i64) ++ [.int .i64 k]) → w1.ownsRow (w.heap.size + 1) 3 1 v' (upTo f (k + 1)).length ((upTo f (k + 1)).map (Value.int .i64))) := fun v' w1 h => by
          rw [HU.out]; simpa using h
        clear hf HU
        generalize (upTo f k).map (Value.int .i64) = L at *
        generalize (upTo f k).length = m at *
        go_wp2_with (at_builtin; refine wpList_append_own _ rfl _ _ 32 rfl (w.heap.size + 1) 3 i0 (.int .i64 0) 1 8 Tryd.underlying32 hi hz0 hz1 hz2 rfl (by decide) _ _ _ rfl (HO.out.alloc _) ⟨wr.heap.size, 0, none⟩ 1 1 [.int .i64 k] rfl rfl (cell_one_new _ _ _) (by simp [Value.oneCell']) (by unfold maxLen; omega) (by omega) hbs ?_)
        intro v' w1 ho' hg' _
        have hrow := HO.out.lt
        have HO2 := Lib.hid (HN.out v' w1 ho')
        have HB2 := Lib.hid ((HB.out.alloc (by have := HB.out.size; simpa using this) (.cells #[.int .i64 k] 3)).grown hg' hbs (fun kk hkk => (hrow kk hkk).1))
        clear ho' hg' HN HO HB hrow c0
        go_wp2
        go_roundw
        case rel => exact ⟨k + 1, by omega, by go_num, HO2, HB2⟩
        case measure => simp [intOf]; omega
      | false =>
        rw [hf] at c0
        have HU := Lib.hid (upTo_no hf)
        clear hf
        go_wp2
        go_roundw
        case rel => exact ⟨k + 1, by omega, by go_num, by rw [HU.out]; exact HO, HB⟩
        case measure => simp [intOf]; omega
    · obtain rfl : k = 128 := by omega
      go_wp2
      go_ret
      exact ⟨_, rfl, Go.Joins.ownsRow_le HO.out (Nat.le_succ _), (bl_al (Below.refl _ w) _).trans (HB.out.mono (Nat.le_succ _))⟩
/-- a list in a row of its own can be read -/
theorem own_reads {W : World} {B : Nat} {v : Value} {l : List Int} (h : W.ownsRow B 3 1 v l.length (l.map (Value.int .i64))) : ∃ a c, v = .slice a l.length c ∧ Ints W a l ∧ l.length ≤ c ∧ c ≤ maxLen ∧ (a = none → c = 0) ∧ ∀ b o, a = some ⟨b, o, none⟩ → o = 0 := by
  obtain ⟨h1, h2⟩ := h
  rcases h2 with ⟨rfl, h2⟩ | ⟨g, cap, cur, rfl, hb, hg, hc, hm, hcs, ht⟩
  · exact ⟨none, 0, by rw [h2], fun j hj => by omega, by omega, by decide, fun _ => rfl, fun _ _ h => by cases h⟩
  · refine ⟨some ⟨g, 0, none⟩, cap, rfl, fun j hj => ⟨g, 0, rfl, lt_hp hg, ?_⟩, hc, hm, fun h => by (cases h), fun _ _ h => by injection h with h; injection h with _ h _; exact h.symm⟩
    rw [Nat.zero_add]
    show (match W.heap[g]? with | some (.cells cs _ _) => cs[j]? | _ => none) = _
    rw [hg]
    show cur[j]? = _
    have e : (cur.toList.take (l.length * 1))[j]? = (l.map (Value.int .i64))[j]? := by rw [ht]
    rw [List.getElem?_take_of_lt (by omega), List.getElem?_map, List.getElem?_eq_getElem hj] at e
    rw [List.getElem?_eq_getElem hj]
    simpa using e
end Go.Proofs.YtnenpgndghdheaaDoor
