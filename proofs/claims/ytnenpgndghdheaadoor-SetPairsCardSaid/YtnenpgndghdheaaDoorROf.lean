/-
  What the reference's Of answers.
-/
import Derived.Test.YtnenpgndghdheaaDoorSetM
import Derived.Test.YtnenpgndghdheaaDoorSets2
import Derived.Laws.ShiftsVar
import Derived.Deep.MidRow
namespace Go.Proofs.YtnenpgndghdheaaDoor
open Go.RowKit
set_option linter.unusedVariables false
/-- a row of 128 yes and no: those below k are told -/
def row (f : Nat → Bool) (k : Nat) : Array Value := ((List.range 128).map fun j => Value.bool (decide (j < k) && f j)).toArray
theorem row_at (f : Nat → Bool) (k j : Nat) (hj : j < 128) : (row f k)[j]? = some (.bool (decide (j < k) && f j)) := by unfold row; simp [hj]
theorem row_set (f : Nat → Bool) (k : Nat) (hk : k < 128) : (row f k).setIfInBounds k (.bool (f k)) = row f (k + 1) := by
  apply Array.ext
  · simp [row]
  · intro j h1 h2
    have hj : j < 128 := by simpa [row] using h2
    rw [Array.getElem_setIfInBounds (by simpa [row] using hj)]
    by_cases e : k = j
    · subst e; simp [row]
    · rw [if_neg e]
      have : j < k ↔ j < k + 1 := by omega
      simp [row, this]
theorem bit_go (x k : Nat) : (((x : Int) / 2 ^ k).tmod 2 == 1) = x.testBit k := by
  have e : (x : Int) / 2 ^ k = ((x / 2 ^ k : Nat) : Int) := by simp
  rw [e, Nat.testBit_eq_decide_div_mod_eq]
  show (((x / 2 ^ k % 2 : Nat) : Int) == 1) = _
  generalize x / 2 ^ k % 2 = n
  by_cases q : n = 1
  · subst q; rfl
  · have : ¬ (n : Int) = 1 := by omega
    simp [q, this]
theorem below_setCells_g {B b : Nat} {w0 : World} (hb : B ≤ b) : ∀ (vs : List Value) (o : Nat) (w : World), Below B w0 w → Below B w0 (w.setCells b o vs)
  | [], _, _, h => h
  | v :: r, o, w, h => below_setCells_g hb r (o + 1) _ (h.setCell (p := ⟨b, o, none⟩) hb v)
theorem res6 (W : World) (g : Nat) (cs : Array Value) (h : W.rangeAt g 0 cs.toList) (hs : cs.size = 128) (tmps : Array Value) (ht : tmps.getD 2 undef = .pointer (some ⟨g, 0, none⟩)) :
    (results Tryd.f6 tmps).run Tryd.prog W = .ok (.agg cs) W := by
  have hl := run_loadVar_mid (P := Tryd.prog) W g 0 26 _ _ h Tryd.underlying26 rfl (by rw [show cs.toList.length = 128 by simpa using hs]; kernel_rfl)
  rw [Array.toArray_toList] at hl
  unfold results
  rw [Tryd.results6]
  simp only [List.mapM_toArray, List.mapM_cons, List.mapM_nil, ht]
  simp [hl, asAddr]
theorem zero26 (w : World) : (zeroValue 26).run Tryd.prog w = .ok (.agg (Array.replicate 128 (.bool false))) w := by kernel_rfl
set_option maxRecDepth 100000 in
set_option maxHeartbeats 4000000 in
theorem refOf_any (x y : Nat) (hx : x < 18446744073709551616) (hy : y < 18446744073709551616) (w : World) :
    Calls Tryd.prog 6 #[.agg #[.int .u64 x, .int .u64 y]] w fun e w' => e = .returned (.agg (row (mem x y) 128)) ∧ Below w.heap.size w w' := by
  have hz := zero26
  go_enter Tryd.func6, Tryd.ntmps6
  go_wp2
  have hr0 : Array.replicate 128 (Value.bool false) = row (mem x y) 0 := by
    apply Array.ext
    · simp [row]
    · intro j h1 h2
      simp [row]
  have Q : Hid (∀ A : Array Value, (((w.alloc (.cells #[.int .u64 x, .int .u64 y] 23)).alloc (.cells A 26)).alloc (.cells A 26)).heap[w.heap.size]? = some (.cells #[.int .u64 x, .int .u64 y] 23 (0, 0)) ∧
      (((w.alloc (.cells #[.int .u64 x, .int .u64 y] 23)).alloc (.cells A 26)).alloc (.cells A 26)).heap[w.heap.size + 1]? = some (.cells A 26 (0, 0)) ∧
      (((w.alloc (.cells #[.int .u64 x, .int .u64 y] 23)).alloc (.cells A 26)).alloc (.cells A 26)).heap[w.heap.size + 2]? = some (.cells A 26 (0, 0)) ∧
      Below w.heap.size w (((w.alloc (.cells #[.int .u64 x, .int .u64 y] 23)).alloc (.cells A 26)).alloc (.cells A 26))) := fun A => by
    refine ⟨?_, ?_, ?_, bl_al (bl_al (bl_al (Below.refl _ _) _) _) _⟩
    · show (((w.heap.push (Obj.cells #[.int .u64 x, .int .u64 y] 23)).push (Obj.cells A 26)).push (Obj.cells A 26))[w.heap.size]? = _
      rw [Array.getElem?_push, if_neg (by simp; omega), Array.getElem?_push, if_neg (by simp), Array.getElem?_push, if_pos rfl]
    · show (((w.heap.push (Obj.cells #[.int .u64 x, .int .u64 y] 23)).push (Obj.cells A 26)).push (Obj.cells A 26))[w.heap.size + 1]? = _
      rw [Array.getElem?_push, if_neg (by simp), Array.getElem?_push, if_pos (by simp)]
    · show (((w.heap.push (Obj.cells #[.int .u64 x, .int .u64 y] 23)).push (Obj.cells A 26)).push (Obj.cells A 26))[w.heap.size + 2]? = _
      rw [Array.getElem?_push, if_pos (by simp)]
  rw [hr0]
  obtain ⟨q1, q2, q3, q4⟩ := Q.out (row (mem x y) 0)
  clear Q hr0
  generalize (((w.alloc (.cells #[.int .u64 x, .int .u64 y] 23)).alloc (.cells (row (mem x y) 0) 26)).alloc (.cells (row (mem x y) 0) 26)) = X at *
  have R0 : Hid (X.heap[w.heap.size + 2]? = some (.cells (row (mem x y) 0) 26 (0, 0)) ∧ X.heap[w.heap.size]? = some (.cells #[.int .u64 x, .int .u64 y] 23 (0, 0)) ∧ X.heap[w.heap.size + 1]? = some (.cells (row (mem x y) 0) 26 (0, 0)) ∧ Below w.heap.size w X) := ⟨q3, q1, q2, q4⟩
  clear q1 q2 q3 q4 hz
  go_loopw [4] (fun i wr => ∃ k : Nat, k ≤ 128 ∧ i = .int .i64 k ∧ Hid (wr.heap[w.heap.size + 2]? = some (.cells (row (mem x y) k) 26 (0, 0)) ∧ wr.heap[w.heap.size]? = some (.cells #[.int .u64 x, .int .u64 y] 23 (0, 0)) ∧ wr.heap[w.heap.size + 1]? = some (.cells (row (mem x y) 0) 26 (0, 0)) ∧ Below w.heap.size w wr)) (fun i _ => 128 - (intOf i).toNat)
  case atStart => exact ⟨0, by omega, rfl, R0⟩
  case round =>
    clear R0
    obtain ⟨k, hk, rfl, HR⟩ := hrel
    obtain ⟨r1, r2, r0, r3⟩ := HR.out
    by_cases hlt : k < 128
    · obtain ⟨c0, c1⟩ := two_keep (Below.refl _ _) r2
      have c2 : wr.cell? ⟨w.heap.size + 1 + 1, k, none⟩ = some (.bool (decide (k < k) && mem x y k)) := by
        show (match wr.heap[w.heap.size + 1 + 1]? with | some (.cells cs _ _) => cs[k]? | _ => none) = _
        rw [r1]
        exact row_at _ _ _ hlt
      have f2 : wr.frozen? ⟨w.heap.size + 1 + 1, k, none⟩ = false := by simp [World.frozen?, r1]
      have g1 : (k : Int) < 128 := by omega
      have HN : Hid (∀ b, b = mem x y k → (wr.setCell ⟨w.heap.size + 1 + 1, k, none⟩ (.bool b)).heap[w.heap.size + 2]? = some (.cells (row (mem x y) (k + 1)) 26 (0, 0)) ∧ (wr.setCell ⟨w.heap.size + 1 + 1, k, none⟩ (.bool b)).heap[w.heap.size]? = some (.cells #[.int .u64 x, .int .u64 y] 23 (0, 0)) ∧ (wr.setCell ⟨w.heap.size + 1 + 1, k, none⟩ (.bool b)).heap[w.heap.size + 1]? = some (.cells (row (mem x y) 0) 26 (0, 0)) ∧ Below w.heap.size w (wr.setCell ⟨w.heap.size + 1 + 1, k, none⟩ (.bool b))) := fun b hb => by
        refine ⟨?_, ?_, ?_, r3.setCell (p := ⟨w.heap.size + 1 + 1, k, none⟩) (by show w.heap.size ≤ w.heap.size + 1 + 1; omega) _⟩
        · subst hb
          rw [heap_setCell_same wr (w.heap.size + 1 + 1) k _ 26 _ r1, row_set _ _ hlt]
        · rw [heap_setCell_other _ ⟨w.heap.size + 1 + 1, k, none⟩ _ _ (by show w.heap.size ≠ w.heap.size + 1 + 1; omega)]
          exact r2
        · rw [heap_setCell_other _ ⟨w.heap.size + 1 + 1, k, none⟩ _ _ (by show w.heap.size + 1 ≠ w.heap.size + 1 + 1; omega)]
          exact r0
      have hpow : ((2 : Int) ^ k) = ((2 ^ k : Nat) : Int) := by simp
      by_cases h64 : k < 64
      · have e1 : (k : Int).tdiv 64 = 0 := by rw [Int.tdiv_eq_ediv_of_nonneg (by omega)]; omega
        have e2 : (k : Int).tmod 64 = (k : Int) := by rw [Int.tmod_eq_emod_of_nonneg (by omega)]; omega
        have hbit : (((x : Int) / 2 ^ k).tmod 2 == 1) = mem x y k := by rw [mem_lo h64]; exact bit_go x k
        have HN2 := Lib.hid (HN.out _ hbit)
        clear HN hbit hpow
        go_wp2
        go_roundw
        case rel => exact ⟨k + 1, by omega, by go_num, HN2⟩
        case measure => simp [intOf]; omega
      · have e1 : (k : Int).tdiv 64 = 1 := by rw [Int.tdiv_eq_ediv_of_nonneg (by omega)]; omega
        have e2 : (k : Int).tmod 64 = ((k - 64 : Nat) : Int) := by rw [Int.tmod_eq_emod_of_nonneg (by omega)]; omega
        have hpow2 : ((2 : Int) ^ (k - 64)) = ((2 ^ (k - 64) : Nat) : Int) := by simp
        have hbit : (((y : Int) / 2 ^ (k - 64)).tmod 2 == 1) = mem x y k := by rw [mem_hi h64]; exact bit_go y (k - 64)
        have HN2 := Lib.hid (HN.out _ hbit)
        clear HN hbit hpow hpow2
        go_wp2
        go_roundw
        case rel => exact ⟨k + 1, by omega, by go_num, HN2⟩
        case measure => simp [intOf]; omega
    · obtain rfl : k = 128 := by omega
      have hrg : wr.rangeAt (w.heap.size + 1 + 1) 0 (row (mem x y) 128).toList := fun j v hj => by
        rw [Nat.zero_add]
        show (match wr.heap[w.heap.size + 1 + 1]? with | some (.cells cs _ _) => cs[j]? | _ => none) = _
        rw [r1]
        simpa using hj
      have hsz : (row (mem x y) 128).toList.length = 128 := by simp [row]
      have hth : wr.there (w.heap.size + 1) 0 (row (mem x y) 128).size := fun j hj => by
        have hj' : j < 128 := by simpa [row] using hj
        refine ⟨?_, by simp [World.frozen?, r0]⟩
        show (match wr.heap[w.heap.size + 1]? with | some (.cells cs _ _) => cs[0 + j]? | _ => none).isSome = true
        rw [r0, Nat.zero_add]
        show ((row (mem x y) 0)[j]?).isSome = true
        rw [row_at _ _ _ hj']; rfl
      have hB2 := below_setCells_g (w0 := w) (B := w.heap.size) (b := w.heap.size + 1) (by omega) (row (mem x y) 128).toList 0 wr r3
      have hrg2 := World.rangeAt_setCells_same wr (w.heap.size + 1) 0 (row (mem x y) 128).toList (by simpa using hth)
      clear r0 r1 r2 r3
      go_wp2
      refine wp_load_mid 26 (Operand.tmp 3) rfl (w.heap.size + 1 + 1) 0 rfl (row (mem x y) 128).toList _ hrg Tryd.underlying26 rfl (by rw [hsz]; kernel_rfl) ?_
      rename_i hgo
      refine hgo _ _ ?_
      clear hgo
      refine wpList_store_mid rfl 26 (Operand.tmp 2) (Operand.tmp 20) rfl (w.heap.size + 1) 0 (row (mem x y) 128) rfl rfl hth (by kernel_rfl) ?_ ?_
      · rw [Array.all_eq_true_iff_forall_mem]
        intro v hv
        unfold row at hv
        simp at hv
        obtain ⟨a, -, rfl⟩ := hv
        rfl
      go_wp2
      exact bodyPost_ret (v := .agg (row (mem x y) 128)) (res6 _ (w.heap.size + 1) (row (mem x y) 128) hrg2 (by simp [row]) _ rfl) rfl ⟨rfl, hB2⟩
end Go.Proofs.YtnenpgndghdheaaDoor
