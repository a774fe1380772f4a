/-
  Rows of yes and no: held against each other, stored whole.
-/
import Derived.Test.YtnenpgndghdheaaDoorROf
import Derived.Test.YtnenpgndghdheaaDoorHas
namespace Go.Proofs.YtnenpgndghdheaaDoor
open Go.RowKit
set_option linter.unusedVariables false
theorem row_congr {f g : Nat → Bool} {k : Nat} (h : ∀ j, j < 128 → f j = g j) : row f k = row g k := by
  unfold row
  congr 1
  apply List.map_congr_left
  intro j hj
  rw [h j (by simpa using hj)]
theorem row_size (f : Nat → Bool) (k : Nat) : (row f k).size = 128 := by simp [row]
theorem info4 : (Tryd.prog.info? 4).isSome = true := by kernel_rfl
theorem eqItems_row (f : Nat → Bool) (w : World) : ∀ (l : List Nat), (∀ j ∈ l, j < 128) → (Op.eqItems 9999 4 1 (row f 128) (row f 128) l).run Tryd.prog w = .ok true w
  | [], _ => by simp [Op.eqItems]
  | j :: l, h => by
    have hj := h j (by simp)
    have hc := row_at f 128 j hj
    have ih := eqItems_row f w l (fun i hi => h i (by simp [hi]))
    have hp : (part 4 (row f 128) (j * 1)).run Tryd.prog w = .ok (.bool (decide (j < 128) && f j)) w := by
      rw [Nat.mul_one]
      simp [part, go_sem, hc]
    have he : (Op.equalIn 9999 4 (.bool (decide (j < 128) && f j)) (.bool (decide (j < 128) && f j))).run Tryd.prog w = .ok true w := by
      rw [run_equalIn_bool w 9998 4 _ _ Tryd.underlying4]; simp
    simp only [Op.eqItems, Sem.run_bind, hp, he, Result.andThen_ok]
    exact ih
theorem eq_row (f : Nat → Bool) (w : World) : (binOp .eql 26 (.agg (row f 128)) (.agg (row f 128))).run Tryd.prog w = .ok (.bool true) w := by
  have h : (Op.equalIn 10000 26 (.agg (row f 128)) (.agg (row f 128))).run Tryd.prog w = .ok true w := by
    rw [run_equalIn_array w 9999 (n := 128) (e := 4) (i := (Tryd.prog.info? 4).get (by kernel_rfl)) _ _ Tryd.underlying26 (by kernel_rfl)]
    rw [show Tryd.prog.cellsOf 4 = 1 by kernel_rfl]
    exact eqItems_row f w _ (fun j hj => by simpa using hj)
  simp only [binOp]
  simp [Op.equal, Op.maxDepth, h]
/-! a row stored whole -/
def wrAt (cs : Array Value) : Nat → List Value → Array Value
  | _, [] => cs
  | o, v :: r => wrAt (cs.setIfInBounds o v) (o + 1) r
theorem wrAt_size : ∀ (vs : List Value) (o : Nat) (cs : Array Value), (wrAt cs o vs).size = cs.size
  | [], _, _ => rfl
  | v :: r, o, cs => by rw [wrAt, wrAt_size r]; simp
theorem wrAt_get : ∀ (vs : List Value) (o : Nat) (cs : Array Value) (j : Nat), (wrAt cs o vs)[j]? = if o ≤ j ∧ j < o + vs.length ∧ j < cs.size then vs[j - o]? else cs[j]?
  | [], o, cs, j => by rw [wrAt, if_neg (by simp; omega)]
  | v :: r, o, cs, j => by
    rw [wrAt, wrAt_get r]
    by_cases h : o = j
    · subst h
      rw [if_neg (by omega), Array.getElem?_setIfInBounds]
      simp
      by_cases q : o < cs.size
      · simp [q]
      · simp [q]
    · rw [Array.getElem?_setIfInBounds, if_neg h]
      by_cases q : o + 1 ≤ j ∧ j < o + 1 + r.length ∧ j < cs.size
      · rw [if_pos (by simpa using q), if_pos (by simp; omega)]
        rw [show j - o = (j - (o + 1)) + 1 by omega, List.getElem?_cons_succ]
      · rw [if_neg (by simpa using q), if_neg (by simp; omega)]
theorem heap_setCells (b : Nat) : ∀ (vs : List Value) (o : Nat) (w : World) (cs : Array Value) (t : TypeId), w.heap[b]? = some (.cells cs t (0, 0)) → (w.setCells b o vs).heap[b]? = some (.cells (wrAt cs o vs) t (0, 0))
  | [], _, _, _, _, h => h
  | v :: r, o, w, cs, t, h => heap_setCells b r (o + 1) _ _ t (heap_setCell_same w b o _ t v h)
theorem heap_setCells_other (b k : Nat) (hk : k ≠ b) : ∀ (vs : List Value) (o : Nat) (w : World), (w.setCells b o vs).heap[k]? = w.heap[k]?
  | [], _, _ => rfl
  | v :: r, o, w => (heap_setCells_other b k hk r (o + 1) _).trans (heap_setCell_other w ⟨b, o, none⟩ k _ hk)
theorem wrAt_all (cs : Array Value) (A : Array Value) (h : cs.size = A.size) : wrAt cs 0 A.toList = A := by
  apply Array.ext_getElem?
  intro j
  rw [wrAt_get]
  by_cases q : j < A.size
  · rw [if_pos ⟨Nat.zero_le _, by simpa using q, by omega⟩]; simp
  · rw [if_neg (by simp; omega), Array.getElem?_eq_none (by omega), Array.getElem?_eq_none (by omega)]
theorem store_whole {w : World} {b : Nat} {cs : Array Value} {t : TypeId} (A : Array Value) (h : w.heap[b]? = some (.cells cs t (0, 0))) (hs : cs.size = A.size) : (w.setCells b 0 A.toList).heap[b]? = some (.cells A t (0, 0)) := by
  have := heap_setCells b A.toList 0 w cs t h
  rwa [wrAt_all cs A hs] at this
theorem there_of {w : World} {b : Nat} {cs : Array Value} {t : TypeId} (h : w.heap[b]? = some (.cells cs t (0, 0))) : w.there b 0 cs.size := fun j hj => by
  refine ⟨?_, by simp [World.frozen?, h]⟩
  rw [Nat.zero_add, cell_of_row _ _ _ _ _ _ h, Array.getElem?_eq_getElem hj]; rfl
theorem range_of {w : World} {b : Nat} {cs : Array Value} {t : TypeId} (h : w.heap[b]? = some (.cells cs t (0, 0))) : w.rangeAt b 0 cs.toList := fun j v hv => by
  rw [Nat.zero_add, cell_of_row _ _ _ _ _ _ h]
  simpa using hv
theorem row_one (f : Nat → Bool) (k : Nat) : (row f k).all (·.oneCell') = true := by
  rw [Array.all_eq_true_iff_forall_mem]
  intro v hv
  unfold row at hv
  simp at hv
  obtain ⟨a, -, rfl⟩ := hv
  rfl
/-! what two sets say of each other -/
def subB (f g : Nat → Bool) : Nat → Bool
  | 0 => true
  | k + 1 => subB f g k && (!f k || g k)
theorem subB_iff (f g : Nat → Bool) : ∀ k, subB f g k = true ↔ ∀ j, j < k → f j = true → g j = true
  | 0 => by simp [subB]
  | k + 1 => by
    rw [subB, Bool.and_eq_true, subB_iff f g k]
    constructor
    · rintro ⟨h1, h2⟩ j hj hf
      by_cases e : j = k
      · subst e; simpa [hf] using h2
      · exact h1 j (by omega) hf
    · intro h
      refine ⟨fun j hj => h j (by omega), ?_⟩
      cases hf : f k
      · rfl
      · simpa using h k (by omega) hf
theorem subB_zero (f g : Nat → Bool) : subB f g 0 = true := by rw [subB_iff]; intro j hj; omega
theorem subB_step (f g : Nat → Bool) (k : Nat) : subB f g (k + 1) = (subB f g k && (!f k || g k)) := rfl
attribute [irreducible] subB
theorem mem_or (a b c d i : Nat) : mem (a ||| c) (b ||| d) i = (mem a b i || mem c d i) := by
  by_cases h : i < 64
  · rw [mem_lo h, mem_lo h, mem_lo h, Nat.testBit_or]
  · rw [mem_hi h, mem_hi h, mem_hi h, Nat.testBit_or]
theorem mem_zero (i : Nat) : mem 0 0 i = false := by unfold mem; split <;> exact Nat.zero_testBit _
theorem in_of (a b c d : Nat) : ((((anot a c : Nat) : Int) == 0) && (((anot b d : Nat) : Int) == 0)) = subB (mem a b) (mem c d) 128 := by
  have hm : ∀ j, j < 128 → mem (anot a c) (anot b d) j = (mem a b j && !mem c d j) := fun j hj => mem_anot a b c d j hj
  have la := anot_lt a c
  have lb := anot_lt b d
  have key : (anot a c = 0 ∧ anot b d = 0) ↔ subB (mem a b) (mem c d) 128 = true := by
    rw [subB_iff]
    generalize anot a c = p at *
    generalize anot b d = q at *
    constructor
    · rintro ⟨rfl, rfl⟩ j hj hf
      have := hm j hj
      rw [mem_zero, hf] at this
      simpa using this
    · intro h
      refine none_zero la lb (fun j hj => ?_)
      rw [hm j hj]
      cases hf : mem a b j
      · rfl
      · rw [h j hj hf]; rfl
  cases hs : subB (mem a b) (mem c d) 128
  · have : ¬ (anot a c = 0 ∧ anot b d = 0) := fun h => by rw [key.1 h] at hs; cases hs
    by_cases e1 : anot a c = 0
    · have : ¬ anot b d = 0 := fun h => this ⟨e1, h⟩
      simp [this]
    · simp [e1]
  · obtain ⟨e1, e2⟩ := key.2 hs
    rw [e1, e2]; rfl
set_option maxHeartbeats 1000000 in
theorem in_any (a b c d : Nat) (w : World) :
    Calls Tryd.prog 11 #[.agg #[.int .u64 a, .int .u64 b], .agg #[.int .u64 c, .int .u64 d]] w fun e w' => e = .returned (.bool (subB (mem a b) (mem c d) 128)) ∧ Below w.heap.size w w' := by
  have hh := in_of a b c d
  have H2 := Lib.hid (fun W => minus_any a b c d W)
  have hq := fun (W : World) => eq_two ((anot a c : Nat) : Int) ((anot b d : Nat) : Int) 0 0 W
  rw [hh] at hq
  clear hh
  have B0 := bl_al (bl_al (Below.refl w.heap.size w) (.cells #[.int .u64 a, .int .u64 b] 24)) (.cells #[.int .u64 c, .int .u64 d] 24)
  have HB := Lib.hid B0
  clear B0
  generalize subB (mem a b) (mem c d) 128 = r at *
  generalize anot a c = a0 at *
  generalize anot b d = a1 at *
  go_enter Tryd.func11, Tryd.ntmps11
  go_wp2_with fail
  refine (H2.out _).mono ?_; rintro e w2 ⟨rfl, hb2⟩
  have B2 := Lib.hid (bl_tr HB.out hb2)
  clear hb2
  go_wp2
  go_ret
  exact ⟨rfl, B2.out⟩
end Go.Proofs.YtnenpgndghdheaaDoor
