/-
  A memory as it lies; what has, New, Size and the lock's frame answer.
-/
import Derived.Test.YtaihmkflhapjeaaBase
import Derived.Test.YtaihmkflhapjeaaLocks
import Derived.Conc.MuLone
import Derived.Defers
namespace Go.Proofs.Ytaihmkflhapjeaa
open Go.RowKit Go.MuLone
set_option linter.unusedVariables false
/-- two blocks may have turned, and there may be new ones -/
structure Ch (g b : Nat) (w w' : World) : Prop where
  os : w'.os = w.os
  tape : w'.tape = w.tape
  output : w'.output = w.output
  size : w.heap.size ≤ w'.heap.size
  block : ∀ i, i < w.heap.size → i ≠ g → i ≠ b → w'.heap[i]? = w.heap[i]?
theorem Ch.refl (g b : Nat) (w : World) : Ch g b w w := ⟨rfl, rfl, rfl, Nat.le_refl _, fun _ _ _ _ => rfl⟩
theorem Ch.trans {g b : Nat} {w w1 w2 : World} (h : Ch g b w w1) (k : Ch g b w1 w2) : Ch g b w w2 :=
  ⟨k.os.trans h.os, k.tape.trans h.tape, k.output.trans h.output, Nat.le_trans h.size k.size, fun i hi h1 h2 => (k.block i (Nat.lt_of_lt_of_le hi h.size) h1 h2).trans (h.block i hi h1 h2)⟩
theorem Ch.al {g b : Nat} {w w1 : World} (h : Ch g b w w1) (o : Obj) : Ch g b w (w1.alloc o) :=
  ⟨h.os, h.tape, h.output, Nat.le_trans h.size (by simp), fun i hi h1 h2 => (Below.heap_alloc w1 o i (Nat.lt_of_lt_of_le hi h.size)).trans (h.block i hi h1 h2)⟩
theorem Ch.st {g b q : Nat} {w w1 : World} (h : Ch g b w w1) (hq : q = g ∨ q = b ∨ w.heap.size ≤ q) (j : Nat) (v : Value) : Ch g b w (w1.setCell ⟨q, j, none⟩ v) :=
  ⟨h.os, h.tape, h.output, by simpa [World.setCell] using h.size, fun i hi h1 h2 => (Below.heap_setCell w1 ⟨q, j, none⟩ v i (by show i ≠ q; rcases hq with rfl | rfl | hq <;> omega)).trans (h.block i hi h1 h2)⟩
theorem Ch.dn {g b : Nat} {w w1 : World} (h : Ch g b w w1) (n : Nat) : Ch g b w (w1.drewN n) := ⟨h.os, h.tape, h.output, h.size, h.block⟩
theorem Ch.below {g b B : Nat} {a w w1 : World} (h : Below B a w) (k : Ch g b w w1) (hg : B ≤ g) (hb : B ≤ b) (hB : B ≤ w.heap.size) : Below B a w1 :=
  ⟨k.os.trans h.os, k.tape.trans h.tape, k.output.trans h.output, Nat.le_trans h.size k.size, fun i hi => (k.block i (by omega) (by omega) (by omega)).trans (h.block i hi)⟩
theorem Ch.of {g b : Nat} {w w1 : World} (h : Below w.heap.size w w1) : Ch g b w w1 := ⟨h.os, h.tape, h.output, h.size, fun i hi _ _ => h.block i hi⟩
theorem blk_set {w : World} {g : Nat} {cs : Array Value} {t : TypeId} (h : w.heap[g]? = some (.cells cs t (0, 0))) (j : Nat) (v : Value) : (w.setCell ⟨g, j, none⟩ v).heap[g]? = some (.cells (cs.setIfInBounds j v) t (0, 0)) := heap_setCell_same w g j cs t v h
theorem blk_oth {w : World} {g q : Nat} {o : Obj} (h : w.heap[g]? = some o) (hne : g ≠ q) (j : Nat) (v : Value) : (w.setCell ⟨q, j, none⟩ v).heap[g]? = some o := (Below.heap_setCell w ⟨q, j, none⟩ v g hne).trans h
theorem blk_al {w : World} {g : Nat} {o : Obj} (h : w.heap[g]? = some o) (p : Obj) : (w.alloc p).heap[g]? = some o := (Below.heap_alloc w p g (lt_hp h)).trans h
/-- a list as cells -/
def enc (l : List Int) : Array Value := (l.map (Value.int .i64)).toArray
theorem enc_at (l : List Int) (j : Nat) (h : j < l.length) : (enc l)[j]? = some (.int .i64 (nth l j)) := by unfold enc; simp [h, nth_at l j h]
theorem enc_set (l : List Int) (j : Nat) (v : Int) : (enc l).setIfInBounds j (.int .i64 v) = enc (l.set j v) := by unfold enc; simp [List.map_set]
theorem enc_size (l : List Int) : (enc l).size = l.length := by simp [enc]
attribute [irreducible] enc
/-- a memory: its box, the lock as lk, and its cells -/
def MB (lk : Int) (g b : Nat) (l : List Int) (s k c o n : Int) (d : Bool) (w : World) : Prop :=
  w.heap[g]? = some (.cells #[.int .i32 lk, .int .u32 0, .slice (some ⟨b, 0, none⟩) l.length l.length, .int .i64 s, .int .i64 k, .int .i64 c, .int .i64 o, .int .i64 n, .bool d] 76 (0, 0)) ∧ w.heap[b]? = some (.cells (enc l) 3 (0, 0))
theorem MB.ne {lk : Int} {g b : Nat} {l : List Int} {s k c o n : Int} {d : Bool} {w : World} (h : MB lk g b l s k c o n d w) : g ≠ b := by
  rintro rfl
  have := h.1.symm.trans h.2
  simp at this
theorem MB.keep {lk : Int} {g b : Nat} {l : List Int} {s k c o n : Int} {d : Bool} {w w1 : World} (h : MB lk g b l s k c o n d w) (hb : Below w.heap.size w w1) : MB lk g b l s k c o n d w1 :=
  ⟨(hb.block g (lt_hp h.1)).trans h.1, (hb.block b (lt_hp h.2)).trans h.2⟩
/-- its cells, one by one -/
structure MC (lk : Int) (g b : Nat) (l : List Int) (s k c o n : Int) (d : Bool) (w : World) : Prop where
  c0 : w.cell? ⟨g, 0, none⟩ = some (.int .i32 lk)
  c2 : w.cell? ⟨g, 2, none⟩ = some (.slice (some ⟨b, 0, none⟩) l.length l.length)
  c3 : w.cell? ⟨g, 3, none⟩ = some (.int .i64 s)
  c4 : w.cell? ⟨g, 4, none⟩ = some (.int .i64 k)
  c5 : w.cell? ⟨g, 5, none⟩ = some (.int .i64 c)
  c6 : w.cell? ⟨g, 6, none⟩ = some (.int .i64 o)
  c7 : w.cell? ⟨g, 7, none⟩ = some (.int .i64 n)
  c8 : w.cell? ⟨g, 8, none⟩ = some (.bool d)
  fg : ∀ j, w.frozen? ⟨g, j, none⟩ = false
  cb : ∀ j, j < l.length → w.cell? ⟨b, j, none⟩ = some (.int .i64 (nth l j))
  fb : ∀ j, w.frozen? ⟨b, j, none⟩ = false
theorem MB.mc {lk : Int} {g b : Nat} {l : List Int} {s k c o n : Int} {d : Bool} {w : World} (h : MB lk g b l s k c o n d w) : MC lk g b l s k c o n d w := by
  obtain ⟨h1, h2⟩ := h
  exact ⟨(cell_of_row w g 0 _ 76 _ h1).trans rfl, (cell_of_row w g 2 _ 76 _ h1).trans rfl, (cell_of_row w g 3 _ 76 _ h1).trans rfl, (cell_of_row w g 4 _ 76 _ h1).trans rfl, (cell_of_row w g 5 _ 76 _ h1).trans rfl, (cell_of_row w g 6 _ 76 _ h1).trans rfl, (cell_of_row w g 7 _ 76 _ h1).trans rfl, (cell_of_row w g 8 _ 76 _ h1).trans rfl, fun j => by simp [World.frozen?, h1], fun j hj => (cell_of_row w b j _ 3 _ h2).trans (enc_at l j hj), fun j => by simp [World.frozen?, h2]⟩
/-! New -/
set_option maxHeartbeats 1000000 in
theorem new_no (n : Int) (h : n < 0 ∨ 1048576 < n) (w : World) : Calls Try.prog 7 #[.int .i64 n] w fun e w' => e = .returned (.tuple #[.pointer none, .int .i64 1]) ∧ w = w' := by
  by_cases h0 : n < 0
  · clear h
    go_enter Try.func7, Try.ntmps7
    go_wp2
    go_ret2
    exact ⟨rfl, rfl⟩
  · have h1 : 1048576 < n := by omega
    have d0 : decide (n < 0) = false := decide_eq_false h0
    clear h
    go_enter Try.func7, Try.ntmps7
    go_wp2
    go_ret2
    exact ⟨rfl, rfl⟩
def NewOf (n : Nat) (w : World) (e : Ending) (w' : World) : Prop := ∃ g b, e = .returned (.tuple #[.pointer (some ⟨g, 0, none⟩), .int .i64 0]) ∧ w.heap.size ≤ g ∧ w.heap.size ≤ b ∧ MB 0 g b (List.replicate n 0) 0 0 0 0 0 false w' ∧ Below w.heap.size w w'
theorem enc_zero (n : Nat) : madeCells #[.int .i64 0] n = enc (List.replicate n 0) := by
  apply Array.toList_inj.1
  rw [toList_madeCells_one]
  unfold enc
  simp
set_option maxHeartbeats 1000000 in
theorem new_core (n : Nat) (A : Array Value) (hA : A = enc (List.replicate n 0)) (z : Int) (h0 : 0 ≤ z) (h1 : z ≤ 1048576)
    (hmk : ∀ W : World, (Instr.makeSlice 36 (.int .i64 z) (.int .i64 z)).run Try.prog W = .ok (.slice (some ⟨W.heap.size, 0, none⟩) n n) (W.alloc (.cells A 3))) (w : World) :
    Calls Try.prog 7 #[.int .i64 z] w (NewOf n w) := by
  have g1 : ¬ z < 0 := by omega
  have g2 : ¬ 1048576 < z := by omega
  have HN : Hid (∀ X, X = w.alloc (.cells A 3) → NewOf n w (.returned (.tuple #[.pointer (some ⟨X.heap.size, 0, none⟩), .int .i64 0])) (X.alloc (.cells #[.int .i32 0, .int .u32 0, .slice (some ⟨w.heap.size, 0, none⟩) n n, .int .i64 0, .int .i64 0, .int .i64 0, .int .i64 0, .int .i64 0, .bool false] 76))) := fun X hX =>
    ⟨X.heap.size, w.heap.size, rfl, by subst hX; simp, Nat.le_refl _, ⟨by rw [List.length_replicate]; exact heap_alloc_new _ _, by subst hX hA; exact blk_al (heap_alloc_new _ _) _⟩, by subst hX; exact bl_al (bl_al (Below.refl _ _) _) _⟩
  clear hA
  go_enter Try.func7, Try.ntmps7
  go_wp2
  go_ret2
  have := HN.out _ rfl
  simpa using this
theorem new_ok (n : Nat) (h : n ≤ 1048576) (w : World) : Calls Try.prog 7 #[.int .i64 n] w (NewOf n w) := by
  obtain ⟨i0, hi, hz0, hz1, hz2⟩ := info_parts info3
  refine new_core n _ rfl (n : Int) (by omega) (by omega) (fun W => ?_) w
  have h := run_make (P := Try.prog) W 36 3 i0 (.int .i64 0) Try.underlying36 hi hz0 .i64 .i64 (n : Int) (n : Int) (by omega) (by omega) (by rw [hz2]; omega) (by omega)
  rw [hz1] at h
  simp only [Int.toNat_natCast, Nat.mul_one] at h
  rw [h, ← enc_zero]
  rfl
/-! Size and has -/
set_option maxHeartbeats 1000000 in
theorem size_any (lk : Int) (g b : Nat) (l : List Int) (s k c o n : Int) (d : Bool) (w : World) (h : MB lk g b l s k c o n d w) :
    Calls Try.prog 29 #[.pointer (some ⟨g, 0, none⟩)] w fun e w' => e = .returned (.int .i64 l.length) ∧ w = w' := by
  obtain ⟨c0, c2, c3, c4, c5, c6, c7, c8, fg, cb, fb⟩ := h.mc
  clear h cb
  generalize l.length = m at *
  go_enter Try.func29, Try.ntmps29
  go_wp2
  go_ret
  exact ⟨rfl, rfl⟩
theorem size_nil (w : World) : Calls Try.prog 29 #[.pointer none] w fun e w' => e = .returned (.int .i64 0) ∧ w = w' := by
  go_enter Try.func29, Try.ntmps29
  go_wp2
  go_ret
  exact ⟨rfl, rfl⟩
set_option maxHeartbeats 1000000 in
theorem has_yes (lk : Int) (g b : Nat) (l : List Int) (s k c o n : Int) (d : Bool) (i : Int) (h0 : 0 ≤ i) (h1 : i < l.length) (w : World) (h : MB lk g b l s k c o n d w) :
    Calls Try.prog 47 #[.pointer (some ⟨g, 0, none⟩), .int .i64 i] w fun e w' => e = .returned (.bool true) ∧ w = w' := by
  obtain ⟨c0, c2, c3, c4, c5, c6, c7, c8, fg, cb, fb⟩ := h.mc
  clear h cb
  generalize l.length = m at *
  have d0 : decide (0 ≤ i) = true := decide_eq_true h0
  have d1 : decide (i < (m : Int)) = true := decide_eq_true h1
  go_enter Try.func47, Try.ntmps47
  go_wp2
  go_ret
  exact ⟨rfl, rfl⟩
set_option maxHeartbeats 1000000 in
theorem has_no (lk : Int) (g b : Nat) (l : List Int) (s k c o n : Int) (d : Bool) (i : Int) (hi : i < 0 ∨ l.length ≤ i) (w : World) (h : MB lk g b l s k c o n d w) :
    Calls Try.prog 47 #[.pointer (some ⟨g, 0, none⟩), .int .i64 i] w fun e w' => e = .returned (.bool false) ∧ w = w' := by
  obtain ⟨c0, c2, c3, c4, c5, c6, c7, c8, fg, cb, fb⟩ := h.mc
  clear h cb
  generalize l.length = m at *
  by_cases h0 : i < 0
  · have d0 : decide (0 ≤ i) = false := decide_eq_false (by omega)
    clear hi
    go_enter Try.func47, Try.ntmps47
    go_wp2
    go_ret
    exact ⟨rfl, rfl⟩
  · have d0 : decide (0 ≤ i) = true := decide_eq_true (by omega)
    have d1 : decide (i < (m : Int)) = false := decide_eq_false (by omega)
    clear hi
    go_enter Try.func47, Try.ntmps47
    go_wp2
    go_ret
    exact ⟨rfl, rfl⟩
end Go.Proofs.Ytaihmkflhapjeaa
