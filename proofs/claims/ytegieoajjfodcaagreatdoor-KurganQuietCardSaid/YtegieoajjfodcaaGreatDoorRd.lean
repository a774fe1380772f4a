/-
  The reader's box: what is left, and the fault; numberFault and pass.
-/
import Derived.Test.YtegieoajjfodcaaGreatDoorRScan
import Derived.Lib.Hide
namespace Go.Proofs.YtegieoajjfodcaaGreatDoor
open Go.RowKit
set_option linter.unusedVariables false
/-- a reader: what is left lies in block g from o on -/
def RD (b g o m c : Nat) (f : Int) (w : World) : Prop := w.heap[b]? = some (.cells #[.slice (some ⟨g, o, none⟩) m c, .int .i64 f] 62 (0, 0))
/-- one block may have turned, and there may be new ones -/
structure Ch1 (b : Nat) (w w' : World) : Prop where
  os : w'.os = w.os
  tape : w'.tape = w.tape
  output : w'.output = w.output
  size : w.heap.size ≤ w'.heap.size
  block : ∀ i, i < w.heap.size → i ≠ b → w'.heap[i]? = w.heap[i]?
theorem Ch1.refl (b : Nat) (w : World) : Ch1 b w w := ⟨rfl, rfl, rfl, Nat.le_refl _, fun _ _ _ => rfl⟩
theorem Ch1.trans {b : Nat} {w w1 w2 : World} (h : Ch1 b w w1) (k : Ch1 b w1 w2) : Ch1 b w w2 :=
  ⟨k.os.trans h.os, k.tape.trans h.tape, k.output.trans h.output, Nat.le_trans h.size k.size, fun i hi h1 => (k.block i (Nat.lt_of_lt_of_le hi h.size) h1).trans (h.block i hi h1)⟩
theorem Ch1.al {b : Nat} {w w1 : World} (h : Ch1 b w w1) (o : Obj) : Ch1 b w (w1.alloc o) :=
  ⟨h.os, h.tape, h.output, Nat.le_trans h.size (by simp), fun i hi h1 => (Below.heap_alloc w1 o i (Nat.lt_of_lt_of_le hi h.size)).trans (h.block i hi h1)⟩
theorem Ch1.st {b q : Nat} {w w1 : World} (h : Ch1 b w w1) (hq : q = b ∨ w.heap.size ≤ q) (j : Nat) (v : Value) : Ch1 b w (w1.setCell ⟨q, j, none⟩ v) :=
  ⟨h.os, h.tape, h.output, by simpa [World.setCell] using h.size, fun i hi h1 => (Below.heap_setCell w1 ⟨q, j, none⟩ v i (by show i ≠ q; rcases hq with rfl | hq <;> omega)).trans (h.block i hi h1)⟩
theorem Ch1.of {b : Nat} {w w1 : World} (h : Below w.heap.size w w1) : Ch1 b w w1 := ⟨h.os, h.tape, h.output, h.size, fun i hi _ => h.block i hi⟩
theorem Ch1.below {b B : Nat} {a w w1 : World} (h : Below B a w) (k : Ch1 b w w1) (hb : B ≤ b) (hB : B ≤ w.heap.size) : Below B a w1 :=
  ⟨k.os.trans h.os, k.tape.trans h.tape, k.output.trans h.output, Nat.le_trans h.size k.size, fun i hi => (k.block i (by omega) (by omega)).trans (h.block i hi)⟩
theorem RD.cells {b g o m c : Nat} {f : Int} {w : World} (h : RD b g o m c f w) : w.cell? ⟨b, 0, none⟩ = some (.slice (some ⟨g, o, none⟩) m c) ∧ w.cell? ⟨b, 1, none⟩ = some (.int .i64 f) ∧ ∀ j, w.frozen? ⟨b, j, none⟩ = false := by
  unfold RD at h
  refine ⟨by simp [World.cell?, h], by simp [World.cell?, h], fun j => by simp [World.frozen?, h]⟩
/-- what is wrong with a token where a number up to most is required -/
def nf (kind num most : Int) : Int := if kind = 3 then 6 else if kind = 1 then 4 else if most < num then 5 else 0
set_option maxHeartbeats 1000000 in
theorem nf_any (kind num at_ most : Int) (t : ByteArray) (w : World) : Calls Tryz.prog 141 #[.agg #[.int .i64 kind, .string t, .int .i64 num, .int .i64 at_], .int .i64 most] w fun e w' => e = .returned (.int .i64 (nf kind num most)) ∧ Below w.heap.size w w' := by
  have hb : Hid (Below w.heap.size w (w.alloc (.cells #[.int .i64 kind, .string t, .int .i64 num, .int .i64 at_] 65))) := Lib.hid ⟨rfl, rfl, rfl, by simp, fun k hk => Below.heap_alloc w _ k hk⟩
  unfold nf
  by_cases h : kind = 3
  · subst h
    rw [if_pos rfl]
    go_enter Tryz.func141, Tryz.ntmps141
    go_wp2
    go_ret
    exact ⟨rfl, hb.out⟩
  · rw [if_neg h]
    have d0 : (kind == 3) = false := by simpa using h
    by_cases h1 : kind = 1
    · subst h1
      rw [if_pos rfl]
      go_enter Tryz.func141, Tryz.ntmps141
      go_wp2
      go_ret
      exact ⟨rfl, hb.out⟩
    · rw [if_neg h1]
      have d1 : (kind == 1) = false := by simpa using h1
      by_cases h2 : most < num
      · rw [if_pos h2]
        go_enter Tryz.func141, Tryz.ntmps141
        go_wp2
        go_ret
        exact ⟨rfl, hb.out⟩
      · rw [if_neg h2]
        go_enter Tryz.func141, Tryz.ntmps141
        go_wp2
        go_ret
        exact ⟨rfl, hb.out⟩
attribute [irreducible] nf
set_option maxHeartbeats 1000000 in
theorem pass_bad (b g o m c : Nat) (f e : Int) (hf : f ≠ 0) (w : World) (h : RD b g o m c f w) : Calls Tryz.prog 45 #[.pointer (some ⟨b, 0, none⟩), .int .i64 e] w fun r w' => r = .returned (.bool false) ∧ w = w' := by
  obtain ⟨c0, c1, fz⟩ := h.cells
  have d0 : (f == 0) = false := by simpa using hf
  have d1 : (f != 0) = true := by simpa using hf
  clear h
  go_enter Tryz.func45, Tryz.ntmps45
  go_wp2
  go_ret
  exact ⟨rfl, rfl⟩
set_option maxHeartbeats 1000000 in
theorem pass_err (b g o m c : Nat) (e : Int) (he : e ≠ 0) (w : World) (h : RD b g o m c 0 w) : Calls Tryz.prog 45 #[.pointer (some ⟨b, 0, none⟩), .int .i64 e] w fun r w' => r = .returned (.bool false) ∧ RD b g o m c e w' ∧ Ch1 b w w' := by
  obtain ⟨c0, c1, fz⟩ := h.cells
  have d1 : (e != 0) = true := by simpa using he
  have hk : Hid (RD b g o m c e (w.setCell ⟨b, 1, none⟩ (.int .i64 e)) ∧ Ch1 b w (w.setCell ⟨b, 1, none⟩ (.int .i64 e))) := Lib.hid ⟨heap_setCell_same w b 1 _ 62 _ h, (Ch1.refl b w).st (Or.inl rfl) _ _⟩
  clear h
  go_enter Tryz.func45, Tryz.ntmps45
  go_wp2
  go_ret
  exact ⟨rfl, hk.out⟩
set_option maxHeartbeats 1000000 in
theorem pass_go (b g o m c : Nat) (hm : 1 ≤ m) (hc : m ≤ c) (hc0 : ¬ c = 0) (w : World) (h : RD b g o (m + 1) (c + 1) 0 w) : Calls Tryz.prog 45 #[.pointer (some ⟨b, 0, none⟩), .int .i64 0] w fun r w' => r = .returned (.bool true) ∧ RD b g (o + 4) m c 0 w' ∧ Ch1 b w w' := by
  obtain ⟨c0, c1, fz⟩ := h.cells
  have h1 := heap_setCell_same w b 1 _ 62 (.int .i64 0) h
  have hk : Hid (RD b g (o + 4) m c 0 ((w.setCell ⟨b, 1, none⟩ (.int .i64 0)).setCell ⟨b, 0, none⟩ (.slice (some ⟨g, o + 4, none⟩) m c)) ∧ Ch1 b w ((w.setCell ⟨b, 1, none⟩ (.int .i64 0)).setCell ⟨b, 0, none⟩ (.slice (some ⟨g, o + 4, none⟩) m c))) := Lib.hid ⟨heap_setCell_same _ b 0 _ 62 _ h1, ((Ch1.refl b w).st (Or.inl rfl) _ _).st (Or.inl rfl) _ _⟩
  clear h h1
  go_enter Tryz.func45, Tryz.ntmps45
  go_wp2
  go_ret
  exact ⟨rfl, hk.out⟩
/-- the first of what is left -/
def Front (g o : Nat) (t : Tok) (w : World) : Prop := w.cell? ⟨g, o, none⟩ = some (.int .i64 t.kind) ∧ w.cell? ⟨g, o + 1, none⟩ = some (.string t.text) ∧ w.cell? ⟨g, o + 2, none⟩ = some (.int .i64 t.num) ∧ w.cell? ⟨g, o + 3, none⟩ = some (.int .i64 t.at_)
/-- what a step of the reader leaves: at once behind a token that is possible, else where it was -/
def Went (b g o m c : Nat) (f e : Int) (w : World) : Prop := if f = 0 then (if e = 0 then RD b g (o + 4) m c 0 w else RD b g o (m + 1) (c + 1) e w) else RD b g o (m + 1) (c + 1) f w
theorem pass_any (b g o m c : Nat) (f e : Int) (hm : e = 0 → 1 ≤ m) (hc : m ≤ c) (w : World) (h : RD b g o (m + 1) (c + 1) f w) : Calls Tryz.prog 45 #[.pointer (some ⟨b, 0, none⟩), .int .i64 e] w fun r w' => r = .returned (.bool (decide (f = 0 ∧ e = 0))) ∧ Went b g o m c f e w' ∧ Ch1 b w w' := by
  unfold Went
  by_cases hf : f = 0
  · subst hf
    by_cases he : e = 0
    · subst he
      refine Calls.mono (pass_go b g o m c (hm rfl) hc (by have := hm rfl; omega) w h) ?_
      rintro r w' ⟨rfl, h1, h2⟩
      exact ⟨rfl, by simpa using h1, h2⟩
    · refine Calls.mono (pass_err b g o (m + 1) (c + 1) e he w h) ?_
      rintro r w' ⟨rfl, h1, h2⟩
      exact ⟨by simp [he], by simpa [he] using h1, h2⟩
  · refine Calls.mono (pass_bad b g o (m + 1) (c + 1) f e hf w h) ?_
    rintro r w' ⟨rfl, rfl⟩
    exact ⟨by simp [hf], by simpa [hf] using h, Ch1.refl _ _⟩
/-- a token of its own -/
def tokO (t : Tok) : Obj := .cells #[.int .i64 t.kind, .string t.text, .int .i64 t.num, .int .i64 t.at_] 65 (0, 0)
theorem lt_blk {w : World} {b : Nat} {o : Obj} (h : w.heap[b]? = some o) : b < w.heap.size := by
  rcases Nat.lt_or_ge b w.heap.size with q | q
  · exact q
  · rw [Array.getElem?_eq_none q] at h; cases h
theorem taken {b g o m c : Nat} {f : Int} {w w2 : World} (t : Tok) (h : RD b g o m c f w) (hB : Below (w.alloc (tokO t)).heap.size (w.alloc (tokO t)) w2) : RD b g o m c f w2 ∧ w2.heap[w.heap.size]? = some (tokO t) ∧ Ch1 b w w2 ∧ w.heap.size ≠ b ∧ w.heap.size < w2.heap.size := by
  have hb := lt_blk h
  have hz : (w.alloc (tokO t)).heap.size = w.heap.size + 1 := by simp
  have hs := hB.size
  refine ⟨?_, ?_, ((Ch1.refl b w).al (tokO t)).trans (Ch1.of hB), by omega, by omega⟩
  · exact (hB.block b (by omega)).trans ((Below.heap_alloc w _ b hb).trans h)
  · exact (hB.block w.heap.size (by omega)).trans (heap_alloc_new _ _)
theorem tok_cells {w : World} {q : Nat} {t : Tok} (h : w.heap[q]? = some (tokO t)) : w.cell? ⟨q, 0, none⟩ = some (.int .i64 t.kind) ∧ w.cell? ⟨q, 1, none⟩ = some (.string t.text) ∧ w.cell? ⟨q, 2, none⟩ = some (.int .i64 t.num) := by
  unfold tokO at h
  exact ⟨by simp [World.cell?, h], by simp [World.cell?, h], by simp [World.cell?, h]⟩
theorem nf_end {t : Tok} {most : Int} (h : t.kind = 3) : nf t.kind t.num most ≠ 0 := by unfold nf; rw [if_pos h]; omega
set_option maxHeartbeats 1000000 in
/-- entry -/
theorem entry_rd (b g o m c : Nat) (f : Int) (t : Tok) (hm : t.kind ≠ 3 → 1 ≤ m) (hc : m ≤ c) (w : World) (h : RD b g o (m + 1) (c + 1) f w) (ht : Front g o t w) :
    Calls Tryz.prog 80 #[.pointer (some ⟨b, 0, none⟩)] w fun r w' => r = .returned (.int .i64 t.num) ∧ Went b g o m c f (nf t.kind t.num 2147483647) w' ∧ Ch1 b w w' := by
  obtain ⟨c0, c1, fz⟩ := h.cells
  obtain ⟨t0, t1, t2, t3⟩ := ht
  have hm' : nf t.kind t.num 2147483647 = 0 → 1 ≤ m := fun q => hm (fun k => nf_end k q)
  have HT : Hid (∀ w2, Below (w.alloc (tokO t)).heap.size (w.alloc (tokO t)) w2 → RD b g o (m + 1) (c + 1) f w2 ∧ w2.heap[w.heap.size]? = some (tokO t) ∧ Ch1 b w w2 ∧ w.heap.size ≠ b ∧ w.heap.size < w2.heap.size) := Lib.hid fun w2 hB => taken t h hB
  clear hm h
  go_enter Tryz.func80, Tryz.ntmps80
  go_wp2_with fail
  refine (nf_any _ _ _ _ _ _).mono ?_
  rintro e w2 ⟨rfl, hB⟩
  obtain ⟨r2, b2, ch2, ne2, lt2⟩ := HT.out w2 hB
  clear hB c0 c1 fz t0 t1 t2 t3
  go_wp2_with fail
  refine (pass_any b g o m c f _ hm' hc w2 r2).mono ?_
  rintro e w3 ⟨rfl, hW, hC⟩
  have FN : Hid (Went b g o m c f (nf t.kind t.num 2147483647) w3 ∧ Ch1 b w w3) := ⟨hW, ch2.trans hC⟩
  obtain ⟨k0, k1, k2⟩ := tok_cells ((hC.block _ lt2 ne2).trans b2)
  clear hW hC ch2 b2 r2 HT hm'
  go_wp2
  go_ret
  exact ⟨rfl, FN.out⟩
end Go.Proofs.YtegieoajjfodcaaGreatDoor
