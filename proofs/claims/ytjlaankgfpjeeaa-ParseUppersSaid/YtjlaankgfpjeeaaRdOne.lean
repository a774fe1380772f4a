import Derived.Test.YtjlaankgfpjeeaaLexOne
import Derived.Lib.Hide
import Derived.Laws.AppendOwn
import Derived.Laws.OwnMore

/-
  The reader's box: what is left, and the fault; numberFault and pass.
-/
namespace Go.Proofs.Ytjlaankgfpjeeaa
open Go.RowKit
set_option linter.unusedVariables false
/-- a reader: what is left lies in block g from o on -/
def RD (b g o m c : Nat) (f : Int) (w : World) : Prop := w.heap[b]? = some (.cells #[.slice (some ⟨g, o, none⟩) m c, .int .i64 f] 43 (0, 0))
/-- one block may have turned, and there may be new ones -/
structure Ch1 (b : Nat) (w w' : World) : Prop where
  os : w'.os = w.os
  tape : w'.tape = w.tape
  output : w'.output = w.output
  size : w.heap.size ≤ w'.heap.size
  block : ∀ i, i < w.heap.size → i ≠ b → w'.heap[i]? = w.heap[i]?
theorem Ch1.refl (b : Nat) (w : World) : Ch1 b w w := ⟨rfl, rfl, rfl, Nat.le_refl _, fun _ _ _ => rfl⟩
theorem Ch1.trans {b : Nat} {w w1 w2 : World} (h : Ch1 b w w1) (k : Ch1 b w1 w2) : Ch1 b w w2 :=
  ⟨k.os.trans h.os, k.tape.trans h.tape, k.output.trans h.output, Nat.le_trans h.size k.size, fun i hi h1 => (k.block i (Nat.lt_of_lt_of_le hi h.size) h1).trans (h.block i hi h1)⟩
theorem Ch1.al {b : Nat} {w w1 : World} (h : Ch1 b w w1) (o : Obj) : Ch1 b w (w1.alloc o) :=
  ⟨h.os, h.tape, h.output, Nat.le_trans h.size (by simp), fun i hi h1 => (Below.heap_alloc w1 o i (Nat.lt_of_lt_of_le hi h.size)).trans (h.block i hi h1)⟩
theorem Ch1.st {b q : Nat} {w w1 : World} (h : Ch1 b w w1) (hq : q = b ∨ w.heap.size ≤ q) (j : Nat) (v : Value) : Ch1 b w (w1.setCell ⟨q, j, none⟩ v) :=
  ⟨h.os, h.tape, h.output, by simpa [World.setCell] using h.size, fun i hi h1 => (Below.heap_setCell w1 ⟨q, j, none⟩ v i (by show i ≠ q; rcases hq with rfl | hq <;> omega)).trans (h.block i hi h1)⟩
theorem Ch1.of {b : Nat} {w w1 : World} (h : Below w.heap.size w w1) : Ch1 b w w1 := ⟨h.os, h.tape, h.output, h.size, fun i hi _ => h.block i hi⟩
theorem Ch1.below {b B : Nat} {a w w1 : World} (h : Below B a w) (k : Ch1 b w w1) (hb : B ≤ b) (hB : B ≤ w.heap.size) : Below B a w1 :=
  ⟨k.os.trans h.os, k.tape.trans h.tape, k.output.trans h.output, Nat.le_trans h.size k.size, fun i hi => (k.block i (by omega) (by omega)).trans (h.block i hi)⟩
theorem RD.cells {b g o m c : Nat} {f : Int} {w : World} (h : RD b g o m c f w) : w.cell? ⟨b, 0, none⟩ = some (.slice (some ⟨g, o, none⟩) m c) ∧ w.cell? ⟨b, 1, none⟩ = some (.int .i64 f) ∧ ∀ j, w.frozen? ⟨b, j, none⟩ = false := by
  unfold RD at h
  refine ⟨by simp [World.cell?, h], by simp [World.cell?, h], fun j => by simp [World.frozen?, h]⟩
/-- what is wrong with a token where a number up to most is required -/
def nf (kind num most : Int) : Int := if kind = 3 then 6 else if kind = 1 then 4 else if most < num then 5 else 0
set_option maxHeartbeats 1000000 in
theorem nf_any (kind num at_ most : Int) (t : ByteArray) (w : World) : Calls Try.prog 37 #[.agg #[.int .i64 kind, .string t, .int .i64 num, .int .i64 at_], .int .i64 most] w fun e w' => e = .returned (.int .i64 (nf kind num most)) ∧ Below w.heap.size w w' := by
  have hb : Hid (Below w.heap.size w (w.alloc (.cells #[.int .i64 kind, .string t, .int .i64 num, .int .i64 at_] 46))) := Lib.hid ⟨rfl, rfl, rfl, by simp, fun k hk => Below.heap_alloc w _ k hk⟩
  unfold nf
  by_cases h : kind = 3
  · subst h
    rw [if_pos rfl]
    go_enter Try.func37, Try.ntmps37
    go_wp2
    go_ret
    exact ⟨rfl, hb.out⟩
  · rw [if_neg h]
    have d0 : (kind == 3) = false := by simpa using h
    by_cases h1 : kind = 1
    · subst h1
      rw [if_pos rfl]
      go_enter Try.func37, Try.ntmps37
      go_wp2
      go_ret
      exact ⟨rfl, hb.out⟩
    · rw [if_neg h1]
      have d1 : (kind == 1) = false := by simpa using h1
      by_cases h2 : most < num
      · rw [if_pos h2]
        go_enter Try.func37, Try.ntmps37
        go_wp2
        go_ret
        exact ⟨rfl, hb.out⟩
      · rw [if_neg h2]
        go_enter Try.func37, Try.ntmps37
        go_wp2
        go_ret
        exact ⟨rfl, hb.out⟩
attribute [irreducible] nf
set_option maxHeartbeats 1000000 in
theorem pass_bad (b g o m c : Nat) (f e : Int) (hf : f ≠ 0) (w : World) (h : RD b g o m c f w) : Calls Try.prog 26 #[.pointer (some ⟨b, 0, none⟩), .int .i64 e] w fun r w' => r = .returned (.bool false) ∧ w = w' := by
  obtain ⟨c0, c1, fz⟩ := h.cells
  have d0 : (f == 0) = false := by simpa using hf
  have d1 : (f != 0) = true := by simpa using hf
  clear h
  go_enter Try.func26, Try.ntmps26
  go_wp2
  go_ret
  exact ⟨rfl, rfl⟩
set_option maxHeartbeats 1000000 in
theorem pass_err (b g o m c : Nat) (e : Int) (he : e ≠ 0) (w : World) (h : RD b g o m c 0 w) : Calls Try.prog 26 #[.pointer (some ⟨b, 0, none⟩), .int .i64 e] w fun r w' => r = .returned (.bool false) ∧ RD b g o m c e w' ∧ Ch1 b w w' := by
  obtain ⟨c0, c1, fz⟩ := h.cells
  have d1 : (e != 0) = true := by simpa using he
  have hk : Hid (RD b g o m c e (w.setCell ⟨b, 1, none⟩ (.int .i64 e)) ∧ Ch1 b w (w.setCell ⟨b, 1, none⟩ (.int .i64 e))) := Lib.hid ⟨heap_setCell_same w b 1 _ 43 _ h, (Ch1.refl b w).st (Or.inl rfl) _ _⟩
  clear h
  go_enter Try.func26, Try.ntmps26
  go_wp2
  go_ret
  exact ⟨rfl, hk.out⟩
set_option maxHeartbeats 1000000 in
theorem pass_go (b g o m c : Nat) (hm : 1 ≤ m) (hc : m ≤ c) (hc0 : ¬ c = 0) (w : World) (h : RD b g o (m + 1) (c + 1) 0 w) : Calls Try.prog 26 #[.pointer (some ⟨b, 0, none⟩), .int .i64 0] w fun r w' => r = .returned (.bool true) ∧ RD b g (o + 4) m c 0 w' ∧ Ch1 b w w' := by
  obtain ⟨c0, c1, fz⟩ := h.cells
  have h1 := heap_setCell_same w b 1 _ 43 (.int .i64 0) h
  have hk : Hid (RD b g (o + 4) m c 0 ((w.setCell ⟨b, 1, none⟩ (.int .i64 0)).setCell ⟨b, 0, none⟩ (.slice (some ⟨g, o + 4, none⟩) m c)) ∧ Ch1 b w ((w.setCell ⟨b, 1, none⟩ (.int .i64 0)).setCell ⟨b, 0, none⟩ (.slice (some ⟨g, o + 4, none⟩) m c))) := Lib.hid ⟨heap_setCell_same _ b 0 _ 43 _ h1, ((Ch1.refl b w).st (Or.inl rfl) _ _).st (Or.inl rfl) _ _⟩
  clear h h1
  go_enter Try.func26, Try.ntmps26
  go_wp2
  go_ret
  exact ⟨rfl, hk.out⟩
/-- the first of what is left -/
def Front (g o : Nat) (t : Tok) (w : World) : Prop := w.cell? ⟨g, o, none⟩ = some (.int .i64 t.kind) ∧ w.cell? ⟨g, o + 1, none⟩ = some (.string t.text) ∧ w.cell? ⟨g, o + 2, none⟩ = some (.int .i64 t.num) ∧ w.cell? ⟨g, o + 3, none⟩ = some (.int .i64 t.at_)
/-- what a step of the reader leaves: at once behind a token that is possible, else where it was -/
def Went (b g o m c : Nat) (f e : Int) (w : World) : Prop := if f = 0 then (if e = 0 then RD b g (o + 4) m c 0 w else RD b g o (m + 1) (c + 1) e w) else RD b g o (m + 1) (c + 1) f w
theorem pass_any (b g o m c : Nat) (f e : Int) (hm : e = 0 → 1 ≤ m) (hc : m ≤ c) (w : World) (h : RD b g o (m + 1) (c + 1) f w) : Calls Try.prog 26 #[.pointer (some ⟨b, 0, none⟩), .int .i64 e] w fun r w' => r = .returned (.bool (decide (f = 0 ∧ e = 0))) ∧ Went b g o m c f e w' ∧ Ch1 b w w' := by
  unfold Went
  by_cases hf : f = 0
  · subst hf
    by_cases he : e = 0
    · subst he
      refine Calls.mono (pass_go b g o m c (hm rfl) hc (by have := hm rfl; omega) w h) ?_
      rintro r w' ⟨rfl, h1, h2⟩
      exact ⟨rfl, by simpa using h1, h2⟩
    · refine Calls.mono (pass_err b g o (m + 1) (c + 1) e he w h) ?_
      rintro r w' ⟨rfl, h1, h2⟩
      exact ⟨by simp [he], by simpa [he] using h1, h2⟩
  · refine Calls.mono (pass_bad b g o (m + 1) (c + 1) f e hf w h) ?_
    rintro r w' ⟨rfl, rfl⟩
    exact ⟨by simp [hf], by simpa [hf] using h, Ch1.refl _ _⟩
/-- a token of its own -/
def tokO (t : Tok) : Obj := .cells #[.int .i64 t.kind, .string t.text, .int .i64 t.num, .int .i64 t.at_] 46 (0, 0)
theorem lt_blk {w : World} {b : Nat} {o : Obj} (h : w.heap[b]? = some o) : b < w.heap.size := by
  rcases Nat.lt_or_ge b w.heap.size with q | q
  · exact q
  · rw [Array.getElem?_eq_none q] at h; cases h
theorem taken {b g o m c : Nat} {f : Int} {w w2 : World} (t : Tok) (h : RD b g o m c f w) (hB : Below (w.alloc (tokO t)).heap.size (w.alloc (tokO t)) w2) : RD b g o m c f w2 ∧ w2.heap[w.heap.size]? = some (tokO t) ∧ Ch1 b w w2 ∧ w.heap.size ≠ b ∧ w.heap.size < w2.heap.size := by
  have hb := lt_blk h
  have hz : (w.alloc (tokO t)).heap.size = w.heap.size + 1 := by simp
  have hs := hB.size
  refine ⟨?_, ?_, ((Ch1.refl b w).al (tokO t)).trans (Ch1.of hB), by omega, by omega⟩
  · exact (hB.block b (by omega)).trans ((Below.heap_alloc w _ b hb).trans h)
  · exact (hB.block w.heap.size (by omega)).trans (heap_alloc_new _ _)
theorem tok_cells {w : World} {q : Nat} {t : Tok} (h : w.heap[q]? = some (tokO t)) : w.cell? ⟨q, 0, none⟩ = some (.int .i64 t.kind) ∧ w.cell? ⟨q, 1, none⟩ = some (.string t.text) ∧ w.cell? ⟨q, 2, none⟩ = some (.int .i64 t.num) := by
  unfold tokO at h
  exact ⟨by simp [World.cell?, h], by simp [World.cell?, h], by simp [World.cell?, h]⟩
theorem nf_end {t : Tok} {most : Int} (h : t.kind = 3) : nf t.kind t.num most ≠ 0 := by unfold nf; rw [if_pos h]; omega
set_option maxHeartbeats 1000000 in
/-- entry -/
theorem entry_rd (b g o m c : Nat) (f : Int) (t : Tok) (hm : t.kind ≠ 3 → 1 ≤ m) (hc : m ≤ c) (w : World) (h : RD b g o (m + 1) (c + 1) f w) (ht : Front g o t w) :
    Calls Try.prog 33 #[.pointer (some ⟨b, 0, none⟩)] w fun r w' => r = .returned (.int .i64 t.num) ∧ Went b g o m c f (nf t.kind t.num 2147483647) w' ∧ Ch1 b w w' := by
  obtain ⟨c0, c1, fz⟩ := h.cells
  obtain ⟨t0, t1, t2, t3⟩ := ht
  have hm' : nf t.kind t.num 2147483647 = 0 → 1 ≤ m := fun q => hm (fun k => nf_end k q)
  have HT : Hid (∀ w2, Below (w.alloc (tokO t)).heap.size (w.alloc (tokO t)) w2 → RD b g o (m + 1) (c + 1) f w2 ∧ w2.heap[w.heap.size]? = some (tokO t) ∧ Ch1 b w w2 ∧ w.heap.size ≠ b ∧ w.heap.size < w2.heap.size) := Lib.hid fun w2 hB => taken t h hB
  clear hm h
  go_enter Try.func33, Try.ntmps33
  go_wp2_with fail
  refine (nf_any _ _ _ _ _ _).mono ?_
  rintro e w2 ⟨rfl, hB⟩
  obtain ⟨r2, b2, ch2, ne2, lt2⟩ := HT.out w2 hB
  clear hB c0 c1 fz t0 t1 t2 t3
  go_wp2_with fail
  refine (pass_any b g o m c f _ hm' hc w2 r2).mono ?_
  rintro e w3 ⟨rfl, hW, hC⟩
  have FN : Hid (Went b g o m c f (nf t.kind t.num 2147483647) w3 ∧ Ch1 b w w3) := ⟨hW, ch2.trans hC⟩
  obtain ⟨k0, k1, k2⟩ := tok_cells ((hC.block _ lt2 ne2).trans b2)
  clear hW hC ch2 b2 r2 HT hm'
  go_wp2
  go_ret
  exact ⟨rfl, FN.out⟩
end Go.Proofs.Ytjlaankgfpjeeaa

/-
  The reader's size, nought and end.
-/
namespace Go.Proofs.Ytjlaankgfpjeeaa
open Go.RowKit
set_option linter.unusedVariables false
/-- what is wrong with a token where n is to stand -/
def sf (t : Tok) (most : Int) : Int := if nf t.kind t.num most = 0 then (if t.num = 0 then 1 else 0) else nf t.kind t.num most
/-- what is wrong with a token where 0 is to stand -/
def zf (t : Tok) : Int := if nf t.kind t.num 2147483647 = 0 then (if t.num = 0 then 0 else 8) else nf t.kind t.num 2147483647
theorem sf_ok {t : Tok} {most : Int} (h : sf t most = 0) : nf t.kind t.num most = 0 ∧ t.num ≠ 0 := by
  unfold sf at h
  split at h
  · rename_i q
    split at h
    · omega
    · rename_i q2; exact ⟨q, q2⟩
  · rename_i q; exact absurd h q
theorem zf_ok {t : Tok} (h : zf t = 0) : nf t.kind t.num 2147483647 = 0 ∧ t.num = 0 := by
  unfold zf at h
  split at h
  · rename_i q
    split at h
    · rename_i q2; exact ⟨q, q2⟩
    · omega
  · rename_i q; exact absurd h q
theorem nf_tok (t : Tok) (most : Int) (w : World) : Calls Try.prog 37 #[.agg #[.int .i64 t.kind, .string t.text, .int .i64 t.num, .int .i64 t.at_], .int .i64 most] w fun e w' => e = .returned (.int .i64 (nf t.kind t.num most)) ∧ Below w.heap.size w w' := nf_any _ _ _ _ _ _
set_option maxHeartbeats 20000000 in
theorem nought_core (b g o m c : Nat) (f : Int) (t : Tok) (w : World) (G : World → Prop) (nv z : Int) (hv : (nv ≠ 0 ∧ z = nv) ∨ (nv = 0 ∧ t.num ≠ 0 ∧ z = 8) ∨ (nv = 0 ∧ t.num = 0 ∧ z = 0))
    (h : RD b g o (m + 1) (c + 1) f w) (ht : Front g o t w)
    (HV : Hid (∀ W : World, Calls Try.prog 37 #[.agg #[.int .i64 t.kind, .string t.text, .int .i64 t.num, .int .i64 t.at_], .int .i64 2147483647] W fun e w' => e = .returned (.int .i64 nv) ∧ Below W.heap.size W w'))
    (HP : Hid (∀ w2, Below (w.alloc (tokO t)).heap.size (w.alloc (tokO t)) w2 → Calls Try.prog 26 #[.pointer (some ⟨b, 0, none⟩), .int .i64 z] w2 fun r w' => (∃ q, r = .returned (.bool q)) ∧ G w')) :
    Calls Try.prog 38 #[.pointer (some ⟨b, 0, none⟩)] w fun r w' => r = .returned (.tuple #[]) ∧ G w' := by
  obtain ⟨c0, c1, fz⟩ := h.cells
  obtain ⟨t0, t1, t2, t3⟩ := ht
  have HT : Hid (∀ w2, Below (w.alloc (tokO t)).heap.size (w.alloc (tokO t)) w2 → RD b g o (m + 1) (c + 1) f w2 ∧ w2.heap[w.heap.size]? = some (tokO t) ∧ Ch1 b w w2 ∧ w.heap.size ≠ b ∧ w.heap.size < w2.heap.size) := Lib.hid fun w2 hB => taken t h hB
  clear h
  rcases hv with ⟨hn, rfl⟩ | ⟨rfl, hn, rfl⟩ | ⟨rfl, hn, rfl⟩
  · have d0 : (z == 0) = false := by simpa using hn
    clear hn
    go_enter Try.func38, Try.ntmps38
    go_wp2_with fail
    refine (HV.out _).mono ?_
    rintro e w2 ⟨rfl, hB⟩
    obtain ⟨r2, b2, ch2, ne2, lt2⟩ := HT.out w2 hB
    obtain ⟨k0, k1, k2⟩ := tok_cells b2
    have HQ := Lib.hid (HP.out w2 hB)
    clear hB c0 c1 fz t0 t1 t2 t3 HT HP HV r2 b2 ch2
    go_wp2_with fail
    refine HQ.out.mono ?_
    rintro e w3 ⟨⟨q, rfl⟩, hG⟩
    have FN := Lib.hid hG
    clear hG HQ k0 k1 k2
    go_wp2
    exact bodyPost_end (results_none rfl _ _ _) rfl ⟨rfl, FN.out⟩
  · have d0 : (t.num != 0) = true := by simpa using hn
    clear hn
    go_enter Try.func38, Try.ntmps38
    go_wp2_with fail
    refine (HV.out _).mono ?_
    rintro e w2 ⟨rfl, hB⟩
    obtain ⟨r2, b2, ch2, ne2, lt2⟩ := HT.out w2 hB
    obtain ⟨k0, k1, k2⟩ := tok_cells b2
    have HQ := Lib.hid (HP.out w2 hB)
    clear hB c0 c1 fz t0 t1 t2 t3 HT HP HV r2 b2 ch2
    go_wp2_with fail
    refine HQ.out.mono ?_
    rintro e w3 ⟨⟨q, rfl⟩, hG⟩
    have FN := Lib.hid hG
    clear hG HQ k0 k1 k2
    go_wp2
    exact bodyPost_end (results_none rfl _ _ _) rfl ⟨rfl, FN.out⟩
  · have d0 : (t.num != 0) = false := by simpa using hn
    clear hn
    go_enter Try.func38, Try.ntmps38
    go_wp2_with fail
    refine (HV.out _).mono ?_
    rintro e w2 ⟨rfl, hB⟩
    obtain ⟨r2, b2, ch2, ne2, lt2⟩ := HT.out w2 hB
    obtain ⟨k0, k1, k2⟩ := tok_cells b2
    have HQ := Lib.hid (HP.out w2 hB)
    clear hB c0 c1 fz t0 t1 t2 t3 HT HP HV r2 b2 ch2
    go_wp2_with fail
    refine HQ.out.mono ?_
    rintro e w3 ⟨⟨q, rfl⟩, hG⟩
    have FN := Lib.hid hG
    clear hG HQ k0 k1 k2
    go_wp2
    exact bodyPost_end (results_none rfl _ _ _) rfl ⟨rfl, FN.out⟩
end Go.Proofs.Ytjlaankgfpjeeaa

/-
  The reader's size.
-/
namespace Go.Proofs.Ytjlaankgfpjeeaa
open Go.RowKit
set_option linter.unusedVariables false
set_option maxHeartbeats 20000000 in
theorem size_core (b g o m c : Nat) (f : Int) (t : Tok) (w : World) (G : World → Prop) (most nv z : Int) (qb : Bool) (hv : (nv ≠ 0 ∧ z = nv) ∨ (nv = 0 ∧ t.num = 0 ∧ z = 1) ∨ (nv = 0 ∧ t.num ≠ 0 ∧ z = 0))
    (h : RD b g o (m + 1) (c + 1) f w) (ht : Front g o t w)
    (HV : Hid (∀ W : World, Calls Try.prog 37 #[.agg #[.int .i64 t.kind, .string t.text, .int .i64 t.num, .int .i64 t.at_], .int .i64 most] W fun e w' => e = .returned (.int .i64 nv) ∧ Below W.heap.size W w'))
    (HP : Hid (∀ w2, Below (w.alloc (tokO t)).heap.size (w.alloc (tokO t)) w2 → Calls Try.prog 26 #[.pointer (some ⟨b, 0, none⟩), .int .i64 z] w2 fun r w' => r = .returned (.bool qb) ∧ G w' ∧ w'.heap[w.heap.size]? = some (tokO t))) :
    Calls Try.prog 31 #[.pointer (some ⟨b, 0, none⟩), .int .i64 most] w fun r w' => r = .returned (.int .i64 (if qb = true then t.num else 0)) ∧ G w' := by
  obtain ⟨c0, c1, fz⟩ := h.cells
  obtain ⟨t0, t1, t2, t3⟩ := ht
  have HT : Hid (∀ w2, Below (w.alloc (tokO t)).heap.size (w.alloc (tokO t)) w2 → RD b g o (m + 1) (c + 1) f w2 ∧ w2.heap[w.heap.size]? = some (tokO t) ∧ Ch1 b w w2 ∧ w.heap.size ≠ b ∧ w.heap.size < w2.heap.size) := Lib.hid fun w2 hB => taken t h hB
  clear h
  rcases hv with ⟨hn, rfl⟩ | ⟨rfl, hn, rfl⟩ | ⟨rfl, hn, rfl⟩
  · have d0 : (z == 0) = false := by simpa using hn
    clear hn
    cases qb
    · go_enter Try.func31, Try.ntmps31
      go_wp2_with fail
      refine (HV.out _).mono ?_
      rintro e w2 ⟨rfl, hB⟩
      obtain ⟨r2, b2, ch2, ne2, lt2⟩ := HT.out w2 hB
      obtain ⟨k0, k1, k2⟩ := tok_cells b2
      have HQ := Lib.hid (HP.out w2 hB)
      clear hB c0 c1 fz t0 t1 t2 t3 HT HP HV r2 b2 ch2
      go_wp2_with fail
      refine HQ.out.mono ?_
      rintro e w3 ⟨rfl, hG, b3⟩
      have FN := Lib.hid hG
      clear hG HQ k0 k1 k2
      obtain ⟨k0, k1, k2⟩ := tok_cells b3
      clear b3
      go_wp2
      go_ret
      exact ⟨rfl, FN.out⟩
    · go_enter Try.func31, Try.ntmps31
      go_wp2_with fail
      refine (HV.out _).mono ?_
      rintro e w2 ⟨rfl, hB⟩
      obtain ⟨r2, b2, ch2, ne2, lt2⟩ := HT.out w2 hB
      obtain ⟨k0, k1, k2⟩ := tok_cells b2
      have HQ := Lib.hid (HP.out w2 hB)
      clear hB c0 c1 fz t0 t1 t2 t3 HT HP HV r2 b2 ch2
      go_wp2_with fail
      refine HQ.out.mono ?_
      rintro e w3 ⟨rfl, hG, b3⟩
      have FN := Lib.hid hG
      clear hG HQ k0 k1 k2
      obtain ⟨k0, k1, k2⟩ := tok_cells b3
      clear b3
      go_wp2
      go_ret
      exact ⟨rfl, FN.out⟩
  · have d0 : (t.num == 0) = true := by simpa using hn
    clear hn
    cases qb
    · go_enter Try.func31, Try.ntmps31
      go_wp2_with fail
      refine (HV.out _).mono ?_
      rintro e w2 ⟨rfl, hB⟩
      obtain ⟨r2, b2, ch2, ne2, lt2⟩ := HT.out w2 hB
      obtain ⟨k0, k1, k2⟩ := tok_cells b2
      have HQ := Lib.hid (HP.out w2 hB)
      clear hB c0 c1 fz t0 t1 t2 t3 HT HP HV r2 b2 ch2
      go_wp2_with fail
      refine HQ.out.mono ?_
      rintro e w3 ⟨rfl, hG, b3⟩
      have FN := Lib.hid hG
      clear hG HQ k0 k1 k2
      obtain ⟨k0, k1, k2⟩ := tok_cells b3
      clear b3
      go_wp2
      go_ret
      exact ⟨rfl, FN.out⟩
    · go_enter Try.func31, Try.ntmps31
      go_wp2_with fail
      refine (HV.out _).mono ?_
      rintro e w2 ⟨rfl, hB⟩
      obtain ⟨r2, b2, ch2, ne2, lt2⟩ := HT.out w2 hB
      obtain ⟨k0, k1, k2⟩ := tok_cells b2
      have HQ := Lib.hid (HP.out w2 hB)
      clear hB c0 c1 fz t0 t1 t2 t3 HT HP HV r2 b2 ch2
      go_wp2_with fail
      refine HQ.out.mono ?_
      rintro e w3 ⟨rfl, hG, b3⟩
      have FN := Lib.hid hG
      clear hG HQ k0 k1 k2
      obtain ⟨k0, k1, k2⟩ := tok_cells b3
      clear b3
      go_wp2
      go_ret
      exact ⟨rfl, FN.out⟩
  · have d0 : (t.num == 0) = false := by simpa using hn
    clear hn
    cases qb
    · go_enter Try.func31, Try.ntmps31
      go_wp2_with fail
      refine (HV.out _).mono ?_
      rintro e w2 ⟨rfl, hB⟩
      obtain ⟨r2, b2, ch2, ne2, lt2⟩ := HT.out w2 hB
      obtain ⟨k0, k1, k2⟩ := tok_cells b2
      have HQ := Lib.hid (HP.out w2 hB)
      clear hB c0 c1 fz t0 t1 t2 t3 HT HP HV r2 b2 ch2
      go_wp2_with fail
      refine HQ.out.mono ?_
      rintro e w3 ⟨rfl, hG, b3⟩
      have FN := Lib.hid hG
      clear hG HQ k0 k1 k2
      obtain ⟨k0, k1, k2⟩ := tok_cells b3
      clear b3
      go_wp2
      go_ret
      exact ⟨rfl, FN.out⟩
    · go_enter Try.func31, Try.ntmps31
      go_wp2_with fail
      refine (HV.out _).mono ?_
      rintro e w2 ⟨rfl, hB⟩
      obtain ⟨r2, b2, ch2, ne2, lt2⟩ := HT.out w2 hB
      obtain ⟨k0, k1, k2⟩ := tok_cells b2
      have HQ := Lib.hid (HP.out w2 hB)
      clear hB c0 c1 fz t0 t1 t2 t3 HT HP HV r2 b2 ch2
      go_wp2_with fail
      refine HQ.out.mono ?_
      rintro e w3 ⟨rfl, hG, b3⟩
      have FN := Lib.hid hG
      clear hG HQ k0 k1 k2
      obtain ⟨k0, k1, k2⟩ := tok_cells b3
      clear b3
      go_wp2
      go_ret
      exact ⟨rfl, FN.out⟩
end Go.Proofs.Ytjlaankgfpjeeaa

/-
  The reader's nought and size, by what they leave.
-/
namespace Go.Proofs.Ytjlaankgfpjeeaa
open Go.RowKit
set_option linter.unusedVariables false
/-- nought -/
theorem nought_rd (b g o m c : Nat) (f : Int) (t : Tok) (hm : t.kind ≠ 3 → 1 ≤ m) (hc : m ≤ c) (w : World) (h : RD b g o (m + 1) (c + 1) f w) (ht : Front g o t w) :
    Calls Try.prog 38 #[.pointer (some ⟨b, 0, none⟩)] w fun r w' => r = .returned (.tuple #[]) ∧ Went b g o m c f (zf t) w' ∧ Ch1 b w w' := by
  refine nought_core b g o m c f t w (fun w' => Went b g o m c f (zf t) w' ∧ Ch1 b w w') (nf t.kind t.num 2147483647) (zf t) ?_ h ht (Lib.hid fun W => nf_tok t _ W) (Lib.hid fun w2 hB => ?_)
  · unfold zf
    by_cases q : nf t.kind t.num 2147483647 = 0
    · rw [if_pos q]
      by_cases q2 : t.num = 0
      · rw [if_pos q2]; exact .inr (.inr ⟨q, q2, rfl⟩)
      · rw [if_neg q2]; exact .inr (.inl ⟨q, q2, rfl⟩)
    · rw [if_neg q]; exact .inl ⟨q, rfl⟩
  · obtain ⟨r2, b2, ch2, ne2, lt2⟩ := taken t h hB
    refine (pass_any b g o m c f (zf t) (fun q => hm (fun k => nf_end k (zf_ok q).1)) hc w2 r2).mono ?_
    rintro e w3 ⟨rfl, hW, hC⟩
    exact ⟨⟨_, rfl⟩, hW, ch2.trans hC⟩
/-- size -/
theorem size_rd (b g o m c : Nat) (f : Int) (t : Tok) (most : Int) (hm : t.kind ≠ 3 → 1 ≤ m) (hc : m ≤ c) (w : World) (h : RD b g o (m + 1) (c + 1) f w) (ht : Front g o t w) :
    Calls Try.prog 31 #[.pointer (some ⟨b, 0, none⟩), .int .i64 most] w fun r w' => r = .returned (.int .i64 (if f = 0 ∧ sf t most = 0 then t.num else 0)) ∧ Went b g o m c f (sf t most) w' ∧ Ch1 b w w' := by
  have H := size_core b g o m c f t w (fun w' => Went b g o m c f (sf t most) w' ∧ Ch1 b w w') most (nf t.kind t.num most) (sf t most) (decide (f = 0 ∧ sf t most = 0)) (by
    unfold sf
    by_cases q : nf t.kind t.num most = 0
    · rw [if_pos q]
      by_cases q2 : t.num = 0
      · rw [if_pos q2]; exact .inr (.inl ⟨q, q2, rfl⟩)
      · rw [if_neg q2]; exact .inr (.inr ⟨q, q2, rfl⟩)
    · rw [if_neg q]; exact .inl ⟨q, rfl⟩) h ht (Lib.hid fun W => nf_tok t _ W) (Lib.hid fun w2 hB => by
      obtain ⟨r2, b2, ch2, ne2, lt2⟩ := taken t h hB
      refine (pass_any b g o m c f (sf t most) (fun q => hm (fun k => nf_end k (sf_ok q).1)) hc w2 r2).mono ?_
      rintro e w3 ⟨rfl, hW, hC⟩
      exact ⟨rfl, ⟨hW, ch2.trans hC⟩, (hC.block _ lt2 ne2).trans b2⟩)
  simp only [decide_eq_true_eq] at H
  exact H
end Go.Proofs.Ytjlaankgfpjeeaa

/-
  The reader's end.
-/
namespace Go.Proofs.Ytjlaankgfpjeeaa
open Go.RowKit
set_option linter.unusedVariables false
set_option maxHeartbeats 4000000 in
/-- end, where the End is next -/
theorem end_stay (b g o m c : Nat) (f : Int) (t : Tok) (w : World) (h : RD b g o (m + 1) (c + 1) f w) (ht : Front g o t w) (hk : t.kind = 3) :
    Calls Try.prog 15 #[.pointer (some ⟨b, 0, none⟩)] w fun r w' => r = .returned (.tuple #[]) ∧ w = w' := by
  obtain ⟨c0, c1, fz⟩ := h.cells
  obtain ⟨t0, t1, t2, t3⟩ := ht
  rw [hk] at t0
  clear h hk t1 t2 t3
  go_enter Try.func15, Try.ntmps15
  go_wp2
  exact bodyPost_end (results_none rfl _ _ _) rfl ⟨rfl, rfl⟩
set_option maxHeartbeats 4000000 in
/-- end, where another token is next -/
theorem end_tail (b g o m c : Nat) (f : Int) (t : Tok) (hc : m ≤ c) (w : World) (h : RD b g o (m + 1) (c + 1) f w) (ht : Front g o t w) (hk : t.kind ≠ 3) :
    Calls Try.prog 15 #[.pointer (some ⟨b, 0, none⟩)] w fun r w' => r = .returned (.tuple #[]) ∧ Went b g o m c f 7 w' ∧ Ch1 b w w' := by
  obtain ⟨c0, c1, fz⟩ := h.cells
  obtain ⟨t0, t1, t2, t3⟩ := ht
  have d0 : (t.kind != 3) = true := by simpa using hk
  have HP := Lib.hid (pass_any b g o m c f 7 (by omega) hc w h)
  clear h hk t1 t2 t3
  go_enter Try.func15, Try.ntmps15
  go_wp2_with fail
  refine HP.out.mono ?_
  rintro e w3 ⟨rfl, hG⟩
  have FN := Lib.hid hG
  clear hG HP
  go_wp2
  exact bodyPost_end (results_none rfl _ _ _) rfl ⟨rfl, FN.out⟩
end Go.Proofs.Ytjlaankgfpjeeaa

/-
  What a row of tokens tells, step by step; the reader as a place in that row and a fault.
-/
namespace Go.Proofs.Ytjlaankgfpjeeaa
open Go.RowKit
set_option linter.unusedVariables false
def noTok : Tok := ⟨3, noText, 0, 0⟩
def tk (T : List Tok) (p : Nat) : Tok := (T[p]?).getD noTok
/-- where the reader is, and what is wrong there -/
structure St where
  p : Nat
  f : Int
def adv (s : St) (e : Int) : St := if s.f = 0 then (if e = 0 then ⟨s.p + 1, 0⟩ else ⟨s.p, e⟩) else s
theorem adv_bad {s : St} (h : s.f ≠ 0) (e : Int) : adv s e = s := by unfold adv; rw [if_neg h]
theorem adv_ok {s : St} (h : s.f = 0) : adv s 0 = ⟨s.p + 1, 0⟩ := by unfold adv; rw [if_pos h, if_pos rfl]
theorem adv_err {s : St} (h : s.f = 0) {e : Int} (he : e ≠ 0) : adv s e = ⟨s.p, e⟩ := by unfold adv; rw [if_pos h, if_neg he]
/-- so many steps, of which the k-th finds E k wrong with its token -/
def steps (E : Nat → Tok → Int) (T : List Tok) (s : St) : Nat → St
  | 0 => s
  | k + 1 => adv (steps E T s k) (E k (tk T (steps E T s k).p))
theorem steps_succ (E : Nat → Tok → Int) (T : List Tok) (s : St) (k : Nat) : steps E T s (k + 1) = adv (steps E T s k) (E k (tk T (steps E T s k).p)) := rfl
theorem steps_bad (E : Nat → Tok → Int) (T : List Tok) {s : St} (h : s.f ≠ 0) : ∀ k, steps E T s k = s
  | 0 => rfl
  | k + 1 => by rw [steps_succ, steps_bad E T h k, adv_bad h]
theorem steps_ok (E : Nat → Tok → Int) (T : List Tok) (p : Nat) : ∀ k, (∀ j, j < k → E j (tk T (p + j)) = 0) → steps E T ⟨p, 0⟩ k = ⟨p + k, 0⟩
  | 0, _ => rfl
  | k + 1, h => by
    rw [steps_succ, steps_ok E T p k (fun j hj => h j (by omega))]
    show adv ⟨p + k, 0⟩ (E k (tk T (p + k))) = _
    rw [h k (by omega)]
    exact adv_ok rfl
theorem steps_more (E : Nat → Tok → Int) (T : List Tok) (s : St) (a : Nat) (h : (steps E T s a).f ≠ 0) : ∀ k, steps E T s (a + k) = steps E T s a
  | 0 => rfl
  | k + 1 => by
    show adv (steps E T s (a + k)) _ = _
    rw [steps_more E T s a h k, adv_bad h]
theorem steps_err (E : Nat → Tok → Int) (T : List Tok) (p a k : Nat) (h : ∀ j, j < a → E j (tk T (p + j)) = 0) (he : E a (tk T (p + a)) ≠ 0) (hk : a < k) : steps E T ⟨p, 0⟩ k = ⟨p + a, E a (tk T (p + a))⟩ := by
  have h1 : steps E T ⟨p, 0⟩ (a + 1) = ⟨p + a, E a (tk T (p + a))⟩ := by
    rw [steps_succ, steps_ok E T p a h]
    show adv ⟨p + a, 0⟩ (E a (tk T (p + a))) = _
    exact adv_err rfl he
  obtain ⟨m, rfl⟩ : ∃ m, k = a + 1 + m := ⟨k - a - 1, by omega⟩
  rw [steps_more E T ⟨p, 0⟩ (a + 1) (by rw [h1]; exact he) m, h1]
/-- what the k-th step's token has for a number -/
def vn (E : Nat → Tok → Int) (T : List Tok) (s : St) (k : Nat) : Int := (tk T (steps E T s k).p).num
theorem vn_ok (E : Nat → Tok → Int) (T : List Tok) (p k : Nat) (h : ∀ j, j < k → E j (tk T (p + j)) = 0) : vn E T ⟨p, 0⟩ k = (tk T (p + k)).num := by
  unfold vn; rw [steps_ok E T p k h]
/-- tokens as a scan leaves them: the last one is the End -/
structure Toks (T : List Tok) : Prop where
  last : ∃ m z, T = m ++ [⟨3, noText, 0, z⟩] ∧ (∀ t ∈ m, t.kind = 1 ∨ (t.kind = 2 ∧ t.text = noText)) ∧ ∀ t ∈ m, 0 ≤ t.num
  len : T.length ≤ 65537
theorem Toks.pos {T : List Tok} (h : Toks T) : 0 < T.length := by
  obtain ⟨m, z, rfl, _⟩ := h.last
  simp
theorem Toks.more {T : List Tok} (h : Toks T) {p : Nat} (hp : p < T.length) (hk : (tk T p).kind ≠ 3) : p + 1 < T.length := by
  obtain ⟨m, z, rfl, _⟩ := h.last
  rcases Nat.lt_or_ge (p + 1) (m ++ [(⟨3, noText, 0, z⟩ : Tok)]).length with q | q
  · exact q
  · exfalso; apply hk
    simp at q hp
    obtain rfl : p = m.length := by omega
    simp [tk]
theorem Toks.kinds {T : List Tok} (h : Toks T) (p : Nat) : (tk T p).kind = 1 ∨ ((tk T p).kind = 2 ∧ (tk T p).text = noText) ∨ ((tk T p).kind = 3 ∧ (tk T p).text = noText) := by
  obtain ⟨m, z, rfl, hm, _⟩ := h.last
  unfold tk
  rcases Nat.lt_trichotomy p m.length with q | q | q
  · rw [List.getElem?_append_left q, List.getElem?_eq_getElem q]
    rcases hm _ (List.getElem_mem q) with r | r
    · exact .inl r
    · exact .inr (.inl r)
  · subst q; right; right; simp
  · right; right
    rw [List.getElem?_eq_none (by simp; omega)]
    exact ⟨rfl, rfl⟩
theorem Toks.num {T : List Tok} (h : Toks T) (p : Nat) : 0 ≤ (tk T p).num := by
  obtain ⟨m, z, rfl, _, hm⟩ := h.last
  unfold tk
  rcases Nat.lt_trichotomy p m.length with q | q | q
  · rw [List.getElem?_append_left q, List.getElem?_eq_getElem q]
    exact hm _ (List.getElem_mem q)
  · subst q; simp
  · rw [List.getElem?_eq_none (by simp; omega)]
    exact Int.le_refl 0
theorem ndf_dig (t : ByteArray) : ∀ b k j, k ≤ j → j < ndf t b k → isd t j
  | 0, k, j, h1, h2 => by simp only [ndf] at h2; omega
  | b + 1, k, j, h1, h2 => by
    by_cases q : isd t k
    · rw [ndf_step t b k q] at h2
      by_cases e : j = k
      · rw [e]; exact q
      · exact ndf_dig t b (k + 1) j (by omega) h2
    · rw [ndf_end t (b + 1) k q] at h2; omega
theorem rdv_num (t : ByteArray) (a : Int) (h : (rdv t a).2.2 = 0) : 0 ≤ (rdv t a).1 := by
  unfold rdv at h ⊢
  split
  · exact Int.le_refl 0
  · split
    · exact Int.le_refl 0
    · exact (dv_b t (nd t) (fun j hj => ndf_dig t _ 0 j (by omega) hj)).1
theorem sp_toks (s : ByteArray) : ∀ b p l l', sp s b p l = .ok l' → (∀ t ∈ l, (t.kind = 1 ∨ (t.kind = 2 ∧ t.text = noText)) ∧ 0 ≤ t.num) → l.length ≤ p → p ≤ s.size → ∃ m, l' = m ++ [⟨3, noText, 0, s.size⟩] ∧ (∀ t ∈ m, (t.kind = 1 ∨ (t.kind = 2 ∧ t.text = noText)) ∧ 0 ≤ t.num) ∧ m.length ≤ s.size
  | 0, p, l, l', h, hl, hp, hs => by
    injection h with h
    exact ⟨l, h.symm, hl, by omega⟩
  | b + 1, p, l, l', h, hl, hp, hs => by
    simp only [sp] at h
    split at h
    · injection h with h
      exact ⟨l, h.symm, hl, by omega⟩
    · rename_i hlt
      have g2 := run_ge 2 s (p + 1)
      have g3 := run_ge 3 s (p + 1)
      have g4 := nl_ge s (p + 1)
      have e2 := run_le 2 s (p + 1) (by omega)
      have e3 := run_le 3 s (p + 1) (by omega)
      have e4 := nl_le s (p + 1) (by omega)
      split at h
      · exact sp_toks s b _ _ _ h hl (by omega) (by omega)
      · split at h
        · exact sp_toks s b _ _ _ h hl (by omega) (by omega)
        · split at h
          · split at h
            · cases h
            · rename_i hrd
              split at h
              · cases h
              · refine sp_toks s b _ _ _ h (fun t ht => ?_) (by simp; omega) (by omega)
                rcases List.mem_append.1 ht with q | q
                · exact hl t q
                · rw [List.mem_singleton.1 q]; exact ⟨.inr ⟨rfl, rfl⟩, rdv_num _ _ (Decidable.not_not.1 hrd)⟩
          · split at h
            · split at h
              · cases h
              · split at h
                · cases h
                · refine sp_toks s b _ _ _ h (fun t ht => ?_) (by simp; omega) (by omega)
                  rcases List.mem_append.1 ht with q | q
                  · exact hl t q
                  · rw [List.mem_singleton.1 q]; exact ⟨.inl rfl, Int.le_refl 0⟩
            · cases h
theorem SP_toks {s : ByteArray} {T : List Tok} (hs : s.size ≤ 65536) (h : SP s 0 [] = .ok T) : Toks T := by
  obtain ⟨m, rfl, h1, h2⟩ := sp_toks s _ 0 [] T h (by simp) (by simp) (by omega)
  exact ⟨⟨m, s.size, rfl, fun t ht => (h1 t ht).1, fun t ht => (h1 t ht).2⟩, by simp; omega⟩
end Go.Proofs.Ytjlaankgfpjeeaa

/-
  The reader over a whole row of tokens: entry, nought, size and end by what they leave of the place and the fault.
-/
namespace Go.Proofs.Ytjlaankgfpjeeaa
open Go.RowKit
set_option linter.unusedVariables false
theorem encL_len : ∀ l : List Tok, (encL l).length = l.length * 4
  | [] => rfl
  | a :: l => by have := encL_len l; simp [encL, encT] at this ⊢; omega
theorem encL_get : ∀ (l : List Tok) (i : Nat) (t : Tok) (j : Nat) (u : Value), l[i]? = some t → (encT t)[j]? = some u → (encL l)[i * 4 + j]? = some u
  | [], i, t, j, u, h, _ => by simp at h
  | a :: l, 0, t, j, u, h, h2 => by
    simp at h; subst h
    have hj : j < 4 := (List.getElem?_eq_some_iff.1 h2).1
    show (encT a ++ encL l)[0 * 4 + j]? = some u
    rw [List.getElem?_append_left (by show 0 * 4 + j < 4; omega), show 0 * 4 + j = j by omega]; exact h2
  | a :: l, i + 1, t, j, u, h, h2 => by
    have := encL_get l i t j u (by simpa using h) h2
    show (encT a ++ encL l)[(i + 1) * 4 + j]? = some u
    rw [List.getElem?_append_right (by show 4 ≤ (i + 1) * 4 + j; omega), show (i + 1) * 4 + j - (encT a).length = i * 4 + j by show (i + 1) * 4 + j - 4 = i * 4 + j; omega]; exact this
/-- a row of tokens in a block -/
def TB (g : Nat) (T : List Tok) (w : World) : Prop := ∃ cur : Array Value, w.heap[g]? = some (.cells cur 46 (0, 0)) ∧ ∀ j, j < T.length * 4 → cur[j]? = (encL T)[j]?
/-- the reader b over the tokens T in block g, in state s -/
structure RS (b g C : Nat) (T : List Tok) (s : St) (w : World) : Prop where
  box : RD b g (4 * s.p) (T.length - s.p) (C - s.p) s.f w
  toks : TB g T w
  lt : s.p < T.length
  cap : T.length ≤ C
  form : Toks T
theorem grew {b : Nat} {w w' : World} (h : Ch1 b w w') : w.grownBy w' (some b) := ⟨h.os, h.tape, h.output, h.size, fun k hk hne => h.block k hk (fun e => hne (by rw [e]))⟩
theorem TB.front {g : Nat} {T : List Tok} {w : World} (h : TB g T w) {p : Nat} (hp : p < T.length) : Front g (4 * p) (tk T p) w := by
  obtain ⟨cur, h1, h2⟩ := h
  have ht : T[p]? = some (tk T p) := by unfold tk; rw [List.getElem?_eq_getElem hp]; rfl
  have hc : ∀ j u, (encT (tk T p))[j]? = some u → w.cell? ⟨g, 4 * p + j, none⟩ = some u := fun j u hj => by
    have hj4 : j < 4 := (List.getElem?_eq_some_iff.1 hj).1
    rw [show 4 * p + j = p * 4 + j by omega, cell_of_row _ _ _ _ _ _ h1, h2 _ (by omega)]
    exact encL_get T p _ j u ht hj
  exact ⟨hc 0 _ rfl, hc 1 _ rfl, hc 2 _ rfl, hc 3 _ rfl⟩
theorem RS.keep {b g C : Nat} {T : List Tok} {s : St} {w w' : World} (h : RS b g C T s w) (hb : w'.heap[b]? = w.heap[b]?) (hg : w'.heap[g]? = w.heap[g]?) : RS b g C T s w' :=
  ⟨hb.trans h.box, by obtain ⟨cur, h1, h2⟩ := h.toks; exact ⟨cur, hg.trans h1, h2⟩, h.lt, h.cap, h.form⟩
theorem RS.ne {b g C : Nat} {T : List Tok} {s : St} {w : World} (h : RS b g C T s w) : g ≠ b := by
  obtain ⟨cur, h1, _⟩ := h.toks
  rintro rfl
  have h2 := h.box
  unfold RD at h2
  rw [h1] at h2
  injection h2 with h2
  injection h2 with _ h2
  exact absurd h2 (by decide)
/-- a block of another type is neither the reader's nor the tokens' -/
theorem RS.far {b g C : Nat} {T : List Tok} {s : St} {w : World} (h : RS b g C T s w) {x : Nat} {cs : Array Value} {t : TypeId} (hx : w.heap[x]? = some (.cells cs t (0, 0))) (h1 : t ≠ 43) (h2 : t ≠ 46) : x ≠ b ∧ x ≠ g := by
  obtain ⟨cur, q1, _⟩ := h.toks
  have q2 := h.box
  unfold RD at q2
  refine ⟨?_, ?_⟩
  · rintro rfl; rw [hx] at q2; injection q2 with q2; injection q2 with _ q2; exact h1 q2
  · rintro rfl; rw [hx] at q1; injection q1 with q1; injection q1 with _ q1; exact h2 q1
theorem RS.ltb {b g C : Nat} {T : List Tok} {s : St} {w : World} (h : RS b g C T s w) : b < w.heap.size ∧ g < w.heap.size := by
  obtain ⟨cur, q1, _⟩ := h.toks
  have q2 := h.box
  unfold RD at q2
  exact ⟨lt_blk q2, lt_blk q1⟩
theorem RS.up {b g C : Nat} {T : List Tok} {s : St} {w w' : World} (h : RS b g C T s w) (hb : Below w.heap.size w w') : RS b g C T s w' := h.keep (hb.block _ h.ltb.1) (hb.block _ h.ltb.2)
theorem RS.alloc {b g C : Nat} {T : List Tok} {s : St} {w : World} (h : RS b g C T s w) (o : Obj) : RS b g C T s (w.alloc o) := h.keep (Below.heap_alloc w o _ h.ltb.1) (Below.heap_alloc w o _ h.ltb.2)
theorem RS.drew {b g C : Nat} {T : List Tok} {s : St} {w : World} (h : RS b g C T s w) : RS b g C T s w.drew := h.keep rfl rfl
theorem RS.set {b g C : Nat} {T : List Tok} {s : St} {w : World} (h : RS b g C T s w) {x : Nat} (h1 : x ≠ b) (h2 : x ≠ g) (j : Nat) (v : Value) : RS b g C T s (w.setCell ⟨x, j, none⟩ v) :=
  h.keep (heap_setCell_other w ⟨x, j, none⟩ b v (Ne.symm h1)) (heap_setCell_other w ⟨x, j, none⟩ g v (Ne.symm h2))
/-- what a step that found e wrong leaves -/
theorem RS.went {b g C : Nat} {T : List Tok} {s : St} {w w' : World} (h : RS b g C T s w) {e : Int} (he : e = 0 → (tk T s.p).kind ≠ 3) (hW : Went b g (4 * s.p) (T.length - s.p - 1) (C - s.p - 1) s.f e w') (hC : Ch1 b w w') : RS b g C T (adv s e) w' := by
  have hl := h.lt
  have hc := h.cap
  obtain ⟨hlb, hlg⟩ := h.ltb
  have ht : TB g T w' := by obtain ⟨cur, h1, h2⟩ := h.toks; exact ⟨cur, (hC.block g hlg h.ne).trans h1, h2⟩
  have e1 : T.length - s.p - 1 + 1 = T.length - s.p := by omega
  have e2 : C - s.p - 1 + 1 = C - s.p := by omega
  unfold Went at hW
  by_cases hf : s.f = 0
  · rw [if_pos hf] at hW
    by_cases h0 : e = 0
    · rw [if_pos h0] at hW
      have hm := h.form.more hl (he h0)
      subst h0
      rw [adv_ok hf]
      refine ⟨?_, ht, hm, hc, h.form⟩
      show RD b g (4 * (s.p + 1)) (T.length - (s.p + 1)) (C - (s.p + 1)) 0 w'
      rw [show 4 * (s.p + 1) = 4 * s.p + 4 by omega, show T.length - (s.p + 1) = T.length - s.p - 1 by omega, show C - (s.p + 1) = C - s.p - 1 by omega]
      exact hW
    · rw [if_neg h0, e1, e2] at hW
      rw [adv_err hf h0]
      exact ⟨hW, ht, hl, hc, h.form⟩
  · rw [if_neg hf, e1, e2] at hW
    rw [adv_bad hf]
    exact ⟨hW, ht, hl, hc, h.form⟩
theorem RS.box1 {b g C : Nat} {T : List Tok} {s : St} {w : World} (h : RS b g C T s w) : RD b g (4 * s.p) (T.length - s.p - 1 + 1) (C - s.p - 1 + 1) s.f w := by
  have hl := h.lt
  have hc := h.cap
  rw [show T.length - s.p - 1 + 1 = T.length - s.p by omega, show C - s.p - 1 + 1 = C - s.p by omega]
  exact h.box
/-- what is wrong with an entry -/
def eE (t : Tok) : Int := nf t.kind t.num 2147483647
theorem eE_go {t : Tok} (h : eE t = 0) : t.kind ≠ 3 := fun k => nf_end k h
theorem entry_s (b g C : Nat) (T : List Tok) (s : St) (w : World) (h : RS b g C T s w) :
    Calls Try.prog 33 #[.pointer (some ⟨b, 0, none⟩)] w fun r w' => r = .returned (.int .i64 (tk T s.p).num) ∧ RS b g C T (adv s (eE (tk T s.p))) w' ∧ w.grownBy w' (some b) := by
  have hl := h.lt
  have hc := h.cap
  refine (entry_rd b g (4 * s.p) (T.length - s.p - 1) (C - s.p - 1) s.f (tk T s.p) (fun k => by have := h.form.more hl k; omega) (by omega) w h.box1 (h.toks.front hl)).mono ?_
  rintro r w' ⟨rfl, hW, hC⟩
  exact ⟨rfl, h.went eE_go hW hC, grew hC⟩
theorem zf_go {t : Tok} (h : zf t = 0) : t.kind ≠ 3 := fun k => nf_end k (zf_ok h).1
theorem nought_s (b g C : Nat) (T : List Tok) (s : St) (w : World) (h : RS b g C T s w) :
    Calls Try.prog 38 #[.pointer (some ⟨b, 0, none⟩)] w fun r w' => r = .returned (.tuple #[]) ∧ RS b g C T (adv s (zf (tk T s.p))) w' ∧ w.grownBy w' (some b) := by
  have hl := h.lt
  have hc := h.cap
  refine (nought_rd b g (4 * s.p) (T.length - s.p - 1) (C - s.p - 1) s.f (tk T s.p) (fun k => by have := h.form.more hl k; omega) (by omega) w h.box1 (h.toks.front hl)).mono ?_
  rintro r w' ⟨rfl, hW, hC⟩
  exact ⟨rfl, h.went zf_go hW hC, grew hC⟩
theorem sf_go {t : Tok} {most : Int} (h : sf t most = 0) : t.kind ≠ 3 := fun k => nf_end k (sf_ok h).1
theorem size_s (b g C : Nat) (T : List Tok) (s : St) (most : Int) (w : World) (h : RS b g C T s w) :
    Calls Try.prog 31 #[.pointer (some ⟨b, 0, none⟩), .int .i64 most] w fun r w' => r = .returned (.int .i64 (if s.f = 0 ∧ sf (tk T s.p) most = 0 then (tk T s.p).num else 0)) ∧ RS b g C T (adv s (sf (tk T s.p) most)) w' ∧ w.grownBy w' (some b) := by
  have hl := h.lt
  have hc := h.cap
  refine (size_rd b g (4 * s.p) (T.length - s.p - 1) (C - s.p - 1) s.f (tk T s.p) most (fun k => by have := h.form.more hl k; omega) (by omega) w h.box1 (h.toks.front hl)).mono ?_
  rintro r w' ⟨rfl, hW, hC⟩
  exact ⟨rfl, h.went sf_go hW hC, grew hC⟩
/-- what is wrong where the End must be -/
def tf (t : Tok) : Int := if t.kind = 3 then 0 else 7
/-- end: where it stays -/
def fin (T : List Tok) (s : St) : St := if (tk T s.p).kind = 3 then s else adv s 7
theorem end_s (b g C : Nat) (T : List Tok) (s : St) (w : World) (h : RS b g C T s w) :
    Calls Try.prog 15 #[.pointer (some ⟨b, 0, none⟩)] w fun r w' => r = .returned (.tuple #[]) ∧ RS b g C T (fin T s) w' ∧ w.grownBy w' (some b) := by
  have hl := h.lt
  have hc := h.cap
  unfold fin
  by_cases hk : (tk T s.p).kind = 3
  · rw [if_pos hk]
    refine (end_stay b g (4 * s.p) (T.length - s.p - 1) (C - s.p - 1) s.f (tk T s.p) w h.box1 (h.toks.front hl) hk).mono ?_
    rintro r w' ⟨rfl, rfl⟩
    exact ⟨rfl, h, ⟨rfl, rfl, rfl, Nat.le_refl _, fun _ _ _ => rfl⟩⟩
  · rw [if_neg hk]
    refine (end_tail b g (4 * s.p) (T.length - s.p - 1) (C - s.p - 1) s.f (tk T s.p) (by omega) w h.box1 (h.toks.front hl) hk).mono ?_
    rintro r w' ⟨rfl, hW, hC⟩
    exact ⟨rfl, h.went (fun e => absurd e (by decide)) hW hC, grew hC⟩
end Go.Proofs.Ytjlaankgfpjeeaa
