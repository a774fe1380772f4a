/-
  An incumbent in memory, an act in memory; the small functions.
-/
import Derived.Test.YtpmkpmenjaekmaaOpsB
import Derived.Test.YtpmkpmenjaekmaaOpen
import Derived.Deep.RegionHeld3
import Derived.IntWalk
namespace Go.Proofs.Ytpmkpmenjaekmaa
open Go.RowKit Go.MuLone
set_option linter.unusedVariables false
/-- the blocks of a list may have turned, and there may be new ones -/
structure Tw (S : List Nat) (w w' : World) : Prop where
  os : w'.os = w.os
  tape : w'.tape = w.tape
  output : w'.output = w.output
  size : w.heap.size ≤ w'.heap.size
  block : ∀ i, i < w.heap.size → i ∉ S → w'.heap[i]? = w.heap[i]?
theorem Tw.refl (S : List Nat) (w : World) : Tw S w w := ⟨rfl, rfl, rfl, Nat.le_refl _, fun _ _ _ => rfl⟩
theorem Tw.trans {S : List Nat} {w w1 w2 : World} (h : Tw S w w1) (k : Tw S w1 w2) : Tw S w w2 :=
  ⟨k.os.trans h.os, k.tape.trans h.tape, k.output.trans h.output, Nat.le_trans h.size k.size, fun i hi hn => (k.block i (Nat.lt_of_lt_of_le hi h.size) hn).trans (h.block i hi hn)⟩
theorem Tw.mono {S T : List Nat} {w w1 : World} (h : Tw S w w1) (k : ∀ i, i ∈ S → i ∈ T) : Tw T w w1 := ⟨h.os, h.tape, h.output, h.size, fun i hi hn => h.block i hi (fun hs => hn (k i hs))⟩
theorem Tw.al {S : List Nat} {w w1 : World} (h : Tw S w w1) (o : Obj) : Tw S w (w1.alloc o) :=
  ⟨h.os, h.tape, h.output, Nat.le_trans h.size (by simp), fun i hi hn => (Below.heap_alloc w1 o i (Nat.lt_of_lt_of_le hi h.size)).trans (h.block i hi hn)⟩
theorem Tw.dn {S : List Nat} {w w1 : World} (h : Tw S w w1) (n : Nat) : Tw S w (w1.drewN n) := ⟨h.os, h.tape, h.output, h.size, h.block⟩
theorem Tw.dr {S : List Nat} {w w1 : World} (h : Tw S w w1) : Tw S w w1.drew := ⟨h.os, h.tape, h.output, h.size, h.block⟩
theorem Tw.undr {S : List Nat} {w w1 : World} (h : Tw S w.drew w1) : Tw S w w1 := ⟨h.os, h.tape, h.output, h.size, h.block⟩
theorem Tw.st {S : List Nat} {w w1 : World} (h : Tw S w w1) (q : Nat) (hq : q ∈ S ∨ w.heap.size ≤ q) (j : Nat) (v : Value) : Tw S w (w1.setCell ⟨q, j, none⟩ v) :=
  ⟨h.os, h.tape, h.output, by simpa [World.setCell] using h.size, fun i hi hn => (Below.heap_setCell w1 ⟨q, j, none⟩ v i (by show i ≠ q; rintro rfl; rcases hq with hq | hq; exact hn hq; omega)).trans (h.block i hi hn)⟩
theorem Ch.tw {g b : Nat} {w w1 : World} (h : Ch g b w w1) : Tw [g, b] w w1 := ⟨h.os, h.tape, h.output, h.size, fun i hi hn => h.block i hi (fun e => hn (by simp [e])) (fun e => hn (by simp [e]))⟩
theorem Tw.of {S : List Nat} {w w1 : World} (h : Below w.heap.size w w1) : Tw S w w1 := ⟨h.os, h.tape, h.output, h.size, fun i hi _ => h.block i hi⟩
theorem Tw.below {S : List Nat} {B : Nat} {a w w1 : World} (h : Below B a w) (k : Tw S w w1) (hS : ∀ i, i ∈ S → B ≤ i) (hB : B ≤ w.heap.size) : Below B a w1 :=
  ⟨k.os.trans h.os, k.tape.trans h.tape, k.output.trans h.output, Nat.le_trans h.size k.size, fun i hi => (k.block i (by omega) (fun hs => by have := hS i hs; omega)).trans (h.block i hi)⟩
theorem blk_tw {S : List Nat} {p : Nat} {o : Obj} {w w1 : World} (h : w.heap[p]? = some o) (q : Tw S w w1) (h1 : p ∉ S) : w1.heap[p]? = some o := (q.block p (lt_hp h) h1).trans h
theorem cell_tw {S : List Nat} {p : Nat} {w w1 : World} (q : Tw S w w1) (hp : p < w.heap.size) (h1 : p ∉ S) (j : Nat) : w1.cell? ⟨p, j, none⟩ = w.cell? ⟨p, j, none⟩ := by simp [World.cell?, q.block p hp h1]
theorem blk_ty {w : World} {p q : Nat} {c d : Array Value} {t u : TypeId} (h1 : w.heap[p]? = some (.cells c t (0, 0))) (h2 : w.heap[q]? = some (.cells d u (0, 0))) (ht : t ≠ u) : p ≠ q := by
  rintro rfl
  rw [h1] at h2
  simp at h2
  exact ht h2.2
/-- an incumbent: its box, what each worker had, its memory -/
structure Si (q g b kb ia n : Nat) (vs : Nat → Value) (l : List Int) (s : Int) (w : World) : Prop where
  box : w.heap[q]? = some (.cells #[.pointer (some ⟨g, 0, none⟩), .int .i64 ia, .slice (some ⟨kb, 0, none⟩) n n] 69 (0, 0))
  kep : ∃ C : Array Value, w.heap[kb]? = some (.cells C 29 (0, 0)) ∧ C.size = n ∧ ∀ j, j < n → C[j]? = some (vs j)
  len : ia < l.length
  len2 : l.length ≤ 1000
  n1 : 1 ≤ n
  n16 : n ≤ 16
  mem : ∃ k c o m d, MB 0 g b l s k c o m d w
theorem set_self (l : List Int) (i : Nat) : l.set i (nth l i) = l := by
  by_cases h : i < l.length
  · rw [nth_at l i h]; exact List.set_getElem_self h
  · exact List.set_eq_of_length_le (by omega)
section
variable {q g b kb ia n : Nat} {vs : Nat → Value} {l : List Int} {s : Int} {w : World}
theorem Si.ne (h : Si q g b kb ia n vs l s w) : q ≠ g ∧ q ≠ b ∧ q ≠ kb ∧ kb ≠ g ∧ kb ≠ b ∧ g ≠ b := by
  obtain ⟨k, c, o, m, d, hm⟩ := h.mem
  obtain ⟨C, hC, _⟩ := h.kep
  exact ⟨blk_ty h.box hm.1 (by decide), blk_ty h.box hm.2 (by decide), blk_ty h.box hC (by decide), blk_ty hC hm.1 (by decide), blk_ty hC hm.2 (by decide), hm.ne⟩
theorem Si.lt (h : Si q g b kb ia n vs l s w) : q < w.heap.size ∧ kb < w.heap.size ∧ g < w.heap.size ∧ b < w.heap.size := by
  obtain ⟨k, c, o, m, d, hm⟩ := h.mem
  obtain ⟨C, hC, _⟩ := h.kep
  exact ⟨lt_hp h.box, lt_hp hC, lt_hp hm.1, lt_hp hm.2⟩
theorem Si.cells (h : Si q g b kb ia n vs l s w) : w.cell? ⟨q, 0, none⟩ = some (.pointer (some ⟨g, 0, none⟩)) ∧ w.cell? ⟨q, 1, none⟩ = some (.int .i64 ia) ∧ w.cell? ⟨q, 2, none⟩ = some (.slice (some ⟨kb, 0, none⟩) n n) :=
  ⟨(cell_of_row w q 0 _ 69 _ h.box).trans rfl, (cell_of_row w q 1 _ 69 _ h.box).trans rfl, (cell_of_row w q 2 _ 69 _ h.box).trans rfl⟩
theorem Si.kc (h : Si q g b kb ia n vs l s w) (j : Nat) (hj : j < n) : w.cell? ⟨kb, j, none⟩ = some (vs j) ∧ w.frozen? ⟨kb, j, none⟩ = false := by
  obtain ⟨C, hC, _, hc⟩ := h.kep
  exact ⟨(cell_of_row w kb j _ 29 _ hC).trans (hc j hj), by simp [World.frozen?, hC]⟩
theorem Si.keep {S : List Nat} {w1 : World} (h : Si q g b kb ia n vs l s w) (k : Tw S w w1) (hq : q ∉ S) (hg : g ∉ S) (hb : b ∉ S) (hk : kb ∉ S) : Si q g b kb ia n vs l s w1 := by
  obtain ⟨kk, c, o, m, d, hm⟩ := h.mem
  obtain ⟨C, hC, h2⟩ := h.kep
  exact ⟨blk_tw h.box k hq, ⟨C, blk_tw hC k hk, h2⟩, h.len, h.len2, h.n1, h.n16, kk, c, o, m, d, ⟨blk_tw hm.1 k hg, blk_tw hm.2 k hb⟩⟩
theorem Si.did {l1 : List Int} {s1 : Int} {w1 : World} {r : Value} {k c o m : Int} {d : Bool} {e : Ending} (h : Si q g b kb ia n vs l s w) (hd : Did r g b l1 s1 k c o m d w e w1) (hl : l1.length = l.length) : e = .returned r ∧ Si q g b kb ia n vs l1 s1 w1 ∧ Tw [g, b] w w1 := by
  have hn := h.ne
  obtain ⟨C, hC, h2⟩ := h.kep
  exact ⟨hd.1, ⟨(hd.2.2.block q (lt_hp h.box) hn.1 hn.2.1).trans h.box, ⟨C, (hd.2.2.block kb (lt_hp hC) hn.2.2.2.1 hn.2.2.2.2.1).trans hC, h2⟩, by rw [hl]; exact h.len, by rw [hl]; exact h.len2, h.n1, h.n16, k, c, o, m, d, hd.2.1⟩, hd.2.2.tw⟩
theorem Si.dr (h : Si q g b kb ia n vs l s w) : Si q g b kb ia n vs l s w.drew := ⟨h.box, h.kep, h.len, h.len2, h.n1, h.n16, h.mem⟩
end
/-- an act in memory -/
def Ac (p q : Nat) (wk : Int) (xv : Value) (c nx rd : Int) (tk : Bool) (w : World) : Prop := w.heap[p]? = some (.cells #[.pointer (some ⟨q, 0, none⟩), .int .i64 wk, xv, .int .i64 c, .int .i64 nx, .int .i64 rd, .bool tk] 76 (0, 0))
section
variable {p q : Nat} {wk : Int} {xv : Value} {c nx rd : Int} {tk : Bool} {w : World}
theorem Ac.cells (h : Ac p q wk xv c nx rd tk w) : w.cell? ⟨p, 0, none⟩ = some (.pointer (some ⟨q, 0, none⟩)) ∧ w.cell? ⟨p, 1, none⟩ = some (.int .i64 wk) ∧ w.cell? ⟨p, 2, none⟩ = some xv ∧ w.cell? ⟨p, 3, none⟩ = some (.int .i64 c) ∧ w.cell? ⟨p, 4, none⟩ = some (.int .i64 nx) ∧ w.cell? ⟨p, 5, none⟩ = some (.int .i64 rd) ∧ w.cell? ⟨p, 6, none⟩ = some (.bool tk) ∧ ∀ j, w.frozen? ⟨p, j, none⟩ = false :=
  ⟨(cell_of_row w p 0 _ 76 _ h).trans rfl, (cell_of_row w p 1 _ 76 _ h).trans rfl, (cell_of_row w p 2 _ 76 _ h).trans rfl, (cell_of_row w p 3 _ 76 _ h).trans rfl, (cell_of_row w p 4 _ 76 _ h).trans rfl, (cell_of_row w p 5 _ 76 _ h).trans rfl, (cell_of_row w p 6 _ 76 _ h).trans rfl, fun j => by unfold Ac at h; simp [World.frozen?, h]⟩
theorem Ac.keep {S : List Nat} {w1 : World} (h : Ac p q wk xv c nx rd tk w) (k : Tw S w w1) (hp : p ∉ S) : Ac p q wk xv c nx rd tk w1 := blk_tw h k hp
theorem Ac.s4 (h : Ac p q wk xv c nx rd tk w) (y : Int) : Ac p q wk xv c y rd tk (w.setCell ⟨p, 4, none⟩ (.int .i64 y)) := (blk_set h 4 (.int .i64 y)).trans rfl
theorem Ac.s5 (h : Ac p q wk xv c nx rd tk w) (y : Int) : Ac p q wk xv c nx y tk (w.setCell ⟨p, 5, none⟩ (.int .i64 y)) := (blk_set h 5 (.int .i64 y)).trans rfl
theorem Ac.s6 (h : Ac p q wk xv c nx rd tk w) (y : Bool) : Ac p q wk xv c nx rd y (w.setCell ⟨p, 6, none⟩ (.bool y)) := (blk_set h 6 (.bool y)).trans rfl
theorem Ac.ne {q2 g b kb ia n : Nat} {vs : Nat → Value} {l : List Int} {s : Int} (h : Ac p q2 wk xv c nx rd tk w) (k : Si q g b kb ia n vs l s w) : p ≠ g ∧ p ≠ b ∧ p ≠ q ∧ p ≠ kb := by
  obtain ⟨kk, c, o, n, d, hm⟩ := k.mem
  obtain ⟨C, hC, _⟩ := k.kep
  exact ⟨blk_ty h hm.1 (by decide), blk_ty h hm.2 (by decide), blk_ty h k.box (by decide), blk_ty h hC (by decide)⟩
end
/-! the numbers -/
def fineB (x : Int) : Bool := decide (0 ≤ x ∧ x ≤ 1125899906842624)
theorem possible_any (x : Int) (w : World) : Calls Try.prog 23 #[.int .i64 x] w fun e w' => e = .returned (.bool (fineB x)) ∧ w = w' := by
  by_cases h1 : 0 ≤ x
  · have e : fineB x = decide (x ≤ 1125899906842624) := by unfold fineB; simp [h1]
    rw [e]
    go_enter Try.func23, Try.ntmps23
    go_wp2
    go_ret
    exact ⟨rfl, rfl⟩
  · have e : fineB x = false := by unfold fineB; simp [h1]
    rw [e]
    go_enter Try.func23, Try.ntmps23
    go_wp2
    go_ret
    exact ⟨rfl, rfl⟩
theorem reffine_any (x : Int) (w : World) : Calls Try.prog 16 #[.int .i64 x] w fun e w' => e = .returned (.bool (fineB x)) ∧ w = w' := by
  by_cases h1 : 0 ≤ x
  · have e : fineB x = decide (x ≤ 1125899906842624) := by unfold fineB; simp [h1]
    rw [e]
    go_enter Try.func16, Try.ntmps16
    go_wp2
    go_ret
    exact ⟨rfl, rfl⟩
  · have e : fineB x = false := by unfold fineB; simp [h1]
    rw [e]
    go_enter Try.func16, Try.ntmps16
    go_wp2
    go_ret
    exact ⟨rfl, rfl⟩
attribute [irreducible] fineB
theorem i64_and15 (n : Int) : bits .and .i64 n 15 = n % 16 := by
  have hm : (BitVec.ofInt 64 15).toNat = 2 ^ 4 - 1 := by decide
  have key : (BitVec.ofInt 64 n &&& BitVec.ofInt 64 15).toNat = (n % ((2 ^ 64 : Nat) : Int)).toNat % 2 ^ 4 := by
    rw [BitVec.toNat_and, BitVec.toNat_ofInt, hm, Nat.and_two_pow_sub_one_eq_mod]
  show IntKind.i64.wrap ((BitVec.ofInt 64 n &&& BitVec.ofInt 64 15).toNat : Nat) = n % 16
  rw [key, IntKind.wrap_i64]
  omega
theorem i64_or4 (c who : Nat) (hc : c ≤ 1125899906842624) (hw : who < 16) : bits .or .i64 ((c : Int) * 16) (who : Int) = (c : Int) * 16 + who := by
  have e1 : (((c : Int) * 16) % ((2 ^ 64 : Nat) : Int)).toNat = c * 16 := by omega
  have e2 : ((who : Int) % ((2 ^ 64 : Nat) : Int)).toNat = who := by omega
  have e3 : c * 16 ||| who = c * 16 + who := by
    have := Nat.shiftLeft_add_eq_or_of_lt (b := who) (i := 4) (by omega) c
    rw [Nat.shiftLeft_eq, show (2 : Nat) ^ 4 = 16 from rfl] at this
    exact this.symm
  have key : (BitVec.ofInt 64 ((c : Int) * 16) ||| BitVec.ofInt 64 (who : Int)).toNat = c * 16 + who := by
    rw [BitVec.toNat_or, BitVec.toNat_ofInt, BitVec.toNat_ofInt, e1, e2, e3]
  show IntKind.i64.wrap ((BitVec.ofInt 64 ((c : Int) * 16) ||| BitVec.ofInt 64 (who : Int)).toNat : Nat) = (c : Int) * 16 + who
  rw [key, IntKind.wrap_i64]
  omega
set_option maxRecDepth 100000 in
theorem number_any (c who : Nat) (hc : c ≤ 1125899906842624) (hw : who < 16) (w : World) : Calls Try.prog 26 #[.int .i64 c, .int .i64 who] w fun e w' => e = .returned (.int .i64 ((c : Int) * 16 + who)) ∧ w = w' := by
  have h := i64_or4 c who hc hw
  have hs : IntKind.i64.wrap ((c : Int) * 16) = (c : Int) * 16 := IntWalk.i64_in _ (by omega)
  go_enter Try.func26, Try.ntmps26
  go_wp2
  go_ret
  exact ⟨rfl, rfl⟩
set_option maxRecDepth 100000 in
theorem whoOf_any (n : Int) (w : World) : Calls Try.prog 28 #[.int .i64 n] w fun e w' => e = .returned (.int .i64 (n % 16)) ∧ w = w' := by
  have h := i64_and15 n
  generalize n % 16 = q at *
  go_enter Try.func28, Try.ntmps28
  go_wp2
  go_ret
  exact ⟨rfl, rfl⟩
set_option maxRecDepth 100000 in
theorem costOf_any (n : Int) (w : World) : Calls Try.prog 29 #[.int .i64 n] w fun e w' => e = .returned (.int .i64 (n / 16)) ∧ w = w' := by
  go_enter Try.func29, Try.ntmps29
  go_wp2
  go_ret
  exact ⟨rfl, rfl⟩
end Go.Proofs.Ytpmkpmenjaekmaa
