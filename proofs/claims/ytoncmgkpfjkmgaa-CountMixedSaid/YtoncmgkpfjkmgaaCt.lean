/-
  A count in memory; what open, working, read, Open, Working, More, Now and Leave answer.
-/
import Derived.Test.YtoncmgkpfjkmgaaOpsB
import Derived.Deep.RegionHeld3
namespace Go.Proofs.Ytoncmgkpfjkmgaa
open Go.RowKit Go.MuLone
set_option linter.unusedVariables false
/-- the blocks of a list may have turned, and there may be new ones -/
structure Tw (S : List Nat) (w w' : World) : Prop where
  os : w'.os = w.os
  tape : w'.tape = w.tape
  output : w'.output = w.output
  size : w.heap.size ≤ w'.heap.size
  block : ∀ i, i < w.heap.size → i ∉ S → w'.heap[i]? = w.heap[i]?
theorem Tw.refl (S : List Nat) (w : World) : Tw S w w := ⟨rfl, rfl, rfl, Nat.le_refl _, fun _ _ _ => rfl⟩
theorem Tw.trans {S : List Nat} {w w1 w2 : World} (h : Tw S w w1) (k : Tw S w1 w2) : Tw S w w2 :=
  ⟨k.os.trans h.os, k.tape.trans h.tape, k.output.trans h.output, Nat.le_trans h.size k.size, fun i hi hn => (k.block i (Nat.lt_of_lt_of_le hi h.size) hn).trans (h.block i hi hn)⟩
theorem Tw.mono {S T : List Nat} {w w1 : World} (h : Tw S w w1) (k : ∀ i, i ∈ S → i ∈ T) : Tw T w w1 := ⟨h.os, h.tape, h.output, h.size, fun i hi hn => h.block i hi (fun hs => hn (k i hs))⟩
theorem Tw.al {S : List Nat} {w w1 : World} (h : Tw S w w1) (o : Obj) : Tw S w (w1.alloc o) :=
  ⟨h.os, h.tape, h.output, Nat.le_trans h.size (by simp), fun i hi hn => (Below.heap_alloc w1 o i (Nat.lt_of_lt_of_le hi h.size)).trans (h.block i hi hn)⟩
theorem Tw.dn {S : List Nat} {w w1 : World} (h : Tw S w w1) (n : Nat) : Tw S w (w1.drewN n) := ⟨h.os, h.tape, h.output, h.size, h.block⟩
theorem Tw.dr {S : List Nat} {w w1 : World} (h : Tw S w w1) : Tw S w w1.drew := ⟨h.os, h.tape, h.output, h.size, h.block⟩
theorem Tw.undr {S : List Nat} {w w1 : World} (h : Tw S w.drew w1) : Tw S w w1 := ⟨h.os, h.tape, h.output, h.size, h.block⟩
theorem Tw.st {S : List Nat} {w w1 : World} (h : Tw S w w1) (q : Nat) (hq : q ∈ S ∨ w.heap.size ≤ q) (j : Nat) (v : Value) : Tw S w (w1.setCell ⟨q, j, none⟩ v) :=
  ⟨h.os, h.tape, h.output, by simpa [World.setCell] using h.size, fun i hi hn => (Below.heap_setCell w1 ⟨q, j, none⟩ v i (by show i ≠ q; rintro rfl; rcases hq with hq | hq; exact hn hq; omega)).trans (h.block i hi hn)⟩
theorem Ch.tw {g b : Nat} {w w1 : World} (h : Ch g b w w1) : Tw [g, b] w w1 := ⟨h.os, h.tape, h.output, h.size, fun i hi hn => h.block i hi (fun e => hn (by simp [e])) (fun e => hn (by simp [e]))⟩
theorem Tw.of {S : List Nat} {w w1 : World} (h : Below w.heap.size w w1) : Tw S w w1 := ⟨h.os, h.tape, h.output, h.size, fun i hi _ => h.block i hi⟩
theorem Tw.below {S : List Nat} {B : Nat} {a w w1 : World} (h : Below B a w) (k : Tw S w w1) (hS : ∀ i, i ∈ S → B ≤ i) (hB : B ≤ w.heap.size) : Below B a w1 :=
  ⟨k.os.trans h.os, k.tape.trans h.tape, k.output.trans h.output, Nat.le_trans h.size k.size, fun i hi => (k.block i (by omega) (fun hs => by have := hS i hs; omega)).trans (h.block i hi)⟩
theorem blk_tw {S : List Nat} {p : Nat} {o : Obj} {w w1 : World} (h : w.heap[p]? = some o) (q : Tw S w w1) (h1 : p ∉ S) : w1.heap[p]? = some o := (q.block p (lt_hp h) h1).trans h
theorem cell_tw {S : List Nat} {p : Nat} {w w1 : World} (q : Tw S w w1) (hp : p < w.heap.size) (h1 : p ∉ S) (j : Nat) : w1.cell? ⟨p, j, none⟩ = w.cell? ⟨p, j, none⟩ := by simp [World.cell?, q.block p hp h1]
theorem blk_ty {w : World} {p q : Nat} {c d : Array Value} {t u : TypeId} (h1 : w.heap[p]? = some (.cells c t (0, 0))) (h2 : w.heap[q]? = some (.cells d u (0, 0))) (ht : t ≠ u) : p ≠ q := by
  rintro rfl
  rw [h1] at h2
  simp at h2
  exact ht h2.2
/-- a count: its box, its memory -/
structure St (q g b base : Nat) (l : List Int) (s : Int) (w : World) : Prop where
  box : w.heap[q]? = some (.cells #[.pointer (some ⟨g, 0, none⟩), .int .i64 base] 60 (0, 0))
  len : base + 1 < l.length
  len2 : l.length ≤ 1000
  mem : ∃ k c o n d, MB 0 g b l s k c o n d w
theorem St.qg {q g b base : Nat} {l : List Int} {s : Int} {w : World} (h : St q g b base l s w) : q ≠ g := by
  obtain ⟨k, c, o, n, d, hm⟩ := h.mem
  exact blk_ty h.box hm.1 (by decide)
theorem St.qb {q g b base : Nat} {l : List Int} {s : Int} {w : World} (h : St q g b base l s w) : q ≠ b := by
  obtain ⟨k, c, o, n, d, hm⟩ := h.mem
  exact blk_ty h.box hm.2 (by decide)
theorem St.gb {q g b base : Nat} {l : List Int} {s : Int} {w : World} (h : St q g b base l s w) : g ≠ b := by
  obtain ⟨k, c, o, n, d, hm⟩ := h.mem
  exact hm.ne
theorem St.lq {q g b base : Nat} {l : List Int} {s : Int} {w : World} (h : St q g b base l s w) : q < w.heap.size := lt_hp h.box
theorem St.lg {q g b base : Nat} {l : List Int} {s : Int} {w : World} (h : St q g b base l s w) : g < w.heap.size := by
  obtain ⟨k, c, o, n, d, hm⟩ := h.mem
  exact lt_hp hm.1
theorem St.lb {q g b base : Nat} {l : List Int} {s : Int} {w : World} (h : St q g b base l s w) : b < w.heap.size := by
  obtain ⟨k, c, o, n, d, hm⟩ := h.mem
  exact lt_hp hm.2
theorem St.c0 {q g b base : Nat} {l : List Int} {s : Int} {w : World} (h : St q g b base l s w) : w.cell? ⟨q, 0, none⟩ = some (.pointer (some ⟨g, 0, none⟩)) := (cell_of_row w q 0 _ 60 _ h.box).trans rfl
theorem St.c1 {q g b base : Nat} {l : List Int} {s : Int} {w : World} (h : St q g b base l s w) : w.cell? ⟨q, 1, none⟩ = some (.int .i64 base) := (cell_of_row w q 1 _ 60 _ h.box).trans rfl
theorem St.keep {q g b base : Nat} {l : List Int} {s : Int} {S : List Nat} {w w1 : World} (h : St q g b base l s w) (k : Tw S w w1) (hq : q ∉ S) (hg : g ∉ S) (hb : b ∉ S) : St q g b base l s w1 := by
  obtain ⟨kk, c, o, n, d, hm⟩ := h.mem
  exact ⟨blk_tw h.box k hq, h.len, h.len2, kk, c, o, n, d, ⟨blk_tw hm.1 k hg, blk_tw hm.2 k hb⟩⟩
theorem St.did {q g b base : Nat} {l l1 : List Int} {s s1 : Int} {w w1 : World} {r : Value} {k c o n : Int} {d : Bool} {e : Ending} (h : St q g b base l s w) (hd : Did r g b l1 s1 k c o n d w e w1) (hl : l1.length = l.length) : e = .returned r ∧ St q g b base l1 s1 w1 ∧ Tw [g, b] w w1 :=
  ⟨hd.1, ⟨(hd.2.2.block q (lt_hp h.box) h.qg h.qb).trans h.box, by rw [hl]; exact h.len, by rw [hl]; exact h.len2, k, c, o, n, d, hd.2.1⟩, hd.2.2.tw⟩
theorem set_self (l : List Int) (i : Nat) : l.set i (nth l i) = l := by
  by_cases h : i < l.length
  · rw [nth_at l i h]; exact List.set_getElem_self h
  · exact List.set_eq_of_length_le (by omega)
theorem open_any (q : Nat) (v : Value) (n : Int) (w : World) (h : w.cell? ⟨q, 1, none⟩ = some (.int .i64 n)) : Calls Try.prog 23 #[.pointer (some ⟨q, 0, none⟩)] w fun e w' => e = .returned (.int .i64 n) ∧ w = w' := by
  go_enter Try.func23, Try.ntmps23
  go_wp2
  go_ret
  exact ⟨rfl, rfl⟩
theorem working_any (q n : Nat) (hn : n ≤ 1000) (w : World) (h : w.cell? ⟨q, 1, none⟩ = some (.int .i64 n)) : Calls Try.prog 24 #[.pointer (some ⟨q, 0, none⟩)] w fun e w' => e = .returned (.int .i64 ((n : Int) + 1)) ∧ w = w' := by
  go_enter Try.func24, Try.ntmps24
  go_wp2
  go_ret
  exact ⟨rfl, rfl⟩
set_option maxHeartbeats 1000000 in
theorem read_any (q g b base : Nat) (l : List Int) (s : Int) (i : Int) (ix : Nat) (hi : i = ix) (hx : ix < l.length) (s0 : 0 ≤ s) (s1 : s ≤ 1000000) (w : World) (h : St q g b base l s w) :
    Calls Try.prog 27 #[.pointer (some ⟨q, 0, none⟩), .int .i64 i] w fun e w' => e = .returned (.int .i64 (nth l ix)) ∧ St q g b base l (s + 1) w' ∧ Tw [g, b] w w' := by
  have c0 := h.c0
  obtain ⟨k, c, o, n, d, hm⟩ := h.mem
  have G := Lib.hid (get_ok g b l s k c o n d i (nth l ix) ix hi hx rfl s0 s1 w hm)
  have F := Lib.hid (fun (e : Ending) (w1 : World) (hd : Did (.tuple #[.int .i64 (nth l ix), .int .i64 0]) g b (l.set ix (nth l ix)) (s + 1) 1 i (nth l ix) (nth l ix) true w e w1) => h.did (by rw [set_self] at hd; exact hd) rfl)
  clear h hm hx hi s0 s1
  generalize nth l ix = x at *
  go_enter Try.func27, Try.ntmps27
  go_wp2_with fail
  refine G.out.mono ?_; rintro e w1 hd
  obtain ⟨rfl, f1, f2⟩ := F.out e w1 hd
  have F1 := Lib.hid f1
  have F2 := Lib.hid f2
  clear f1 f2 hd G F
  go_wp2
  go_ret
  exact ⟨rfl, F1.out, F2.out⟩
set_option maxHeartbeats 1000000 in
theorem openN_any (q g b base : Nat) (l : List Int) (s : Int) (s0 : 0 ≤ s) (s1 : s ≤ 1000000) (w : World) (h : St q g b base l s w) :
    Calls Try.prog 12 #[.pointer (some ⟨q, 0, none⟩)] w fun e w' => e = .returned (.int .i64 (nth l base)) ∧ St q g b base l (s + 1) w' ∧ Tw [g, b] w w' := by
  have hl := h.len
  have O := Lib.hid (open_any q (.int .i64 0) base w h.c1)
  have R := Lib.hid (read_any q g b base l s base base rfl (by omega) s0 s1 w h)
  clear h hl s0 s1
  go_enter Try.func12, Try.ntmps12
  go_wp2_with fail
  refine O.out.mono ?_; rintro e w1 ⟨rfl, rfl⟩
  go_wp2_with fail
  refine R.out.mono ?_; rintro e w1 ⟨rfl, f1, f2⟩
  have F1 := Lib.hid f1
  have F2 := Lib.hid f2
  clear f1 f2
  go_wp2
  go_ret
  exact ⟨rfl, F1.out, F2.out⟩
theorem openN_nil (w : World) : Calls Try.prog 12 #[.pointer none] w fun e w' => e = .returned (.int .i64 0) ∧ w = w' := by
  go_enter Try.func12, Try.ntmps12
  go_wp2
  go_ret
  exact ⟨rfl, rfl⟩
set_option maxHeartbeats 1000000 in
theorem workingN_any (q g b base : Nat) (l : List Int) (s : Int) (s0 : 0 ≤ s) (s1 : s ≤ 1000000) (w : World) (h : St q g b base l s w) :
    Calls Try.prog 13 #[.pointer (some ⟨q, 0, none⟩)] w fun e w' => e = .returned (.int .i64 (nth l (base + 1))) ∧ St q g b base l (s + 1) w' ∧ Tw [g, b] w w' := by
  have hl := h.len
  have hl2 := h.len2
  have O := Lib.hid (working_any q base (by omega) w h.c1)
  have R := Lib.hid (read_any q g b base l s ((base : Int) + 1) (base + 1) (by omega) (by omega) s0 s1 w h)
  clear h hl s0 s1
  go_enter Try.func13, Try.ntmps13
  go_wp2_with fail
  refine O.out.mono ?_; rintro e w1 ⟨rfl, rfl⟩
  go_wp2_with fail
  refine R.out.mono ?_; rintro e w1 ⟨rfl, f1, f2⟩
  have F1 := Lib.hid f1
  have F2 := Lib.hid f2
  clear f1 f2
  go_wp2
  go_ret
  exact ⟨rfl, F1.out, F2.out⟩
theorem workingN_nil (w : World) : Calls Try.prog 13 #[.pointer none] w fun e w' => e = .returned (.int .i64 0) ∧ w = w' := by
  go_enter Try.func13, Try.ntmps13
  go_wp2
  go_ret
  exact ⟨rfl, rfl⟩
theorem leave_nil (w : World) : Calls Try.prog 14 #[.pointer none] w fun e w' => e = .returned (.pointer none) ∧ w = w' := by
  go_enter Try.func14, Try.ntmps14
  go_wp2
  go_ret
  exact ⟨rfl, rfl⟩
/-- an act in memory -/
def Ac (p q : Nat) (nx ac : Int) (lf : Bool) (w : World) : Prop := w.heap[p]? = some (.cells #[.pointer (some ⟨q, 0, none⟩), .int .i64 nx, .int .i64 ac, .bool lf] 67 (0, 0))
theorem leave_any (q : Nat) (w : World) : Calls Try.prog 14 #[.pointer (some ⟨q, 0, none⟩)] w fun e w' => ∃ p, e = .returned (.pointer (some ⟨p, 0, none⟩)) ∧ w.heap.size ≤ p ∧ Ac p q 0 0 false w' ∧ Below w.heap.size w w' := by
  have E := Lib.hid (heap_alloc_new w (.cells #[.pointer (some ⟨q, 0, none⟩), .int .i64 0, .int .i64 0, .bool false] 67))
  have B := Lib.hid (bl_al (Below.refl _ w) (.cells #[.pointer (some ⟨q, 0, none⟩), .int .i64 0, .int .i64 0, .bool false] 67))
  go_enter Try.func14, Try.ntmps14
  go_wp2
  go_ret
  exact ⟨w.heap.size, rfl, Nat.le_refl _, E.out, B.out⟩
theorem more_nil (n : Int) (w : World) : Calls Try.prog 9 #[.pointer none, .int .i64 n] w fun e w' => e = .returned (.tuple #[]) ∧ w = w' := by
  go_enter Try.func9, Try.ntmps9
  go_wp2
  go_end0
  exact ⟨rfl, rfl⟩
theorem now_nil (w : World) : Calls Try.prog 10 #[.pointer none] w fun e w' => e = .returned (.tuple #[.int .i64 0, .int .i64 0]) ∧ w = w' := by
  go_enter Try.func10, Try.ntmps10
  go_wp2
  go_ret2
  exact ⟨rfl, rfl⟩
set_option maxHeartbeats 1000000 in
theorem more_any (q g b base : Nat) (l : List Int) (s y : Int) (hX : I64 (nth l base)) (hY : I64 y) (hXY : I64 (nth l base + y)) (s0 : 0 ≤ s) (s1 : s ≤ 1000000) (w : World) (h : St q g b base l s w) :
    Calls Try.prog 9 #[.pointer (some ⟨q, 0, none⟩), .int .i64 y] w fun e w' => e = .returned (.tuple #[]) ∧ St q g b base (l.set base (nth l base + y)) (s + 1) w' ∧ Tw [g, b] w w' := by
  have c0 := h.c0
  have hl := h.len
  obtain ⟨k, c, o, n, d, hm⟩ := h.mem
  have O := Lib.hid (fun W (hW : W.cell? ⟨q, 1, none⟩ = some (.int .i64 base)) => open_any q (.int .i64 0) base W hW)
  have C1 := Lib.hid (show w.drew.cell? ⟨q, 1, none⟩ = some (.int .i64 base) from h.c1)
  have G := Lib.hid (bump_ok g b l s k c o n d base (nth l base) y hX hY hXY base rfl (by omega) rfl s0 s1 w.drew hm)
  have F := Lib.hid (fun (e : Ending) (w1 : World) (hd : Did (.tuple #[.int .i64 (nth l base), .int .i64 0]) g b (l.set base (nth l base + y)) (s + 1) 4 base (nth l base) (nth l base + y) true w.drew e w1) => (show St q g b base l s w.drew from ⟨h.box, h.len, h.len2, h.mem⟩).did hd (by simp))
  clear h hm hl s0 s1 hX hY hXY
  generalize l.set base (nth l base + y) = l2 at *
  generalize nth l base + y = x2 at *
  generalize nth l base = x at *
  go_enter Try.func9, Try.ntmps9
  go_wp2_with fail
  go_region_held3 (fun w' => w'.cell? ⟨q, 0, none⟩ = some (.pointer (some ⟨g, 0, none⟩))) (exact c0)
    (first
      | (go_at_call 23; (with_reducible refine (O.out _ C1.out).mono ?_); rintro e w1 ⟨rfl, rfl⟩)
      | (go_at_call 25; (with_reducible refine G.out.mono ?_); rintro e w1 hd; obtain ⟨rfl, f1, f2⟩ := F.out e w1 hd; have F1 := Lib.hid f1; have F2 := Lib.hid f2; have c0 := f1.c0; clear f1 f2 hd))
  all_goals
    clear G F O C1
    go_wp2
    go_end0
    exact ⟨rfl, F1.out, F2.out.undr⟩
theorem St.dr {q g b base : Nat} {l : List Int} {s : Int} {w : World} (h : St q g b base l s w) : St q g b base l s w.drew := ⟨h.box, h.len, h.len2, h.mem⟩
theorem peekS (q g b base : Nat) (l : List Int) (s : Int) (i : Int) (ix : Nat) (hi : i = ix) (hx : ix < l.length) (w : World) (h : St q g b base l s w) :
    Calls Try.prog 26 #[.pointer (some ⟨g, 0, none⟩), .int .i64 i] w fun e w' => e = .returned (.int .i64 (nth l ix)) ∧ St q g b base l s w' ∧ Tw [g, b] w w' := by
  obtain ⟨k, c, o, n, d, hm⟩ := h.mem
  refine (peek_ok g b l s k c o n d i (nth l ix) ix hi hx rfl w hm).mono ?_
  intro e w1 hd
  exact h.did hd rfl
set_option maxHeartbeats 4000000 in
theorem now_any (q g b base : Nat) (l : List Int) (s : Int) (w : World) (h : St q g b base l s w) :
    Calls Try.prog 10 #[.pointer (some ⟨q, 0, none⟩)] w fun e w' => e = .returned (.tuple #[.int .i64 (nth l base), .int .i64 (nth l (base + 1))]) ∧ St q g b base l s w' ∧ Tw [g, b] w w' := by
  have c0 := h.c0
  have hl := h.len
  have hl2 := h.len2
  have F1 := Lib.hid h.dr
  have F2 := Lib.hid (Tw.refl [g, b] w.drew)
  have O := Lib.hid (fun W (hW : St q g b base l s W) => open_any q (.int .i64 0) base W hW.c1)
  have K := Lib.hid (fun W (hW : St q g b base l s W) => working_any q base (by omega) W hW.c1)
  have P := Lib.hid (fun W (hW : St q g b base l s W) => peekS q g b base l s base base rfl (by omega) W hW)
  have R := Lib.hid (fun W (hW : St q g b base l s W) => peekS q g b base l s ((base : Int) + 1) (base + 1) (by omega) (by omega) W hW)
  clear h hl hl2
  generalize nth l (base + 1) = y at *
  generalize nth l base = x at *
  go_enter Try.func10, Try.ntmps10
  go_wp2_with fail
  go_region_held3 (fun w' => w'.cell? ⟨q, 0, none⟩ = some (.pointer (some ⟨g, 0, none⟩))) (exact c0)
    (first
      | (go_at_call 23; (with_reducible refine (O.out _ F1.out).mono ?_); rintro e w1 ⟨rfl, rfl⟩)
      | (go_at_call 24; (with_reducible refine (K.out _ F1.out).mono ?_); rintro e w1 ⟨rfl, rfl⟩)
      | (go_at_call 26; (with_reducible refine (P.out _ F1.out).mono ?_); rintro e w1 ⟨rfl, f1, f2⟩; have F1 := Lib.hid f1; have F2 := Lib.hid (F2.out.trans f2); have c0 := f1.c0; clear f1 f2)
      | (go_at_call 26; (with_reducible refine (R.out _ F1.out).mono ?_); rintro e w1 ⟨rfl, f1, f2⟩; have F1 := Lib.hid f1; have F2 := Lib.hid (F2.out.trans f2); have c0 := f1.c0; clear f1 f2))
  all_goals
    clear P R O K
    go_wp2
    go_ret2
    exact ⟨rfl, F1.out, F2.out.undr⟩
end Go.Proofs.Ytoncmgkpfjkmgaa
