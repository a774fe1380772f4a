/-
  A pool in memory, an act of a pool in memory; the small functions of an act.
-/
import Derived.Test.YtaihmkflhapjeaaIns
import Derived.Deep.RegionHeld3
import Derived.Lib.SliceRun
namespace Go.Proofs.Ytaihmkflhapjeaa
open Go.RowKit Go.MuLone
set_option linter.unusedVariables false
/-- where a pool lies: its box, its memory's two blocks, its nodes, its marks, its workers' own; its first cell, its slots, its workers -/
structure Ad where
  p : Nat
  g : Nat
  b : Nat
  bn : Nat
  bh : Nat
  bo : Nat
  base : Nat
  n : Nat
  k : Nat
structure Po (A : Ad) (nv : Nat → Value) (nb : Nat → Int) (hd : Nat → Bool) (ow : Nat → Value) (l : List Int) (s : Int) (w : World) : Prop where
  box : PB A.p A.g A.base A.bn A.bh A.bo A.n A.k w
  nod : ∃ C : Array Value, w.heap[A.bn]? = some (.cells C 62 (0, 0)) ∧ C.size = 2 * A.n ∧ ∀ j, j < A.n → C[2 * j]? = some (nv j) ∧ C[2 * j + 1]? = some (.int .i64 (nb j))
  hel : ∃ C : Array Value, w.heap[A.bh]? = some (.cells C 4 (0, 0)) ∧ C.size = A.n ∧ ∀ j, j < A.n → C[j]? = some (.bool (hd j))
  own : ∃ C : Array Value, w.heap[A.bo]? = some (.cells C 36 (0, 0)) ∧ C.size = A.k ∧ ∀ j, j < A.k → C[j]? = some (ow j)
  len : A.base + 1 + A.n ≤ l.length
  len2 : l.length ≤ 5000
  n1 : 1 ≤ A.n
  n2 : A.n ≤ 4096
  k1 : 1 ≤ A.k
  k2 : A.k ≤ 16
  mem : ∃ k c o m d, MB 0 A.g A.b l s k c o m d w
theorem set_self (l : List Int) (i : Nat) : l.set i (nth l i) = l := by
  by_cases h : i < l.length
  · rw [nth_at l i h]; exact List.set_getElem_self h
  · exact List.set_eq_of_length_le (by omega)
def upf {T : Type} (f : Nat → T) (n : Nat) (x : T) : Nat → T := fun i => if i = n then x else f i
theorem upf_at {T : Type} (f : Nat → T) (n : Nat) (x : T) : upf f n x n = x := if_pos rfl
theorem upf_ne {T : Type} (f : Nat → T) (n : Nat) (x : T) (i : Nat) (h : i ≠ n) : upf f n x i = f i := if_neg h
section
variable {A : Ad} {nv : Nat → Value} {nb : Nat → Int} {hd : Nat → Bool} {ow : Nat → Value} {l : List Int} {s : Int} {w : World}
structure Apart (A : Ad) : Prop where
  pg : A.p ≠ A.g
  pb : A.p ≠ A.b
  pn : A.p ≠ A.bn
  ph : A.p ≠ A.bh
  po : A.p ≠ A.bo
  gb : A.g ≠ A.b
  ng : A.bn ≠ A.g
  nb : A.bn ≠ A.b
  nh : A.bn ≠ A.bh
  no : A.bn ≠ A.bo
  hg : A.bh ≠ A.g
  hb : A.bh ≠ A.b
  ho : A.bh ≠ A.bo
  og : A.bo ≠ A.g
  ob : A.bo ≠ A.b
theorem Po.ne (h : Po A nv nb hd ow l s w) : Apart A := by
  obtain ⟨k, c, o, m, d, hm⟩ := h.mem
  obtain ⟨C1, h1, _⟩ := h.nod
  obtain ⟨C2, h2, _⟩ := h.hel
  obtain ⟨C3, h3, _⟩ := h.own
  have hb := h.box
  exact ⟨blk_ty hb hm.1 (by decide), blk_ty hb hm.2 (by decide), blk_ty hb h1 (by decide), blk_ty hb h2 (by decide), blk_ty hb h3 (by decide), hm.ne, blk_ty h1 hm.1 (by decide), blk_ty h1 hm.2 (by decide), blk_ty h1 h2 (by decide), blk_ty h1 h3 (by decide), blk_ty h2 hm.1 (by decide), blk_ty h2 hm.2 (by decide), blk_ty h2 h3 (by decide), blk_ty h3 hm.1 (by decide), blk_ty h3 hm.2 (by decide)⟩
theorem Po.lt (h : Po A nv nb hd ow l s w) : A.p < w.heap.size ∧ A.g < w.heap.size ∧ A.b < w.heap.size ∧ A.bn < w.heap.size ∧ A.bh < w.heap.size ∧ A.bo < w.heap.size := by
  obtain ⟨k, c, o, m, d, hm⟩ := h.mem
  obtain ⟨C1, h1, _⟩ := h.nod
  obtain ⟨C2, h2, _⟩ := h.hel
  obtain ⟨C3, h3, _⟩ := h.own
  exact ⟨lt_hp h.box, lt_hp hm.1, lt_hp hm.2, lt_hp h1, lt_hp h2, lt_hp h3⟩
theorem Po.cells (h : Po A nv nb hd ow l s w) : w.cell? ⟨A.p, 0, none⟩ = some (.pointer (some ⟨A.g, 0, none⟩)) ∧ w.cell? ⟨A.p, 1, none⟩ = some (.int .i64 A.base) ∧ w.cell? ⟨A.p, 2, none⟩ = some (.slice (some ⟨A.bn, 0, none⟩) A.n A.n) ∧ w.cell? ⟨A.p, 3, none⟩ = some (.slice (some ⟨A.bh, 0, none⟩) A.n A.n) ∧ w.cell? ⟨A.p, 4, none⟩ = some (.slice (some ⟨A.bo, 0, none⟩) A.k A.k) :=
  ⟨(cell_of_row w A.p 0 _ 80 _ h.box).trans rfl, (cell_of_row w A.p 1 _ 80 _ h.box).trans rfl, (cell_of_row w A.p 2 _ 80 _ h.box).trans rfl, (cell_of_row w A.p 3 _ 80 _ h.box).trans rfl, (cell_of_row w A.p 4 _ 80 _ h.box).trans rfl⟩
theorem Po.hc (h : Po A nv nb hd ow l s w) (j : Nat) (hj : j < A.n) : w.cell? ⟨A.bh, j, none⟩ = some (.bool (hd j)) ∧ w.frozen? ⟨A.bh, j, none⟩ = false := by
  obtain ⟨C, hC, _, hc⟩ := h.hel
  exact ⟨(cell_of_row w A.bh j _ 4 _ hC).trans (hc j hj), by simp [World.frozen?, hC]⟩
theorem Po.oc (h : Po A nv nb hd ow l s w) (j : Nat) (hj : j < A.k) : w.cell? ⟨A.bo, j, none⟩ = some (ow j) ∧ w.frozen? ⟨A.bo, j, none⟩ = false := by
  obtain ⟨C, hC, _, hc⟩ := h.own
  exact ⟨(cell_of_row w A.bo j _ 36 _ hC).trans (hc j hj), by simp [World.frozen?, hC]⟩
theorem Po.keep {S : List Nat} {w1 : World} (h : Po A nv nb hd ow l s w) (k : Tw S w w1) (h0 : A.p ∉ S) (h1 : A.g ∉ S) (h2 : A.b ∉ S) (h3 : A.bn ∉ S) (h4 : A.bh ∉ S) (h5 : A.bo ∉ S) : Po A nv nb hd ow l s w1 := by
  obtain ⟨kk, c, o, m, d, hm⟩ := h.mem
  obtain ⟨C1, c1, c2⟩ := h.nod
  obtain ⟨C2, c3, c4⟩ := h.hel
  obtain ⟨C3, c5, c6⟩ := h.own
  exact ⟨blk_tw h.box k h0, ⟨C1, blk_tw c1 k h3, c2⟩, ⟨C2, blk_tw c3 k h4, c4⟩, ⟨C3, blk_tw c5 k h5, c6⟩, h.len, h.len2, h.n1, h.n2, h.k1, h.k2, kk, c, o, m, d, ⟨blk_tw hm.1 k h1, blk_tw hm.2 k h2⟩⟩
theorem Po.up {w1 : World} (h : Po A nv nb hd ow l s w) (k : Below w.heap.size w w1) : Po A nv nb hd ow l s w1 := h.keep (Tw.of (S := []) k) (by simp) (by simp) (by simp) (by simp) (by simp) (by simp)
theorem Po.dr (h : Po A nv nb hd ow l s w) : Po A nv nb hd ow l s w.drew := ⟨h.box, h.nod, h.hel, h.own, h.len, h.len2, h.n1, h.n2, h.k1, h.k2, h.mem⟩
theorem Po.did {l1 : List Int} {s1 : Int} {w1 : World} {r : Value} {k c o m : Int} {d : Bool} {e : Ending} (h : Po A nv nb hd ow l s w) (hd2 : Did r A.g A.b l1 s1 k c o m d w e w1) (hl : l1.length = l.length) : e = .returned r ∧ Po A nv nb hd ow l1 s1 w1 ∧ Tw [A.g, A.b] w w1 := by
  have hn := h.ne
  have k2 := hd2.2.2.tw
  obtain ⟨C1, c1, c2⟩ := h.nod
  obtain ⟨C2, c3, c4⟩ := h.hel
  obtain ⟨C3, c5, c6⟩ := h.own
  have nin : ∀ x, x ≠ A.g → x ≠ A.b → x ∉ [A.g, A.b] := fun x h1 h2 h3 => by simp at h3; rcases h3 with h | h; exact h1 h; exact h2 h
  exact ⟨hd2.1, ⟨blk_tw h.box k2 (nin _ hn.pg hn.pb), ⟨C1, blk_tw c1 k2 (nin _ hn.ng hn.nb), c2⟩, ⟨C2, blk_tw c3 k2 (nin _ hn.hg hn.hb), c4⟩, ⟨C3, blk_tw c5 k2 (nin _ hn.og hn.ob), c6⟩, by rw [hl]; exact h.len, by rw [hl]; exact h.len2, h.n1, h.n2, h.k1, h.k2, k, c, o, m, d, hd2.2.1⟩, k2⟩
theorem Po.sh (h : Po A nv nb hd ow l s w) (j : Nat) (v : Bool) : Po A nv nb (upf hd j v) ow l s (w.setCell ⟨A.bh, j, none⟩ (.bool v)) := by
  have hn := h.ne
  have k : Tw [A.bh] w (w.setCell ⟨A.bh, j, none⟩ (.bool v)) := (Tw.refl _ w).st A.bh (.inl (by simp)) j _
  obtain ⟨kk, c, o, m, d, hm⟩ := h.mem
  obtain ⟨C1, c1, c2⟩ := h.nod
  obtain ⟨C2, c3, c4, c7⟩ := h.hel
  obtain ⟨C3, c5, c6⟩ := h.own
  refine ⟨blk_tw h.box k (by simp; exact hn.ph), ⟨C1, blk_tw c1 k (by simp; exact hn.nh), c2⟩, ⟨_, blk_set c3 j (.bool v), by simpa using c4, fun i hi => ?_⟩, ⟨C3, blk_tw c5 k (by simp; exact fun e => hn.ho e.symm), c6⟩, h.len, h.len2, h.n1, h.n2, h.k1, h.k2, kk, c, o, m, d, ⟨blk_tw hm.1 k (by simp; exact fun e => hn.hg e.symm), blk_tw hm.2 k (by simp; exact fun e => hn.hb e.symm)⟩⟩
  unfold upf
  rw [Array.getElem?_setIfInBounds, c7 i hi]
  by_cases e : j = i
  · subst e; simp; omega
  · rw [if_neg e, if_neg (fun h => e h.symm)]
theorem Po.so (h : Po A nv nb hd ow l s w) (j : Nat) (v : Value) : Po A nv nb hd (upf ow j v) l s (w.setCell ⟨A.bo, j, none⟩ v) := by
  have hn := h.ne
  have k : Tw [A.bo] w (w.setCell ⟨A.bo, j, none⟩ v) := (Tw.refl _ w).st A.bo (.inl (by simp)) j _
  obtain ⟨kk, c, o, m, d, hm⟩ := h.mem
  obtain ⟨C1, c1, c2⟩ := h.nod
  obtain ⟨C2, c3, c4⟩ := h.hel
  obtain ⟨C3, c5, c6, c7⟩ := h.own
  refine ⟨blk_tw h.box k (by simp; exact hn.po), ⟨C1, blk_tw c1 k (by simp; exact hn.no), c2⟩, ⟨C2, blk_tw c3 k (by simp; exact hn.ho), c4⟩, ⟨_, blk_set c5 j v, by simpa using c6, fun i hi => ?_⟩, h.len, h.len2, h.n1, h.n2, h.k1, h.k2, kk, c, o, m, d, ⟨blk_tw hm.1 k (by simp; exact fun e => hn.og e.symm), blk_tw hm.2 k (by simp; exact fun e => hn.ob e.symm)⟩⟩
  unfold upf
  rw [Array.getElem?_setIfInBounds, c7 i hi]
  by_cases e : j = i
  · subst e; simp; omega
  · rw [if_neg e, if_neg (fun h => e h.symm)]
end
/-- an act in memory -/
def Ac (a : Nat) (A : Ad) (wk : Int) (gv : Bool) (nx sl tp bl : Int) (w : World) : Prop := w.heap[a]? = some (.cells #[.pointer (some ⟨A.p, 0, none⟩), .int .i64 wk, .bool gv, .int .i64 nx, .int .i64 sl, .int .i64 tp, .int .i64 bl] 86 (0, 0))
section
variable {A : Ad} {nv : Nat → Value} {nb : Nat → Int} {hd : Nat → Bool} {ow : Nat → Value} {l : List Int} {s : Int} {w : World} {a : Nat} {wk nx sl tp bl : Int} {gv : Bool}
theorem Ac.cells (h : Ac a A wk gv nx sl tp bl w) : w.cell? ⟨a, 0, none⟩ = some (.pointer (some ⟨A.p, 0, none⟩)) ∧ w.cell? ⟨a, 1, none⟩ = some (.int .i64 wk) ∧ w.cell? ⟨a, 2, none⟩ = some (.bool gv) ∧ w.cell? ⟨a, 3, none⟩ = some (.int .i64 nx) ∧ w.cell? ⟨a, 4, none⟩ = some (.int .i64 sl) ∧ w.cell? ⟨a, 5, none⟩ = some (.int .i64 tp) ∧ w.cell? ⟨a, 6, none⟩ = some (.int .i64 bl) ∧ ∀ j, w.frozen? ⟨a, j, none⟩ = false :=
  ⟨(cell_of_row w a 0 _ 86 _ h).trans rfl, (cell_of_row w a 1 _ 86 _ h).trans rfl, (cell_of_row w a 2 _ 86 _ h).trans rfl, (cell_of_row w a 3 _ 86 _ h).trans rfl, (cell_of_row w a 4 _ 86 _ h).trans rfl, (cell_of_row w a 5 _ 86 _ h).trans rfl, (cell_of_row w a 6 _ 86 _ h).trans rfl, fun j => by unfold Ac at h; simp [World.frozen?, h]⟩
theorem Ac.keep {S : List Nat} {w1 : World} (h : Ac a A wk gv nx sl tp bl w) (k : Tw S w w1) (hp : a ∉ S) : Ac a A wk gv nx sl tp bl w1 := blk_tw h k hp
theorem Ac.s3 (h : Ac a A wk gv nx sl tp bl w) (y : Int) : Ac a A wk gv y sl tp bl (w.setCell ⟨a, 3, none⟩ (.int .i64 y)) := (blk_set h 3 (.int .i64 y)).trans rfl
theorem Ac.s4 (h : Ac a A wk gv nx sl tp bl w) (y : Int) : Ac a A wk gv nx y tp bl (w.setCell ⟨a, 4, none⟩ (.int .i64 y)) := (blk_set h 4 (.int .i64 y)).trans rfl
theorem Ac.s5 (h : Ac a A wk gv nx sl tp bl w) (y : Int) : Ac a A wk gv nx sl y bl (w.setCell ⟨a, 5, none⟩ (.int .i64 y)) := (blk_set h 5 (.int .i64 y)).trans rfl
theorem Ac.s6 (h : Ac a A wk gv nx sl tp bl w) (y : Int) : Ac a A wk gv nx sl tp y (w.setCell ⟨a, 6, none⟩ (.int .i64 y)) := (blk_set h 6 (.int .i64 y)).trans rfl
structure Aa (a : Nat) (A : Ad) : Prop where
  p : a ≠ A.p
  g : a ≠ A.g
  b : a ≠ A.b
  n : a ≠ A.bn
  h : a ≠ A.bh
  o : a ≠ A.bo
theorem Ac.ne (h : Ac a A wk gv nx sl tp bl w) (k : Po A nv nb hd ow l s w) : Aa a A := by
  obtain ⟨kk, c, o, m, d, hm⟩ := k.mem
  obtain ⟨C1, h1, _⟩ := k.nod
  obtain ⟨C2, h2, _⟩ := k.hel
  obtain ⟨C3, h3, _⟩ := k.own
  exact ⟨blk_ty h k.box (by decide), blk_ty h hm.1 (by decide), blk_ty h hm.2 (by decide), blk_ty h h1 (by decide), blk_ty h h2 (by decide), blk_ty h h3 (by decide)⟩
theorem Aa.k (h : Aa a A) {w1 : World} (k : Po A nv nb hd ow l s w) (t : Tw [a] w w1) : Po A nv nb hd ow l s w1 :=
  k.keep t (by simp; exact fun e => h.p e.symm) (by simp; exact fun e => h.g e.symm) (by simp; exact fun e => h.b e.symm) (by simp; exact fun e => h.n e.symm) (by simp; exact fun e => h.h e.symm) (by simp; exact fun e => h.o e.symm)
theorem Po.sa (k : Po A nv nb hd ow l s w) (h : Aa a A) (j : Nat) (v : Value) : Po A nv nb hd ow l s (w.setCell ⟨a, j, none⟩ v) := h.k k ((Tw.refl _ w).st a (.inl (by simp)) j v)
/-! what an act, and none, tell -/
theorem begun_nil (w : World) : Calls Try.prog 38 #[.pointer none] w fun e w' => e = .returned (.bool false) ∧ w = w' := by
  go_enter Try.func38, Try.ntmps38
  go_wp2
  go_ret
  exact ⟨rfl, rfl⟩
theorem begun_any (h : Ac a A wk gv nx sl tp bl w) : Calls Try.prog 38 #[.pointer (some ⟨a, 0, none⟩)] w fun e w' => e = .returned (.bool true) ∧ w = w' := by
  obtain ⟨c0, c1, c2, c3, c4, c5, c6, fz⟩ := h.cells
  clear h c1 c2 c3 c4 c5 c6 fz
  go_enter Try.func38, Try.ntmps38
  go_wp2
  go_ret
  exact ⟨rfl, rfl⟩
theorem over_nil (w : World) : Calls Try.prog 16 #[.pointer none] w fun e w' => e = .returned (.bool true) ∧ w = w' := by
  go_enter Try.func16, Try.ntmps16
  go_wp2_with fail
  refine (begun_nil _).mono ?_; rintro e w1 ⟨rfl, rfl⟩
  go_wp2
  go_ret
  exact ⟨rfl, rfl⟩
theorem over_any (r : Bool) (hr : (nx == 4) = r) (h : Ac a A wk gv nx sl tp bl w) : Calls Try.prog 16 #[.pointer (some ⟨a, 0, none⟩)] w fun e w' => e = .returned (.bool r) ∧ w = w' := by
  have B := Lib.hid (begun_any h)
  obtain ⟨c0, c1, c2, c3, c4, c5, c6, fz⟩ := h.cells
  clear h c0 c1 c2 c4 c5 c6 fz
  subst hr
  go_enter Try.func16, Try.ntmps16
  go_wp2_with fail
  refine B.out.mono ?_; rintro e w1 ⟨rfl, rfl⟩
  go_wp2
  go_ret
  exact ⟨rfl, rfl⟩
theorem slot_nil (w : World) : Calls Try.prog 18 #[.pointer none] w fun e w' => e = .returned (.int .i64 (-1)) ∧ w = w' := by
  go_enter Try.func18, Try.ntmps18
  go_wp2_with fail
  refine (begun_nil _).mono ?_; rintro e w1 ⟨rfl, rfl⟩
  go_wp2
  go_ret
  exact ⟨rfl, rfl⟩
theorem slot_any (h : Ac a A wk gv 4 sl tp bl w) : Calls Try.prog 18 #[.pointer (some ⟨a, 0, none⟩)] w fun e w' => e = .returned (.int .i64 sl) ∧ w = w' := by
  have B := Lib.hid (begun_any h)
  obtain ⟨c0, c1, c2, c3, c4, c5, c6, fz⟩ := h.cells
  clear h c0 c1 c2 c5 c6 fz
  go_enter Try.func18, Try.ntmps18
  go_wp2_with fail
  refine B.out.mono ?_; rintro e w1 ⟨rfl, rfl⟩
  go_wp2
  go_ret
  exact ⟨rfl, rfl⟩
theorem stepA_nil (w : World) : Calls Try.prog 17 #[.pointer none] w fun e w' => e = .returned (.bool true) ∧ w = w' := by
  go_enter Try.func17, Try.ntmps17
  go_wp2_with fail
  refine (over_nil _).mono ?_; rintro e w1 ⟨rfl, rfl⟩
  go_wp2_with fail
  refine (over_nil _).mono ?_; rintro e w1 ⟨rfl, rfl⟩
  go_wp2
  go_ret
  exact ⟨rfl, rfl⟩
/-! Take and Give begin -/
theorem take_nil (x : Int) (w : World) : Calls Try.prog 12 #[.pointer none, .int .i64 x] w fun e w' => e = .returned (.pointer none) ∧ w = w' := by
  go_enter Try.func12, Try.ntmps12
  go_wp2_with fail
  refine (emp_nil x _).mono ?_; rintro e w1 ⟨rfl, rfl⟩
  go_wp2
  go_ret
  exact ⟨rfl, rfl⟩
theorem take_no (x : Int) (hx : x < 0 ∨ (A.k : Int) ≤ x) (h : Po A nv nb hd ow l s w) : Calls Try.prog 12 #[.pointer (some ⟨A.p, 0, none⟩), .int .i64 x] w fun e w' => e = .returned (.pointer none) ∧ w = w' := by
  have E := Lib.hid (emp_out x _ _ _ _ _ _ _ _ w h.box hx)
  clear h hx
  go_enter Try.func12, Try.ntmps12
  go_wp2_with fail
  refine E.out.mono ?_; rintro e w1 ⟨rfl, rfl⟩
  go_wp2
  go_ret
  exact ⟨rfl, rfl⟩
def BegOf (A : Ad) (wk : Int) (gv : Bool) (nx sl : Int) (w : World) (e : Ending) (w' : World) : Prop := ∃ a, e = .returned (.pointer (some ⟨a, 0, none⟩)) ∧ w.heap.size ≤ a ∧ Ac a A wk gv nx sl 0 0 w' ∧ Below w.heap.size w w'
theorem take_any (x : Int) (h0 : 0 ≤ x) (h1 : x < A.k) (h : Po A nv nb hd ow l s w) : Calls Try.prog 12 #[.pointer (some ⟨A.p, 0, none⟩), .int .i64 x] w (BegOf A x false 1 (-1) w) := by
  have E := Lib.hid (emp_in x h0 _ _ _ _ _ _ _ _ w h.box h1)
  have F : Hid (BegOf A x false 1 (-1) w (.returned (.pointer (some ⟨w.heap.size, 0, none⟩))) (w.alloc (.cells #[.pointer (some ⟨A.p, 0, none⟩), .int .i64 x, .bool false, .int .i64 1, .int .i64 (-1), .int .i64 0, .int .i64 0] 86))) := ⟨_, rfl, Nat.le_refl _, heap_alloc_new _ _, bl_al (Below.refl _ _) _⟩
  clear h h0 h1
  go_enter Try.func12, Try.ntmps12
  go_wp2_with fail
  refine E.out.mono ?_; rintro e w1 ⟨rfl, rfl⟩
  go_wp2
  go_ret
  exact F.out
theorem give_nil (x y : Int) (w : World) : Calls Try.prog 13 #[.pointer none, .int .i64 x, .int .i64 y] w fun e w' => e = .returned (.pointer none) ∧ w = w' := by
  go_enter Try.func13, Try.ntmps13
  go_wp2_with fail
  refine (emp_nil x _).mono ?_; rintro e w1 ⟨rfl, rfl⟩
  go_wp2
  go_ret
  exact ⟨rfl, rfl⟩
theorem give_who (x y : Int) (hx : x < 0 ∨ (A.k : Int) ≤ x) (h : Po A nv nb hd ow l s w) : Calls Try.prog 13 #[.pointer (some ⟨A.p, 0, none⟩), .int .i64 x, .int .i64 y] w fun e w' => e = .returned (.pointer none) ∧ w = w' := by
  have E := Lib.hid (emp_out x _ _ _ _ _ _ _ _ w h.box hx)
  clear h hx
  go_enter Try.func13, Try.ntmps13
  go_wp2_with fail
  refine E.out.mono ?_; rintro e w1 ⟨rfl, rfl⟩
  go_wp2
  go_ret
  exact ⟨rfl, rfl⟩
theorem give_slot (x y : Int) (h0 : 0 ≤ x) (h1 : x < A.k) (hy : y < 0 ∨ (A.n : Int) ≤ y) (h : Po A nv nb hd ow l s w) : Calls Try.prog 13 #[.pointer (some ⟨A.p, 0, none⟩), .int .i64 x, .int .i64 y] w fun e w' => e = .returned (.pointer none) ∧ w = w' := by
  have E := Lib.hid (emp_in x h0 _ _ _ _ _ _ _ _ w h.box h1)
  have F := Lib.hid (phas_out y A.n hy _ w (slots_any _ _ _ _ _ _ _ _ w h.box))
  clear h hy h0 h1
  go_enter Try.func13, Try.ntmps13
  go_wp2_with fail
  refine E.out.mono ?_; rintro e w1 ⟨rfl, rfl⟩
  go_wp2_with fail
  refine F.out.mono ?_; rintro e w1 ⟨rfl, rfl⟩
  go_wp2
  go_ret
  exact ⟨rfl, rfl⟩
theorem give_any (x y : Int) (h0 : 0 ≤ x) (h1 : x < A.k) (y0 : 0 ≤ y) (y1 : y < A.n) (h : Po A nv nb hd ow l s w) : Calls Try.prog 13 #[.pointer (some ⟨A.p, 0, none⟩), .int .i64 x, .int .i64 y] w (BegOf A x true 0 y w) := by
  have E := Lib.hid (emp_in x h0 _ _ _ _ _ _ _ _ w h.box h1)
  have G := Lib.hid (phas_in y A.n y0 y1 _ w (slots_any _ _ _ _ _ _ _ _ w h.box))
  have F : Hid (BegOf A x true 0 y w (.returned (.pointer (some ⟨w.heap.size, 0, none⟩))) (w.alloc (.cells #[.pointer (some ⟨A.p, 0, none⟩), .int .i64 x, .bool true, .int .i64 0, .int .i64 y, .int .i64 0, .int .i64 0] 86))) := ⟨_, rfl, Nat.le_refl _, heap_alloc_new _ _, bl_al (Below.refl _ _) _⟩
  clear h h0 h1 y0 y1
  go_enter Try.func13, Try.ntmps13
  go_wp2_with fail
  refine E.out.mono ?_; rintro e w1 ⟨rfl, rfl⟩
  go_wp2_with fail
  refine G.out.mono ?_; rintro e w1 ⟨rfl, rfl⟩
  go_wp2
  go_ret
  exact F.out
end
end Go.Proofs.Ytaihmkflhapjeaa
