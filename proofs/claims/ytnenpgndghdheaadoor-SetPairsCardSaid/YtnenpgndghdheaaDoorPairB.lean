/-
  The walk of kurganlaw02.SetPairs: its last statement.
-/
import Derived.Test.YtnenpgndghdheaaDoorPairA
import Derived.Test.YtnenpgndghdheaaDoorSetsT
namespace Go.Proofs.YtnenpgndghdheaaDoor
open Go.RowKit
set_option linter.unusedVariables false
attribute [local irreducible] row
/-- where the loop stands -/
structure PL (f g : Nat → Bool) (gA gB gC S : Nat) (b1 b2 : Array Value) (w : World) (k : Nat) (wr : World) : Prop where
  a : wr.heap[gA]? = some (.cells (row f 128) 26 (0, 0))
  b : wr.heap[gB]? = some (.cells (row g 128) 26 (0, 0))
  c : wr.heap[gC]? = some (.cells (row (fun j => f j && g j) k) 26 (0, 0))
  d : wr.heap[gC + 1]? = some (.cells (row (fun j => f j || g j) k) 26 (0, 0))
  e : wr.heap[gC + 1 + 1]? = some (.cells (row (fun j => f j && !g j) k) 26 (0, 0))
  s : wr.heap[S]? = some (.cells b1 24 (0, 0))
  t : wr.heap[S + 1]? = some (.cells b2 24 (0, 0))
  below : Below w.heap.size w wr
theorem PL.step {f g : Nat → Bool} {gA gB gC S : Nat} {b1 b2 : Array Value} {w wr : World} {k : Nat} (h : PL f g gA gB gC S b1 b2 w k wr) (hk : k < 128) (hA : gA < gC) (hB : gB < gC) (hS : S + 1 < gC) (hw : w.heap.size ≤ gC) (v1 v2 v3 : Bool) (e1 : v1 = (f k && g k)) (e2 : v2 = (f k || g k)) (e3 : v3 = (f k && !g k)) :
    PL f g gA gB gC S b1 b2 w (k + 1) (((wr.setCell ⟨gC, k, none⟩ (.bool v1)).setCell ⟨gC + 1, k, none⟩ (.bool v2)).setCell ⟨gC + 1 + 1, k, none⟩ (.bool v3)) := by
  subst e1 e2 e3
  have ot : ∀ j, j < gC → (((wr.setCell ⟨gC, k, none⟩ (.bool (f k && g k))).setCell ⟨gC + 1, k, none⟩ (.bool (f k || g k))).setCell ⟨gC + 1 + 1, k, none⟩ (.bool (f k && !g k))).heap[j]? = wr.heap[j]? := fun j hj =>
    (heap_setCell_other _ ⟨gC + 1 + 1, k, none⟩ j _ (by show j ≠ gC + 1 + 1; omega)).trans ((heap_setCell_other _ ⟨gC + 1, k, none⟩ j _ (by show j ≠ gC + 1; omega)).trans (heap_setCell_other _ ⟨gC, k, none⟩ j _ (by show j ≠ gC; omega)))
  refine ⟨(ot _ hA).trans h.a, (ot _ hB).trans h.b, ?_, ?_, ?_, (ot _ (by omega)).trans h.s, (ot _ hS).trans h.t, ((h.below.setCell (p := ⟨gC, k, none⟩) hw _).setCell (p := ⟨gC + 1, k, none⟩) (by show w.heap.size ≤ gC + 1; omega) _).setCell (p := ⟨gC + 1 + 1, k, none⟩) (by show w.heap.size ≤ gC + 1 + 1; omega) _⟩
  · have := heap_setCell_same wr gC k _ 26 (.bool (f k && g k)) h.c
    rw [row_set (fun j => f j && g j) k hk] at this
    exact (heap_setCell_other _ ⟨gC + 1 + 1, k, none⟩ gC _ (by show gC ≠ gC + 1 + 1; omega)).trans ((heap_setCell_other _ ⟨gC + 1, k, none⟩ gC _ (by show gC ≠ gC + 1; omega)).trans this)
  · have := heap_setCell_same (wr.setCell ⟨gC, k, none⟩ (.bool (f k && g k))) (gC + 1) k _ 26 (.bool (f k || g k)) ((heap_setCell_other _ ⟨gC, k, none⟩ (gC + 1) _ (by show gC + 1 ≠ gC; omega)).trans h.d)
    rw [row_set (fun j => f j || g j) k hk] at this
    exact (heap_setCell_other _ ⟨gC + 1 + 1, k, none⟩ (gC + 1) _ (by show gC + 1 ≠ gC + 1 + 1; omega)).trans this
  · have := heap_setCell_same ((wr.setCell ⟨gC, k, none⟩ (.bool (f k && g k))).setCell ⟨gC + 1, k, none⟩ (.bool (f k || g k))) (gC + 1 + 1) k _ 26 (.bool (f k && !g k)) ((heap_setCell_other _ ⟨gC + 1, k, none⟩ (gC + 1 + 1) _ (by show gC + 1 + 1 ≠ gC + 1; omega)).trans ((heap_setCell_other _ ⟨gC, k, none⟩ (gC + 1 + 1) _ (by show gC + 1 + 1 ≠ gC; omega)).trans h.e))
    rw [row_set (fun j => f j && !g j) k hk] at this
    exact this
theorem row_cell {w : World} {b k n : Nat} {f : Nat → Bool} (h : w.heap[b]? = some (.cells (row f n) 26 (0, 0))) (hk : k < 128) : w.cell? ⟨b, k, none⟩ = some (.bool (decide (k < n) && f k)) ∧ w.frozen? ⟨b, k, none⟩ = false := by
  refine ⟨?_, by simp [World.frozen?, h]⟩
  rw [cell_of_row _ _ _ _ _ _ h]
  exact row_at f n k hk
theorem row_zero (f : Nat → Bool) : Array.replicate 128 (Value.bool false) = row f 0 := by
  apply Array.ext
  · simp [row_size]
  · intro j h1 h2
    have hj : j < 128 := by simpa using h1
    have := row_at f 0 j hj
    rw [Array.getElem?_eq_getElem h2] at this
    injection this with this
    rw [this]; simp
theorem pl_drew {f g : Nat → Bool} {gA gB gC S : Nat} {b1 b2 : Array Value} {w wr : World} {k : Nat} (h : PL f g gA gB gC S b1 b2 w k wr) : PL f g gA gB gC S b1 b2 w k wr.drew :=
  ⟨h.a, h.b, h.c, h.d, h.e, h.s, h.t, bl_dn h.below 1⟩
theorem PL.keep {f g : Nat → Bool} {gA gB gC S : Nat} {b1 b2 : Array Value} {w wr W : World} {k : Nat} (h : PL f g gA gB gC S b1 b2 w k wr) (hb : Below wr.heap.size wr W) : PL f g gA gB gC S b1 b2 w k W :=
  ⟨(hb.block _ (lt_hp h.a)).trans h.a, (hb.block _ (lt_hp h.b)).trans h.b, (hb.block _ (lt_hp h.c)).trans h.c, (hb.block _ (lt_hp h.d)).trans h.d, (hb.block _ (lt_hp h.e)).trans h.e, (hb.block _ (lt_hp h.s)).trans h.s, (hb.block _ (lt_hp h.t)).trans h.t, h.below.trans (hb.mono h.below.size)⟩
theorem PL.sees {f g : Nat → Bool} {gA gB gC S x y u v : Nat} {w W : World} {A1 A2 A3 : Array Value} (h : PL f g gA gB gC S #[.int .u64 x, .int .u64 y] #[.int .u64 u, .int .u64 v] w 128 W)
    (e1 : A1 = row (fun j => f j && g j) 128) (e2 : A2 = row (fun j => f j || g j) 128) (e3 : A3 = row (fun j => f j && !g j) 128) :
    W.cell? ⟨S, 0, none⟩ = some (.int .u64 x) ∧ W.cell? ⟨S, 1, none⟩ = some (.int .u64 y) ∧ W.cell? ⟨S + 1, 0, none⟩ = some (.int .u64 u) ∧ W.cell? ⟨S + 1, 1, none⟩ = some (.int .u64 v) ∧ W.rangeAt gC 0 A1.toList ∧ W.rangeAt (gC + 1) 0 A2.toList ∧ W.rangeAt (gC + 1 + 1) 0 A3.toList := by
  subst e1 e2 e3
  exact ⟨cell_of_row _ _ 0 _ _ _ h.s, cell_of_row _ _ 1 _ _ _ h.s, cell_of_row _ _ 0 _ _ _ h.t, cell_of_row _ _ 1 _ _ _ h.t, range_of h.c, range_of h.d, range_of h.e⟩
theorem load_row {W : World} {b : Nat} {A : Array Value} (h : W.rangeAt b 0 A.toList) (hs : A.size = 128) : (Instr.loadAt 26 (.pointer (some ⟨b, 0, none⟩))).run Tryd.prog W = .ok (.agg A) W := by
  have := run_loadAt_mid (P := Tryd.prog) W b 0 26 A.toList _ h Tryd.underlying26 rfl (by rw [show A.toList.length = 128 by simpa using hs]; kernel_rfl)
  rwa [Array.toArray_toList] at this
theorem or_two (x y u v : Nat) (hx : x < 18446744073709551616) (hy : y < 18446744073709551616) (hu : u < 18446744073709551616) (hv : v < 18446744073709551616) (W : World) :
    Calls Tryd.prog 9 #[.agg #[.int .u64 x, .int .u64 y], .agg #[.int .u64 u, .int .u64 v]] W fun e w' => e = .returned (.agg #[.int .u64 (x ||| u : Nat), .int .u64 (y ||| v : Nat)]) ∧ Below W.heap.size W w' := by
  have a1 : lo (x + y * 18446744073709551616) = x := by unfold lo; omega
  have a2 : hi (x + y * 18446744073709551616) = y := by unfold hi; omega
  have b1 : lo (u + v * 18446744073709551616) = u := by unfold lo; omega
  have b2 : hi (u + v * 18446744073709551616) = v := by unfold hi; omega
  have := or_any (x + y * 18446744073709551616) (u + v * 18446744073709551616) (by omega) (by omega) W
  rwa [lo_or, hi_or, a1, a2, b1, b2] at this
noncomputable def pairsReg9 : Code := pfst (psnd (psnd (psnd (psnd (psnd (Tryd.f3.body.getD .skip))))))
set_option maxRecDepth 100000 in
set_option maxHeartbeats 4000000 in
theorem pairs_reg9 (x y u v : Nat) (hx : x < 18446744073709551616) (hy : y < 18446744073709551616) (hu : u < 18446744073709551616) (hv : v < 18446744073709551616) (gA gB gC S : Nat) (w wr : World) (hT : T64 wr) (h : PL (mem x y) (mem u v) gA gB gC S #[.int .u64 x, .int .u64 y] #[.int .u64 u, .int .u64 v] w 128 wr)
    (Q : Exit → Act → World → Prop) (z0 z1 z4 z5 z6 z11 z12 z13 z14 z15 z16 z17 z18 z19 z20 z21 z22 z23 z24 z25 z26 z27 z28 z29 z30 z31 z32 z33 z34 z35 z36 z37 z38 z39 z40 z41 z42 z43 z44 z45 z46 z47 z48 z49 z50 z51 z52 z53 z54 z55 z56 z57 z58 z59 z60 z61 z62 z63 z64 z65 z66 z67 z68 z69 z70 z71 z72 z73 z74 z75 z76 z77 z78 z79 z80 z81 z82 z83 z84 z85 z86 z87 z88 z89 z90 z91 z92 z93 z94 : Value)
    (hP : ∀ c a d v w, Q (.panic c) (Act.put a d v) w → Q (.panic c) a w)
    (hQ : ∀ tm W', tm.getD 4 undef = .bool true → Below wr.heap.size wr W' → Q .normal ⟨tm, []⟩ W') :
    Code.wp Tryd.prog pairsReg9 Q ⟨#[z0, z1, .pointer (some ⟨S, 0, none⟩), .pointer (some ⟨S + 1, 0, none⟩), z4, z5, z6, .pointer (some ⟨gC, 0, none⟩), .pointer (some ⟨gC + 1, 0, none⟩), .pointer (some ⟨gC + 1 + 1, 0, none⟩), .bool (subB (mem x y) (mem u v) 128), z11, z12, z13, z14, z15, z16, z17, z18, z19, z20, z21, z22, z23, z24, z25, z26, z27, z28, z29, z30, z31, z32, z33, z34, z35, z36, z37, z38, z39, z40, z41, z42, z43, z44, z45, z46, z47, z48, z49, z50, z51, z52, z53, z54, z55, z56, z57, z58, z59, z60, z61, z62, z63, z64, z65, z66, z67, z68, z69, z70, z71, z72, z73, z74, z75, z76, z77, z78, z79, z80, z81, z82, z83, z84, z85, z86, z87, z88, z89, z90, z91, z92, z93, z94], []⟩ wr := by
  have l1 : x &&& u < 18446744073709551616 := Nat.lt_of_le_of_lt Nat.and_le_left hx
  have l2 : y &&& v < 18446744073709551616 := Nat.lt_of_le_of_lt Nat.and_le_left hy
  have l3 : x ||| u < 18446744073709551616 := Nat.or_lt_two_pow (n := 64) hx hu
  have l4 : y ||| v < 18446744073709551616 := Nat.or_lt_two_pow (n := 64) hy hv
  have E1 := row_congr (k := 128) (f := mem (x &&& u) (y &&& v)) (g := fun j => mem x y j && mem u v j) (fun j hj => mem_and x y u v j)
  have E2 := row_congr (k := 128) (f := mem (x ||| u) (y ||| v)) (g := fun j => mem x y j || mem u v j) (fun j hj => mem_or x y u v j)
  have E3 := row_congr (k := 128) (f := mem (anot x u) (anot y v)) (g := fun j => mem x y j && !mem u v j) (fun j hj => mem_anot x y u v j hj)
  have O1 := Lib.hid (fun W => refOf_any (x &&& u) (y &&& v) l1 l2 W)
  have O2 := Lib.hid (fun W => refOf_any (x ||| u) (y ||| v) l3 l4 W)
  have O3 := Lib.hid (fun W => refOf_any (anot x u) (anot y v) (anot_lt _ _) (anot_lt _ _) W)
  rw [E1] at O1
  rw [E2] at O2
  rw [E3] at O3
  have G1 := eq_row (fun j => mem x y j && mem u v j)
  have G2 := eq_row (fun j => mem x y j || mem u v j)
  have G3 := eq_row (fun j => mem x y j && !mem u v j)
  have CZ0 := sets_any wr.drew (hT.keep (bl_drew wr))
  have CA := Lib.hid (fun W => and_any x y u v hx hy hu hv W)
  have CO := Lib.hid (fun W => or_two x y u v hx hy hu hv W)
  have CM := Lib.hid (fun W => minus_any x y u v W)
  have CI := Lib.hid (fun W => in_any x y u v W)
  have HQ := Lib.hid hQ
  have T0 : Hid (PL (mem x y) (mem u v) gA gB gC S #[.int .u64 x, .int .u64 y] #[.int .u64 u, .int .u64 v] w 128 wr.drew ∧ Below wr.heap.size wr wr.drew) := ⟨pl_drew h, bl_drew wr⟩
  clear hQ E1 E2 E3 l1 l2 l3 l4 hT h
  have CZ : Hid (∀ z : Unit, Calls Tryd.prog 7 #[] wr.drew fun e w' => e = .returned (.bool true) ∧ Below wr.drew.heap.size wr.drew w') := fun _ => CZ0
  clear CZ0
  unfold pairsReg9
  conv => arg 2; whnf
  refine wp_region_held_drew (S := fun w' => PL (mem x y) (mem u v) gA gB gC S #[.int .u64 x, .int .u64 y] #[.int .u64 u, .int .u64 v] w 128 w' ∧ Below wr.heap.size wr w') (by kernel_rfl) T0.out (fun hHeld => ?_)
  clear T0
  generalize wr.drew = w0 at *
  refine wpAnyH_ready (rs := [0]) (by kernel_rfl) (by simp) ?_
  refine AllReadyH.cons (by rw [List.getElem?_toArray]; rfl) (fun K hK => ?_) AllReadyH.nil
  have hHid := Lib.hid hHeld
  clear hHeld
  go_simp
  go_at_call 7; refine (CZ.out ()).mono ?_; rintro e vu1 ⟨rfl, hb⟩
  have hNew : Hid (PL (mem x y) (mem u v) gA gB gC S #[.int .u64 x, .int .u64 y] #[.int .u64 u, .int .u64 v] w 128 vu1 ∧ Below wr.heap.size wr vu1) := ⟨hHid.out.1.keep hb, hHid.out.2.trans (hb.mono hHid.out.2.size)⟩
  clear hb hHid
  go_wp2_with fail
  refine hK.out _ _ hNew.out (fun hHeld => ?_)
  clear hK K hNew
  refine wpAnyH_take (i := 1) (v := ?vu2) (by rw [List.getElem?_toArray]; rfl) (by kernel_rfl) (by kernel_rfl) (by kernel_rfl) ?qu2 (Or.inl ⟨by rfl, ?yu2⟩) (by assumption) ?ru2
  case qu2 => exact fun c a w h => hP c a _ _ w h
  case yu2 => (intro wz hSw; go_simp; try (with_reducible rfl))
  simp only [Act.put, List.setIfInBounds_toArray, List.set_cons_zero, List.set_cons_succ]
  refine wpAnyH_take (i := 2) (v := ?vu3) (by rw [List.getElem?_toArray]; rfl) (by kernel_rfl) (by kernel_rfl) (by kernel_rfl) ?qu3 (Or.inl ⟨by rfl, ?yu3⟩) (by assumption) ?ru3
  case qu3 => exact fun c a w h => hP c a _ _ w h
  case yu3 => (intro wz hSw; obtain ⟨c0, c1⟩ := two_keep (Below.refl _ _) hSw.1.s; go_simp; try (with_reducible rfl))
  simp only [Act.put, List.setIfInBounds_toArray, List.set_cons_zero, List.set_cons_succ]
  refine wpAnyH_take (i := 3) (v := ?vu4) (by rw [List.getElem?_toArray]; rfl) (by kernel_rfl) (by kernel_rfl) (by kernel_rfl) ?qu4 (Or.inl ⟨by rfl, ?yu4⟩) (by assumption) ?ru4
  case qu4 => exact fun c a w h => hP c a _ _ w h
  case yu4 => (intro wz hSw; obtain ⟨c0, c1⟩ := two_keep (Below.refl _ _) hSw.1.t; go_simp; try (with_reducible rfl))
  simp only [Act.put, List.setIfInBounds_toArray, List.set_cons_zero, List.set_cons_succ]
  refine wpAnyH_take (i := 6) (by rw [List.getElem?_toArray]; rfl) (by kernel_rfl) (by kernel_rfl) (by kernel_rfl) ?qu5 (yieldsIf_load_mid (by rfl) 26 _ rfl (gC) 0 rfl (row (fun j => mem x y j && mem u v j) 128).toList _ (fun w' h => range_of h.1.c) Tryd.underlying26 rfl (by rw [show (row (fun j => mem x y j && mem u v j) 128).toList.length = 128 by simp [row_size]]; kernel_rfl)) (by assumption) ?ru5
  case qu5 => exact fun c a w h => hP c a _ _ w h
  simp only [Act.put, List.setIfInBounds_toArray, List.set_cons_zero, List.set_cons_succ, Array.toArray_toList]
  refine wpAnyH_ready (rs := [4]) (by kernel_rfl) (by simp) ?_
  refine AllReadyH.cons (by rw [List.getElem?_toArray]; rfl) (fun K hK => ?_) AllReadyH.nil
  have hHid := Lib.hid hHeld
  clear hHeld
  go_simp
  go_at_call 8; refine (CA.out _).mono ?_; rintro e vu6 ⟨rfl, hb⟩
  have hNew : Hid (PL (mem x y) (mem u v) gA gB gC S #[.int .u64 x, .int .u64 y] #[.int .u64 u, .int .u64 v] w 128 vu6 ∧ Below wr.heap.size wr vu6) := ⟨hHid.out.1.keep hb, hHid.out.2.trans (hb.mono hHid.out.2.size)⟩
  clear hb hHid
  go_wp2_with fail
  refine hK.out _ _ hNew.out (fun hHeld => ?_)
  clear hK K hNew
  refine wpAnyH_ready (rs := [5]) (by kernel_rfl) (by simp) ?_
  refine AllReadyH.cons (by rw [List.getElem?_toArray]; rfl) (fun K hK => ?_) AllReadyH.nil
  have hHid := Lib.hid hHeld
  clear hHeld
  go_simp
  go_at_call 6; refine (O1.out _).mono ?_; rintro e vu7 ⟨rfl, hb⟩
  have hNew : Hid (PL (mem x y) (mem u v) gA gB gC S #[.int .u64 x, .int .u64 y] #[.int .u64 u, .int .u64 v] w 128 vu7 ∧ Below wr.heap.size wr vu7) := ⟨hHid.out.1.keep hb, hHid.out.2.trans (hb.mono hHid.out.2.size)⟩
  clear hb hHid
  go_wp2_with fail
  refine hK.out _ _ hNew.out (fun hHeld => ?_)
  clear hK K hNew
  refine wpAnyH_take (i := 7) (v := ?vu8) (by rw [List.getElem?_toArray]; rfl) (by kernel_rfl) (by kernel_rfl) (by kernel_rfl) ?qu8 (Or.inl ⟨by rfl, ?yu8⟩) (by assumption) ?ru8
  case qu8 => exact fun c a w h => hP c a _ _ w h
  case yu8 => (intro wz hSw; go_simp; try (with_reducible rfl))
  simp only [Act.put, List.setIfInBounds_toArray, List.set_cons_zero, List.set_cons_succ]
  refine wpAnyH_take (i := 8) (v := ?vu9) (by rw [List.getElem?_toArray]; rfl) (by kernel_rfl) (by kernel_rfl) (by kernel_rfl) ?qu9 (Or.inl ⟨by rfl, ?yu9⟩) (by assumption) ?ru9
  case qu9 => exact fun c a w h => hP c a _ _ w h
  case yu9 => (intro wz hSw; go_simp; try (with_reducible rfl))
  simp only [Act.put, List.setIfInBounds_toArray, List.set_cons_zero, List.set_cons_succ]
  refine wpAnyH_take (i := 9) (v := ?vu10) (by rw [List.getElem?_toArray]; rfl) (by kernel_rfl) (by kernel_rfl) (by kernel_rfl) ?qu10 (Or.inl ⟨by rfl, ?yu10⟩) (by assumption) ?ru10
  case qu10 => exact fun c a w h => hP c a _ _ w h
  case yu10 => (intro wz hSw; go_simp; try (with_reducible rfl))
  simp only [Act.put, List.setIfInBounds_toArray, List.set_cons_zero, List.set_cons_succ]
  refine wpAnyH_take (i := 10) (v := ?vu11) (by rw [List.getElem?_toArray]; rfl) (by kernel_rfl) (by kernel_rfl) (by kernel_rfl) ?qu11 (Or.inl ⟨by rfl, ?yu11⟩) (by assumption) ?ru11
  case qu11 => exact fun c a w h => hP c a _ _ w h
  case yu11 => (intro wz hSw; obtain ⟨c0, c1⟩ := two_keep (Below.refl _ _) hSw.1.s; go_simp; try (with_reducible rfl))
  simp only [Act.put, List.setIfInBounds_toArray, List.set_cons_zero, List.set_cons_succ]
  refine wpAnyH_take (i := 11) (v := ?vu12) (by rw [List.getElem?_toArray]; rfl) (by kernel_rfl) (by kernel_rfl) (by kernel_rfl) ?qu12 (Or.inl ⟨by rfl, ?yu12⟩) (by assumption) ?ru12
  case qu12 => exact fun c a w h => hP c a _ _ w h
  case yu12 => (intro wz hSw; obtain ⟨c0, c1⟩ := two_keep (Below.refl _ _) hSw.1.t; go_simp; try (with_reducible rfl))
  simp only [Act.put, List.setIfInBounds_toArray, List.set_cons_zero, List.set_cons_succ]
  refine wpAnyH_take (i := 14) (by rw [List.getElem?_toArray]; rfl) (by kernel_rfl) (by kernel_rfl) (by kernel_rfl) ?qu13 (yieldsIf_load_mid (by rfl) 26 _ rfl (gC + 1) 0 rfl (row (fun j => mem x y j || mem u v j) 128).toList _ (fun w' h => range_of h.1.d) Tryd.underlying26 rfl (by rw [show (row (fun j => mem x y j || mem u v j) 128).toList.length = 128 by simp [row_size]]; kernel_rfl)) (by assumption) ?ru13
  case qu13 => exact fun c a w h => hP c a _ _ w h
  simp only [Act.put, List.setIfInBounds_toArray, List.set_cons_zero, List.set_cons_succ, Array.toArray_toList]
  refine wpAnyH_ready (rs := [12]) (by kernel_rfl) (by simp) ?_
  refine AllReadyH.cons (by rw [List.getElem?_toArray]; rfl) (fun K hK => ?_) AllReadyH.nil
  have hHid := Lib.hid hHeld
  clear hHeld
  go_simp
  go_at_call 9; refine (CO.out _).mono ?_; rintro e vu14 ⟨rfl, hb⟩
  have hNew : Hid (PL (mem x y) (mem u v) gA gB gC S #[.int .u64 x, .int .u64 y] #[.int .u64 u, .int .u64 v] w 128 vu14 ∧ Below wr.heap.size wr vu14) := ⟨hHid.out.1.keep hb, hHid.out.2.trans (hb.mono hHid.out.2.size)⟩
  clear hb hHid
  go_wp2_with fail
  refine hK.out _ _ hNew.out (fun hHeld => ?_)
  clear hK K hNew
  refine wpAnyH_ready (rs := [13]) (by kernel_rfl) (by simp) ?_
  refine AllReadyH.cons (by rw [List.getElem?_toArray]; rfl) (fun K hK => ?_) AllReadyH.nil
  have hHid := Lib.hid hHeld
  clear hHeld
  go_simp
  go_at_call 6; refine (O2.out _).mono ?_; rintro e vu15 ⟨rfl, hb⟩
  have hNew : Hid (PL (mem x y) (mem u v) gA gB gC S #[.int .u64 x, .int .u64 y] #[.int .u64 u, .int .u64 v] w 128 vu15 ∧ Below wr.heap.size wr vu15) := ⟨hHid.out.1.keep hb, hHid.out.2.trans (hb.mono hHid.out.2.size)⟩
  clear hb hHid
  go_wp2_with fail
  refine hK.out _ _ hNew.out (fun hHeld => ?_)
  clear hK K hNew
  refine wpAnyH_take (i := 15) (v := ?vu16) (by rw [List.getElem?_toArray]; rfl) (by kernel_rfl) (by kernel_rfl) (by kernel_rfl) ?qu16 (Or.inl ⟨by rfl, ?yu16⟩) (by assumption) ?ru16
  case qu16 => exact fun c a w h => hP c a _ _ w h
  case yu16 => (intro wz hSw; go_simp; try (with_reducible rfl))
  simp only [Act.put, List.setIfInBounds_toArray, List.set_cons_zero, List.set_cons_succ]
  refine wpAnyH_take (i := 16) (v := ?vu17) (by rw [List.getElem?_toArray]; rfl) (by kernel_rfl) (by kernel_rfl) (by kernel_rfl) ?qu17 (Or.inl ⟨by rfl, ?yu17⟩) (by assumption) ?ru17
  case qu17 => exact fun c a w h => hP c a _ _ w h
  case yu17 => (intro wz hSw; go_simp; try (with_reducible rfl))
  simp only [Act.put, List.setIfInBounds_toArray, List.set_cons_zero, List.set_cons_succ]
  refine wpAnyH_take (i := 17) (v := ?vu18) (by rw [List.getElem?_toArray]; rfl) (by kernel_rfl) (by kernel_rfl) (by kernel_rfl) ?qu18 (Or.inl ⟨by rfl, ?yu18⟩) (by assumption) ?ru18
  case qu18 => exact fun c a w h => hP c a _ _ w h
  case yu18 => (intro wz hSw; go_simp; try (with_reducible rfl))
  simp only [Act.put, List.setIfInBounds_toArray, List.set_cons_zero, List.set_cons_succ]
  refine wpAnyH_take (i := 18) (v := ?vu19) (by rw [List.getElem?_toArray]; rfl) (by kernel_rfl) (by kernel_rfl) (by kernel_rfl) ?qu19 (Or.inl ⟨by rfl, ?yu19⟩) (by assumption) ?ru19
  case qu19 => exact fun c a w h => hP c a _ _ w h
  case yu19 => (intro wz hSw; obtain ⟨c0, c1⟩ := two_keep (Below.refl _ _) hSw.1.s; go_simp; try (with_reducible rfl))
  simp only [Act.put, List.setIfInBounds_toArray, List.set_cons_zero, List.set_cons_succ]
  refine wpAnyH_take (i := 19) (v := ?vu20) (by rw [List.getElem?_toArray]; rfl) (by kernel_rfl) (by kernel_rfl) (by kernel_rfl) ?qu20 (Or.inl ⟨by rfl, ?yu20⟩) (by assumption) ?ru20
  case qu20 => exact fun c a w h => hP c a _ _ w h
  case yu20 => (intro wz hSw; obtain ⟨c0, c1⟩ := two_keep (Below.refl _ _) hSw.1.t; go_simp; try (with_reducible rfl))
  simp only [Act.put, List.setIfInBounds_toArray, List.set_cons_zero, List.set_cons_succ]
  refine wpAnyH_take (i := 22) (by rw [List.getElem?_toArray]; rfl) (by kernel_rfl) (by kernel_rfl) (by kernel_rfl) ?qu21 (yieldsIf_load_mid (by rfl) 26 _ rfl (gC + 1 + 1) 0 rfl (row (fun j => mem x y j && !mem u v j) 128).toList _ (fun w' h => range_of h.1.e) Tryd.underlying26 rfl (by rw [show (row (fun j => mem x y j && !mem u v j) 128).toList.length = 128 by simp [row_size]]; kernel_rfl)) (by assumption) ?ru21
  case qu21 => exact fun c a w h => hP c a _ _ w h
  simp only [Act.put, List.setIfInBounds_toArray, List.set_cons_zero, List.set_cons_succ, Array.toArray_toList]
  refine wpAnyH_ready (rs := [20]) (by kernel_rfl) (by simp) ?_
  refine AllReadyH.cons (by rw [List.getElem?_toArray]; rfl) (fun K hK => ?_) AllReadyH.nil
  have hHid := Lib.hid hHeld
  clear hHeld
  go_simp
  go_at_call 10; refine (CM.out _).mono ?_; rintro e vu22 ⟨rfl, hb⟩
  have hNew : Hid (PL (mem x y) (mem u v) gA gB gC S #[.int .u64 x, .int .u64 y] #[.int .u64 u, .int .u64 v] w 128 vu22 ∧ Below wr.heap.size wr vu22) := ⟨hHid.out.1.keep hb, hHid.out.2.trans (hb.mono hHid.out.2.size)⟩
  clear hb hHid
  go_wp2_with fail
  refine hK.out _ _ hNew.out (fun hHeld => ?_)
  clear hK K hNew
  refine wpAnyH_ready (rs := [21]) (by kernel_rfl) (by simp) ?_
  refine AllReadyH.cons (by rw [List.getElem?_toArray]; rfl) (fun K hK => ?_) AllReadyH.nil
  have hHid := Lib.hid hHeld
  clear hHeld
  go_simp
  go_at_call 6; refine (O3.out _).mono ?_; rintro e vu23 ⟨rfl, hb⟩
  have hNew : Hid (PL (mem x y) (mem u v) gA gB gC S #[.int .u64 x, .int .u64 y] #[.int .u64 u, .int .u64 v] w 128 vu23 ∧ Below wr.heap.size wr vu23) := ⟨hHid.out.1.keep hb, hHid.out.2.trans (hb.mono hHid.out.2.size)⟩
  clear hb hHid
  go_wp2_with fail
  refine hK.out _ _ hNew.out (fun hHeld => ?_)
  clear hK K hNew
  refine wpAnyH_take (i := 23) (v := ?vu24) (by rw [List.getElem?_toArray]; rfl) (by kernel_rfl) (by kernel_rfl) (by kernel_rfl) ?qu24 (Or.inl ⟨by rfl, ?yu24⟩) (by assumption) ?ru24
  case qu24 => exact fun c a w h => hP c a _ _ w h
  case yu24 => (intro wz hSw; go_simp; try (with_reducible rfl))
  simp only [Act.put, List.setIfInBounds_toArray, List.set_cons_zero, List.set_cons_succ]
  refine wpAnyH_take (i := 24) (v := ?vu25) (by rw [List.getElem?_toArray]; rfl) (by kernel_rfl) (by kernel_rfl) (by kernel_rfl) ?qu25 (Or.inl ⟨by rfl, ?yu25⟩) (by assumption) ?ru25
  case qu25 => exact fun c a w h => hP c a _ _ w h
  case yu25 => (intro wz hSw; go_simp; try (with_reducible rfl))
  simp only [Act.put, List.setIfInBounds_toArray, List.set_cons_zero, List.set_cons_succ]
  refine wpAnyH_take (i := 25) (v := ?vu26) (by rw [List.getElem?_toArray]; rfl) (by kernel_rfl) (by kernel_rfl) (by kernel_rfl) ?qu26 (Or.inl ⟨by rfl, ?yu26⟩) (by assumption) ?ru26
  case qu26 => exact fun c a w h => hP c a _ _ w h
  case yu26 => (intro wz hSw; go_simp; try (with_reducible rfl))
  simp only [Act.put, List.setIfInBounds_toArray, List.set_cons_zero, List.set_cons_succ]
  refine wpAnyH_take (i := 26) (v := ?vu27) (by rw [List.getElem?_toArray]; rfl) (by kernel_rfl) (by kernel_rfl) (by kernel_rfl) ?qu27 (Or.inl ⟨by rfl, ?yu27⟩) (by assumption) ?ru27
  case qu27 => exact fun c a w h => hP c a _ _ w h
  case yu27 => (intro wz hSw; obtain ⟨c0, c1⟩ := two_keep (Below.refl _ _) hSw.1.s; go_simp; try (with_reducible rfl))
  simp only [Act.put, List.setIfInBounds_toArray, List.set_cons_zero, List.set_cons_succ]
  refine wpAnyH_take (i := 27) (v := ?vu28) (by rw [List.getElem?_toArray]; rfl) (by kernel_rfl) (by kernel_rfl) (by kernel_rfl) ?qu28 (Or.inl ⟨by rfl, ?yu28⟩) (by assumption) ?ru28
  case qu28 => exact fun c a w h => hP c a _ _ w h
  case yu28 => (intro wz hSw; obtain ⟨c0, c1⟩ := two_keep (Below.refl _ _) hSw.1.t; go_simp; try (with_reducible rfl))
  simp only [Act.put, List.setIfInBounds_toArray, List.set_cons_zero, List.set_cons_succ]
  refine wpAnyH_take (i := 29) (v := ?vu29) (by rw [List.getElem?_toArray]; rfl) (by kernel_rfl) (by kernel_rfl) (by kernel_rfl) ?qu29 (Or.inl ⟨by rfl, ?yu29⟩) (by assumption) ?ru29
  case qu29 => exact fun c a w h => hP c a _ _ w h
  case yu29 => (intro wz hSw; go_simp; try (with_reducible rfl))
  simp only [Act.put, List.setIfInBounds_toArray, List.set_cons_zero, List.set_cons_succ]
  refine wpAnyH_ready (rs := [28]) (by kernel_rfl) (by simp) ?_
  refine AllReadyH.cons (by rw [List.getElem?_toArray]; rfl) (fun K hK => ?_) AllReadyH.nil
  have hHid := Lib.hid hHeld
  clear hHeld
  go_simp
  go_at_call 11; refine (CI.out _).mono ?_; rintro e vu30 ⟨rfl, hb⟩
  have hNew : Hid (PL (mem x y) (mem u v) gA gB gC S #[.int .u64 x, .int .u64 y] #[.int .u64 u, .int .u64 v] w 128 vu30 ∧ Below wr.heap.size wr vu30) := ⟨hHid.out.1.keep hb, hHid.out.2.trans (hb.mono hHid.out.2.size)⟩
  clear hb hHid
  go_wp2_with fail
  refine hK.out _ _ hNew.out (fun hHeld => ?_)
  clear hK K hNew
  refine wpAnyH_take (i := 30) (v := ?vu31) (by rw [List.getElem?_toArray]; rfl) (by kernel_rfl) (by kernel_rfl) (by kernel_rfl) ?qu31 (Or.inl ⟨by rfl, ?yu31⟩) (by assumption) ?ru31
  case qu31 => exact fun c a w h => hP c a _ _ w h
  case yu31 => (intro wz hSw; go_simp; try (with_reducible rfl))
  simp only [Act.put, List.setIfInBounds_toArray, List.set_cons_zero, List.set_cons_succ]
  refine wpAnyH_take (i := 31) (v := ?vu32) (by rw [List.getElem?_toArray]; rfl) (by kernel_rfl) (by kernel_rfl) (by kernel_rfl) ?qu32 (Or.inl ⟨by rfl, ?yu32⟩) (by assumption) ?ru32
  case qu32 => exact fun c a w h => hP c a _ _ w h
  case yu32 => (intro wz hSw; go_simp; try (with_reducible rfl))
  simp only [Act.put, List.setIfInBounds_toArray, List.set_cons_zero, List.set_cons_succ]
  refine wpAnyH_take (i := 32) (v := ?vu33) (by rw [List.getElem?_toArray]; rfl) (by kernel_rfl) (by kernel_rfl) (by kernel_rfl) ?qu33 (Or.inl ⟨by rfl, ?yu33⟩) (by assumption) ?ru33
  case qu33 => exact fun c a w h => hP c a _ _ w h
  case yu33 => (intro wz hSw; go_simp; try (with_reducible rfl))
  simp only [Act.put, List.setIfInBounds_toArray, List.set_cons_zero, List.set_cons_succ]
  refine wpAnyH_done (by kernel_rfl) ?_ _
  exact HQ.out _ _ (by first | rfl | simp) hHeld.2
end Go.Proofs.YtnenpgndghdheaaDoor
