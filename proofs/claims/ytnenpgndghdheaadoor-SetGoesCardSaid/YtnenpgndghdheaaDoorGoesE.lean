/-
  The end of kurganlaw02.SetGoes: what was met is held against what List tells.
-/
import Derived.Test.YtnenpgndghdheaaDoorSetsT
import Derived.Test.YtnenpgndghdheaaDoorSameL
import Derived.Test.YtnenpgndghdheaaDoorRList
namespace Go.Proofs.YtnenpgndghdheaaDoor
open Go.RowKit
set_option linter.unusedVariables false
def sndC : Code → Code
  | .seq _ b => b
  | c => c
def fstC : Code → Code
  | .seq a _ => a
  | c => c
noncomputable def goesTail : Code := fstC <| sndC (sndC (sndC (sndC (sndC (sndC (sndC (Tryd.f4.body.getD .skip)))))))
/-- a list in a row of its own: nil, or in a block -/
theorem own_case {W : World} {B : Nat} {v : Value} {l : List Int} (h : W.ownsRow B 3 1 v l.length (l.map (Value.int .i64))) : (v = .slice none 0 0 ∧ l = []) ∨ ∃ g c, v = .slice (some ⟨g, 0, none⟩) l.length c ∧ l.length ≤ c ∧ c ≤ maxLen := by
  obtain ⟨h1, h2⟩ := h
  rcases h2 with ⟨rfl, h2⟩ | ⟨g, cap, cur, rfl, hb, hg, hc, hm, r⟩
  · exact Or.inl ⟨rfl, List.eq_nil_of_length_eq_zero h2⟩
  · exact Or.inr ⟨g, cap, rfl, hc, hm⟩
theorem ints_keep {W W1 : World} {a : Option Addr} {l : List Int} (h : Ints W a l) (hb : Below W.heap.size W W1) : Ints W1 a l := fun j hj => by
  obtain ⟨b, o, e, hlt, hc⟩ := h j hj
  exact ⟨b, o, e, Nat.lt_of_lt_of_le hlt hb.size, (hb.cell (p := ⟨b, o + j, none⟩) hlt).trans hc⟩
theorem ints_take {W : World} {a : Option Addr} {l : List Int} (h : Ints W a l) (n : Nat) : Ints W a (l.take n) := fun j hj => by
  have hj' : j < l.length := by simp at hj; omega
  obtain ⟨b, o, e, hlt, hc⟩ := h j hj'
  refine ⟨b, o, e, hlt, ?_⟩
  rw [hc, List.getElem?_take_of_lt (by simp at hj; omega)]
theorem cell_lt {w : World} {b o : Nat} {v : Value} (h : w.cell? ⟨b, o, none⟩ = some v) : b < w.heap.size := by
  rcases Nat.lt_or_ge b w.heap.size with hlt | hge
  · exact hlt
  · have e : w.heap[b]? = none := Array.getElem?_eq_none hge
    simp [World.cell?, e] at h
theorem five_keep {W W1 : World} {S gA gB gN : Nat} {z0 z1 z2 z3 z4 : Value} (h : W.cell? ⟨S, 0, none⟩ = some z0 ∧ W.cell? ⟨S, 1, none⟩ = some z1 ∧ W.cell? ⟨gA, 0, none⟩ = some z2 ∧ W.cell? ⟨gB, 0, none⟩ = some z3 ∧ W.cell? ⟨gN, 0, none⟩ = some z4) (hb : Below W.heap.size W W1) :
    W1.cell? ⟨S, 0, none⟩ = some z0 ∧ W1.cell? ⟨S, 1, none⟩ = some z1 ∧ W1.cell? ⟨gA, 0, none⟩ = some z2 ∧ W1.cell? ⟨gB, 0, none⟩ = some z3 ∧ W1.cell? ⟨gN, 0, none⟩ = some z4 :=
  ⟨(hb.cell (p := ⟨S, 0, none⟩) (cell_lt h.1)).trans h.1, (hb.cell (p := ⟨S, 1, none⟩) (cell_lt h.2.1)).trans h.2.1, (hb.cell (p := ⟨gA, 0, none⟩) (cell_lt h.2.2.1)).trans h.2.2.1, (hb.cell (p := ⟨gB, 0, none⟩) (cell_lt h.2.2.2.1)).trans h.2.2.2.1, (hb.cell (p := ⟨gN, 0, none⟩) (cell_lt h.2.2.2.2)).trans h.2.2.2.2⟩
set_option maxRecDepth 100000 in
set_option maxHeartbeats 4000000 in
theorem goes_core (x y : Nat) (hx : x < 18446744073709551616) (hy : y < 18446744073709551616) (n m S gA gB gN : Nat) (L : List Int) (hL : both x y = L) (hm : (L.take n).length = m) (hn : n < 130) (aW aA aB : Option Addr) (cW cA cB : Nat) (W : World) (hT : T64 W)
    (hf : (aW = none ∧ cW = 0) ∨ ∃ g, aW = some ⟨g, 0, none⟩) (hcW : L.length ≤ cW) (hcm : cW ≤ maxLen)
    (iW : Ints W aW L) (iA : Ints W aA L) (iB : Ints W aB (L.take n))
    (hc : W.cell? ⟨S, 0, none⟩ = some (.int .u64 x) ∧ W.cell? ⟨S, 1, none⟩ = some (.int .u64 y) ∧ W.cell? ⟨gA, 0, none⟩ = some (.slice aA L.length cA) ∧ W.cell? ⟨gB, 0, none⟩ = some (.slice aB m cB) ∧ W.cell? ⟨gN, 0, none⟩ = some (.int .i64 n))
    (ds : List Deferred) (Q : Exit → Act → World → Prop) (hQ : ∀ tm W2, tm.getD 4 undef = .bool true → Below W.heap.size W W2 → Q .normal ⟨tm, ds⟩ W2)
    (z0 z1 z3 z4 z8 z10 z11 z12 z13 z14 z15 z16 z17 z18 z19 z20 z21 z22 z23 z24 z25 z26 z27 z28 z29 z30 z31 z32 z33 z34 z35 z36 z37 z38 z39 z40 z41 z42 z43 z44 z45 z46 z47 z48 z49 z50 z51 z52 z53 z54 z55 z56 z57 z58 : Value) : Code.wp Tryd.prog goesTail Q ⟨#[z0, z1, .pointer (some ⟨S, 0, none⟩), z3, z4, .slice aW L.length cW, .pointer (some ⟨gA, 0, none⟩), .pointer (some ⟨gB, 0, none⟩), z8, .pointer (some ⟨gN, 0, none⟩), z10, z11, z12, z13, z14, z15, z16, z17, z18, z19, z20, z21, z22, z23, z24, z25, z26, z27, z28, z29, z30, z31, z32, z33, z34, z35, z36, z37, z38, z39, z40, z41, z42, z43, z44, z45, z46, z47, z48, z49, z50, z51, z52, z53, z54, z55, z56, z57, z58], ds⟩ W := by
  have hl : L.length ≤ 128 := by rw [← hL]; exact both_len x y
  have hm2 : m = min n L.length := by rw [← hm, List.length_take]
  have C1 := Lib.hid (list_any x y hx hy W.drew (hT.keep (bl_drew W)))
  have C2 : Hid (∀ W1 a c, Below W.heap.size W W1 → Ints W1 a L → Calls Tryd.prog 14 #[.slice a L.length c, .slice aW L.length cW] W1 fun e w' => e = .returned (.bool true) ∧ Below W1.heap.size W1 w') := fun W1 a c hb hi => lists_any true L L ⟨fun _ => rfl, fun _ => rfl⟩ a aW c cW W1 hi (ints_keep iW hb) (by omega) (by omega)
  have C3 : Hid (∀ W1, Below W.heap.size W W1 → Calls Tryd.prog 14 #[.slice aA L.length cA, .slice aW L.length cW] W1 fun e w' => e = .returned (.bool true) ∧ Below W1.heap.size W1 w') := fun W1 hb => lists_any true L L ⟨fun _ => rfl, fun _ => rfl⟩ aA aW cA cW W1 (ints_keep iA hb) (ints_keep iW hb) (by omega) (by omega)
  have C4 : Hid (∀ W1, Below W.heap.size W W1 → Calls Tryd.prog 14 #[.slice aB m cB, .slice aW m cW] W1 fun e w' => e = .returned (.bool true) ∧ Below W1.heap.size W1 w') := fun W1 hb => by
    have := lists_any true (L.take n) (L.take n) ⟨fun _ => rfl, fun _ => rfl⟩ aB aW cB cW W1 (ints_keep iB hb) (ints_take (ints_keep iW hb) n) (by omega) (by omega)
    rwa [hm] at this
  have K0 := Lib.hid hc
  have BW := Lib.hid (Below.refl W.heap.size W)
  have HL := Lib.hid hL
  clear iW iA iB hT hm hc hL
  unfold maxLen at hcm
  unfold goesTail
  conv => arg 2; whnf
  rcases hf with ⟨rfl, rfl⟩ | ⟨gW, rfl⟩
  · obtain rfl : L = [] := List.eq_nil_of_length_eq_zero (by omega)
    obtain rfl : m = 0 := by rw [hm2]; simp
    simp only [List.length_nil] at C2 C3 C4 K0 ⊢
    clear hm2 hl hcW hcm
    rcases Nat.eq_zero_or_pos n with rfl | hnp
    · skip
      go_wp2
      go_region_held3 (fun w' => w'.cell? ⟨S, 0, none⟩ = some (.int .u64 x) ∧ w'.cell? ⟨S, 1, none⟩ = some (.int .u64 y) ∧ w'.cell? ⟨gA, 0, none⟩ = some (.slice aA 0 cA) ∧ w'.cell? ⟨gB, 0, none⟩ = some (.slice aB 0 cB) ∧ w'.cell? ⟨gN, 0, none⟩ = some (.int .i64 0)) (first | exact K0.out | exact K1.out | exact K2.out | exact K3.out | exact K4.out)
        (first
          | (go_at_call 15; (with_reducible refine C1.out.mono ?_); rintro e w1 ⟨v, rfl, hr1, -, b1⟩; have b1 := bl_undr b1; rw [HL.out] at hr1; obtain ⟨a1, c1, rfl, i1, -⟩ := own_reads hr1; have B1 := Lib.hid (b1); have K1 := Lib.hid (five_keep K0.out B1.out); have D2 := Lib.hid (C2.out w1 a1 c1 B1.out i1); clear hr1 i1 b1)
          | (go_at_call 14; (with_reducible refine D2.out.mono ?_); rintro e w2 ⟨rfl, b2⟩; have B2 := Lib.hid (bl_tr B1.out b2); have K2 := Lib.hid (five_keep K0.out B2.out); have D3 := Lib.hid (C3.out w2 B2.out); clear b2)
          | (go_at_call 14; (with_reducible refine D3.out.mono ?_); rintro e w3 ⟨rfl, b3⟩; have B3 := Lib.hid (bl_tr B2.out b3); have K3 := Lib.hid (five_keep K0.out B3.out); have D4 := Lib.hid (C4.out w3 B3.out); clear b3)
          | (go_at_call 14; (with_reducible refine D4.out.mono ?_); rintro e w4 ⟨rfl, b4⟩; have B4 := Lib.hid (bl_tr B3.out b4); have K4 := Lib.hid (five_keep K0.out B4.out); clear b4))
      skip
      all_goals exact hQ _ _ rfl B4.out
    · have q5 : ¬ (n : Int) ≤ 0 := by omega
      have q6 : (0 : Int) < (n : Int) := by omega
      have q7 : ¬ n = 0 := by omega
      go_wp2
      go_region_held3 (fun w' => w'.cell? ⟨S, 0, none⟩ = some (.int .u64 x) ∧ w'.cell? ⟨S, 1, none⟩ = some (.int .u64 y) ∧ w'.cell? ⟨gA, 0, none⟩ = some (.slice aA 0 cA) ∧ w'.cell? ⟨gB, 0, none⟩ = some (.slice aB 0 cB) ∧ w'.cell? ⟨gN, 0, none⟩ = some (.int .i64 n)) (first | exact K0.out | exact K1.out | exact K2.out | exact K3.out | exact K4.out)
        (first
          | (go_at_call 15; (with_reducible refine C1.out.mono ?_); rintro e w1 ⟨v, rfl, hr1, -, b1⟩; have b1 := bl_undr b1; rw [HL.out] at hr1; obtain ⟨a1, c1, rfl, i1, -⟩ := own_reads hr1; have B1 := Lib.hid (b1); have K1 := Lib.hid (five_keep K0.out B1.out); have D2 := Lib.hid (C2.out w1 a1 c1 B1.out i1); clear hr1 i1 b1)
          | (go_at_call 14; (with_reducible refine D2.out.mono ?_); rintro e w2 ⟨rfl, b2⟩; have B2 := Lib.hid (bl_tr B1.out b2); have K2 := Lib.hid (five_keep K0.out B2.out); have D3 := Lib.hid (C3.out w2 B2.out); clear b2)
          | (go_at_call 14; (with_reducible refine D3.out.mono ?_); rintro e w3 ⟨rfl, b3⟩; have B3 := Lib.hid (bl_tr B2.out b3); have K3 := Lib.hid (five_keep K0.out B3.out); have D4 := Lib.hid (C4.out w3 B3.out); clear b3)
          | (go_at_call 14; (with_reducible refine D4.out.mono ?_); rintro e w4 ⟨rfl, b4⟩; have B4 := Lib.hid (bl_tr B3.out b4); have K4 := Lib.hid (five_keep K0.out B4.out); clear b4))
      skip
      all_goals exact hQ _ _ rfl B4.out
  · by_cases hnl : n ≤ L.length
    · obtain rfl : m = n := by omega
      clear hm2
      have q1 : (0 : Int) ≤ (m : Int) := by omega
      have q2 : (m : Int) ≤ (cW : Int) := by omega
      have q3 : (m : Int) ≤ (L.length : Int) := by omega
      have q4 : m ≤ cW := by omega
      have q5 : ¬ L.length < m := by omega
      have q6 : ¬ cW < m := by omega
      go_wp2
      go_region_held3 (fun w' => w'.cell? ⟨S, 0, none⟩ = some (.int .u64 x) ∧ w'.cell? ⟨S, 1, none⟩ = some (.int .u64 y) ∧ w'.cell? ⟨gA, 0, none⟩ = some (.slice aA L.length cA) ∧ w'.cell? ⟨gB, 0, none⟩ = some (.slice aB m cB) ∧ w'.cell? ⟨gN, 0, none⟩ = some (.int .i64 m)) (first | exact K0.out | exact K1.out | exact K2.out | exact K3.out | exact K4.out)
        (first
          | (go_at_call 15; (with_reducible refine C1.out.mono ?_); rintro e w1 ⟨v, rfl, hr1, -, b1⟩; have b1 := bl_undr b1; rw [HL.out] at hr1; obtain ⟨a1, c1, rfl, i1, -⟩ := own_reads hr1; have B1 := Lib.hid (b1); have K1 := Lib.hid (five_keep K0.out B1.out); have D2 := Lib.hid (C2.out w1 a1 c1 B1.out i1); clear hr1 i1 b1)
          | (go_at_call 14; (with_reducible refine D2.out.mono ?_); rintro e w2 ⟨rfl, b2⟩; have B2 := Lib.hid (bl_tr B1.out b2); have K2 := Lib.hid (five_keep K0.out B2.out); have D3 := Lib.hid (C3.out w2 B2.out); clear b2)
          | (go_at_call 14; (with_reducible refine D3.out.mono ?_); rintro e w3 ⟨rfl, b3⟩; have B3 := Lib.hid (bl_tr B2.out b3); have K3 := Lib.hid (five_keep K0.out B3.out); have D4 := Lib.hid (C4.out w3 B3.out); clear b3)
          | (go_at_call 14; (with_reducible refine D4.out.mono ?_); rintro e w4 ⟨rfl, b4⟩; have B4 := Lib.hid (bl_tr B3.out b4); have K4 := Lib.hid (five_keep K0.out B4.out); clear b4))
      skip
      all_goals exact hQ _ _ rfl B4.out
    · obtain rfl : m = L.length := by omega
      clear hm2
      have q1 : (0 : Int) ≤ (L.length : Int) := by omega
      have q2 : (L.length : Int) ≤ (cW : Int) := by omega
      have q3 : (L.length : Int) < (n : Int) := by omega
      have q5 : L.length < n := by omega
      have q6 : ¬ cW < L.length := by omega
      go_wp2
      go_region_held3 (fun w' => w'.cell? ⟨S, 0, none⟩ = some (.int .u64 x) ∧ w'.cell? ⟨S, 1, none⟩ = some (.int .u64 y) ∧ w'.cell? ⟨gA, 0, none⟩ = some (.slice aA L.length cA) ∧ w'.cell? ⟨gB, 0, none⟩ = some (.slice aB L.length cB) ∧ w'.cell? ⟨gN, 0, none⟩ = some (.int .i64 n)) (first | exact K0.out | exact K1.out | exact K2.out | exact K3.out | exact K4.out)
        (first
          | (go_at_call 15; (with_reducible refine C1.out.mono ?_); rintro e w1 ⟨v, rfl, hr1, -, b1⟩; have b1 := bl_undr b1; rw [HL.out] at hr1; obtain ⟨a1, c1, rfl, i1, -⟩ := own_reads hr1; have B1 := Lib.hid (b1); have K1 := Lib.hid (five_keep K0.out B1.out); have D2 := Lib.hid (C2.out w1 a1 c1 B1.out i1); clear hr1 i1 b1)
          | (go_at_call 14; (with_reducible refine D2.out.mono ?_); rintro e w2 ⟨rfl, b2⟩; have B2 := Lib.hid (bl_tr B1.out b2); have K2 := Lib.hid (five_keep K0.out B2.out); have D3 := Lib.hid (C3.out w2 B2.out); clear b2)
          | (go_at_call 14; (with_reducible refine D3.out.mono ?_); rintro e w3 ⟨rfl, b3⟩; have B3 := Lib.hid (bl_tr B2.out b3); have K3 := Lib.hid (five_keep K0.out B3.out); have D4 := Lib.hid (C4.out w3 B3.out); clear b3)
          | (go_at_call 14; (with_reducible refine D4.out.mono ?_); rintro e w4 ⟨rfl, b4⟩; have B4 := Lib.hid (bl_tr B3.out b4); have K4 := Lib.hid (five_keep K0.out B4.out); clear b4))
      skip
      all_goals exact hQ _ _ rfl B4.out
/-- the same, told by rows and boxes -/
theorem goes_fin (x y : Nat) (hx : x < 18446744073709551616) (hy : y < 18446744073709551616) (n S gA gB gN B1 B2 B3 : Nat) (hn : n < 130) (W : World) (hT : T64 W) (vW vA vB : Value)
    (rW : W.ownsRow B1 3 1 vW (both x y).length ((both x y).map (Value.int .i64))) (rA : W.ownsRow B2 3 1 vA (both x y).length ((both x y).map (Value.int .i64))) (rB : W.ownsRow B3 3 1 vB ((both x y).take n).length (((both x y).take n).map (Value.int .i64)))
    (hS : W.heap[S]? = some (.cells #[.int .u64 x, .int .u64 y] 24 (0, 0))) (hA : W.cell? ⟨gA, 0, none⟩ = some vA) (hB : W.cell? ⟨gB, 0, none⟩ = some vB) (hN : W.cell? ⟨gN, 0, none⟩ = some (.int .i64 n))
    (ds : List Deferred) (Q : Exit → Act → World → Prop) (hQ : ∀ tm W2, tm.getD 4 undef = .bool true → Below W.heap.size W W2 → Q .normal ⟨tm, ds⟩ W2)
    (z0 z1 z3 z4 z8 z10 z11 z12 z13 z14 z15 z16 z17 z18 z19 z20 z21 z22 z23 z24 z25 z26 z27 z28 z29 z30 z31 z32 z33 z34 z35 z36 z37 z38 z39 z40 z41 z42 z43 z44 z45 z46 z47 z48 z49 z50 z51 z52 z53 z54 z55 z56 z57 z58 : Value) : Code.wp Tryd.prog goesTail Q ⟨#[z0, z1, .pointer (some ⟨S, 0, none⟩), z3, z4, vW, .pointer (some ⟨gA, 0, none⟩), .pointer (some ⟨gB, 0, none⟩), z8, .pointer (some ⟨gN, 0, none⟩), z10, z11, z12, z13, z14, z15, z16, z17, z18, z19, z20, z21, z22, z23, z24, z25, z26, z27, z28, z29, z30, z31, z32, z33, z34, z35, z36, z37, z38, z39, z40, z41, z42, z43, z44, z45, z46, z47, z48, z49, z50, z51, z52, z53, z54, z55, z56, z57, z58], ds⟩ W := by
  obtain ⟨c0, c1⟩ := two_keep (Below.refl _ _) hS
  obtain ⟨aA, cA, rfl, iA, -⟩ := own_reads rA
  obtain ⟨aB, cB, rfl, iB, -⟩ := own_reads rB
  obtain ⟨aW, cW, rfl, iW, lW, mW, nW, zW⟩ := own_reads rW
  refine goes_core x y hx hy n _ S gA gB gN _ rfl rfl hn aW aA aB cW cA cB W hT ?_ lW mW iW iA iB ⟨c0, c1, hA, hB, hN⟩ ds Q hQ _ _ _ _ _ _ _ _ _ _ _ _ _ _ _ _ _ _ _ _ _ _ _ _ _ _ _ _ _ _ _ _ _ _ _ _ _ _ _ _ _ _ _ _ _ _ _ _ _ _ _ _ _ _
  rcases own_case rW with ⟨h, -⟩ | ⟨g, c, h, -⟩
  · injection h with h1 h2 h3
    exact Or.inl ⟨h1, h3⟩
  · injection h with h1 h2 h3
    exact Or.inr ⟨g, h1⟩
theorem upTo_both (x y : Nat) : upTo (mem x y) 128 = both x y := by rw [both_nums]; unfold upTo nums; rfl
theorem below_but {X W : World} {B g : Nat} (h : X.grownBy W (some g)) (hB : B ≤ g) (hX : B ≤ X.heap.size) : Below B X W :=
  ⟨h.os, h.tape, h.output, h.size, fun i hi => h.block i (by omega) (fun e => by injection e with e; omega)⟩
end Go.Proofs.YtnenpgndghdheaaDoor
