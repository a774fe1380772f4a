/-
  The walk of kurganlaw06.ParseUppers.
-/
import Derived.Test.YtjlaankgfpjeeaaTxU
import Derived.Test.YtjlaankgfpjeeaaInKc
import Derived.Test.YtjlaankgfpjeeaaInMirror
import Derived.Test.YtjlaankgfpjeeaaInSame2
import Derived.Deep.Cut
import Derived.Deep.RegionHeld3
namespace Go.Proofs.Ytjlaankgfpjeeaa
open Go.RowKit
open ip (chk chk_zero Src RSrc Ints Rws IntsO RwsO)
set_option linter.unusedVariables false
/-- a tour in a box, its table of numbers M -/
structure UM (bx gc : Nat) (gs cj : Nat → Nat) (n : Nat) (K C : Int) (v3 v4 : Value) (cc : Nat) (Mx : Nat → Nat → Int) (W : World) : Prop where
  box : W.heap[bx]? = some (.cells #[.int .i64 K, .int .i64 n, .int .i64 C, v3, v4, .slice (some ⟨gc, 0, none⟩) n cc] 25 (0, 0))
  top : ∃ cur : Array Value, W.heap[gc]? = some (.cells cur 22 (0, 0)) ∧ ∀ j, j < n → cur[j]? = some (.slice (some ⟨gs j, 0, none⟩) n (cj j))
  rows : ∀ a, a < n → ∃ cur : Array Value, W.heap[gs a]? = some (.cells cur 3 (0, 0)) ∧ ∀ b, b < n → cur[b]? = some (.int .i64 (Mx a b))
  inj : ∀ a b, a < b → b < n → gs a ≠ gs b
  n24 : n ≤ 24
theorem UM.keep {bx gc : Nat} {gs cj : Nat → Nat} {n : Nat} {K C : Int} {v3 v4 : Value} {cc : Nat} {Mx : Nat → Nat → Int} {W W1 : World} (h : UM bx gc gs cj n K C v3 v4 cc Mx W) (hb : Below W.heap.size W W1) : UM bx gc gs cj n K C v3 v4 cc Mx W1 :=
  { box := (hb.block _ (lt_blk h.box)).trans h.box
    top := by obtain ⟨cur, h1, h2⟩ := h.top; exact ⟨cur, (hb.block _ (lt_blk h1)).trans h1, h2⟩
    rows := fun a ha => by obtain ⟨cur, h1, h2⟩ := h.rows a ha; exact ⟨cur, (hb.block _ (lt_blk h1)).trans h1, h2⟩
    inj := h.inj, n24 := h.n24 }
theorem UM.congr {bx gc : Nat} {gs cj : Nat → Nat} {n : Nat} {K C : Int} {v3 v4 : Value} {cc : Nat} {Mx Mx' : Nat → Nat → Int} {W : World} (h : UM bx gc gs cj n K C v3 v4 cc Mx W) (he : ∀ a b, a < n → b < n → Mx a b = Mx' a b) : UM bx gc gs cj n K C v3 v4 cc Mx' W :=
  { box := h.box, top := h.top, inj := h.inj, n24 := h.n24
    rows := fun a ha => by obtain ⟨cur, h1, h2⟩ := h.rows a ha; exact ⟨cur, h1, fun b hb => by rw [h2 b hb, he a b ha hb]⟩ }
theorem UM.ne {bx gc : Nat} {gs cj : Nat → Nat} {n : Nat} {K C : Int} {v3 v4 : Value} {cc : Nat} {Mx : Nat → Nat → Int} {W : World} (h : UM bx gc gs cj n K C v3 v4 cc Mx W) {a : Nat} (ha : a < n) : gs a ≠ bx ∧ gs a ≠ gc := by
  obtain ⟨cur, h1, _⟩ := h.rows a ha
  obtain ⟨cur2, h2, _⟩ := h.top
  have h3 := h.box
  refine ⟨?_, ?_⟩
  · intro e; rw [e, h3] at h1; injection h1 with h1; injection h1 with _ h1; exact absurd h1 (by decide)
  · intro e; rw [e, h2] at h1; injection h1 with h1; injection h1 with _ h1; exact absurd h1 (by decide)
theorem UM.set {bx gc : Nat} {gs cj : Nat → Nat} {n : Nat} {K C : Int} {v3 v4 : Value} {cc : Nat} {Mx : Nat → Nat → Int} {W : World} (h : UM bx gc gs cj n K C v3 v4 cc Mx W) {a b : Nat} (ha : a < n) (hb : b < n) (x : Int) : UM bx gc gs cj n K C v3 v4 cc (fun i j => if i = a ∧ j = b then x else Mx i j) (W.setCell ⟨gs a, b, none⟩ (.int .i64 x)) := by
  obtain ⟨n1, n2⟩ := h.ne ha
  have ot : ∀ k, k ≠ gs a → (W.setCell ⟨gs a, b, none⟩ (.int .i64 x)).heap[k]? = W.heap[k]? := fun k hk => heap_setCell_other W ⟨gs a, b, none⟩ k _ hk
  refine { box := (ot _ (Ne.symm n1)).trans h.box, top := ?_, inj := h.inj, n24 := h.n24, rows := fun i hi => ?_ }
  · obtain ⟨cur, h1, h2⟩ := h.top; exact ⟨cur, (ot _ (Ne.symm n2)).trans h1, h2⟩
  · obtain ⟨cur, h1, h2⟩ := h.rows i hi
    by_cases e : i = a
    · subst e
      refine ⟨_, heap_setCell_same W (gs i) b _ 3 _ h1, fun j hj => ?_⟩
      have hz : b < cur.size := (Array.getElem?_eq_some_iff.1 (h2 b hb)).1
      by_cases e2 : j = b
      · subst e2; rw [Array.getElem?_setIfInBounds_self_of_lt hz, if_pos ⟨rfl, rfl⟩]
      · rw [Array.getElem?_setIfInBounds_ne (fun c => e2 c.symm), if_neg (fun c => e2 c.2)]; exact h2 j hj
    · have hne : gs i ≠ gs a := by
        rcases Nat.lt_or_ge i a with c | c
        · exact h.inj i a c ha
        · exact Ne.symm (h.inj a i (by omega) hi)
      exact ⟨cur, (ot _ hne).trans h1, fun j hj => by rw [if_neg (fun c => e c.1)]; exact h2 j hj⟩
theorem UM.cells {bx gc : Nat} {gs cj : Nat → Nat} {n : Nat} {K C : Int} {v3 v4 : Value} {cc : Nat} {Mx : Nat → Nat → Int} {W : World} (h : UM bx gc gs cj n K C v3 v4 cc Mx W) :
    (∀ j, j < n → W.cell? ⟨gc, j, none⟩ = some (.slice (some ⟨gs j, 0, none⟩) n (cj j))) ∧ (∀ a b, a < n → b < n → W.cell? ⟨gs a, b, none⟩ = some (.int .i64 (Mx a b)) ∧ W.frozen? ⟨gs a, b, none⟩ = false) := by
  refine ⟨fun j hj => ?_, fun a b ha hb => ?_⟩
  · obtain ⟨cur, h1, h2⟩ := h.top
    rw [cell_of_row _ _ _ _ _ _ h1]; exact h2 j hj
  · obtain ⟨cur, h1, h2⟩ := h.rows a ha
    exact ⟨by rw [cell_of_row _ _ _ _ _ _ h1]; exact h2 b hb, by simp [World.frozen?, h1]⟩
theorem UM.rws {bx gc : Nat} {gs cj : Nat → Nat} {n : Nat} {K C : Int} {v3 v4 : Value} {cc : Nat} {Mx : Nat → Nat → Int} {W : World} (h : UM bx gc gs cj n K C v3 v4 cc Mx W) : Rws W (some ⟨gc, 0, none⟩) (tab n Mx) := fun j hj => by
  rw [tab_len] at hj
  rw [tab_row hj]
  have l : ((List.range n).map fun b => Mx j b).length = n := by simp
  rw [l]
  obtain ⟨cur, h1, h2⟩ := h.top
  refine ⟨gc, 0, some ⟨gs j, 0, none⟩, cj j, rfl, lt_blk h1, ?_, fun b hb => ?_, by have := h.n24; omega⟩
  · rw [Nat.zero_add]; exact h.cells.1 j hj
  · rw [l] at hb
    obtain ⟨cu, h3, h4⟩ := h.rows j hj
    refine ⟨gs j, 0, rfl, lt_blk h3, ?_⟩
    rw [Nat.zero_add, (h.cells.2 j b hj hb).1, map_get0 hb]
/-- the copy, stored into its box, is such a tour -/
theorem um_start {w w1 X : World} {b g1 g2 k1 k2 cc n B : Nat} {ca : Option Addr} {K C : Int} {cl : List (List Int)} {v0 v1 v2 v3 v4 v5 : Value} (hF : cl.length = n ∧ (∀ a, a < n → (cl[a]?.getD []).length = n) ∧ 1 ≤ n ∧ n ≤ 24)
    (q : w1.heap[b]? = some (.cells #[v0, v1, v2, v3, v4, v5] 25 (0, 0))) (rw : ip.kc.RwsC B w1 ca cc cl)
    (hX : X = (((((w1.setCell ⟨b, 0, none⟩ (.int .i64 K)).setCell ⟨b, 1, none⟩ (.int .i64 n)).setCell ⟨b, 2, none⟩ (.int .i64 C)).setCell ⟨b, 3, none⟩ (.slice (some ⟨g1, 0, none⟩) 0 k1)).setCell ⟨b, 4, none⟩ (.slice (some ⟨g2, 0, none⟩) 0 k2)).setCell ⟨b, 5, none⟩ (.slice ca cl.length cc)) :
    ∃ (gc : Nat) (gs cj : Nat → Nat), ca = some ⟨gc, 0, none⟩ ∧ UM b gc gs cj n K C (.slice (some ⟨g1, 0, none⟩) 0 k1) (.slice (some ⟨g2, 0, none⟩) 0 k2) cc (fun i j => (cl[i]?.getD [])[j]?.getD 0) X ∧ ∀ a, a < n → B ≤ gs a := by
  subst hX
  obtain ⟨hl, hr, h1, h24⟩ := hF
  have XO : ∀ k, k ≠ b → _ = _ := fun k hk => ip.six_other (w := w1) hk (.int .i64 K) (.int .i64 n) (.int .i64 C) (.slice (some ⟨g1, 0, none⟩) 0 k1) (.slice (some ⟨g2, 0, none⟩) 0 k2) (.slice ca cl.length cc)
  have BX := ip.six q (.int .i64 K) (.int .i64 n) (.int .i64 C) (.slice (some ⟨g1, 0, none⟩) 0 k1) (.slice (some ⟨g2, 0, none⟩) 0 k2) (.slice ca cl.length cc)
  generalize ((((((w1.setCell ⟨b, 0, none⟩ (.int .i64 K)).setCell ⟨b, 1, none⟩ (.int .i64 n)).setCell ⟨b, 2, none⟩ (.int .i64 C)).setCell ⟨b, 3, none⟩ (.slice (some ⟨g1, 0, none⟩) 0 k1)).setCell ⟨b, 4, none⟩ (.slice (some ⟨g2, 0, none⟩) 0 k2)).setCell ⟨b, 5, none⟩ (.slice ca cl.length cc)) = X at *
  obtain ⟨⟨r1, r2, r3, r4⟩, r5⟩ := rw
  obtain ⟨gc, cur, g0, c0, ea, eh, ec, eio, _, _⟩ := r5 0 (by omega)
  subst ea
  have ex : ∀ j, ∃ p : Nat × Nat, j < n → cur[j]? = some (.slice (some ⟨p.1, 0, none⟩) n p.2) ∧ ip.kc.IO B w1 p.1 p.2 (cl[j]?.getD []) ∧ B ≤ p.1 := fun j => by
    by_cases hj : j < n
    · obtain ⟨gc', cur', g', c', ea', eh', ec', eio', _, eb'⟩ := r5 j (by omega)
      injection ea' with ea'; injection ea' with ea' _ _; subst ea'
      rw [eh] at eh'; injection eh' with eh'; injection eh' with eh' _ _; subst eh'
      rw [hr j hj] at ec'
      exact ⟨(g', c'), fun _ => ⟨ec', eio', eb'⟩⟩
    · exact ⟨(0, 0), fun h => absurd h hj⟩
  obtain ⟨ps, hps⟩ := Classical.axiomOfChoice ex
  have gcb : gc ≠ b := fun e => by
    rw [e, q] at eh; injection eh with eh; injection eh with _ eh; exact absurd eh (by decide)
  refine ⟨gc, fun j => (ps j).1, fun j => (ps j).2, rfl, { box := by rw [hl] at BX; exact BX, top := ⟨cur, (XO gc gcb).trans eh, fun j hj => (hps j hj).1⟩, rows := fun a ha => ?_, inj := fun i j hij hj => ?_, n24 := h24 }, fun a ha => (hps a ha).2.2⟩
  · obtain ⟨⟨cu, h3, h4⟩, _⟩ := (hps a ha).2.1
    have hne : (ps a).1 ≠ b := fun e => by
      rw [e, q] at h3; injection h3 with h3; injection h3 with _ h3; exact absurd h3 (by decide)
    refine ⟨cu, (XO _ hne).trans h3, fun j hj => ?_⟩
    rw [h4 j (by rw [hr a ha]; exact hj)]
  · exact r4 i j gc cur _ _ _ _ _ _ hij (by omega) rfl eh (hps i (by omega)).1 (hps j hj).1
end Go.Proofs.Ytjlaankgfpjeeaa
