/-
  What the walk of kurganlaw08.ValueTurns needs: copies as sources, a tour's table in memory, the list that came in.
-/
import Derived.Test.YtfpffggeehmedaaVm
import Derived.Test.YtfpffggeehmedaaKc
import Derived.Test.YtfpffggeehmedaaVals
import Derived.Test.YtfpffggeehmedaaPlainsW
import Derived.Deep.Cut
import Derived.Deep.CutRange
import Derived.Deep.RegionHeld3
import Derived.Maps.AppendAt
import Derived.Deep.AppendLies
namespace Go.Proofs.Ytfpffggeehmedaa
open Go.RowKit
open kc (IO RwsC)
set_option linter.unusedVariables false
def Arg (W : World) (xa : Option Addr) (xn xc : Nat) (x : List Int) : Prop :=
  (xa = none ∧ xn = 0 ∧ xc = 0 ∧ x = []) ∨ (∃ ad, xa = some ad ∧ xn = 0 ∧ xc ≤ 9223372036854775807 ∧ x = []) ∨
  ∃ b o, xa = some ⟨b, o, none⟩ ∧ xn ≤ xc ∧ xc ≤ 9223372036854775807 ∧ b < W.heap.size ∧ (∀ j, j < x.length → W.cell? ⟨b, o + j, none⟩ = some (.int .i64 (x[j]?.getD 0))) ∧ ((xn ≤ 70 ∧ x.length = xn) ∨ (70 < xn ∧ x.length = 70))
theorem arg_of {W : World} {xa : Option Addr} {xn xc : Nat} {x : List Int} (h : Src W xa xn xc x) : Arg W xa xn xc x := by
  obtain ⟨s1, s2, s3, s4⟩ := h
  rcases s4 with ⟨rfl, s4⟩ | ⟨b, o, rfl, hlt, hc⟩
  · have hx : x = [] := List.eq_nil_of_length_eq_zero (by omega)
    cases xa with
    | none => exact Or.inl ⟨rfl, rfl, s4 rfl, hx⟩
    | some ad => exact Or.inr (Or.inl ⟨ad, rfl, rfl, s3, hx⟩)
  · exact Or.inr (Or.inr ⟨b, o, rfl, s2, s3, hlt, hc, by omega⟩)
theorem app_src {X : World} {b o : Nat} {l : List Int} (hb : b < X.heap.size) (hc : ∀ j, j < l.length → X.cell? ⟨b, o + j, none⟩ = some (.int .i64 (l[j]?.getD 0))) : ∀ j u, (l.map (Value.int .i64))[j]? = some u → (X.alloc (.cells #[] 3)).cell? ((⟨b, o, none⟩ : Addr).add j) = some u := fun j u hj => by
  rw [List.getElem?_map] at hj
  have hlt : j < l.length := by
    rcases Nat.lt_or_ge j l.length with h | h
    · exact h
    · rw [List.getElem?_eq_none h] at hj; cases hj
  have h := (((Below.refl _ X).alloc (Nat.le_refl _) (.cells #[] 3)).cell (p := ⟨b, o + j, none⟩) hb).trans (hc j hlt)
  rw [List.getElem?_eq_getElem hlt] at hj h
  simp at hj
  rw [← hj]
  simp only [Option.getD_some] at h
  have e : (⟨b, o, none⟩ : Addr).add j = ⟨b, o + j, none⟩ := by
    unfold Addr.add
    split <;> simp_all
  rw [e]
  exact h
theorem nil_own (X : World) : IntsO (X.alloc (.cells #[] 3)) X.heap.size [] := ⟨#[], heap_alloc_new X _, fun j hj => absurd hj (by simp)⟩
theorem ints_src {g cap : Nat} {l : List Int} {X : World} (h : IntsO X g l) (hc : l.length ≤ cap) (hm : cap ≤ 9223372036854775807) (hl : l.length ≤ 70) : Src X (some ⟨g, 0, none⟩) l.length cap l := by
  refine ⟨by omega, hc, hm, .inr ⟨g, 0, rfl, h.lt, fun j hj => ?_⟩⟩
  obtain ⟨g1, o1, e, _, m⟩ := h.ints j hj
  injection e with e
  injection e with e1 e2
  subst e1 e2
  exact m
theorem io_src {B g k : Nat} {l : List Int} {X : World} (h : IO B X g k l) (hl : l.length ≤ 70) : Src X (some ⟨g, 0, none⟩) l.length k l := ints_src h.1 h.2.1 h.2.2.1 hl
theorem rwsC_other {B : Nat} {W W1 : World} {a : Option Addr} {c : Nat} {l : List (List Int)} {b : Nat} {cs : Array Value} (h : RwsC B W a c l) (hb : W.heap[b]? = some (.cells cs 25 (0, 0))) (he : ∀ k, k ≠ b → W1.heap[k]? = W.heap[k]?) : RwsC B W1 a c l := ⟨⟨h.1.1, h.1.2.1, h.1.2.2.1, fun i j g cur gi ni ci gj nj cj hij hj ea eh e1 e2 => by
  obtain ⟨g0, cur0, g', cj0, f1, f2, f3, f4, f5⟩ := h.2 j hj
  rw [ea] at f1
  injection f1 with f1
  injection f1 with f1 _ _
  subst f1
  exact h.1.2.2.2 i j g cur gi ni ci gj nj cj hij hj ea ((he g (blk_ne f2 hb (by decide))).symm.trans eh) e1 e2⟩, fun j hj => by
  obtain ⟨g, cur, g', cj, e1, e2, e3, e4, e5⟩ := h.2 j hj
  exact ⟨g, cur, g', cj, e1, (he g (blk_ne e2 hb (by decide))).trans e2, e3, e4.same (he g' (e4.ne hb (by decide))), e5⟩⟩
theorem rsrc_of {B : Nat} {W : World} {a : Option Addr} {c : Nat} {l : List (List Int)} (h : RwsC B W a c l) (hl : l.length ≤ 30) (hr : ∀ j, j < l.length → (l[j]?.getD []).length ≤ 70) : RSrc W a l.length c l := by
  refine ⟨by omega, h.1.1, h.1.2.1, ?_⟩
  by_cases h0 : l.length = 0
  · exact .inl ⟨h0, h.1.2.2.1.1⟩
  · obtain ⟨g, cur, g', cj, e1, e2, e3, e4, e5⟩ := h.2 0 (by omega)
    refine .inr ⟨g, 0, e1, lt_hp e2, fun j hj => ?_⟩
    obtain ⟨g1, cur1, g1', cj1, f1, f2, f3, f4, f5⟩ := h.2 j hj
    rw [e1] at f1
    injection f1 with f1
    injection f1 with f1
    subst f1
    rw [e2] at f2
    injection f2 with f2
    injection f2 with f2
    subst f2
    exact ⟨_, _, _, by rw [Nat.zero_add, cell_of_row _ _ _ _ _ _ e2]; exact f3, io_src f4 (hr j hj)⟩
theorem rsrc_len {W : World} {a : Option Addr} {n c : Nat} {cl : List (List Int)} (h : RSrc W a n c cl) : cl.length ≤ 30 ∧ ∀ j, j < cl.length → (cl[j]?.getD []).length ≤ 70 := by
  obtain ⟨h1, h2, h3, h4⟩ := h
  refine ⟨by omega, fun j hj => ?_⟩
  rcases h4 with ⟨h4, _⟩ | ⟨b, o, _, _, h4⟩
  · omega
  · obtain ⟨aj, nj, cj, _, s⟩ := h4 j hj
    have := s.1
    omega
structure UM (bx gc : Nat) (gs cj : Nat → Nat) (n : Nat) (K C : Int) (v3 v4 : Value) (cc : Nat) (Mx : Nat → Nat → Int) (W : World) : Prop where
  box : W.heap[bx]? = some (.cells #[.int .i64 K, .int .i64 n, .int .i64 C, v3, v4, .slice (some ⟨gc, 0, none⟩) n cc] 25 (0, 0))
  top : ∃ cur : Array Value, W.heap[gc]? = some (.cells cur 22 (0, 0)) ∧ ∀ j, j < n → cur[j]? = some (.slice (some ⟨gs j, 0, none⟩) n (cj j))
  rows : ∀ a, a < n → ∃ cur : Array Value, W.heap[gs a]? = some (.cells cur 3 (0, 0)) ∧ ∀ b, b < n → cur[b]? = some (.int .i64 (Mx a b))
  inj : ∀ a b, a < b → b < n → gs a ≠ gs b
  n24 : n ≤ 24
theorem UM.keep {bx gc : Nat} {gs cj : Nat → Nat} {n : Nat} {K C : Int} {v3 v4 : Value} {cc : Nat} {Mx : Nat → Nat → Int} {W W1 : World} (h : UM bx gc gs cj n K C v3 v4 cc Mx W) (hb : Below W.heap.size W W1) : UM bx gc gs cj n K C v3 v4 cc Mx W1 :=
  { box := (hb.block _ (lt_hp h.box)).trans h.box
    top := by obtain ⟨cur, h1, h2⟩ := h.top; exact ⟨cur, (hb.block _ (lt_hp h1)).trans h1, h2⟩
    rows := fun a ha => by obtain ⟨cur, h1, h2⟩ := h.rows a ha; exact ⟨cur, (hb.block _ (lt_hp h1)).trans h1, h2⟩
    inj := h.inj, n24 := h.n24 }
theorem UM.congr {bx gc : Nat} {gs cj : Nat → Nat} {n : Nat} {K C : Int} {v3 v4 : Value} {cc : Nat} {Mx Mx' : Nat → Nat → Int} {W : World} (h : UM bx gc gs cj n K C v3 v4 cc Mx W) (he : ∀ a b, a < n → b < n → Mx a b = Mx' a b) : UM bx gc gs cj n K C v3 v4 cc Mx' W :=
  { box := h.box, top := h.top, inj := h.inj, n24 := h.n24
    rows := fun a ha => by obtain ⟨cur, h1, h2⟩ := h.rows a ha; exact ⟨cur, h1, fun b hb => by rw [h2 b hb, he a b ha hb]⟩ }
theorem UM.ne {bx gc : Nat} {gs cj : Nat → Nat} {n : Nat} {K C : Int} {v3 v4 : Value} {cc : Nat} {Mx : Nat → Nat → Int} {W : World} (h : UM bx gc gs cj n K C v3 v4 cc Mx W) {a : Nat} (ha : a < n) : gs a ≠ bx ∧ gs a ≠ gc := by
  obtain ⟨cur, h1, _⟩ := h.rows a ha
  obtain ⟨cur2, h2, _⟩ := h.top
  have h3 := h.box
  refine ⟨?_, ?_⟩
  · intro e; rw [e, h3] at h1; injection h1 with h1; injection h1 with _ h1; exact absurd h1 (by decide)
  · intro e; rw [e, h2] at h1; injection h1 with h1; injection h1 with _ h1; exact absurd h1 (by decide)
theorem UM.set {bx gc : Nat} {gs cj : Nat → Nat} {n : Nat} {K C : Int} {v3 v4 : Value} {cc : Nat} {Mx : Nat → Nat → Int} {W : World} (h : UM bx gc gs cj n K C v3 v4 cc Mx W) {a b : Nat} (ha : a < n) (hb : b < n) (x : Int) : UM bx gc gs cj n K C v3 v4 cc (fun i j => if i = a ∧ j = b then x else Mx i j) (W.setCell ⟨gs a, b, none⟩ (.int .i64 x)) := by
  obtain ⟨n1, n2⟩ := h.ne ha
  have ot : ∀ k, k ≠ gs a → (W.setCell ⟨gs a, b, none⟩ (.int .i64 x)).heap[k]? = W.heap[k]? := fun k hk => heap_setCell_other W ⟨gs a, b, none⟩ k _ hk
  refine { box := (ot _ (Ne.symm n1)).trans h.box, top := ?_, inj := h.inj, n24 := h.n24, rows := fun i hi => ?_ }
  · obtain ⟨cur, h1, h2⟩ := h.top; exact ⟨cur, (ot _ (Ne.symm n2)).trans h1, h2⟩
  · obtain ⟨cur, h1, h2⟩ := h.rows i hi
    by_cases e : i = a
    · subst e
      refine ⟨_, heap_setCell_same W (gs i) b _ 3 _ h1, fun j hj => ?_⟩
      have hz : b < cur.size := (Array.getElem?_eq_some_iff.1 (h2 b hb)).1
      by_cases e2 : j = b
      · subst e2; rw [Array.getElem?_setIfInBounds_self_of_lt hz, if_pos ⟨rfl, rfl⟩]
      · rw [Array.getElem?_setIfInBounds_ne (fun c => e2 c.symm), if_neg (fun c => e2 c.2)]; exact h2 j hj
    · have hne : gs i ≠ gs a := by
        rcases Nat.lt_or_ge i a with c | c
        · exact h.inj i a c ha
        · exact Ne.symm (h.inj a i (by omega) hi)
      exact ⟨cur, (ot _ hne).trans h1, fun j hj => by rw [if_neg (fun c => e c.1)]; exact h2 j hj⟩
theorem UM.cells {bx gc : Nat} {gs cj : Nat → Nat} {n : Nat} {K C : Int} {v3 v4 : Value} {cc : Nat} {Mx : Nat → Nat → Int} {W : World} (h : UM bx gc gs cj n K C v3 v4 cc Mx W) :
    (∀ j, j < n → W.cell? ⟨gc, j, none⟩ = some (.slice (some ⟨gs j, 0, none⟩) n (cj j))) ∧ (∀ a b, a < n → b < n → W.cell? ⟨gs a, b, none⟩ = some (.int .i64 (Mx a b)) ∧ W.frozen? ⟨gs a, b, none⟩ = false) := by
  refine ⟨fun j hj => ?_, fun a b ha hb => ?_⟩
  · obtain ⟨cur, h1, h2⟩ := h.top
    rw [cell_of_row _ _ _ _ _ _ h1]; exact h2 j hj
  · obtain ⟨cur, h1, h2⟩ := h.rows a ha
    exact ⟨by rw [cell_of_row _ _ _ _ _ _ h1]; exact h2 b hb, by simp [World.frozen?, h1]⟩
theorem UM.rws {bx gc : Nat} {gs cj : Nat → Nat} {n : Nat} {K C : Int} {v3 v4 : Value} {cc : Nat} {Mx : Nat → Nat → Int} {W : World} (h : UM bx gc gs cj n K C v3 v4 cc Mx W) : Rws W (some ⟨gc, 0, none⟩) (tab n Mx) := fun j hj => by
  rw [tab_len] at hj
  rw [tab_row hj]
  have l : ((List.range n).map fun b => Mx j b).length = n := by simp
  rw [l]
  obtain ⟨cur, h1, h2⟩ := h.top
  refine ⟨gc, 0, some ⟨gs j, 0, none⟩, cj j, rfl, lt_hp h1, ?_, fun b hb => ?_, by have := h.n24; omega⟩
  · rw [Nat.zero_add]; exact h.cells.1 j hj
  · rw [l] at hb
    obtain ⟨cu, h3, h4⟩ := h.rows j hj
    refine ⟨gs j, 0, rfl, lt_hp h3, ?_⟩
    rw [Nat.zero_add, (h.cells.2 j b hj hb).1, map_get0 hb]
theorem um_start {wl vl : Nat} {w w1 X : World} {b g1 g2 k1 k2 cc n B : Nat} {ca : Option Addr} {K C : Int} {cl : List (List Int)} {v0 v1 v2 v3 v4 v5 : Value} (hF : cl.length = n ∧ (∀ a, a < n → (cl[a]?.getD []).length = n) ∧ 1 ≤ n ∧ n ≤ 24)
    (q : w1.heap[b]? = some (.cells #[v0, v1, v2, v3, v4, v5] 25 (0, 0))) (rw : kc.RwsC B w1 ca cc cl)
    (hX : X = (((((w1.setCell ⟨b, 0, none⟩ (.int .i64 K)).setCell ⟨b, 1, none⟩ (.int .i64 n)).setCell ⟨b, 2, none⟩ (.int .i64 C)).setCell ⟨b, 3, none⟩ (.slice (some ⟨g1, 0, none⟩) wl k1)).setCell ⟨b, 4, none⟩ (.slice (some ⟨g2, 0, none⟩) vl k2)).setCell ⟨b, 5, none⟩ (.slice ca cl.length cc)) :
    ∃ (gc : Nat) (gs cj : Nat → Nat), ca = some ⟨gc, 0, none⟩ ∧ UM b gc gs cj n K C (.slice (some ⟨g1, 0, none⟩) wl k1) (.slice (some ⟨g2, 0, none⟩) vl k2) cc (fun i j => (cl[i]?.getD [])[j]?.getD 0) X ∧ ∀ a, a < n → B ≤ gs a := by
  subst hX
  obtain ⟨hl, hr, h1, h24⟩ := hF
  have XO : ∀ k, k ≠ b → _ = _ := fun k hk => six_other (w := w1) hk (.int .i64 K) (.int .i64 n) (.int .i64 C) (.slice (some ⟨g1, 0, none⟩) wl k1) (.slice (some ⟨g2, 0, none⟩) vl k2) (.slice ca cl.length cc)
  have BX := six q (.int .i64 K) (.int .i64 n) (.int .i64 C) (.slice (some ⟨g1, 0, none⟩) wl k1) (.slice (some ⟨g2, 0, none⟩) vl k2) (.slice ca cl.length cc)
  generalize ((((((w1.setCell ⟨b, 0, none⟩ (.int .i64 K)).setCell ⟨b, 1, none⟩ (.int .i64 n)).setCell ⟨b, 2, none⟩ (.int .i64 C)).setCell ⟨b, 3, none⟩ (.slice (some ⟨g1, 0, none⟩) wl k1)).setCell ⟨b, 4, none⟩ (.slice (some ⟨g2, 0, none⟩) vl k2)).setCell ⟨b, 5, none⟩ (.slice ca cl.length cc)) = X at *
  obtain ⟨⟨r1, r2, r3, r4⟩, r5⟩ := rw
  obtain ⟨gc, cur, g0, c0, ea, eh, ec, eio, _, _⟩ := r5 0 (by omega)
  subst ea
  have ex : ∀ j, ∃ p : Nat × Nat, j < n → cur[j]? = some (.slice (some ⟨p.1, 0, none⟩) n p.2) ∧ kc.IO B w1 p.1 p.2 (cl[j]?.getD []) ∧ B ≤ p.1 := fun j => by
    by_cases hj : j < n
    · obtain ⟨gc', cur', g', c', ea', eh', ec', eio', _, eb'⟩ := r5 j (by omega)
      injection ea' with ea'; injection ea' with ea' _ _; subst ea'
      rw [eh] at eh'; injection eh' with eh'; injection eh' with eh' _ _; subst eh'
      rw [hr j hj] at ec'
      exact ⟨(g', c'), fun _ => ⟨ec', eio', eb'⟩⟩
    · exact ⟨(0, 0), fun h => absurd h hj⟩
  obtain ⟨ps, hps⟩ := Classical.axiomOfChoice ex
  have gcb : gc ≠ b := fun e => by
    rw [e, q] at eh; injection eh with eh; injection eh with _ eh; exact absurd eh (by decide)
  refine ⟨gc, fun j => (ps j).1, fun j => (ps j).2, rfl, { box := by rw [hl] at BX; exact BX, top := ⟨cur, (XO gc gcb).trans eh, fun j hj => (hps j hj).1⟩, rows := fun a ha => ?_, inj := fun i j hij hj => ?_, n24 := h24 }, fun a ha => (hps a ha).2.2⟩
  · obtain ⟨⟨cu, h3, h4⟩, _⟩ := (hps a ha).2.1
    have hne : (ps a).1 ≠ b := fun e => by
      rw [e, q] at h3; injection h3 with h3; injection h3 with _ h3; exact absurd h3 (by decide)
    refine ⟨cu, (XO _ hne).trans h3, fun j hj => ?_⟩
    rw [h4 j (by rw [hr a ha]; exact hj)]
  · exact r4 i j gc cur _ _ _ _ _ _ hij (by omega) rfl eh (hps i (by omega)).1 (hps j hj).1
/-- the problem's copy stored into its box -/
theorem store_tu {w w1 : World} {b g1 g2 k1 k2 cc : Nat} {ca : Option Addr} {K N C : Int} {wl vl : List Int} {cl : List (List Int)} {B0 B : Nat} {v0 v1 v2 v3 v4 v5 : Value}
    (hw : B0 ≤ b) (q : w1.heap[b]? = some (.cells #[v0, v1, v2, v3, v4, v5] 25 (0, 0))) (hb : Below B0 w w1) (i1 : IO B w1 g1 k1 wl) (i2 : IO B w1 g2 k2 vl) (rw : RwsC B w1 ca cc cl) (l1 : wl.length ≤ 1000) (l2 : vl.length ≤ 1000) (l3 : cl.length ≤ 1000)
    (X : World) (hX : X = (((((w1.setCell ⟨b, 0, none⟩ (.int .i64 K)).setCell ⟨b, 1, none⟩ (.int .i64 N)).setCell ⟨b, 2, none⟩ (.int .i64 C)).setCell ⟨b, 3, none⟩ (.slice (some ⟨g1, 0, none⟩) wl.length k1)).setCell ⟨b, 4, none⟩ (.slice (some ⟨g2, 0, none⟩) vl.length k2)).setCell ⟨b, 5, none⟩ (.slice ca cl.length cc)) :
    X.heap[b]? = some (.cells #[.int .i64 K, .int .i64 N, .int .i64 C, .slice (some ⟨g1, 0, none⟩) wl.length k1, .slice (some ⟨g2, 0, none⟩) vl.length k2, .slice ca cl.length cc] 25 (0, 0)) ∧ Prob X wl vl cl (some ⟨g1, 0, none⟩) (some ⟨g2, 0, none⟩) ca ∧ Below B0 w X ∧ IO B X g1 k1 wl ∧ IO B X g2 k2 vl ∧ RwsC B X ca cc cl := by
  subst hX
  have XO : ∀ k, k ≠ b → _ = _ := fun k hk => six_other (w := w1) hk (.int .i64 K) (.int .i64 N) (.int .i64 C) (.slice (some ⟨g1, 0, none⟩) wl.length k1) (.slice (some ⟨g2, 0, none⟩) vl.length k2) (.slice ca cl.length cc)
  exact ⟨six q _ _ _ _ _ _, ⟨(i1.1.same (XO _ (i1.1.ne q (by decide)))).ints, (i2.1.same (XO _ (i2.1.ne q (by decide)))).ints, (rw.rwsO.other q XO).rws, l1, l2, l3⟩, six_below hb hw _ _ _ _ _ _, i1.same (XO _ (i1.ne q (by decide))), i2.same (XO _ (i2.ne q (by decide))), rwsC_other rw q XO⟩
theorem UM.drew {bx gc : Nat} {gs cj : Nat → Nat} {n : Nat} {K C : Int} {v3 v4 : Value} {cc : Nat} {Mx : Nat → Nat → Int} {W : World} (h : UM bx gc gs cj n K C v3 v4 cc Mx W) : UM bx gc gs cj n K C v3 v4 cc Mx W.drew := ⟨h.box, h.top, h.rows, h.inj, h.n24⟩
theorem rwsC_keep {B : Nat} {W W1 : World} {a : Option Addr} {c : Nat} {l : List (List Int)} (h : RwsC B W a c l) (hb : Below W.heap.size W W1) : RwsC B W1 a c l := ⟨⟨h.1.1, h.1.2.1, h.1.2.2.1, fun i j g cur gi ni ci gj nj cj hij hj ea eh e1 e2 => by
  obtain ⟨g0, cur0, g', cj0, f1, f2, f3, f4, f5⟩ := h.2 j hj
  rw [ea] at f1
  injection f1 with f1
  injection f1 with f1 _ _
  subst f1
  exact h.1.2.2.2 i j g cur gi ni ci gj nj cj hij hj ea ((hb.block _ (lt_hp f2)).symm.trans eh) e1 e2⟩, fun j hj => by
  obtain ⟨g, cur, g', cj, e1, e2, e3, e4, e5⟩ := h.2 j hj
  exact ⟨g, cur, g', cj, e1, (hb.block _ (lt_hp e2)).trans e2, e3, e4.keep hb, e5⟩⟩
/-- a tour's table, once the rows up to a and row a up to b are mirrored -/
def Mt (cl : List (List Int)) (a b i j : Nat) : Int := if j < i ∧ (i < a ∨ (i = a ∧ j < b)) then (cl[j]?.getD [])[i]?.getD 0 else (cl[i]?.getD [])[j]?.getD 0
end Go.Proofs.Ytfpffggeehmedaa
