/-
  An argument that is a problem, opened: its numbers, its lists and its list of lists.
-/
import Derived.Test.YteoionlnnjcggaaSrc
import Derived.Lib.SmallJoins
import Derived.Deep.Matrix
import Derived.OpenShut
namespace Go.Proofs.Yteoionlnnjcggaa
open Go.Joins Go.ChangeShapes Go.WideShapes Go.RowKit Go.Deep
set_option linter.unusedVariables false

section
variable {H : Type} {enc : TypeId × Value → H} {P : Program} {w : World} {base : Nat} {spare : Nat → Bool} {held : Bool}
theorem open_agg6 {r : Reach} {b0 : Nat} {t : TypeId} {f0 f1 f2 f3 f4 f5 : Field} {v : Value} {d : DataW H} {p : List MemPlace} (hs : P.underlying t = some (.struct #[f0, f1, f2, f3, f4, f5])) (hone : oneCellFields P #[f0, f1, f2, f3, f4, f5] = true) (hC : P.cellsOf t = 6)
    (hv : Value.okWide P w r b0 t v) (h : DataW.Trod enc P w base spare held t v d p) :
    ∃ (v0 v1 v2 v3 v4 v5 : Value) (y0 y1 y2 y3 y4 y5 : DataW H × List MemPlace) (n : Nat), v = .agg #[v0, v1, v2, v3, v4, v5] ∧ d = .agg [y0.1, y1.1, y2.1, y3.1, y4.1, y5.1] ∧ p = y0.2 ++ (y1.2 ++ (y2.2 ++ (y3.2 ++ (y4.2 ++ y5.2)))) ∧
      DataW.trod enc P w base spare held n f0.type [v0] = some y0 ∧ DataW.trod enc P w base spare held n f1.type [v1] = some y1 ∧ DataW.trod enc P w base spare held n f2.type [v2] = some y2 ∧ DataW.trod enc P w base spare held n f3.type [v3] = some y3 ∧ DataW.trod enc P w base spare held n f4.type [v4] = some y4 ∧ DataW.trod enc P w base spare held n f5.type [v5] = some y5 := by
  obtain ⟨cs, rfl, hsz⟩ := okWide_struct hs hv
  obtain ⟨l⟩ := cs
  match l, hsz.trans hC with
  | [c0, c1, c2, c3, c4, c5], _ =>
    obtain ⟨fuel, hf⟩ := h
    obtain ⟨xs, n, _, hx, _, hlen, hg⟩ := DataW.trod_struct hs hf
    obtain ⟨o0, k0⟩ := hone_of hone 0 f0 rfl
    obtain ⟨o1, k1⟩ := hone_of hone 1 f1 rfl
    obtain ⟨o2, k2⟩ := hone_of hone 2 f2 rfl
    obtain ⟨o3, k3⟩ := hone_of hone 3 f3 rfl
    obtain ⟨o4, k4⟩ := hone_of hone 4 f4 rfl
    obtain ⟨o5, k5⟩ := hone_of hone 5 f5 rfl
    match xs, hlen with
    | [y0, y1, y2, y3, y4, y5], _ =>
      simp only [Prod.mk.injEq] at hx
      exact ⟨c0, c1, c2, c3, c4, c5, y0, y1, y2, y3, y4, y5, n, rfl, by simpa using hx.1, by simpa using hx.2, by simpa [Value.cells, o0, k0] using hg 0 f0 rfl, by simpa [Value.cells, o1, k1] using hg 1 f1 rfl, by simpa [Value.cells, o2, k2] using hg 2 f2 rfl, by simpa [Value.cells, o3, k3] using hg 3 f3 rfl, by simpa [Value.cells, o4, k4] using hg 4 f4 rfl, by simpa [Value.cells, o5, k5] using hg 5 f5 rfl⟩
end
theorem take_get {zs : List Int} {m j : Nat} (hj : j < (zs.take m).length) : (zs.take m)[j]?.getD 0 = zs.getD j 0 := by
  have h : j < m := by simp at hj; omega
  rw [List.getElem?_take, if_pos h]
  simp
theorem src_of {W : World} {a : Option Addr} {n c : Nat} {zs : List Int} (hz : zs.length = c) (hn : n ≤ c) (hc : c ≤ maxLen) (ha : a = none → c = 0)
    (hcell : ∀ a', a = some a' → ∀ j, j < c → W.cell? (a'.add j) = some (.int .i64 (zs.getD j 0))) : Src W a n c (zs.take (min n 70)) := by
  refine ⟨by rw [List.length_take]; omega, hn, by unfold maxLen at hc; omega, ?_⟩
  by_cases h0 : n = 0
  · exact Or.inl ⟨h0, ha⟩
  · cases a with
    | none => have := ha rfl; omega
    | some x =>
      obtain ⟨b, off, rfl, hb⟩ := ints_at (zs := zs) (fun i hi => hcell x rfl i (by omega)) (by omega)
      refine Or.inr ⟨b, off, rfl, block_lt_of_cell (hb 0 (by omega)), fun j hj => ?_⟩
      rw [take_get hj]
      simp at hj
      exact hb j (by omega)
theorem open_list {H : Type} {enc : TypeId × Value → H} {W : World} {n : Nat} {v : Value} {y : DataW H × List MemPlace} (h : DataW.trod enc Try.prog W 0 (fun _ => true) true n 22 [v] = some y) :
    ∃ (a : Option Addr) (m c : Nat) (l : List Int), v = .slice a m c ∧ Src W a m c l := by
  rcases open_ints Try.underlying22 Try.underlying3 (by kernel_rfl) h with ⟨hcs, _⟩ | ⟨x, m, c, zs, hcs, _, hl, hm, hz, _, hcell, _⟩
  · have e : v = .slice none 0 0 := by simpa using hcs
    exact ⟨_, _, _, _, e, src_of (zs := []) rfl (Nat.le_refl _) (by unfold maxLen; omega) (fun _ => rfl) (fun a' h => by cases h)⟩
  · have e : v = .slice (some x) m c := by simpa using hcs
    simp only [if_true] at hz
    exact ⟨_, _, _, _, e, src_of hz hl hm (fun h => by cases h) (fun a' e j hj => by cases e; exact hcell j (by omega))⟩
theorem open_rows {H : Type} {enc : TypeId × Value → H} {W : World} {n : Nat} {v : Value} {y : DataW H × List MemPlace} (h : DataW.trod enc Try.prog W 0 (fun _ => true) true n 23 [v] = some y) :
    ∃ (a : Option Addr) (m c : Nat) (cl : List (List Int)), v = .slice a m c ∧ RSrc W a m c cl := by
  rcases open_int_rows Try.underlying23 Try.underlying22 Try.underlying3 (by kernel_rfl) (by kernel_rfl) h with ⟨hcs, _⟩ | ⟨a, m, c, A, L, C, Z, hcs, _, hl, hm, _, hr⟩
  · have e : v = .slice none 0 0 := by simpa using hcs
    exact ⟨_, _, _, [], e, by simp, Nat.le_refl _, by omega, Or.inl ⟨rfl, fun _ => rfl⟩⟩
  · have e : v = .slice (some a) m c := by simpa using hcs
    refine ⟨_, _, _, (List.range (min m 30)).map fun r => (Z r).take (min (L r) 70), e, by simp, hl, by unfold maxLen at hm; omega, ?_⟩
    by_cases h0 : m = 0
    · exact Or.inl ⟨h0, fun h => by cases h⟩
    · obtain ⟨b, off, spot⟩ := a
      have hspot : spot = none := by simpa [Addr.add] using World.cell?_spot (hr 0 (by omega)).1
      subst hspot
      have hc0 := (hr 0 (by omega)).1
      rw [Go.WideShapes.add_plain] at hc0
      refine Or.inr ⟨b, off, rfl, block_lt_of_cell hc0, fun j hj => ?_⟩
      have hj' : j < min m 30 := by simpa using hj
      obtain ⟨r1, r2, r3, r4, _, r6, r7⟩ := hr j (by omega)
      rw [Go.WideShapes.add_plain] at r1
      refine ⟨_, _, _, r1, ?_⟩
      rw [List.getElem?_map, List.getElem?_range hj']
      exact src_of r4 r2 r3 r6 (fun a' e i hi => (r7 a' e).2 i hi)
theorem open_inst {H : Type} {enc : TypeId × Value → H} {W : World} {base : Nat} {v : Value} {d : DataW H} {p : List MemPlace}
    (hv : Value.okWide Try.prog W .any base 25 v) (h : DataW.Trod enc Try.prog W 0 (fun _ => true) true 25 v d p) :
    ∃ (kd N C : Int) (wa va ca : Option Addr) (wn vn cn wc vc cc : Nat) (wl vl : List Int) (cl : List (List Int)),
      v = .agg #[.int .i64 kd, .int .i64 N, .int .i64 C, .slice wa wn wc, .slice va vn vc, .slice ca cn cc] ∧ Src W wa wn wc wl ∧ Src W va vn vc vl ∧ RSrc W ca cn cc cl := by
  obtain ⟨v0, v1, v2, v3, v4, v5, y0, y1, y2, y3, y4, y5, n, rfl, _, _, h0, h1, h2, h3, h4, h5⟩ := open_agg6 Try.underlying25 (by kernel_rfl) (by kernel_rfl) hv h
  obtain ⟨kd, e0, _⟩ := DataW.trod_int Try.underlying3 h0
  obtain ⟨N, e1, _⟩ := DataW.trod_int Try.underlying3 h1
  obtain ⟨C, e2, _⟩ := DataW.trod_int Try.underlying3 h2
  obtain ⟨wa, wn, wc, wl, rfl, s3⟩ := open_list h3
  obtain ⟨va, vn, vc, vl, rfl, s4⟩ := open_list h4
  obtain ⟨ca, cn, cc, cl, rfl, s5⟩ := open_rows h5
  simp only [List.cons.injEq, and_true] at e0 e1 e2
  subst e0 e1 e2
  exact ⟨kd, N, C, wa, va, ca, wn, vn, cn, wc, vc, cc, wl, vl, cl, rfl, s3, s4, s5⟩
end Go.Proofs.Yteoionlnnjcggaa
