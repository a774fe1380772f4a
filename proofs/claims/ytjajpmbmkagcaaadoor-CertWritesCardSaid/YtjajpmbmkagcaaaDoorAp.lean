/-
  cert: a list that came in; a list appended to an empty one.
-/
import Derived.Test.YtjajpmbmkagcaaaDoorWd
import Derived.OpenShut
import Derived.Deep.RegionLaw
namespace Go.Proofs.YtjajpmbmkagcaaaDoor
open Go.RowKit
set_option linter.unusedVariables false
theorem nt_get (l : List Int) (j : Nat) (h : j < l.length) : nt l j = l[j] := by unfold nt; rw [List.getElem?_eq_getElem h]; rfl
/-- a list that came in: its first K numbers -/
def Arg (K : Nat) (W : World) (a : Option Addr) (n c : Nat) (l : List Int) : Prop :=
  (a = none ∧ n = 0 ∧ c = 0 ∧ l = []) ∨ (∃ ad, a = some ad ∧ n = 0 ∧ c ≤ 9223372036854775807 ∧ l = []) ∨
  ∃ b o, a = some ⟨b, o, none⟩ ∧ n ≤ c ∧ c ≤ 9223372036854775807 ∧ b < W.heap.size ∧ (∀ j, j < l.length → W.cell? ⟨b, o + j, none⟩ = some (.int .i64 (nt l j))) ∧ ((n ≤ K ∧ l.length = n) ∨ (K < n ∧ l.length = K))
theorem Arg.len {K : Nat} {W : World} {a : Option Addr} {n c : Nat} {l : List Int} (h : Arg K W a n c l) : l.length ≤ K ∧ l.length ≤ n ∧ min (n : Int) K = (l.length : Int) := by
  rcases h with ⟨_, rfl, _, rfl⟩ | ⟨_, _, rfl, _, rfl⟩ | ⟨b, o, e, h1, h2, h3, h4, h5⟩
  · simp
    omega
  · simp
    omega
  · omega
section
open Go.ChangeShapes Go.WideShapes
theorem nt_take {zs : List Int} {m j : Nat} (hj : j < (zs.take m).length) : nt (zs.take m) j = zs.getD j 0 := by
  have h : j < m := by simp at hj; omega
  unfold nt
  rw [List.getElem?_take, if_pos h]
  simp
theorem arg_of (K : Nat) {W : World} {a : Option Addr} {n c : Nat} {zs : List Int} (hz : zs.length = c) (hn : n ≤ c) (hc : c ≤ maxLen) (ha : a = none → c = 0)
    (hcell : ∀ a', a = some a' → ∀ j, j < c → W.cell? (a'.add j) = some (.int .i64 (zs.getD j 0))) : Arg K W a n c (zs.take (min n K)) := by
  have hc' : c ≤ 9223372036854775807 := by unfold maxLen at hc; omega
  by_cases h0 : n = 0
  · subst h0
    cases a with
    | none => exact Or.inl ⟨rfl, rfl, ha rfl, by simp⟩
    | some ad => exact Or.inr (Or.inl ⟨ad, rfl, rfl, hc', by simp⟩)
  · cases a with
    | none => have := ha rfl; omega
    | some x =>
      obtain ⟨b, off, rfl, hb⟩ := ints_at (zs := zs) (fun i hi => hcell x rfl i (by omega)) (by omega)
      refine Or.inr (Or.inr ⟨b, off, rfl, hn, hc', block_lt_of_cell (hb 0 (by omega)), fun j hj => ?_, ?_⟩)
      · rw [nt_take hj]
        simp at hj
        exact hb j (by omega)
      · rw [List.length_take]; omega
theorem open_arg (K : Nat) {H : Type} {enc : TypeId × Value → H} {W : World} {n : Nat} {v : Value} {y : DataW H × List MemPlace} (h : DataW.trod enc Tryd.prog W 0 (fun _ => true) true n 22 [v] = some y) :
    ∃ (a : Option Addr) (m c : Nat) (l : List Int), v = .slice a m c ∧ Arg K W a m c l := by
  rcases open_ints Tryd.underlying22 Tryd.underlying3 (by kernel_rfl) h with ⟨hcs, _⟩ | ⟨x, m, c, zs, hcs, _, hl, hm, hz, _, hcell, _⟩
  · have e : v = .slice none 0 0 := by simpa using hcs
    exact ⟨_, _, _, _, e, arg_of K (zs := []) rfl (Nat.le_refl _) (by unfold maxLen; omega) (fun _ => rfl) (fun a' h => by cases h)⟩
  · have e : v = .slice (some x) m c := by simpa using hcs
    simp only [if_true] at hz
    exact ⟨_, _, _, _, e, arg_of K hz hl hm (fun h => by cases h) (fun a' e j hj => by cases e; exact hcell j (by omega))⟩
end
theorem sl_run (K : Nat) (w : World) (a : Option Addr) (n c : Nat) (l : List Int) (h : Arg K w a n c l) : ∀ W : World, (Instr.sliceAt 22 (.slice a n c) none (some (.int .i64 (l.length : Int))) none).run Tryd.prog W = .ok (.slice a l.length c) W := fun W => by
  rcases h with ⟨rfl, rfl, rfl, rfl⟩ | ⟨ad, rfl, rfl, q2, rfl⟩ | ⟨b, o, rfl, q1, q2, q3, q4, q5⟩
  · go_simp
  · go_simp
  · have h1 : (l.length : Int) ≤ (c : Int) := by omega
    go_simp
theorem sl_run2 (K : Nat) (w : World) (a : Option Addr) (n c : Nat) (l : List Int) (h : Arg K w a n c l) : ∀ W : World, (Instr.slice 22 (.slice a n c) none (some (.int .i64 (l.length : Int))) none).run Tryd.prog W = .ok (.slice a l.length c) W := fun W => by
  rcases h with ⟨rfl, rfl, rfl, rfl⟩ | ⟨ad, rfl, rfl, q2, rfl⟩ | ⟨b, o, rfl, q1, q2, q3, q4, q5⟩
  · go_simp
  · go_simp
  · have h1 : (l.length : Int) ≤ (c : Int) := by omega
    go_simp
theorem own0 (w : World) : (w.alloc (.cells #[] 3)).ownsRow w.heap.size 3 1 (.slice (some ⟨w.heap.size, 0, none⟩) 0 0) 0 [] := World.ownsRow_lit w #[] 0 (Nat.le_refl _) (by decide) (by decide)
theorem own_form {w : World} {base : Nat} {e : TypeId} {v : Value} {n : Nat} {xs : List Value} (h : w.ownsRow base e 1 v n xs) (hne : ¬ v = .slice none 0 0) : ∃ g cap, v = .slice (some ⟨g, 0, none⟩) n cap := by
  rcases h.2 with ⟨h', _⟩ | ⟨g, cap, cur, hv, _⟩
  · exact absurd h' hne
  · exact ⟨g, cap, hv⟩
/-- where a list that is appended lies -/
def SrcA (X : World) (a : Option Addr) (c : Nat) (l : List Int) : Prop := (a = none ∧ c = 0 ∧ l = []) ∨ ∃ ad, a = some ad ∧ ∀ j u, (l.map (Value.int .i64))[j]? = some u → X.cell? (ad.add j) = some u
theorem app_run (B g0 : Nat) (l : List Int) (a : Option Addr) (c : Nat) (X : World) (hl : l.length ≤ 1000) (hown : X.ownsRow B 3 1 (.slice (some ⟨g0, 0, none⟩) 0 0) 0 []) (hB : B ≤ X.heap.size) (hs : SrcA X a c l) :
    ∃ g cap X', (Builtin.append_ #[22, 22] 22 #[.slice (some ⟨g0, 0, none⟩) 0 0, .slice a l.length c]).run Tryd.prog X = .ok (.slice (some ⟨g, 0, none⟩) l.length cap) X' ∧ X'.ownsRow B 3 1 (.slice (some ⟨g, 0, none⟩) l.length cap) l.length (l.map (Value.int .i64)) ∧ X.grownBy X' (some g0) ∧ (g = g0 ∨ X.heap.size ≤ g) := by
  obtain ⟨i0, hi, hz0, hz1, hz2⟩ := info_parts info3
  rcases hs with ⟨rfl, rfl, rfl⟩ | ⟨ad, rfl, hc⟩
  · refine ⟨g0, 0, X, ?_, hown, World.grownBy.refl X _, .inl rfl⟩
    simp [Builtin.append_, run_underlying Tryd.underlying22, sizeOf, typeInfo, zeroValue, hi, hz0, Builtin.lenOf, Question.forced, run_firstCells_none]
    simp [storeCells]
  · obtain ⟨v', w', hr, h2, h3, h4, h5⟩ := run_append_own_at (P := Tryd.prog) X B 22 22 3 i0 (.int .i64 0) 1 8 Tryd.underlying22 hi hz0 hz1 hz2 rfl (by decide) (.slice (some ⟨g0, 0, none⟩) 0 0) 0 [] hown ad l.length c (l.map (Value.int .i64)) (by simp) hc (by simp [Value.oneCell']) (by unfold maxLen; omega) (by omega) hB
    obtain ⟨g, cap, rfl⟩ := own_form h2 (fun e => by have := h4.1 e; simp at this)
    refine ⟨g, cap, w', by simpa using hr, by simpa using h2, h3, ?_⟩
    simp [Value.ownBlock] at h5
    omega
/-- behind an append -/
def AppK (B g0 : Nat) (l : List Int) (X : World) (K : Value → World → Prop) : Prop := ∀ g cap X', X'.ownsRow B 3 1 (.slice (some ⟨g, 0, none⟩) l.length cap) l.length (l.map (Value.int .i64)) → X.grownBy X' (some g0) → (g = g0 ∨ X.heap.size ≤ g) → K (.slice (some ⟨g, 0, none⟩) l.length cap) X'
theorem step_app {ops : Array Oper} {o : Oper} {A : Act} {X : World} {K : Act → World → Prop} {Q : Exit → Act → World → Prop} {E : Prop} (hgd : o.guard = none) (s x : Operand) (ho : o.op = .call { callee := .builtin .append, args := #[s, x], argTypes := #[22, 22] }) (hty : o.type = 22)
    (B g0 : Nat) (l : List Int) (a : Option Addr) (c : Nat) (he : A.eval s = .slice (some ⟨g0, 0, none⟩) 0 0) (hx : A.eval x = .slice a l.length c) (hl : l.length ≤ 1000) (hown : X.ownsRow B 3 1 (.slice (some ⟨g0, 0, none⟩) 0 0) 0 []) (hB : B ≤ X.heap.size) (hs : SrcA X a c l)
    (h : AppK B g0 l X fun v X' => K (A.put o.dst v) X') : if Region.wanted o (yielded ops A.tmps) = true then Oper.wp Tryd.prog o A X K Q else E := by
  have hw : Region.wanted o (yielded ops A.tmps) = true := by simp [Region.wanted, hgd]
  rw [if_pos hw]
  obtain ⟨g, cap, X', hr, h2, h3, h4⟩ := app_run B g0 l a c X hl hown hB hs
  unfold Oper.wp execOp
  simp only [ho, hty, resolve, invoke, builtin, Sem.run_bind, Sem.run_pure, Result.andThen_ok, List.map_toArray, List.map_cons, List.map_nil, he, hx, hr]
  exact h g cap X' h2 h3 h4
theorem add_at (b o j : Nat) : (⟨b, o, none⟩ : Addr).add j = ⟨b, o + j, none⟩ := by
  unfold Addr.add
  split <;> simp_all
theorem cells_src {X : World} {b o : Nat} {l : List Int} (hc : ∀ j, j < l.length → X.cell? ⟨b, o + j, none⟩ = some (.int .i64 (nt l j))) : ∀ j u, (l.map (Value.int .i64))[j]? = some u → X.cell? ((⟨b, o, none⟩ : Addr).add j) = some u := fun j u hj => by
  have hjl : j < l.length := by
    have := (List.getElem?_eq_some_iff.mp hj).1
    simpa using this
  have e : (l.map (Value.int .i64))[j]? = some (.int .i64 (nt l j)) := by
    rw [List.getElem?_map, List.getElem?_eq_getElem hjl, nt_get l j hjl]; rfl
  rw [e] at hj
  injection hj with hj
  subst hj
  rw [add_at]
  exact hc j hjl
theorem arg_srcA {K : Nat} {w : World} {a : Option Addr} {n c : Nat} {l : List Int} (h : Arg K w a n c l) (X : World) (hb : Below w.heap.size w X) : SrcA X a c l := by
  rcases h with ⟨rfl, rfl, rfl, rfl⟩ | ⟨ad, rfl, rfl, q2, rfl⟩ | ⟨b, o, rfl, q1, q2, q3, q4, q5⟩
  · exact .inl ⟨rfl, rfl, rfl⟩
  · exact .inr ⟨ad, rfl, fun j u hj => by simp at hj⟩
  · exact .inr ⟨_, rfl, cells_src fun j hj => (hb.cell (p := ⟨b, o + j, none⟩) q3).trans (q4 j hj)⟩
theorem ol_srcA {B : Nat} {a : Option Addr} {n c : Nat} {l : List Int} {w : World} (h : Ol B (.slice a n c) l w) (X : World) (hb : Below w.heap.size w X) : SrcA X a c l := by
  rcases h.2 with ⟨h1, h2⟩ | ⟨g, cap, cur, h1, h2, h3, h4, h5, h6, h7⟩
  · cases h1
    exact .inl ⟨rfl, rfl, List.length_eq_zero_iff.mp h2⟩
  · cases h1
    refine .inr ⟨_, rfl, cells_src fun j hj => ?_⟩
    rw [Nat.zero_add]
    exact (hb.cell (p := ⟨g, j, none⟩) (lt_hp h3)).trans (cell_take h3 h7 (by rw [List.getElem?_map, nt_at l j hj]; rfl))
theorem app_below {w w2 : World} (h : (w.alloc (.cells #[] 3)).grownBy w2 (some w.heap.size)) : Below w.heap.size w w2 :=
  (bl_al (Below.refl _ w) _).grown h (by simp) (fun j hj => by simp at hj; omega)
theorem undrew_g {X w2 : World} {r : Option Nat} (h : X.drew.grownBy w2 r) : X.grownBy w2 r := ⟨h.os, h.tape, h.output, h.size, h.block⟩
end Go.Proofs.YtjajpmbmkagcaaaDoor
