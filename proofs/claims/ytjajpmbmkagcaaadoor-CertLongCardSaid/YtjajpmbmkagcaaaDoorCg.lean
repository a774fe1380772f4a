/-
  cert: the certificate's box; errors stay.
-/
import Derived.Test.YtjajpmbmkagcaaaDoorHl
namespace Go.Proofs.YtjajpmbmkagcaaaDoor
open Go.RowKit
set_option linter.unusedVariables false
theorem pasS_back {s q : ByteArray} {x : St} (h : (pasS s q x).2 = 0) : x.2 = 0 := by
  by_cases e : x.2 = 0
  · exact e
  · unfold pasS at h
    rw [if_neg e] at h
    exact h
theorem numS_back {s : ByteArray} {most : Int} {x : St} (h : (numS s most x).2 = 0) : x.2 = 0 := by
  by_cases e : x.2 = 0
  · exact e
  · unfold numS at h
    rw [if_neg e] at h
    exact h
theorem cntS_back {s : ByteArray} {x : St} (h : (cntS s x).2 = 0) : x.2 = 0 := by
  by_cases e : x.2 = 0
  · exact e
  · unfold cntS at h
    rw [if_neg e] at h
    exact h
theorem treS_back {s : ByteArray} {x : St} (h : (treS s x).2 = 0) : x.2 = 0 := by
  by_cases e : x.2 = 0
  · exact e
  · unfold treS at h
    rw [if_neg e] at h
    exact h
theorem els_back {s : ByteArray} : ∀ j, (els s j).2 = 0 → (cr3 s).2 = 0
  | 0, h => h
  | j + 1, h => els_back j (pasS_back (numS_back h))
/-- the certificate's box -/
def CB (c : Nat) (V : Int) (v : Value) (T : ByteArray) (w : World) : Prop := w.heap[c]? = some (.cells #[.int .i64 V, v, .string T] 26 (0, 0))
section
variable {c : Nat} {V : Int} {v : Value} {T : ByteArray} {w w1 : World}
theorem CB.cells (h : CB c V v T w) : w.cell? ⟨c, 0, none⟩ = some (.int .i64 V) ∧ w.cell? ⟨c, 1, none⟩ = some v ∧ w.cell? ⟨c, 2, none⟩ = some (.string T) ∧ ∀ j, w.frozen? ⟨c, j, none⟩ = false :=
  ⟨(cell_of_row w c 0 _ 26 _ h).trans rfl, (cell_of_row w c 1 _ 26 _ h).trans rfl, (cell_of_row w c 2 _ 26 _ h).trans rfl, fun j => by simp [World.frozen?, show w.heap[c]? = _ from h]⟩
theorem CB.keep {S : List Nat} (h : CB c V v T w) (k : Tw S w w1) (hc : c ∉ S) : CB c V v T w1 := blk_tw h k hc
theorem CB.s0 (h : CB c V v T w) (x : Int) : CB c x v T (w.setCell ⟨c, 0, none⟩ (.int .i64 x)) := (blk_set h 0 _).trans rfl
theorem CB.s1 (h : CB c V v T w) (x : Value) : CB c V x T (w.setCell ⟨c, 1, none⟩ x) := (blk_set h 1 _).trans rfl
theorem CB.s2 (h : CB c V v T w) (x : ByteArray) : CB c V v x (w.setCell ⟨c, 2, none⟩ (.string x)) := (blk_set h 2 _).trans rfl
end
/-- a list of numbers that a walk has built -/
def Ol (B : Nat) (v : Value) (L : List Int) (w : World) : Prop := w.ownsRow B 3 1 v L.length (L.map (Value.int .i64))
def vb : Value → List Nat
  | .slice (some ⟨g, _, _⟩) _ _ => [g]
  | _ => []
theorem Ol.blk {B : Nat} {v : Value} {L : List Int} {w : World} (h : Ol B v L w) : ∀ i, i ∈ vb v → B ≤ i ∧ ∃ cur, w.heap[i]? = some (.cells cur 3 (0, 0)) := fun i hi => by
  rcases h.2 with ⟨rfl, _⟩ | ⟨g, cap, cur, rfl, hg, hh, r⟩
  · simp [vb] at hi
  · simp [vb] at hi
    subst hi
    exact ⟨hg, cur, hh⟩
theorem Ol.keep {B : Nat} {v : Value} {L : List Int} {S : List Nat} {w w1 : World} (h : Ol B v L w) (k : Tw S w w1) (hS : ∀ i, i ∈ S → i ∉ vb v) : Ol B v L w1 := by
  refine ⟨h.1, ?_⟩
  rcases h.2 with hn | ⟨g, cap, cur, rfl, hg, hh, r⟩
  · exact Or.inl hn
  · exact Or.inr ⟨g, cap, cur, rfl, hg, blk_tw hh k (fun hm => hS g hm (by simp [vb])), r⟩
theorem Ol.far {B c : Nat} {v : Value} {L : List Int} {w : World} {C : Array Value} {t : TypeId} (h : Ol B v L w) (hc : w.heap[c]? = some (.cells C t (0, 0))) (ht : t ≠ 3) : c ∉ vb v := fun hm => by
  obtain ⟨_, cur, h1⟩ := h.blk c hm
  exact absurd rfl (blk_ty hc h1 ht)
theorem Ol.form {B : Nat} {v : Value} {L : List Int} {w : World} (h : Ol B v L w) : ∃ a c, v = .slice a L.length c := by
  rcases h.2 with ⟨h1, h2⟩ | ⟨g, cap, cur, h1, _⟩
  · rw [h2]; exact ⟨_, _, h1⟩
  · exact ⟨_, _, h1⟩
theorem ol_nil (B : Nat) (w : World) : Ol B (.slice none 0 0) [] w := ⟨rfl, .inl ⟨rfl, rfl⟩⟩
theorem info3 : (Tryd.prog.info? 3).map (fun i => (i.zero, i.size, i.bytes)) = some (some (.int .i64 0), 1, 8) := by kernel_rfl
theorem vb_own (v : Value) (b : Nat) : b ∈ vb v ↔ v.ownBlock = some b := by
  cases v with
  | slice a n c =>
    cases a with
    | none => simp [vb, Value.ownBlock]
    | some ad =>
      obtain ⟨g, o, p⟩ := ad
      simp [vb, Value.ownBlock, eq_comm]
  | _ => simp [vb, Value.ownBlock]
theorem step_app1 {ops : Array Oper} {o : Oper} {A : Act} {X : World} {K : Act → World → Prop} {Q : Exit → Act → World → Prop} {E : Prop} (hgd : o.guard = none) (s x : Operand) (ho : o.op = .call { callee := .builtin .append, args := #[s, x], argTypes := #[22, 22] }) (hty : o.type = 22)
    (B : Nat) (v : Value) (L : List Int) (m : Int) (g1 : Nat) (he : A.eval s = v) (hx : A.eval x = .slice (some ⟨g1, 0, none⟩) 1 1) (hl : L.length ≤ 900) (hown : Ol B v L X) (hB : B ≤ X.heap.size) (hc : X.cell? ⟨g1, 0, none⟩ = some (.int .i64 m))
    (h : ∀ v' X', Ol B v' (L ++ [m]) X' → Tw (vb v) X X' → K (A.put o.dst v') X') : if Region.wanted o (yielded ops A.tmps) = true then Oper.wp Tryd.prog o A X K Q else E := by
  have hw : Region.wanted o (yielded ops A.tmps) = true := by simp [Region.wanted, hgd]
  rw [if_pos hw]
  obtain ⟨i0, hi, hz0, hz1, hz2⟩ := info_parts info3
  obtain ⟨v', w', hr, h2, h3, h4, h5⟩ := run_append_own_at (P := Tryd.prog) X B 22 22 3 i0 (.int .i64 0) 1 8 Tryd.underlying22 hi hz0 hz1 hz2 rfl (by decide) v L.length (L.map (Value.int .i64)) hown ⟨g1, 0, none⟩ 1 1 [.int .i64 m] (by simp) (fun j u hj => by
    cases j with
    | zero => simp at hj; subst hj; exact hc
    | succ j => simp at hj) (by simp [Value.oneCell']) (by unfold maxLen; omega) (by omega) hB
  unfold Oper.wp execOp
  simp only [ho, hty, resolve, invoke, builtin, Sem.run_bind, Sem.run_pure, Result.andThen_ok, List.map_toArray, List.map_cons, List.map_nil, he, hx, hr]
  refine h v' w' ?_ ⟨h3.os, h3.tape, h3.output, h3.size, fun b hb hn => h3.block b hb (fun e => hn ((vb_own v b).mpr e.symm))⟩
  show w'.ownsRow B 3 1 v' (L ++ [m]).length ((L ++ [m]).map (Value.int .i64))
  rw [List.map_append, List.length_append]
  exact h2
end Go.Proofs.YtjajpmbmkagcaaaDoor
