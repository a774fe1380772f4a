/-
  Appending to an empty list; a list whose numbers may be any.
-/
import Derived.Test.YtgldgilhegdpjaaLg2
import Derived.Test.YtgldgilhegdpjaaAp
namespace Go.Proofs.Ytgldgilhegdpjaa
open Go.RowKit
set_option linter.unusedVariables false
/-- where a list that is appended lies -/
def SrcA (X : World) (a : Option Addr) (c : Nat) (l : List Int) : Prop := (a = none ∧ c = 0 ∧ l = []) ∨ ∃ ad, a = some ad ∧ ∀ j u, (l.map (Value.int .i64))[j]? = some u → X.cell? (ad.add j) = some u
theorem app_run (B g0 : Nat) (l : List Int) (a : Option Addr) (c : Nat) (X : World) (hl : l.length ≤ 1000) (hown : X.ownsRow B 3 1 (.slice (some ⟨g0, 0, none⟩) 0 0) 0 []) (hB : B ≤ X.heap.size) (hs : SrcA X a c l) :
    ∃ g cap X', (Builtin.append_ #[34, 34] 34 #[.slice (some ⟨g0, 0, none⟩) 0 0, .slice a l.length c]).run Try.prog X = .ok (.slice (some ⟨g, 0, none⟩) l.length cap) X' ∧ X'.ownsRow B 3 1 (.slice (some ⟨g, 0, none⟩) l.length cap) l.length (l.map (Value.int .i64)) ∧ X.grownBy X' (some g0) ∧ (g = g0 ∨ X.heap.size ≤ g) := by
  obtain ⟨i0, hi, hz0, hz1, hz2⟩ := info_parts info3
  rcases hs with ⟨rfl, rfl, rfl⟩ | ⟨ad, rfl, hc⟩
  · refine ⟨g0, 0, X, ?_, hown, World.grownBy.refl X _, .inl rfl⟩
    simp [Builtin.append_, run_underlying Try.underlying34, sizeOf, typeInfo, zeroValue, hi, hz0, Builtin.lenOf, Question.forced, run_firstCells_none]
    simp [storeCells]
  · obtain ⟨v', w', hr, h2, h3, h4, h5⟩ := run_append_own_at (P := Try.prog) X B 34 34 3 i0 (.int .i64 0) 1 8 Try.underlying34 hi hz0 hz1 hz2 rfl (by decide) (.slice (some ⟨g0, 0, none⟩) 0 0) 0 [] hown ad l.length c (l.map (Value.int .i64)) (by simp) hc (by simp [Value.oneCell']) (by unfold maxLen; omega) (by omega) hB
    obtain ⟨g, cap, rfl⟩ := own_form h2 (fun e => by have := h4.1 e; simp at this)
    refine ⟨g, cap, w', by simpa using hr, by simpa using h2, h3, ?_⟩
    simp [Value.ownBlock] at h5
    omega
/-- behind an append -/
def AppK (B g0 : Nat) (l : List Int) (X : World) (K : Value → World → Prop) : Prop := ∀ g cap X', X'.ownsRow B 3 1 (.slice (some ⟨g, 0, none⟩) l.length cap) l.length (l.map (Value.int .i64)) → X.grownBy X' (some g0) → (g = g0 ∨ X.heap.size ≤ g) → K (.slice (some ⟨g, 0, none⟩) l.length cap) X'
theorem wp_app {o : Oper} {A : Act} {X : World} {K : Act → World → Prop} {Q : Exit → Act → World → Prop} (s x : Operand) (ho : o.op = .call { callee := .builtin .append, args := #[s, x], argTypes := #[34, 34] }) (hty : o.type = 34)
    (B g0 : Nat) (l : List Int) (a : Option Addr) (c : Nat) (he : A.eval s = .slice (some ⟨g0, 0, none⟩) 0 0) (hx : A.eval x = .slice a l.length c) (hl : l.length ≤ 1000) (hown : X.ownsRow B 3 1 (.slice (some ⟨g0, 0, none⟩) 0 0) 0 []) (hB : B ≤ X.heap.size) (hs : SrcA X a c l)
    (h : AppK B g0 l X fun v X' => K (A.put o.dst v) X') : o.wp Try.prog A X K Q := by
  obtain ⟨g, cap, X', hr, h2, h3, h4⟩ := app_run B g0 l a c X hl hown hB hs
  unfold Oper.wp execOp
  simp only [ho, hty, resolve, invoke, builtin, Sem.run_bind, Sem.run_pure, Result.andThen_ok, List.map_toArray, List.map_cons, List.map_nil, he, hx, hr]
  exact h g cap X' h2 h3 h4
theorem wpList_app {ops : Array Oper} {rest : List Oper} {o : Oper} {A : Act} {X : World} {Q : Exit → Act → World → Prop} (hgd : o.guard = none) (s x : Operand) (ho : o.op = .call { callee := .builtin .append, args := #[s, x], argTypes := #[34, 34] }) (hty : o.type = 34)
    (B g0 : Nat) (l : List Int) (a : Option Addr) (c : Nat) (he : A.eval s = .slice (some ⟨g0, 0, none⟩) 0 0) (hx : A.eval x = .slice a l.length c) (hl : l.length ≤ 1000) (hown : X.ownsRow B 3 1 (.slice (some ⟨g0, 0, none⟩) 0 0) 0 []) (hB : B ≤ X.heap.size) (hs : SrcA X a c l)
    (h : AppK B g0 l X fun v X' => wpList Try.prog ops Q rest (A.put o.dst v) X') : wpList Try.prog ops Q (o :: rest) A X :=
  wpList_plain hgd fun _ hK => wp_app s x ho hty B g0 l a c he hx hl hown hB hs fun g cap X' h2 h3 h4 => hK _ _ (h g cap X' h2 h3 h4)
theorem step_app {ops : Array Oper} {o : Oper} {A : Act} {X : World} {K : Act → World → Prop} {Q : Exit → Act → World → Prop} {E : Prop} (hgd : o.guard = none) (s x : Operand) (ho : o.op = .call { callee := .builtin .append, args := #[s, x], argTypes := #[34, 34] }) (hty : o.type = 34)
    (B g0 : Nat) (l : List Int) (a : Option Addr) (c : Nat) (he : A.eval s = .slice (some ⟨g0, 0, none⟩) 0 0) (hx : A.eval x = .slice a l.length c) (hl : l.length ≤ 1000) (hown : X.ownsRow B 3 1 (.slice (some ⟨g0, 0, none⟩) 0 0) 0 []) (hB : B ≤ X.heap.size) (hs : SrcA X a c l)
    (h : AppK B g0 l X fun v X' => K (A.put o.dst v) X') : if Region.wanted o (yielded ops A.tmps) = true then Oper.wp Try.prog o A X K Q else E := by
  have hw : Region.wanted o (yielded ops A.tmps) = true := by simp [Region.wanted, hgd]
  rw [if_pos hw]
  exact wp_app s x ho hty B g0 l a c he hx hl hown hB hs h
/-- m numbers in a block, whatever they are -/
def Junk (g m : Nat) (w : World) : Prop := (∃ cur, w.heap[g]? = some (.cells cur 3 (0, 0))) ∧ ∀ j, j < m → ∃ x, w.cell? ⟨g, j, none⟩ = some (.int .i64 x)
theorem Junk.lst {B : Nat} {v : Value} {l : List Int} {w : World} (h : Lst B v l w) : (v = .slice none 0 0 ∧ l = []) ∨ ∃ g cap, v = .slice (some ⟨g, 0, none⟩) l.length cap ∧ B ≤ g ∧ l.length ≤ cap ∧ cap ≤ 9223372036854775807 ∧ Junk g l.length w := by
  rcases h with h | ⟨g, cap, cur, h1, h2, h3, h4, h5, h6⟩
  · exact .inl h
  · exact .inr ⟨g, cap, h1, h2, h3, h4, ⟨cur, h5⟩, fun j hj => ⟨_, h6 j hj⟩⟩
theorem Junk.up {g m : Nat} {w w1 : World} (h : Junk g m w) (k : Tw [] w w1) : Junk g m w1 := by
  obtain ⟨⟨cur, hc⟩, h2⟩ := h
  exact ⟨⟨cur, blk_tw hc k (by simp)⟩, fun j hj => by rw [cell_tw k (lt_hp hc) (by simp)]; exact h2 j hj⟩
theorem Junk.fz {g m : Nat} {w : World} (h : Junk g m w) (j : Nat) : w.frozen? ⟨g, j, none⟩ = false := by
  obtain ⟨⟨cur, hc⟩, h2⟩ := h
  simp [World.frozen?, hc]
theorem Junk.st {g m : Nat} {w : World} (h : Junk g m w) (j : Nat) (x : Int) : Junk g m (w.setCell ⟨g, j, none⟩ (.int .i64 x)) := by
  obtain ⟨⟨cur, hc⟩, h2⟩ := h
  refine ⟨⟨_, blk_set hc j (.int .i64 x)⟩, fun i hi => ?_⟩
  by_cases e : i = j
  · subst e
    refine ⟨x, ?_⟩
    obtain ⟨y, hy⟩ := h2 i hi
    have : i < cur.size := by
      simp [World.cell?, hc] at hy
      exact (Array.getElem?_eq_some_iff.mp hy).1
    simp [World.cell?, blk_set hc i (.int .i64 x), this]
  · obtain ⟨y, hy⟩ := h2 i hi
    refine ⟨y, ?_⟩
    have e' : ¬ j = i := fun h => e h.symm
    simp [World.cell?, hc] at hy
    simp [World.cell?, blk_set hc j (.int .i64 x), e', hy]
theorem add_at (b o j : Nat) : (⟨b, o, none⟩ : Addr).add j = ⟨b, o + j, none⟩ := by
  unfold Addr.add
  split <;> simp_all
theorem cells_src {X : World} {b o : Nat} {l : List Int} (hc : ∀ j, j < l.length → X.cell? ⟨b, o + j, none⟩ = some (.int .i64 (nth l j))) : ∀ j u, (l.map (Value.int .i64))[j]? = some u → X.cell? ((⟨b, o, none⟩ : Addr).add j) = some u := fun j u hj => by
  have hjl : j < l.length := by
    have := (List.getElem?_eq_some_iff.mp hj).1
    simpa using this
  have e : (l.map (Value.int .i64))[j]? = some (.int .i64 (nth l j)) := by
    rw [List.getElem?_map, List.getElem?_eq_getElem hjl, nth_at l j hjl]; rfl
  rw [e] at hj
  injection hj with hj
  subst hj
  rw [add_at]
  exact hc j hjl
theorem arg_srcA {K : Nat} {w : World} {a : Option Addr} {n c : Nat} {l : List Int} (h : Arg K w a n c l) (X : World) (hb : Below w.heap.size w X) : SrcA X a c l := by
  rcases h with ⟨rfl, rfl, rfl, rfl⟩ | ⟨ad, rfl, rfl, q2, rfl⟩ | ⟨b, o, rfl, q1, q2, q3, q4, q5⟩
  · exact .inl ⟨rfl, rfl, rfl⟩
  · exact .inr ⟨ad, rfl, fun j u hj => by simp at hj⟩
  · exact .inr ⟨_, rfl, cells_src fun j hj => (hb.cell (p := ⟨b, o + j, none⟩) q3).trans (q4 j hj)⟩
theorem lst_srcA {B : Nat} {w : World} {a : Option Addr} {n c : Nat} {l : List Int} (h : Lst B (.slice a n c) l w) (X : World) (hb : Below w.heap.size w X) : SrcA X a c l := by
  rcases h with ⟨h1, rfl⟩ | ⟨g, cap, cur, h1, h2, h3, h4, h5, h6⟩
  · cases h1
    exact .inl ⟨rfl, rfl, rfl⟩
  · cases h1
    exact .inr ⟨_, rfl, cells_src fun j hj => by
      rw [Nat.zero_add]
      exact (hb.cell (p := ⟨g, j, none⟩) (lt_hp h5)).trans (h6 j hj)⟩
theorem app_below {w w2 : World} (h : (w.alloc (.cells #[] 3)).grownBy w2 (some w.heap.size)) : Below w.heap.size w w2 :=
  (bl_al (Below.refl _ _) _).grown h (by simp) (fun j hj => by simp at hj; omega)
theorem lst_at {B g n cap : Nat} {l : List Int} {w : World} (h : Lst B (.slice (some ⟨g, 0, none⟩) n cap) l w) : B ≤ g ∧ n = l.length ∧ l.length ≤ cap ∧ cap ≤ 9223372036854775807 ∧ g < w.heap.size ∧ Junk g l.length w := by
  rcases Junk.lst h with ⟨h1, _⟩ | ⟨g', cap', h1, h2, h3, h4, h5⟩
  · cases h1
  · cases h1
    exact ⟨h2, rfl, h3, h4, lt_hp h5.1.choose_spec, h5⟩
end Go.Proofs.Ytgldgilhegdpjaa
