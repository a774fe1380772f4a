/-
  Appending a list to one that the law has built.
-/
import Derived.Test.YtaihmkflhapjeaaPoZ
namespace Go.Proofs.Ytaihmkflhapjeaa
open Go.RowKit Go.MuLone
set_option linter.unusedVariables false
theorem app_run2 (B g0 c0 : Nat) (L0 l : List Int) (a : Option Addr) (c : Nat) (X : World) (hl : L0.length + l.length ≤ 1000) (hown : X.ownsRow B 3 1 (.slice (some ⟨g0, 0, none⟩) L0.length c0) L0.length (L0.map (Value.int .i64))) (hB : B ≤ X.heap.size) (hs : SrcA X a c l) :
    ∃ g cap X', (Builtin.append_ #[36, 36] 36 #[.slice (some ⟨g0, 0, none⟩) L0.length c0, .slice a l.length c]).run Try.prog X = .ok (.slice (some ⟨g, 0, none⟩) (L0.length + l.length) cap) X' ∧ X'.ownsRow B 3 1 (.slice (some ⟨g, 0, none⟩) (L0.length + l.length) cap) (L0.length + l.length) ((L0 ++ l).map (Value.int .i64)) ∧ X.grownBy X' (some g0) ∧ (g = g0 ∨ X.heap.size ≤ g) := by
  obtain ⟨i0, hi, hz0, hz1, hz2⟩ := info_parts info3
  rcases hs with ⟨rfl, rfl, rfl⟩ | ⟨ad, rfl, hc⟩
  · have hle : L0.length ≤ c0 := by
      rcases hown.2 with ⟨e, _⟩ | ⟨g, cap, cur, e, _, _, h3, _⟩
      · cases e
      · cases e; exact h3
    have hle : ¬ c0 < L0.length := by omega
    refine ⟨g0, c0, X, ?_, by simpa using hown, World.grownBy.refl X _, .inl rfl⟩
    simp [Builtin.append_, run_underlying Try.underlying36, sizeOf, typeInfo, zeroValue, hi, hz0, Builtin.lenOf, Question.forced, run_firstCells_none]
    simp [storeCells]
    exact fun e => absurd e hle
  · obtain ⟨v', w', hr, h2, h3, h4, h5⟩ := run_append_own_at (P := Try.prog) X B 36 36 3 i0 (.int .i64 0) 1 8 Try.underlying36 hi hz0 hz1 hz2 rfl (by decide) (.slice (some ⟨g0, 0, none⟩) L0.length c0) L0.length (L0.map (Value.int .i64)) hown ad l.length c (l.map (Value.int .i64)) (by simp) hc (by simp [Value.oneCell']) (by unfold maxLen; omega) (by omega) hB
    obtain ⟨g, cap, rfl⟩ := own_form h2 (fun e => by have := h4.1 e; simp at this)
    refine ⟨g, cap, w', by simpa using hr, by simpa using h2, h3, ?_⟩
    simp [Value.ownBlock] at h5
    omega
/-- behind an append -/
def AppK2 (B g0 : Nat) (L0 l : List Int) (X : World) (K : Value → World → Prop) : Prop := ∀ g cap X', X'.ownsRow B 3 1 (.slice (some ⟨g, 0, none⟩) (L0.length + l.length) cap) (L0.length + l.length) ((L0 ++ l).map (Value.int .i64)) → X.grownBy X' (some g0) → (g = g0 ∨ X.heap.size ≤ g) → K (.slice (some ⟨g, 0, none⟩) (L0.length + l.length) cap) X'
theorem wp_app2 {o : Oper} {A : Act} {X : World} {K : Act → World → Prop} {Q : Exit → Act → World → Prop} (s x : Operand) (ho : o.op = .call { callee := .builtin .append, args := #[s, x], argTypes := #[36, 36] }) (hty : o.type = 36)
    (B g0 c0 : Nat) (L0 l : List Int) (a : Option Addr) (c : Nat) (he : A.eval s = .slice (some ⟨g0, 0, none⟩) L0.length c0) (hx : A.eval x = .slice a l.length c) (hl : L0.length + l.length ≤ 1000) (hown : X.ownsRow B 3 1 (.slice (some ⟨g0, 0, none⟩) L0.length c0) L0.length (L0.map (Value.int .i64))) (hB : B ≤ X.heap.size) (hs : SrcA X a c l)
    (h : AppK2 B g0 L0 l X fun v X' => K (A.put o.dst v) X') : o.wp Try.prog A X K Q := by
  obtain ⟨g, cap, X', hr, h2, h3, h4⟩ := app_run2 B g0 c0 L0 l a c X hl hown hB hs
  unfold Oper.wp execOp
  simp only [ho, hty, resolve, invoke, builtin, Sem.run_bind, Sem.run_pure, Result.andThen_ok, List.map_toArray, List.map_cons, List.map_nil, he, hx, hr]
  exact h g cap X' h2 h3 h4
theorem wpList_app2 {ops : Array Oper} {rest : List Oper} {o : Oper} {A : Act} {X : World} {Q : Exit → Act → World → Prop} (hgd : o.guard = none) (s x : Operand) (ho : o.op = .call { callee := .builtin .append, args := #[s, x], argTypes := #[36, 36] }) (hty : o.type = 36)
    (B g0 c0 : Nat) (L0 l : List Int) (a : Option Addr) (c : Nat) (he : A.eval s = .slice (some ⟨g0, 0, none⟩) L0.length c0) (hx : A.eval x = .slice a l.length c) (hl : L0.length + l.length ≤ 1000) (hown : X.ownsRow B 3 1 (.slice (some ⟨g0, 0, none⟩) L0.length c0) L0.length (L0.map (Value.int .i64))) (hB : B ≤ X.heap.size) (hs : SrcA X a c l)
    (h : AppK2 B g0 L0 l X fun v X' => wpList Try.prog ops Q rest (A.put o.dst v) X') : wpList Try.prog ops Q (o :: rest) A X :=
  wpList_plain hgd fun _ hK => wp_app2 s x ho hty B g0 c0 L0 l a c he hx hl hown hB hs fun g cap X' h2 h3 h4 => hK _ _ (h g cap X' h2 h3 h4)
theorem step_app2 {ops : Array Oper} {o : Oper} {A : Act} {X : World} {K : Act → World → Prop} {Q : Exit → Act → World → Prop} {E : Prop} (hgd : o.guard = none) (s x : Operand) (ho : o.op = .call { callee := .builtin .append, args := #[s, x], argTypes := #[36, 36] }) (hty : o.type = 36)
    (B g0 c0 : Nat) (L0 l : List Int) (a : Option Addr) (c : Nat) (he : A.eval s = .slice (some ⟨g0, 0, none⟩) L0.length c0) (hx : A.eval x = .slice a l.length c) (hl : L0.length + l.length ≤ 1000) (hown : X.ownsRow B 3 1 (.slice (some ⟨g0, 0, none⟩) L0.length c0) L0.length (L0.map (Value.int .i64))) (hB : B ≤ X.heap.size) (hs : SrcA X a c l)
    (h : AppK2 B g0 L0 l X fun v X' => K (A.put o.dst v) X') : if Region.wanted o (yielded ops A.tmps) = true then Oper.wp Try.prog o A X K Q else E := by
  have hw : Region.wanted o (yielded ops A.tmps) = true := by simp [Region.wanted, hgd]
  rw [if_pos hw]
  exact wp_app2 s x ho hty B g0 c0 L0 l a c he hx hl hown hB hs h
end Go.Proofs.Ytaihmkflhapjeaa
