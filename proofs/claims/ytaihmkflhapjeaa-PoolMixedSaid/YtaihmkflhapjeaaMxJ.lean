/-
  PoolMixed: one number more at the end of a list that the law keeps; the act's box behind a store elsewhere.
-/
import Derived.Test.YtaihmkflhapjeaaMxI
namespace Go.Proofs.Ytaihmkflhapjeaa
open Go.RowKit Go.MuLone
set_option linter.unusedVariables false
theorem vblk_own (v : Value) (b : Nat) : b ∈ vblk v ↔ v.ownBlock = some b := by
  cases v with
  | slice a n c =>
    cases a with
    | none => simp [vblk, Value.ownBlock]
    | some ad =>
      obtain ⟨g, o, p⟩ := ad
      simp [vblk, Value.ownBlock, eq_comm]
  | _ => simp [vblk, Value.ownBlock]
theorem iv_app (L : List Nat) (m : Nat) : (L ++ [m]).map iv = L.map iv ++ [.int .i64 (m : Int)] := by simp [iv]
theorem wpList_app1 {ops : Array Oper} {rest : List Oper} {o : Oper} {A : Act} {X : World} {Q : Exit → Act → World → Prop} (hgd : o.guard = none) (s x : Operand) (ho : o.op = .call { callee := .builtin .append, args := #[s, x], argTypes := #[36, 36] }) (hty : o.type = 36)
    (B : Nat) (v : Value) (L : List Nat) (m g1 : Nat) (he : A.eval s = v) (hx : A.eval x = .slice (some ⟨g1, 0, none⟩) 1 1) (hl : L.length ≤ 900) (hown : Oh B v L X) (hB : B ≤ X.heap.size) (hc : X.cell? ⟨g1, 0, none⟩ = some (.int .i64 (m : Int)))
    (h : ∀ v' X', Oh B v' (L ++ [m]) X' → Tw (vblk v) X X' → (∀ b, b ∈ vblk v' → b ∈ vblk v ∨ X.heap.size ≤ b) → wpList Try.prog ops Q rest (A.put o.dst v') X') : wpList Try.prog ops Q (o :: rest) A X := by
  obtain ⟨i0, hi, hz0, hz1, hz2⟩ := info_parts info3
  obtain ⟨v', w', hr, h2, h3, h4, h5⟩ := run_append_own_at (P := Try.prog) X B 36 36 3 i0 (.int .i64 0) 1 8 Try.underlying36 hi hz0 hz1 hz2 rfl (by decide) v L.length (L.map iv) hown ⟨g1, 0, none⟩ 1 1 [.int .i64 (m : Int)] (by simp) (fun j u hj => by
    cases j with
    | zero => simp at hj; subst hj; exact hc
    | succ j => simp at hj) (by simp [Value.oneCell']) (by unfold maxLen; omega) (by omega) hB
  refine wpList_plain hgd fun K hK => ?_
  unfold Oper.wp execOp
  simp only [ho, hty, resolve, invoke, builtin, Sem.run_bind, Sem.run_pure, Result.andThen_ok, List.map_toArray, List.map_cons, List.map_nil, he, hx, hr]
  refine hK _ _ (h v' w' ?_ ⟨h3.os, h3.tape, h3.output, h3.size, fun b hb hn => h3.block b hb (fun e => hn ((vblk_own v b).mpr e.symm))⟩ (fun b hb => ?_))
  · show w'.ownsRow B 3 1 v' (L ++ [m]).length ((L ++ [m]).map iv)
    rw [iv_app, List.length_append]
    exact h2
  · have e := (vblk_own v' b).mp hb
    rcases h5 with h5 | h5
    · exact .inl ((vblk_own v b).mpr (h5 ▸ e))
    · rw [h5] at e
      injection e with e
      exact .inr (by omega)
/-- the act's box behind stores elsewhere -/
theorem box_far {w : World} {c : Nat} {C : Array Value} {D : Array Value} {t : TypeId} {d : Nat} (hc : w.heap[c]? = some (.cells C 52 (0, 0))) (hd : w.heap[d]? = some (.cells D t (0, 0))) (ht : t ≠ 52) (j : Nat) (v : Value) (k : Nat) : (w.setCell ⟨d, j, none⟩ v).cell? ⟨c, k, none⟩ = w.cell? ⟨c, k, none⟩ :=
  cell_tw (S := [d]) ((Tw.refl _ w).st d (.inl (by simp)) j v) (lt_hp hc) (by simp; exact blk_ty hc hd (fun e => ht e.symm)) k
end Go.Proofs.Ytaihmkflhapjeaa
