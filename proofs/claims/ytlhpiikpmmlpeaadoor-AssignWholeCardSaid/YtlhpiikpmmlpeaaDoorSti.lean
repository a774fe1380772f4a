import Derived.Test.YtlhpiikpmmlpeaaDoorAt
import Derived.StillTail
import Derived.StillTailTactics
import Derived.OrdersIn
import Derived.OwnWalkIn
namespace Go.Proofs.YtlhpiikpmmlpeaaDoor
open Go Go.Proofs

namespace sti

/-- Operations that enter no function and put nothing off. -/
def calm (o : Oper) : Bool :=
  match o.op with
  | .move _ | .assign _ | .load _ _ | .store _ _ _ | .binOp _ _ _ _ _ | .indexAddr _ _ _ | .fieldAddr _ _ _ => true
  | .call c => match c.callee with
    | .builtin .min => true
    | _ => false
  | _ => false

theorem val_run {P : Program} {s : Sem Value} {w w' : World} {x : Next} (h : (do pure (Next.value (← s)) : Sem Next).run P w = .ok x w') : (∃ v, x = .value v) ∨ x = .skip := by
  rw [Sem.run_bind] at h
  cases hs : s.run P w with
  | ok v w1 =>
    rw [hs] at h
    simp only [Result.andThen_ok, Sem.run_pure] at h
    injection h with h1 h2
    exact .inl ⟨v, h1.symm⟩
  | halt y w1 => rw [hs] at h; cases h

theorem unit_run {P : Program} {s : Sem Unit} {w w' : World} {x : Next} (h : (do s; pure Next.skip : Sem Next).run P w = .ok x w') : (∃ v, x = .value v) ∨ x = .skip := by
  rw [Sem.run_bind] at h
  cases hs : s.run P w with
  | ok v w1 =>
    rw [hs] at h
    simp only [Result.andThen_ok, Sem.run_pure] at h
    injection h with h1 h2
    exact .inr h1.symm
  | halt y w1 => rw [hs] at h; cases h

theorem calm_run {P : Program} {o : Oper} {ρ : Operand → Value} {w w' : World} {x : Next} (hc : calm o = true) (h : (execOp ρ o).run P w = .ok x w') : (∃ v, x = .value v) ∨ x = .skip := by
  unfold execOp at h
  unfold calm at hc
  split at hc
  · rename_i y ho; rw [ho] at h; simp only [Sem.run_pure] at h; injection h with h1 h2; exact .inl ⟨_, h1.symm⟩
  · rename_i y ho; rw [ho] at h; simp only [Sem.run_pure] at h; injection h with h1 h2; exact .inl ⟨_, h1.symm⟩
  · rename_i ho; rw [ho] at h; exact val_run h
  · rename_i ho; rw [ho] at h; exact unit_run h
  · rename_i ho; rw [ho] at h; exact val_run h
  · rename_i ho; rw [ho] at h; exact val_run h
  · rename_i ho; rw [ho] at h; exact val_run h
  · rename_i c ho
    rw [ho] at h
    split at hc
    · rename_i hb
      simp only [resolve, hb, Sem.run_bind, Sem.run_pure, Result.andThen_ok, invoke] at h
      exact val_run h
    · cases hc
  · cases hc

theorem calm_about {P : Program} {o : Oper} {ρ : Operand → Value} {w : World} (hc : calm o = true) : o.about P w ρ = none := by
  unfold Oper.about
  unfold calm at hc
  split at hc <;> try (rename_i ho; rw [ho])
  · rename_i c ho
    split at hc
    · rename_i hb
      simp only [resolve, hb, Sem.run_pure]
      rfl
    · cases hc
  · cases hc

theorem calm_defer {o : Oper} (hc : calm o = true) : ∀ c, o.op ≠ .defer c := by
  intro c h
  unfold calm at hc
  rw [h] at hc
  cases hc

/-- A post that wants the normal end alone. -/
def nrm (Q : Exit → Act → World → Prop) : Exit → Act → World → Prop := fun e a w => match e with
  | .normal => Q .normal a w
  | _ => False

theorem nrm_no {Q : Exit → Act → World → Prop} : ¬ LetsOut (nrm Q) := fun ⟨_, _, h⟩ => h

theorem anyIn_of_any {F : Fence} {n : Nat} {P : Program} {md : Region.Mode} {ops : Array Oper} {Q : Exit → Act → World → Prop} (hc : ∀ (i : Nat) (o : Oper), ops[i]? = some o → calm o = true) :
    ∀ (fuel : Nat) (listed : Array Bool) (a : Act) (w : World), wpAny P md ops (nrm Q) fuel listed a w → wpAnyIn F n P md ops Q fuel listed a w := by
  intro fuel
  induction fuel with
  | zero => exact fun _ _ _ h => h
  | succ fuel ih =>
    intro listed a w h
    refine ⟨h.1, fun i hi => ?_⟩
    have h1 := h.2 i hi
    unfold wpOp at h1
    unfold wpOpIn
    cases ho : ops[i]? with
    | none => simp only [ho] at h1 ⊢; exact ih _ _ _ h1
    | some o =>
      simp only [ho] at h1 ⊢
      have hco := hc i o ho
      have hab : ∀ f, o.about P w a.eval = some f → F.fn f := fun f hf => by rw [calm_about hco] at hf; cases hf
      split
      · rename_i hw
        simp only [hw, if_true] at h1
        rcases h1 with h1 | h1
        · refine ⟨hab, ?_⟩
          unfold Oper.wp at h1
          rw [Oper.semAt_plain F _ _ (calm_defer hco)]
          cases hr : (execOp a.eval o).run P w with
          | ok x w' =>
            rw [hr] at h1
            rcases calm_run hco hr with ⟨v, rfl⟩ | rfl
            · rw [Oper.upon_value] at h1
              rw [Oper.uponIn_value]
              exact ih _ _ _ h1
            · rw [Oper.upon_skip] at h1
              rw [Oper.uponIn_skip]
              exact ih _ _ _ h1
          | halt y w' =>
            rw [hr] at h1
            cases y <;> exact h1.elim
        · exact (nrm_no h1.2).elim
      · rename_i hw
        simp only [hw] at h1
        exact ⟨hab, ih _ _ _ h1⟩

/-- A drawn region of calm operations that read, with a tail in one order: inside any fence. -/
theorem region_still_tail {F : Fence} {m : Nat} {P : Program} {id : Nat} {Q : Exit → Act → World → Prop} {a : Act} {w : World} {l : List Oper} (n : Nat) (hm : P.follows .mixedOrders = true) (hcl : l.all calm = true)
    (hB : Region.lexTailB .any l.toArray n = true)
    (h : wpStill P l.toArray { w with drawn := w.drawn + 1 } (fun a' => wpList P l.toArray (nrm Q) (l.drop n) a' { w with drawn := w.drawn + 1 }) (l.take n) a) : (Code.region id l.toArray true).wpIn F m P Q a w := by
  refine wpIn_region_any hm (anyIn_of_any (fun i o ho => ?_) _ _ _ _ ?_)
  · rw [List.getElem?_toArray] at ho
    exact List.all_eq_true.1 hcl o (List.mem_of_getElem? ho)
  · simp only [Region.lexTailB, Bool.and_eq_true, decide_eq_true_eq] at hB
    obtain ⟨⟨⟨⟨hsel, hn⟩, hs⟩, hc⟩, hlex⟩ := hB
    have hn1 : n < l.length := by simpa using hn
    have e1 : (l.take n).length = n := by rw [List.length_take]; omega
    have e2 : (l.drop n).length = l.length - n := List.length_drop
    have e3 : l.toArray.size = n + (l.length - n) := by rw [List.size_toArray]; omega
    have H := wpAnyL_lex (md := .any) (g := l.length - n) hsel hs hc hn (l.take n) 0 (Array.replicate l.toArray.size false) a
      (fun j hj => by rw [e1] at hj; rw [Nat.zero_add, List.getElem?_take_of_lt hj, List.getElem?_toArray]) (by rw [Nat.zero_add]; exact e1)
      ⟨by simp, fun j oj _ hl => absurd hl (by rw [getD_replicate_false]; decide), fun t _ ht => getD_in (by simpa using ht) (getD_replicate_false _ _)⟩
      (by rw [e1]; rw [e3] at hlex; simpa [e3] using hlex) h
    have G := wpAny_of_head (Q' := nrm Q) (g := l.length - n) (fun listed a' hL => by
      have g0 := wpAny_of_seq (md := .any) (Q' := nrm Q) (l.drop n) n listed a' { w with drawn := w.drawn + 1 } (fun j => by rw [List.getElem?_drop, List.getElem?_toArray]) (by rw [e2]; exact hL.1) hL.2
      rw [e2] at g0
      exact g0) _ _ _ H
    rw [e1, ← e3] at G
    exact G

macro "gi_still_tail " n:num ", " hm:term : tactic => `(tactic|
  (refine sti.region_still_tail $n $hm (by kernel_rfl) (by kernel_rfl) ?_
   simp only [List.take_succ_cons, List.take_zero, List.drop_succ_cons, List.drop_zero]))
end sti
end Go.Proofs.YtlhpiikpmmlpeaaDoor
