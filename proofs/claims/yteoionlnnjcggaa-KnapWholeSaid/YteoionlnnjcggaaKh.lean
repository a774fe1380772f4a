/-
  A region that draws: what holds of the world need not hold behind its last operation.
-/
import Derived.Test.YteoionlnnjcggaaKb
import Derived.Deep.RegionHeld3
namespace Go.Proofs.Yteoionlnnjcggaa.kn
open Go Go.RowKit
set_option linter.unusedVariables false
section
variable {P : Program} {ops : Array Oper} {Q : Exit → Act → World → Prop} {md : Region.Mode} {S : World → Prop} {z : Nat}
/-- in whatever order they come up; S holds behind each but z -/
def HeldL (P : Program) (md : Region.Mode) (ops : Array Oper) (Q : Exit → Act → World → Prop) (S : World → Prop) (z : Nat) : Nat → Array Bool → Act → World → Prop
  | 0, done, a, w => Region.ready md ops done = [] ∧ Q .normal a w
  | n + 1, done, a, w => (Region.ready md ops done = [] → Q .normal a w) ∧
      ∀ k, k ∈ Region.ready md ops done → wpOp P ops Q k (fun b x => (k ≠ z → S x) ∧ HeldL P md ops Q S z n (done.setIfInBounds k true) b x) a w
theorem HeldL.any : ∀ (n : Nat) (done : Array Bool) (a : Act) (w : World), HeldL P md ops Q S z n done a w → wpAny P md ops Q n done a w
  | 0, _, _, _, h => h
  | n + 1, _, _, _, h => ⟨h.1, fun k hk => wpOp_mono (fun b x hx => HeldL.any n _ b x hx.2) (h.2 k hk)⟩
/-- z waits for k -/
def waits (md : Region.Mode) (ops : Array Oper) (z k : Nat) : Bool := match ops[z]? with
  | some p => p.after.any (fun e => Region.binds md e && e.on == k)
  | none => false
theorem waits_not {k : Nat} {done : Array Bool} (h : waits md ops z k = true) (hk : k ∈ Region.ready md ops done) : z ∉ Region.ready md ops done := fun hz => by
  obtain ⟨_, p, hp, hall⟩ := mem_ready.1 hz
  have hk0 := (mem_ready.1 hk).1
  unfold waits at h
  rw [hp] at h
  simp only [Array.any_eq_true] at h
  obtain ⟨j, hj, he⟩ := h
  simp only [Bool.and_eq_true, beq_iff_eq] at he
  have q1 := hall _ (Array.getElem_mem hj) he.1
  rw [he.2] at q1
  rcases Nat.lt_or_ge k done.size with c | c
  · simp [c] at hk0 q1
    rw [hk0] at q1
    cases q1
  · simp [Array.getElem?_eq_none c] at q1
theorem HeldL.first {k : Nat} {o : Oper} {v : Value} (ho : ops[k]? = some o) (hz : waits md ops z k = true) (hsel : ∀ (j : Nat) (p : Oper) cs b, ops[j]? = some p → p.op ≠ .select cs b) (hQ : ∀ c a w, Q (.panic c) (a.put o.dst v) w → Q (.panic c) a w) :
    ∀ (n : Nat) (done : Array Bool) (a : Act) (w : World), (∀ j p, ops[j]? = some p → j ≠ k → done.getD j true = false → (∀ e ∈ p.after, Region.binds md e = true → e.on ≠ k) → o.apart ops p = true) →
      k ∈ Region.ready md ops done → YieldsIf P ops S o v a → S w → HeldL P md ops Q S z n (done.setIfInBounds k true) (a.put o.dst v) w → HeldL P md ops Q S z (n + 1) done a w := by
  intro n
  induction n with
  | zero =>
    intro done a w hf hr hy hS H
    refine ⟨fun h => (by rw [h] at hr; cases hr), fun j hj => ?_⟩
    by_cases e : j = k
    · subst e
      exact hy.wpOp ho hS ⟨fun _ => hS, H⟩
    · have := ready_mono hj e
      rw [H.1] at this
      cases this
  | succ n ih =>
    intro done a w hf hr hy hS H
    refine ⟨fun h => (by rw [h] at hr; cases hr), fun j hj => ?_⟩
    by_cases e : j = k
    · subst e
      exact hy.wpOp ho hS ⟨fun _ => hS, H⟩
    · have hjz : j ≠ z := fun e2 => by subst e2; exact waits_not hz hr hj
      have g1 := H.2 j (ready_mono hj e)
      obtain ⟨hu, p, hp, hall⟩ := mem_ready.1 hj
      have hk0 := (mem_ready.1 hr).1
      have g2 : ∀ d ∈ p.after, Region.binds md d = true → d.on ≠ k := fun d hd hb hq => by
        have q1 := hall d hd hb
        rw [hq] at q1
        rcases Nat.lt_or_ge k done.size with c | c
        · simp [c] at hk0 q1
          rw [hk0] at q1
          cases q1
        · simp [Array.getElem?_eq_none c] at q1
      have g3 := wpOp_putIf hp (hf j p hp e hu g2) (fun cs b => hsel k o cs b ho) (fun cs b => hsel j p cs b hp) hQ hy g1
      have hf2 : ∀ i p, ops[i]? = some p → i ≠ k → (done.setIfInBounds j true).getD i true = false → (∀ e ∈ p.after, Region.binds md e = true → e.on ≠ k) → o.apart ops p = true := fun i p hp hik hun hno => by
        refine hf i p hp hik ?_ hno
        by_cases e2 : j = i
        · subst e2; exact hu
        · rw [getD_set_ne true e2] at hun; exact hun
      refine wpOp_mono (fun b x hx => ⟨hx.2.1, ih (done.setIfInBounds j true) b x hf2 (ready_mono hr (Ne.symm e)) hx.1 (hx.2.1 hjz) ?_⟩) g3
      rw [Array.setIfInBounds_comm _ _ e]
      exact hx.2.2
theorem HeldL.take {k : Nat} {o : Oper} {v : Value} {n : Nat} {done : Array Bool} {a : Act} {w : World} (ho : ops[k]? = some o) (hz : waits md ops z k = true) (hs : Region.noSelect ops = true) (hf : Region.free md ops done k = true) (hr : (Region.ready md ops done).contains k = true)
    (hQ : ∀ c a w, Q (.panic c) (a.put o.dst v) w → Q (.panic c) a w) (hy : YieldsIf P ops S o v a) (hS : S w) (h : HeldL P md ops Q S z n (done.setIfInBounds k true) (a.put o.dst v) w) : HeldL P md ops Q S z (n + 1) done a w :=
  HeldL.first ho hz (Region.noSelect_spec hs) hQ n done a w (Region.free_spec ho hf) (by simpa using hr) hy hS h
/-- just one may come up -/
theorem HeldL.one {k : Nat} {o : Oper} {n : Nat} {done : Array Bool} {a : Act} {w : World} (hr : Region.ready md ops done = [k]) (ho : ops[k]? = some o)
    (h : ∀ K : Act → World → Prop, Shut (∀ b x, (k ≠ z → S x) → ((k ≠ z → S x) → HeldL P md ops Q S z n (done.setIfInBounds k true) b x) → K b x) → if Region.wanted o (yielded ops a.tmps) = true then Oper.wp P o a w K Q else K (a.put o.dst undef) w) : HeldL P md ops Q S z (n + 1) done a w := by
  refine ⟨fun h0 => (by rw [hr] at h0; cases h0), fun j hj => ?_⟩
  rw [hr] at hj
  simp at hj
  subst hj
  exact wpOp_step ho (fun K hK => h K (fun b x hS hx => hK b x ⟨hS, hx hS⟩))
theorem HeldL.over {done : Array Bool} {a : Act} {w : World} (hr : Region.ready md ops done = []) (h : Q .normal a w) : ∀ n, HeldL P md ops Q S z n done a w
  | 0 => ⟨hr, h⟩
  | _ + 1 => ⟨fun _ => h, by rw [hr]; simp⟩
theorem HeldL.begin {id : Nat} {a : Act} {w : World} (S : World → Prop) (z : Nat) (hm : P.follows .mixedOrders = true) (hS : S w.drew) (h : S w.drew → HeldL P .any ops Q S z ops.size (Array.replicate ops.size false) a w.drew) : (Code.region id ops true).wp P Q a w :=
  wp_region_any hm (HeldL.any _ _ _ _ (h hS))
end
end Go.Proofs.Yteoionlnnjcggaa.kn
