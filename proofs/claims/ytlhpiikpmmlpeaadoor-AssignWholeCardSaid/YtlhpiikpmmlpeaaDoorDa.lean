/-
  A region that draws, by what each operation leaves: one proof for each operation, none for each order.
-/
import Derived.Test.YtlhpiikpmmlpeaaDoorKb
import Derived.Deep.RegionHeld3
namespace Go.Proofs.YtlhpiikpmmlpeaaDoor.ri
open Go.RowKit
set_option linter.unusedVariables false
section
variable {P : Program} {ops : Array Oper} {Q : Exit → Act → World → Prop} {md : Region.Mode}
theorem any_inv (Inv : Array Bool → Act → World → Prop)
    (hstep : ∀ k done a w, k ∈ Region.ready md ops done → Inv done a w → wpOp P ops Q k (Inv (done.setIfInBounds k true)) a w)
    (hend : ∀ done a w, Region.ready md ops done = [] → Inv done a w → Q .normal a w) :
    ∀ (n : Nat) (l : List Nat) (done : Array Bool) (a : Act) (w : World), l.length = n → (∀ j, done.getD j true = false → j ∈ l) → Inv done a w → wpAny P md ops Q n done a w
  | 0, l, done, a, w, hl, hu, hI => by
    have hr : Region.ready md ops done = [] := by
      rw [List.eq_nil_iff_forall_not_mem]
      intro k hk
      have := hu k (mem_ready.1 hk).1
      rw [List.eq_nil_of_length_eq_zero hl] at this
      simp at this
    exact ⟨hr, hend done a w hr hI⟩
  | n + 1, l, done, a, w, hl, hu, hI => by
    refine ⟨fun hr => hend done a w hr hI, fun k hk => ?_⟩
    have hkl := hu k (mem_ready.1 hk).1
    refine wpOp_mono (fun b x hx => any_inv Inv hstep hend n (l.erase k) _ b x ?_ (fun j hj => ?_) hx) (hstep k done a w hk hI)
    · rw [List.length_erase_of_mem hkl]; omega
    · by_cases e : k = j
      · subst e
        rcases Nat.lt_or_ge k done.size with c | c
        · simp [Array.getD, c] at hj
        · simp [Array.getD, Nat.not_lt.2 c] at hj
      · rw [getD_set_ne true e] at hj
        exact (List.mem_erase_of_ne (fun q => e q.symm)).2 (hu j hj)
end
/-- what holds while a region runs: dst: where each operation puts its answer; con: the one operation that uses it -/
structure RI (N : Nat) (dst con : Nat → Nat) (F : Nat → Value → World → Prop) (R : World → Prop) (base : Act) (done : Array Bool) (a : Act) (w : World) : Prop where
  sz : done.size = N
  df : a.defers = base.defers
  ts : a.tmps.size = base.tmps.size
  fr : ∀ d, (∀ j, j < N → done.getD j false = true → dst j ≠ d) → a.tmps[d]? = base.tmps[d]?
  lv : ∀ j, j < N → done.getD j false = true → done.getD (con j) false = false → F j (a.eval (.tmp (dst j))) w
  hr : R w
  cl : ∀ i, i < N → done.getD (con i) false = true → done.getD i false = true
theorem gd_set (done : Array Bool) (k j : Nat) (hk : k < done.size) : (done.setIfInBounds k true).getD j false = (if k = j then true else done.getD j false) := by
  by_cases e : k = j
  · subst e; simp [Array.getD, hk]
  · rw [if_neg e, getD_set_ne false e]
theorem eval_put (a : Act) (d : Nat) (v : Value) (hd : d < a.tmps.size) : (a.put (some d) v).eval (.tmp d) = v := by
  unfold Act.put Act.eval
  simp [Array.getD, hd]
theorem eval_put_ne (a : Act) (d e : Nat) (v : Value) (h : d ≠ e) : (a.put (some d) v).eval (.tmp e) = a.eval (.tmp e) := by
  show (a.tmps.setIfInBounds d v).getD e undef = a.tmps.getD e undef
  rw [Array.getD_eq_getD_getElem?, Array.getD_eq_getD_getElem?, Array.getElem?_setIfInBounds_ne h]
section
variable {N : Nat} {dst con : Nat → Nat} {F : Nat → Value → World → Prop} {R : World → Prop} {base : Act}
theorem RI.step {done : Array Bool} {a : Act} {w w' : World} {k : Nat} {v : Value} (h : RI N dst con F R base done a w) (hk : k < N) (hd : ∀ j, j < N → j ≠ k → dst j ≠ dst k) (hsz : dst k < base.tmps.size)
    (hdp : ∀ i, i < N → con i = k → done.getD i false = true) (hv : F k v w') (hR : R w') (hst : ∀ j u, j < N → j ≠ k → con j ≠ k → done.getD j false = true → done.getD (con j) false = false → F j u w → F j u w') :
    RI N dst con F R base (done.setIfInBounds k true) (a.put (some (dst k)) v) w' := by
  have hks : k < done.size := by rw [h.sz]; exact hk
  refine ⟨by simp [h.sz], h.df, by simp [Act.put, h.ts], fun d hd' => ?_, fun j hj hdj hcj => ?_, hR, fun i hi hci => ?_⟩
  rotate_left 2
  · rw [gd_set done k _ hks] at hci ⊢
    by_cases e : k = i
    · rw [if_pos e]
    · rw [if_neg e]
      by_cases e2 : k = con i
      · exact hdp i hi e2.symm
      · rw [if_neg e2] at hci
        exact h.cl i hi hci
  · have e1 : dst k ≠ d := hd' k hk (by rw [gd_set done k k hks, if_pos rfl])
    have e2 := h.fr d (fun j hj hdj => hd' j hj (by rw [gd_set done k j hks]; split <;> simp_all))
    show (a.tmps.setIfInBounds (dst k) v)[d]? = _
    rw [Array.getElem?_setIfInBounds_ne e1]
    exact e2
  · rw [gd_set done k _ hks] at hdj hcj
    by_cases e : k = con j
    · rw [if_pos e] at hcj; cases hcj
    · rw [if_neg e] at hcj
      by_cases e2 : k = j
      · subst e2
        rw [eval_put a _ v (by rw [h.ts]; exact hsz)]
        exact hv
      · rw [if_neg e2] at hdj
        rw [eval_put_ne a _ _ v (fun q => hd j hj (fun z => e2 z.symm) q.symm)]
        exact hst j _ hj (fun z => e2 z.symm) (fun z => e z.symm) hdj hcj (h.lv j hj hdj hcj)
theorem fold_at (f : Nat → Value) : ∀ (ds : List Nat) (T : Array Value) (e : Nat), (ds.foldl (fun t d => t.setIfInBounds d (f d)) T)[e]? = if e ∈ ds ∧ e < T.size then some (f e) else T[e]?
  | [], T, e => by simp
  | d :: ds, T, e => by
    show (ds.foldl _ (T.setIfInBounds d (f d)))[e]? = _
    rw [fold_at f ds, Array.size_setIfInBounds]
    by_cases h1 : e ∈ ds ∧ e < T.size
    · rw [if_pos h1, if_pos ⟨List.mem_cons_of_mem _ h1.1, h1.2⟩]
    · rw [if_neg h1]
      by_cases h2 : d = e
      · subst h2
        by_cases h3 : d < T.size
        · rw [if_pos ⟨List.mem_cons_self .., h3⟩]
          simp [h3]
        · rw [if_neg (fun q => h3 q.2)]
          simp [h3]
      · rw [Array.getElem?_setIfInBounds_ne h2, if_neg (fun q => h1 ⟨by rcases List.mem_cons.1 q.1 with z | z; exact absurd z.symm h2; exact z, q.2⟩)]
theorem region {P : Program} {ops : Array Oper} {Q : Exit → Act → World → Prop} {id : Nat} {w : World} (N : Nat) (dst con : Nat → Nat) (F : Nat → Value → World → Prop) (R : World → Prop) (base : Act) (hm : P.follows .mixedOrders = true) (hN : ops.size = N)
    (hop : ∀ k, k < N → ∃ o, ops[k]? = some o ∧ ∀ e ∈ o.after, e.on < k) (hR : R w.drew)
    (hstep : ∀ k done a x, k < N → done.getD k true = false → (∀ o, ops[k]? = some o → ∀ e ∈ o.after, Region.binds .any e = true → done.getD e.on false = true) → RI N dst con F R base done a x → wpOp P ops Q k (RI N dst con F R base (done.setIfInBounds k true)) a x)
    (hend : ∀ (u : Nat → Value) x, (∀ j, j < N → N ≤ con j → F j (u (dst j)) x) → R x → Q .normal ⟨((List.range N).map dst).foldl (fun t d => t.setIfInBounds d (u d)) base.tmps, base.defers⟩ x) :
    (Code.region id ops true).wp P Q base w := by
  refine wp_region_any hm (any_inv (RI N dst con F R base) (fun k done a x hk hI => ?_) (fun done a x hr hI => ?_) ops.size (List.range N) (Array.replicate ops.size false) base w.drew (by rw [List.length_range, hN]) (fun j hj => ?_) ?_)
  · have hm := mem_ready.1 hk
    obtain ⟨h1, p, hp, h2⟩ := hm
    have hkN : k < N := by
      rcases Nat.lt_or_ge k N with c | c
      · exact c
      · rw [Array.getElem?_eq_none (by omega)] at hp; cases hp
    exact hstep k done a x hkN h1 (fun o ho e he hb => by rw [hp] at ho; injection ho with ho; subst ho; exact h2 e he hb) hI
  · -- all are done
    have all : ∀ n j, j < n → j < N → done.getD j false = true := by
      intro n
      induction n with
      | zero => intro j hj _; omega
      | succ n ih =>
        intro j hj hjN
        rcases Nat.lt_or_ge j n with c | c
        · exact ih j c hjN
        · obtain rfl : j = n := by omega
          cases hd : done.getD j false with
          | true => rfl
          | false =>
            exfalso
            obtain ⟨o, ho, hb⟩ := hop j hjN
            have hjs : j < done.size := by rw [hI.sz]; exact hjN
            have : j ∈ Region.ready .any ops done := by
              refine mem_ready.2 ⟨?_, o, ho, fun e he _ => ih e.on (hb e he) (by have := hb e he; omega)⟩
              simp [Array.getD, hjs] at hd ⊢
              exact hd
            rw [hr] at this
            simp at this
    have key : a = ⟨((List.range N).map dst).foldl (fun t d => t.setIfInBounds d (a.eval (.tmp d))) base.tmps, base.defers⟩ := by
      have e : a.tmps = ((List.range N).map dst).foldl (fun t d => t.setIfInBounds d (a.eval (.tmp d))) base.tmps := by
        refine Array.ext_getElem? (fun d => ?_)
        rw [fold_at]
        by_cases h1 : d ∈ (List.range N).map dst ∧ d < base.tmps.size
        · rw [if_pos h1]
          have hlt : d < a.tmps.size := by rw [hI.ts]; exact h1.2
          show _ = some (a.tmps.getD d undef)
          simp [Array.getD, hlt]
        · rw [if_neg h1]
          by_cases h2 : d < base.tmps.size
          · exact hI.fr d (fun j hj _ q => h1 ⟨List.mem_map.2 ⟨j, List.mem_range.2 hj, q⟩, h2⟩)
          · rw [Array.getElem?_eq_none (by rw [hI.ts]; omega), Array.getElem?_eq_none (by omega)]
      have e2 := hI.df
      cases a
      simp only at e e2
      subst e2
      exact congrArg (fun t => Act.mk t _) e
    rw [key]
    refine hend (fun d => a.eval (.tmp d)) x (fun j hj hc => hI.lv j hj (all N j hj hj) ?_) hI.hr
    rw [Array.getD_eq_getD_getElem?, Array.getElem?_eq_none (by rw [hI.sz]; exact hc)]
    rfl
  · rw [List.mem_range, ← hN]
    rcases Nat.lt_or_ge j ops.size with c | c
    · exact c
    · rw [Array.getD_eq_getD_getElem?, Array.getElem?_eq_none (by simpa using c)] at hj; cases hj
  · have nf : ∀ j, (Array.replicate ops.size false).getD j false = false := fun j => by
      rw [Array.getD_eq_getD_getElem?, Array.getElem?_replicate]
      split <;> rfl
    exact ⟨by simp [hN], rfl, rfl, fun d _ => rfl, fun j _ hdj => absurd hdj (by rw [nf]; decide), hR, fun i _ hdi => absurd hdi (by rw [nf]; decide)⟩
/-- an operation without a guard that answers -/
theorem plain {P : Program} {ops : Array Oper} {Q : Exit → Act → World → Prop} {k : Nat} {o : Oper} {K : Act → World → Prop} {a : Act} {w w' : World} {v : Value} (ho : ops[k]? = some o) (hg : o.guard = none) (hr : (execOp a.eval o).run P w = .ok (.value v) w') (hK : K (a.put o.dst v) w') : wpOp P ops Q k K a w :=
  wpOp_step ho fun K' hK' => by
    rw [if_pos (by simp [Region.wanted, hg])]
    unfold Oper.wp
    rw [hr]
    exact hK' _ _ hK
end
end Go.Proofs.YtlhpiikpmmlpeaaDoor.ri
