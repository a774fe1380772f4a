import Derived.Test.YteoionlnnjcggaaKb
import Derived.Deep.RegionHeld3
import Derived.Test.YteoionlnnjcggaaLoop

/-
  A region that draws, by what each operation leaves: one proof for each operation, none for each order.
-/
namespace Go.Proofs.Yteoionlnnjcggaa.ri
open Go.RowKit
set_option linter.unusedVariables false
section
variable {P : Program} {ops : Array Oper} {Q : Exit → Act → World → Prop} {md : Region.Mode}
theorem any_inv (Inv : Array Bool → Act → World → Prop)
    (hstep : ∀ k done a w, k ∈ Region.ready md ops done → Inv done a w → wpOp P ops Q k (Inv (done.setIfInBounds k true)) a w)
    (hend : ∀ done a w, Region.ready md ops done = [] → Inv done a w → Q .normal a w) :
    ∀ (n : Nat) (l : List Nat) (done : Array Bool) (a : Act) (w : World), l.length = n → (∀ j, done.getD j true = false → j ∈ l) → Inv done a w → wpAny P md ops Q n done a w
  | 0, l, done, a, w, hl, hu, hI => by
    have hr : Region.ready md ops done = [] := by
      rw [List.eq_nil_iff_forall_not_mem]
      intro k hk
      have := hu k (mem_ready.1 hk).1
      rw [List.eq_nil_of_length_eq_zero hl] at this
      simp at this
    exact ⟨hr, hend done a w hr hI⟩
  | n + 1, l, done, a, w, hl, hu, hI => by
    refine ⟨fun hr => hend done a w hr hI, fun k hk => ?_⟩
    have hkl := hu k (mem_ready.1 hk).1
    refine wpOp_mono (fun b x hx => any_inv Inv hstep hend n (l.erase k) _ b x ?_ (fun j hj => ?_) hx) (hstep k done a w hk hI)
    · rw [List.length_erase_of_mem hkl]; omega
    · by_cases e : k = j
      · subst e
        rcases Nat.lt_or_ge k done.size with c | c
        · simp [Array.getD, c] at hj
        · simp [Array.getD, Nat.not_lt.2 c] at hj
      · rw [getD_set_ne true e] at hj
        exact (List.mem_erase_of_ne (fun q => e q.symm)).2 (hu j hj)
end
/-- what holds while a region runs: dst: where each operation puts its answer; con: the one operation that uses it -/
structure RI (N : Nat) (dst con : Nat → Nat) (F : Nat → Value → World → Prop) (R : World → Prop) (base : Act) (done : Array Bool) (a : Act) (w : World) : Prop where
  sz : done.size = N
  df : a.defers = base.defers
  ts : a.tmps.size = base.tmps.size
  fr : ∀ d, (∀ j, j < N → done.getD j false = true → dst j ≠ d) → a.tmps[d]? = base.tmps[d]?
  lv : ∀ j, j < N → done.getD j false = true → done.getD (con j) false = false → F j (a.eval (.tmp (dst j))) w
  hr : R w
  cl : ∀ i, i < N → done.getD (con i) false = true → done.getD i false = true
theorem gd_set (done : Array Bool) (k j : Nat) (hk : k < done.size) : (done.setIfInBounds k true).getD j false = (if k = j then true else done.getD j false) := by
  by_cases e : k = j
  · subst e; simp [Array.getD, hk]
  · rw [if_neg e, getD_set_ne false e]
theorem eval_put (a : Act) (d : Nat) (v : Value) (hd : d < a.tmps.size) : (a.put (some d) v).eval (.tmp d) = v := by
  unfold Act.put Act.eval
  simp [Array.getD, hd]
theorem eval_put_ne (a : Act) (d e : Nat) (v : Value) (h : d ≠ e) : (a.put (some d) v).eval (.tmp e) = a.eval (.tmp e) := by
  show (a.tmps.setIfInBounds d v).getD e undef = a.tmps.getD e undef
  rw [Array.getD_eq_getD_getElem?, Array.getD_eq_getD_getElem?, Array.getElem?_setIfInBounds_ne h]
section
variable {N : Nat} {dst con : Nat → Nat} {F : Nat → Value → World → Prop} {R : World → Prop} {base : Act}
theorem RI.step {done : Array Bool} {a : Act} {w w' : World} {k : Nat} {v : Value} (h : RI N dst con F R base done a w) (hk : k < N) (hd : ∀ j, j < N → j ≠ k → dst j ≠ dst k) (hsz : dst k < base.tmps.size)
    (hdp : ∀ i, i < N → con i = k → done.getD i false = true) (hv : F k v w') (hR : R w') (hst : ∀ j u, j < N → j ≠ k → con j ≠ k → done.getD j false = true → done.getD (con j) false = false → F j u w → F j u w') :
    RI N dst con F R base (done.setIfInBounds k true) (a.put (some (dst k)) v) w' := by
  have hks : k < done.size := by rw [h.sz]; exact hk
  refine ⟨by simp [h.sz], h.df, by simp [Act.put, h.ts], fun d hd' => ?_, fun j hj hdj hcj => ?_, hR, fun i hi hci => ?_⟩
  rotate_left 2
  · rw [gd_set done k _ hks] at hci ⊢
    by_cases e : k = i
    · rw [if_pos e]
    · rw [if_neg e]
      by_cases e2 : k = con i
      · exact hdp i hi e2.symm
      · rw [if_neg e2] at hci
        exact h.cl i hi hci
  · have e1 : dst k ≠ d := hd' k hk (by rw [gd_set done k k hks, if_pos rfl])
    have e2 := h.fr d (fun j hj hdj => hd' j hj (by rw [gd_set done k j hks]; split <;> simp_all))
    show (a.tmps.setIfInBounds (dst k) v)[d]? = _
    rw [Array.getElem?_setIfInBounds_ne e1]
    exact e2
  · rw [gd_set done k _ hks] at hdj hcj
    by_cases e : k = con j
    · rw [if_pos e] at hcj; cases hcj
    · rw [if_neg e] at hcj
      by_cases e2 : k = j
      · subst e2
        rw [eval_put a _ v (by rw [h.ts]; exact hsz)]
        exact hv
      · rw [if_neg e2] at hdj
        rw [eval_put_ne a _ _ v (fun q => hd j hj (fun z => e2 z.symm) q.symm)]
        exact hst j _ hj (fun z => e2 z.symm) (fun z => e z.symm) hdj hcj (h.lv j hj hdj hcj)
theorem fold_at (f : Nat → Value) : ∀ (ds : List Nat) (T : Array Value) (e : Nat), (ds.foldl (fun t d => t.setIfInBounds d (f d)) T)[e]? = if e ∈ ds ∧ e < T.size then some (f e) else T[e]?
  | [], T, e => by simp
  | d :: ds, T, e => by
    show (ds.foldl _ (T.setIfInBounds d (f d)))[e]? = _
    rw [fold_at f ds, Array.size_setIfInBounds]
    by_cases h1 : e ∈ ds ∧ e < T.size
    · rw [if_pos h1, if_pos ⟨List.mem_cons_of_mem _ h1.1, h1.2⟩]
    · rw [if_neg h1]
      by_cases h2 : d = e
      · subst h2
        by_cases h3 : d < T.size
        · rw [if_pos ⟨List.mem_cons_self .., h3⟩]
          simp [h3]
        · rw [if_neg (fun q => h3 q.2)]
          simp [h3]
      · rw [Array.getElem?_setIfInBounds_ne h2, if_neg (fun q => h1 ⟨by rcases List.mem_cons.1 q.1 with z | z; exact absurd z.symm h2; exact z, q.2⟩)]
theorem region {P : Program} {ops : Array Oper} {Q : Exit → Act → World → Prop} {id : Nat} {w : World} (N : Nat) (dst con : Nat → Nat) (F : Nat → Value → World → Prop) (R : World → Prop) (base : Act) (hm : P.follows .mixedOrders = true) (hN : ops.size = N)
    (hop : ∀ k, k < N → ∃ o, ops[k]? = some o ∧ ∀ e ∈ o.after, e.on < k) (hR : R w.drew)
    (hstep : ∀ k done a x, k < N → done.getD k true = false → (∀ o, ops[k]? = some o → ∀ e ∈ o.after, Region.binds .any e = true → done.getD e.on false = true) → RI N dst con F R base done a x → wpOp P ops Q k (RI N dst con F R base (done.setIfInBounds k true)) a x)
    (hend : ∀ (u : Nat → Value) x, (∀ j, j < N → N ≤ con j → F j (u (dst j)) x) → R x → Q .normal ⟨((List.range N).map dst).foldl (fun t d => t.setIfInBounds d (u d)) base.tmps, base.defers⟩ x) :
    (Code.region id ops true).wp P Q base w := by
  refine wp_region_any hm (any_inv (RI N dst con F R base) (fun k done a x hk hI => ?_) (fun done a x hr hI => ?_) ops.size (List.range N) (Array.replicate ops.size false) base w.drew (by rw [List.length_range, hN]) (fun j hj => ?_) ?_)
  · have hm := mem_ready.1 hk
    obtain ⟨h1, p, hp, h2⟩ := hm
    have hkN : k < N := by
      rcases Nat.lt_or_ge k N with c | c
      · exact c
      · rw [Array.getElem?_eq_none (by omega)] at hp; cases hp
    exact hstep k done a x hkN h1 (fun o ho e he hb => by rw [hp] at ho; injection ho with ho; subst ho; exact h2 e he hb) hI
  · -- all are done
    have all : ∀ n j, j < n → j < N → done.getD j false = true := by
      intro n
      induction n with
      | zero => intro j hj _; omega
      | succ n ih =>
        intro j hj hjN
        rcases Nat.lt_or_ge j n with c | c
        · exact ih j c hjN
        · obtain rfl : j = n := by omega
          cases hd : done.getD j false with
          | true => rfl
          | false =>
            exfalso
            obtain ⟨o, ho, hb⟩ := hop j hjN
            have hjs : j < done.size := by rw [hI.sz]; exact hjN
            have : j ∈ Region.ready .any ops done := by
              refine mem_ready.2 ⟨?_, o, ho, fun e he _ => ih e.on (hb e he) (by have := hb e he; omega)⟩
              simp [Array.getD, hjs] at hd ⊢
              exact hd
            rw [hr] at this
            simp at this
    have key : a = ⟨((List.range N).map dst).foldl (fun t d => t.setIfInBounds d (a.eval (.tmp d))) base.tmps, base.defers⟩ := by
      have e : a.tmps = ((List.range N).map dst).foldl (fun t d => t.setIfInBounds d (a.eval (.tmp d))) base.tmps := by
        refine Array.ext_getElem? (fun d => ?_)
        rw [fold_at]
        by_cases h1 : d ∈ (List.range N).map dst ∧ d < base.tmps.size
        · rw [if_pos h1]
          have hlt : d < a.tmps.size := by rw [hI.ts]; exact h1.2
          show _ = some (a.tmps.getD d undef)
          simp [Array.getD, hlt]
        · rw [if_neg h1]
          by_cases h2 : d < base.tmps.size
          · exact hI.fr d (fun j hj _ q => h1 ⟨List.mem_map.2 ⟨j, List.mem_range.2 hj, q⟩, h2⟩)
          · rw [Array.getElem?_eq_none (by rw [hI.ts]; omega), Array.getElem?_eq_none (by omega)]
      have e2 := hI.df
      cases a
      simp only at e e2
      subst e2
      exact congrArg (fun t => Act.mk t _) e
    rw [key]
    refine hend (fun d => a.eval (.tmp d)) x (fun j hj hc => hI.lv j hj (all N j hj hj) ?_) hI.hr
    rw [Array.getD_eq_getD_getElem?, Array.getElem?_eq_none (by rw [hI.sz]; exact hc)]
    rfl
  · rw [List.mem_range, ← hN]
    rcases Nat.lt_or_ge j ops.size with c | c
    · exact c
    · rw [Array.getD_eq_getD_getElem?, Array.getElem?_eq_none (by simpa using c)] at hj; cases hj
  · have nf : ∀ j, (Array.replicate ops.size false).getD j false = false := fun j => by
      rw [Array.getD_eq_getD_getElem?, Array.getElem?_replicate]
      split <;> rfl
    exact ⟨by simp [hN], rfl, rfl, fun d _ => rfl, fun j _ hdj => absurd hdj (by rw [nf]; decide), hR, fun i _ hdi => absurd hdi (by rw [nf]; decide)⟩
/-- an operation without a guard that answers -/
theorem plain {P : Program} {ops : Array Oper} {Q : Exit → Act → World → Prop} {k : Nat} {o : Oper} {K : Act → World → Prop} {a : Act} {w w' : World} {v : Value} (ho : ops[k]? = some o) (hg : o.guard = none) (hr : (execOp a.eval o).run P w = .ok (.value v) w') (hK : K (a.put o.dst v) w') : wpOp P ops Q k K a w :=
  wpOp_step ho fun K' hK' => by
    rw [if_pos (by simp [Region.wanted, hg])]
    unfold Oper.wp
    rw [hr]
    exact hK' _ _ hK
end
end Go.Proofs.Yteoionlnnjcggaa.ri

/-
  Lists of rows that a law builds: in memory, under appends, cut short, and what they count to.
-/
namespace Go.Proofs.Yteoionlnnjcggaa.kn
open Go.RowKit
set_option linter.unusedVariables false
/-- rows in blocks of their own (from B0 on, ahead of H), and the list of them (from B on) -/
def MXg (B B0 H : Nat) (v : Value) (M : List (List Int)) (W : World) : Prop :=
  ∃ ws : List Value, W.ownsRow B 22 1 v M.length ws ∧ ws.length = M.length ∧ ∀ j, j < M.length → ∃ r, ws[j]? = some r ∧ Ol B0 r (M[j]?.getD []) W ∧ ∀ i, i ∈ vb r → i < H
theorem mxg_nil (B B0 H : Nat) (W : World) : MXg B B0 H (.slice none 0 0) [] W := ⟨[], World.ownsRow_nil _ _ _ _, rfl, fun j hj => absurd hj (by simp)⟩
theorem MXg.up {B B0 H H' : Nat} {v : Value} {M : List (List Int)} {W : World} (h : MXg B B0 H v M W) (hH : H ≤ H') : MXg B B0 H' v M W := by
  obtain ⟨ws, h1, h2, h3⟩ := h
  refine ⟨ws, h1, h2, fun j hj => ?_⟩
  obtain ⟨r, e1, e2, e3⟩ := h3 j hj
  exact ⟨r, e1, e2, fun i hi => Nat.lt_of_lt_of_le (e3 i hi) hH⟩
theorem MXg.top {B B0 H : Nat} {v : Value} {M : List (List Int)} {W : World} (h : MXg B B0 H v M W) : MXg B B0 W.heap.size v M W := by
  obtain ⟨ws, h1, h2, h3⟩ := h
  refine ⟨ws, h1, h2, fun j hj => ?_⟩
  obtain ⟨r, e1, e2, e3⟩ := h3 j hj
  refine ⟨r, e1, e2, fun i hi => ?_⟩
  obtain ⟨_, cur, hc⟩ := e2.blk i hi
  exact lt_hp hc
theorem own_mono {B C : Nat} {e : TypeId} {v : Value} {n : Nat} {xs : List Value} {W : World} (h : W.ownsRow B e 1 v n xs) (hc : C ≤ B) : W.ownsRow C e 1 v n xs := by
  refine ⟨h.1, ?_⟩
  rcases h.2 with hn | ⟨g, cap, cur, hv, hg, r⟩
  · exact .inl hn
  · exact .inr ⟨g, cap, cur, hv, Nat.le_trans hc hg, r⟩
theorem MXg.mono {B C B0 H : Nat} {v : Value} {M : List (List Int)} {W : World} (h : MXg B B0 H v M W) (hc : C ≤ B) : MXg C B0 H v M W := by
  obtain ⟨ws, h1, h2, h3⟩ := h
  exact ⟨ws, own_mono h1 hc, h2, h3⟩
/-- the list's own block -/
theorem MXg.blk {B B0 H : Nat} {v : Value} {M : List (List Int)} {W : World} (h : MXg B B0 H v M W) : ∀ i, i ∈ vb v → B ≤ i ∧ ∃ cur, W.heap[i]? = some (.cells cur 22 (0, 0)) := fun i hi => by
  obtain ⟨ws, h1, _⟩ := h
  rcases h1.2 with ⟨rfl, _⟩ | ⟨g, cap, cur, rfl, hg, hh, r⟩
  · simp [vb] at hi
  · simp [vb] at hi
    subst hi
    exact ⟨hg, cur, hh⟩
theorem own_tw {B : Nat} {e : TypeId} {v : Value} {n : Nat} {xs : List Value} {S : List Nat} {W W1 : World} (h : W.ownsRow B e 1 v n xs) (k : Tw S W W1) (hS : ∀ i, i ∈ S → i ∉ vb v) : W1.ownsRow B e 1 v n xs := by
  refine ⟨h.1, ?_⟩
  rcases h.2 with hn | ⟨g, cap, cur, rfl, hg, hh, r⟩
  · exact Or.inl hn
  · exact Or.inr ⟨g, cap, cur, rfl, hg, blk_tw hh k (fun hm => hS g hm (by simp [vb])), r⟩
theorem MXg.tw {B B0 H : Nat} {v : Value} {M : List (List Int)} {S : List Nat} {W W1 : World} (h : MXg B B0 H v M W) (k : Tw S W W1) (hS : ∀ i, i ∈ S → i ∉ vb v) (hr : ∀ i, i ∈ S → H ≤ i ∨ ∀ C, W.heap[i]? ≠ some (.cells C 3 (0, 0))) : MXg B B0 H v M W1 := by
  obtain ⟨ws, h1, h2, h3⟩ := h
  refine ⟨ws, own_tw h1 k hS, h2, fun j hj => ?_⟩
  obtain ⟨r, e1, e2, e3⟩ := h3 j hj
  refine ⟨r, e1, e2.keep k (fun i hi hm => ?_), e3⟩
  rcases hr i hi with q | q
  · have := e3 i hm; omega
  · obtain ⟨_, cur, hc⟩ := e2.blk i hm
    exact q cur hc
theorem MXg.keep {B B0 H : Nat} {v : Value} {M : List (List Int)} {W W1 : World} (h : MXg B B0 H v M W) (hb : Below W.heap.size W W1) : MXg B B0 H v M W1 := h.tw (Tw.of (S := []) hb) (by simp) (by simp)
theorem MXg.form {B B0 H : Nat} {v : Value} {M : List (List Int)} {W : World} (h : MXg B B0 H v M W) : ∃ a c, v = .slice a M.length c := by
  obtain ⟨ws, h1, _⟩ := h
  rcases h1.2 with ⟨h, h2⟩ | ⟨g, cap, cur, h, _⟩
  · rw [h2]; exact ⟨_, _, h⟩
  · exact ⟨_, _, h⟩
/-- where the rows lie -/
theorem MXg.cell {B B0 H : Nat} {v : Value} {M : List (List Int)} {W : World} (h : MXg B B0 H v M W) {j : Nat} (hj : j < M.length) : ∃ g c r, v = .slice (some ⟨g, 0, none⟩) M.length c ∧ W.cell? ⟨g, j, none⟩ = some r ∧ Ol B0 r (M[j]?.getD []) W ∧ g < W.heap.size ∧ M.length ≤ c ∧ c ≤ 9223372036854775807 := by
  obtain ⟨ws, h1, h2, h3⟩ := h
  obtain ⟨r, e1, e2, e3⟩ := h3 j hj
  rcases h1.2 with ⟨_, h0⟩ | ⟨g, cap, cur, hv, hg, hh, q1, q2, q3, q4⟩
  · omega
  · exact ⟨g, cap, r, hv, cell_take hh q4 e1, e2, lt_hp hh, q1, by unfold maxLen at q2; omega⟩
/-- the list without its last row -/
theorem MXg.pop {B B0 H : Nat} {g c : Nat} {M : List (List Int)} {p : List Int} {W : World} (h : MXg B B0 H (.slice (some ⟨g, 0, none⟩) (M ++ [p]).length c) (M ++ [p]) W) : MXg B B0 H (.slice (some ⟨g, 0, none⟩) M.length c) M W := by
  obtain ⟨ws, h1, h2, h3⟩ := h
  rw [List.length_append, List.length_singleton] at h1 h2
  refine ⟨ws.take M.length, ⟨by simp [h2], ?_⟩, by simp [h2], fun j hj => ?_⟩
  · rcases h1.2 with ⟨_, h0⟩ | ⟨g', cap, cur, hv, hg, hh, q1, q2, q3, q4⟩
    · omega
    · injection hv with hv e2 e3
      injection hv with hv
      injection hv with hv _ _
      subst hv
      subst e3
      refine Or.inr ⟨g, c, cur, rfl, hg, hh, by omega, q2, q3, ?_⟩
      rw [← q4, List.take_take]
      congr 1
      omega
  · obtain ⟨r, e1, e2, e3⟩ := h3 j (by rw [List.length_append, List.length_singleton]; omega)
    rw [List.getElem?_append_left hj] at e2
    exact ⟨r, by rw [List.getElem?_take_of_lt hj]; exact e1, e2, e3⟩
theorem ol_inj {B C : Nat} {v : Value} {L M : List Int} {W : World} (h : Ol B v L W) (k : Ol C v M W) : L = M := by
  have key : ∀ (L M : List Int), L.map (Value.int .i64) = M.map (Value.int .i64) → L = M := by
    intro L
    induction L with
    | nil => intro M h; cases M with | nil => rfl | cons a r => simp at h
    | cons a r ih =>
      intro M h
      cases M with
      | nil => simp at h
      | cons b s =>
        rw [List.map_cons, List.map_cons] at h
        injection h with h1 h2
        injection h1 with _ h1
        rw [h1, ih s h2]
  obtain ⟨a1, c1, e1⟩ := h.form
  obtain ⟨a2, c2, e2⟩ := k.form
  rcases h.2 with ⟨_, h0⟩ | ⟨g, cap, cur, hv, hg, hh, q1, q2, q3, q4⟩
  · rw [e1] at e2
    injection e2 with _ e2 _
    rw [List.length_eq_zero_iff.1 h0]
    rw [h0] at e2
    exact (List.length_eq_zero_iff.1 e2.symm).symm
  · rcases k.2 with ⟨_, k0⟩ | ⟨g', cap', cur', hv', hg', hh', r1, r2, r3, r4⟩
    · rw [e1] at e2
      injection e2 with _ e2 _
      rw [k0] at e2
      rw [List.length_eq_zero_iff.1 e2, List.length_eq_zero_iff.1 k0]
    · rw [hv] at hv'
      injection hv' with hv' e5 _
      injection hv' with hv'
      injection hv' with hv' _ _
      subst hv'
      rw [hh] at hh'
      injection hh' with hh'
      injection hh' with hh' _
      subst hh'
      rw [← e5] at r4
      exact key L M (q4.symm.trans r4)
/-- what is there is told by the memory alone -/
theorem MXg.inj {B B0 H C C0 G : Nat} {v : Value} {M Z : List (List Int)} {W : World} (h : MXg B B0 H v M W) (k : MXg C C0 G v Z W) : M = Z := by
  obtain ⟨a1, c1, e1⟩ := h.form
  obtain ⟨a2, c2, e2⟩ := k.form
  have hl : M.length = Z.length := by rw [e1] at e2; injection e2
  refine List.ext_getElem hl (fun j hj hj' => ?_)
  obtain ⟨g, c, r, x1, x2, x3, _⟩ := h.cell hj
  obtain ⟨g', c', r', y1, y2, y3, _⟩ := k.cell hj'
  rw [x1] at y1
  injection y1 with y1
  injection y1 with y1
  injection y1 with y1 _ _
  subst y1
  rw [x2] at y2
  injection y2 with y2
  subst y2
  have := ol_inj x3 y3
  rw [List.getElem?_eq_getElem hj, List.getElem?_eq_getElem hj'] at this
  exact this
/-- more rows -/
theorem MXg.app {B B0 H : Nat} {v v' : Value} {M Z : List (List Int)} {us : List Value} {W W' : World} (h : MXg B B0 H v M W) (hu : us.length = Z.length) (hz : ∀ j, j < Z.length → ∃ r, us[j]? = some r ∧ Ol B0 r (Z[j]?.getD []) W' ∧ ∀ i, i ∈ vb r → i < H) (ws : List Value) (hw : W.ownsRow B 22 1 v M.length ws)
    (hown : W'.ownsRow B 22 1 v' (M.length + Z.length) (ws ++ us)) (k : Tw (vb v) W W') : MXg B B0 H v' (M ++ Z) W' := by
  have hb := h.blk
  obtain ⟨xs, h1, h2, h3⟩ := h
  have he : ws = xs := by
    rcases hw.2 with ⟨e, h0⟩ | ⟨g, cap, cur, hv, hg, hh, q1, q2, q3, q4⟩
    · have a := hw.1; have b := h1.1
      rw [h0] at a b
      have a' : ws = [] := List.length_eq_zero_iff.1 (by omega)
      have b' : xs = [] := List.length_eq_zero_iff.1 (by omega)
      rw [a', b']
    · rcases h1.2 with ⟨e, h0⟩ | ⟨g', cap', cur', hv', hg', hh', r1, r2, r3, r4⟩
      · rw [hv] at e; cases e
      · rw [hv] at hv'
        injection hv' with hv' _ _
        injection hv' with hv'
        injection hv' with hv' _ _
        subst hv'
        rw [hh] at hh'
        injection hh' with hh'
        injection hh' with hh' _
        subst hh'
        rw [← q4, ← r4]
  subst he
  refine ⟨ws ++ us, by rw [List.length_append]; exact hown, by simp [h2, hu], fun j hj => ?_⟩
  rw [List.length_append] at hj
  by_cases hjl : j < M.length
  · obtain ⟨r, e1, e2, e3⟩ := h3 j hjl
    refine ⟨r, ?_, ?_, e3⟩
    · rw [List.getElem?_append_left (by omega)]; exact e1
    · rw [List.getElem?_append_left hjl]
      exact e2.keep k (fun i hi hm => by
        obtain ⟨_, c1, x1⟩ := hb i hi
        obtain ⟨_, c2, x2⟩ := e2.blk i hm
        rw [x1] at x2
        injection x2 with x2
        injection x2 with _ x2 _
        cases x2)
  · obtain ⟨r, e1, e2, e3⟩ := hz (j - M.length) (by omega)
    refine ⟨r, ?_, ?_, e3⟩
    · rw [List.getElem?_append_right (by omega), h2]; exact e1
    · rw [List.getElem?_append_right (by omega)]; exact e2
/-- append, of rows -/
theorem run_app23 {X : World} {B : Nat} {v : Value} {n m c : Nat} {xs news : List Value} {ga : Addr} (hown : X.ownsRow B 22 1 v n xs) (hB : B ≤ X.heap.size) (hl : news.length = m) (hnews : ∀ j u, news[j]? = some u → X.cell? (ga.add j) = some u) (h1 : ∀ u ∈ news, u.oneCell' = true) (hnm : n + m ≤ 9000) :
    ∃ v' X', (Builtin.append_ #[23, 23] 23 #[v, .slice (some ga) m c]).run Try.prog X = .ok v' X' ∧ X'.ownsRow B 22 1 v' (n + m) (xs ++ news) ∧ Tw (vb v) X X' ∧ ∀ i, i ∈ vb v' → i ∈ vb v ∨ i = X.heap.size := by
  obtain ⟨i0, hi, hz0, hz1, hz2⟩ := info_parts info22
  obtain ⟨v', w', hr, h2, h3, h4, h5⟩ := run_append_own_at (P := Try.prog) X B 23 23 22 i0 (.slice none 0 0) 1 24 Try.underlying23 hi hz0 hz1 hz2 rfl (by decide) v n xs hown ga m c news (by simpa using hl) hnews h1 (by unfold maxLen; omega) (by omega) hB
  refine ⟨v', w', hr, h2, ⟨h3.os, h3.tape, h3.output, h3.size, fun b hb hn => h3.block b hb (fun e => hn ((vb_own v b).mpr e.symm))⟩, fun i hi => ?_⟩
  have e := (vb_own v' i).mp hi
  rcases h5 with h5 | h5
  · rw [h5] at e; exact .inl ((vb_own v i).mpr e)
  · rw [h5] at e; injection e with e; exact .inr e.symm
theorem step_app23 {ops : Array Oper} {o : Oper} {A : Act} {X : World} {K : Act → World → Prop} {Q : Exit → Act → World → Prop} {E : Prop} (hgd : o.guard = none) (s x : Operand) (ho : o.op = .call { callee := .builtin .append, args := #[s, x], argTypes := #[23, 23] }) (hty : o.type = 23)
    (B : Nat) (v : Value) (n m c : Nat) (xs news : List Value) (ga : Addr) (he : A.eval s = v) (hx : A.eval x = .slice (some ga) m c) (hown : X.ownsRow B 22 1 v n xs) (hB : B ≤ X.heap.size) (hl : news.length = m) (hnews : ∀ j u, news[j]? = some u → X.cell? (ga.add j) = some u) (h1 : ∀ u ∈ news, u.oneCell' = true) (hnm : n + m ≤ 9000)
    (h : ∀ v' X', X'.ownsRow B 22 1 v' (n + m) (xs ++ news) → Tw (vb v) X X' → (∀ i, i ∈ vb v' → i ∈ vb v ∨ i = X.heap.size) → K (A.put o.dst v') X') : if Region.wanted o (yielded ops A.tmps) = true then Oper.wp Try.prog o A X K Q else E := by
  have hw : Region.wanted o (yielded ops A.tmps) = true := by simp [Region.wanted, hgd]
  rw [if_pos hw]
  obtain ⟨v', w', hr, h2, h3, h4⟩ := run_app23 (c := c) hown hB hl hnews h1 hnm
  unfold Oper.wp execOp
  simp only [ho, hty, resolve, invoke, builtin, Sem.run_bind, Sem.run_pure, Result.andThen_ok, List.map_toArray, List.map_cons, List.map_nil, he, hx, hr]
  exact h v' w' h2 h3 h4
theorem wpList_app23 {ops : Array Oper} {rest : List Oper} {o : Oper} {A : Act} {X : World} {Q : Exit → Act → World → Prop} (hgd : o.guard = none) (s x : Operand) (ho : o.op = .call { callee := .builtin .append, args := #[s, x], argTypes := #[23, 23] }) (hty : o.type = 23)
    (B : Nat) (v : Value) (n m c : Nat) (xs news : List Value) (ga : Addr) (he : A.eval s = v) (hx : A.eval x = .slice (some ga) m c) (hown : X.ownsRow B 22 1 v n xs) (hB : B ≤ X.heap.size) (hl : news.length = m) (hnews : ∀ j u, news[j]? = some u → X.cell? (ga.add j) = some u) (h1 : ∀ u ∈ news, u.oneCell' = true) (hnm : n + m ≤ 9000)
    (h : ∀ v' X', X'.ownsRow B 22 1 v' (n + m) (xs ++ news) → Tw (vb v) X X' → (∀ i, i ∈ vb v' → i ∈ vb v ∨ i = X.heap.size) → wpList Try.prog ops Q rest (A.put o.dst v') X') : wpList Try.prog ops Q (o :: rest) A X :=
  wpList_plain hgd fun K hK => by
    have hw : Region.wanted o (yielded ops A.tmps) = true := by simp [Region.wanted, hgd]
    have := step_app23 (ops := ops) (K := K) (Q := Q) (E := True) hgd s x ho hty B v n m c xs news ga he hx hown hB hl hnews h1 hnm (fun v' X' h1 h2 h3 => hK _ _ (h v' X' h1 h2 h3))
    rw [if_pos hw] at this
    exact this
theorem olv_one {B : Nat} {r : Value} {L : List Int} {W : World} (h : Ol B r L W) : r.oneCell' = true := by
  obtain ⟨a, c, rfl⟩ := h.form
  rfl
end Go.Proofs.Yteoionlnnjcggaa.kn

/-
  The region of a search that puts one more beginning upon what waits.
-/
namespace Go.Proofs.Yteoionlnnjcggaa.kn
open Go.RowKit
set_option linter.unusedVariables false
set_option linter.unusedSimpArgs false
def dstP (T sw : Nat) : Nat → Nat
  | 14 => sw
  | j => T + j
def conP : Nat → Nat
  | 0 => 2 | 1 => 2 | 2 => 13 | 3 => 5 | 4 => 5 | 5 => 11 | 6 => 8 | 7 => 8 | 8 => 9 | 9 => 10 | 10 => 11 | 11 => 12 | 12 => 13 | 13 => 14 | _ => 15
def opP (T sw sp sl si : Nat) : Nat → Op
  | 0 => .buildSlice 23 0 #[]
  | 1 => .move (.tmp sw)
  | 2 => .call { callee := .builtin .append, args := #[.tmp (T + 0), .tmp (T + 1)], argTypes := #[23, 23] }
  | 3 => .buildSlice 22 0 #[]
  | 4 => .move (.tmp sp)
  | 5 => .call { callee := .builtin .append, args := #[.tmp (T + 3), .tmp (T + 4)], argTypes := #[22, 22] }
  | 6 => .move (.tmp sl)
  | 7 => .move (.tmp si)
  | 8 => .indexAddr 22 (.tmp (T + 6)) (.tmp (T + 7))
  | 9 => .load 3 (.tmp (T + 8))
  | 10 => .buildSlice 22 1 #[(0, .tmp (T + 9))]
  | 11 => .call { callee := .builtin .append, args := #[.tmp (T + 5), .tmp (T + 10)], argTypes := #[22, 22] }
  | 12 => .buildSlice 23 1 #[(0, .tmp (T + 11))]
  | 13 => .call { callee := .builtin .append, args := #[.tmp (T + 2), .tmp (T + 12)], argTypes := #[23, 23] }
  | _ => .assign (.tmp (T + 13))
def tyP : Nat → TypeId
  | 5 => 22 | 11 => 22 | 2 => 23 | 13 => 23 | _ => 0
/-- what each operation leaves -/
def FP (B B0 gw cw : Nat) (M : List (List Int)) (pa : Option Addr) (pc : Nat) (p : List Int) (lv : Value) (t : Nat) (la : Addr) (a : Int) : Nat → Value → World → Prop
  | 0, v, x => ∃ g, v = .slice (some ⟨g, 0, none⟩) 0 0 ∧ x.heap[g]? = some (.cells #[] 22 (0, 0)) ∧ B ≤ g
  | 1, v, x => v = .slice (some ⟨gw, 0, none⟩) M.length cw
  | 2, v, x => MXg B B0 B v M x
  | 3, v, x => ∃ g, v = .slice (some ⟨g, 0, none⟩) 0 0 ∧ x.heap[g]? = some (.cells #[] 3 (0, 0)) ∧ B ≤ g
  | 4, v, x => v = .slice pa p.length pc
  | 5, v, x => Ol B v p x
  | 6, v, x => v = lv
  | 7, v, x => v = .int .i64 t
  | 8, v, x => v = .pointer (some la)
  | 9, v, x => v = .int .i64 a
  | 10, v, x => ∃ g, v = .slice (some ⟨g, 0, none⟩) 1 1 ∧ x.heap[g]? = some (.cells #[.int .i64 a] 3 (0, 0)) ∧ B ≤ g
  | 11, v, x => Ol B v (p ++ [a]) x
  | 12, v, x => ∃ g r, v = .slice (some ⟨g, 0, none⟩) 1 1 ∧ x.heap[g]? = some (.cells #[r] 22 (0, 0)) ∧ B ≤ g ∧ Ol B r (p ++ [a]) x
  | _, v, x => ∃ H, MXg B B0 H v (M ++ [p ++ [a]]) x
theorem fifteen {j : Nat} (h : j < 15) : j = 0 ∨ j = 1 ∨ j = 2 ∨ j = 3 ∨ j = 4 ∨ j = 5 ∨ j = 6 ∨ j = 7 ∨ j = 8 ∨ j = 9 ∨ j = 10 ∨ j = 11 ∨ j = 12 ∨ j = 13 ∨ j = 14 := by omega
section
variable {B B0 gw cw : Nat} {M : List (List Int)} {pa : Option Addr} {pc : Nat} {p : List Int} {lv : Value} {t : Nat} {la : Addr} {a : Int}
theorem FP.al {x x' : World} (k : Tw [] x x') {j : Nat} (hj : j < 15) {v : Value} (h : FP B B0 gw cw M pa pc p lv t la a j v x) : FP B B0 gw cw M pa pc p lv t la a j v x' := by
  rcases fifteen hj with rfl | rfl | rfl | rfl | rfl | rfl | rfl | rfl | rfl | rfl | rfl | rfl | rfl | rfl | rfl
  · obtain ⟨g, e, hh, hb⟩ := h; exact ⟨g, e, blk_tw hh k (by simp), hb⟩
  · exact h
  · exact MXg.tw h k (by simp) (by simp)
  · obtain ⟨g, e, hh, hb⟩ := h; exact ⟨g, e, blk_tw hh k (by simp), hb⟩
  · exact h
  · exact Ol.keep h k (by simp)
  · exact h
  · exact h
  · exact h
  · exact h
  · obtain ⟨g, e, hh, hb⟩ := h; exact ⟨g, e, blk_tw hh k (by simp), hb⟩
  · exact Ol.keep h k (by simp)
  · obtain ⟨g, r, e, hh, hb, ho⟩ := h; exact ⟨g, r, e, blk_tw hh k (by simp), hb, ho.keep k (by simp)⟩
  · obtain ⟨H, h⟩ := h; exact ⟨H, h.tw k (by simp) (by simp)⟩
  · obtain ⟨H, h⟩ := h; exact ⟨H, h.tw k (by simp) (by simp)⟩
theorem ne_blk {x : World} {g g0 : Nat} {C D : Array Value} {t u : TypeId} (h : x.heap[g]? = some (.cells C t (0, 0))) (h0 : x.heap[g0]? = some (.cells D u (0, 0))) (hne : t ≠ u ∨ C.size ≠ D.size) : g ∉ [g0] := fun hm => by
  simp at hm
  subst hm
  rw [h] at h0
  injection h0 with h0
  injection h0 with e1 e2
  rcases hne with q | q
  · exact q e2
  · exact q (by rw [e1])
theorem tw_one {x x' : World} {g g0 : Nat} {C D : Array Value} {t u : TypeId} (k : Tw [g0] x x') (h : x.heap[g]? = some (.cells C t (0, 0))) (h0 : x.heap[g0]? = some (.cells D u (0, 0))) (hne : t ≠ u ∨ C.size ≠ D.size) : x'.heap[g]? = some (.cells C t (0, 0)) := blk_tw h k (ne_blk h h0 hne)
theorem olv_one22 {x x' : World} {g0 : Nat} {D : Array Value} {L : List Int} {v : Value} {B1 : Nat} (k : Tw [g0] x x') (h0 : x.heap[g0]? = some (.cells D 22 (0, 0))) (h : Ol B1 v L x) : Ol B1 v L x' := h.keep k (fun i hi => by
  simp at hi
  subst hi
  exact h.far h0 (by decide))
theorem FP.st2 {x x' : World} {g0 : Nat} (k : Tw [g0] x x') (h0 : x.heap[g0]? = some (.cells #[] 22 (0, 0))) {j : Nat} (hj : 3 ≤ j ∧ j < 13) {v : Value} (h : FP B B0 gw cw M pa pc p lv t la a j v x) : FP B B0 gw cw M pa pc p lv t la a j v x' := by
  rcases fifteen (show j < 15 by omega) with rfl | rfl | rfl | rfl | rfl | rfl | rfl | rfl | rfl | rfl | rfl | rfl | rfl | rfl | rfl
  · omega
  · omega
  · omega
  · obtain ⟨g, e, hh, hb⟩ := h; exact ⟨g, e, tw_one k hh h0 (.inl (by decide)), hb⟩
  · exact h
  · exact olv_one22 k h0 h
  · exact h
  · exact h
  · exact h
  · exact h
  · obtain ⟨g, e, hh, hb⟩ := h; exact ⟨g, e, tw_one k hh h0 (.inl (by decide)), hb⟩
  · exact olv_one22 k h0 h
  · obtain ⟨g, r, e, hh, hb, ho⟩ := h; exact ⟨g, r, e, tw_one k hh h0 (.inr (by simp)), hb, olv_one22 k h0 ho⟩
  · omega
  · omega
theorem FP.st3 {x x' : World} {S : List Nat} (k : Tw S x x') (hS : ∀ g, g ∈ S → B ≤ g ∧ ∃ D, x.heap[g]? = some (.cells D 3 (0, 0))) {j : Nat} (hj : j < 3 ∨ (6 ≤ j ∧ j < 10)) {v : Value} (h : FP B B0 gw cw M pa pc p lv t la a j v x) : FP B B0 gw cw M pa pc p lv t la a j v x' := by
  have far : ∀ (g : Nat) (C : Array Value), x.heap[g]? = some (.cells C 22 (0, 0)) → g ∉ S := fun g C hh hm => by
    obtain ⟨_, D, e⟩ := hS g hm
    rw [hh] at e
    injection e with e
    injection e with _ e
    cases e
  rcases fifteen (show j < 15 by omega) with rfl | rfl | rfl | rfl | rfl | rfl | rfl | rfl | rfl | rfl | rfl | rfl | rfl | rfl | rfl
  · obtain ⟨g, e, hh, hb⟩ := h; exact ⟨g, e, blk_tw hh k (far g _ hh), hb⟩
  · exact h
  · refine MXg.tw h k (fun i hi hm => ?_) (fun i hi => .inl (hS i hi).1)
    obtain ⟨_, C, hh⟩ := MXg.blk h i hm
    exact far i C hh hi
  · omega
  · omega
  · omega
  · exact h
  · exact h
  · exact h
  · exact h
  · omega
  · omega
  · omega
  · omega
  · omega
end
theorem gr_tw {X Y : World} {v : Value} {row : Option Nat} (h : X.grownBy Y row) (hv : v.ownBlock = row) : Tw (vb v) X Y := ⟨h.os, h.tape, h.output, h.size, fun b hb hn => h.block b hb (fun e => hn ((vb_own v b).mpr (by rw [hv, ← e])))⟩
theorem own_new {B g : Nat} {e : TypeId} {x : World} (h : x.heap[g]? = some (.cells #[] e (0, 0))) (hb : B ≤ g) : x.ownsRow B e 1 (.slice (some ⟨g, 0, none⟩) 0 0) 0 [] := ⟨rfl, .inr ⟨g, 0, #[], rfl, hb, h, Nat.le_refl _, by unfold maxLen; omega, rfl, rfl⟩⟩
theorem run_app22 {X : World} {B : Nat} {v : Value} {L : List Int} {a : Int} {g : Nat} (hown : Ol B v L X) (hB : B ≤ X.heap.size) (hl : L.length ≤ 900) (hc : X.heap[g]? = some (.cells #[.int .i64 a] 3 (0, 0))) :
    ∃ v' X', (Builtin.append_ #[22, 22] 22 #[v, .slice (some ⟨g, 0, none⟩) 1 1]).run Try.prog X = .ok v' X' ∧ Ol B v' (L ++ [a]) X' ∧ Tw (vb v) X X' := by
  obtain ⟨i0, hi, hz0, hz1, hz2⟩ := info_parts info3
  obtain ⟨v', w', hr, h2, h3, h4, h5⟩ := run_append_own_at (P := Try.prog) X B 22 22 3 i0 (.int .i64 0) 1 8 Try.underlying22 hi hz0 hz1 hz2 rfl (by decide) v L.length (L.map (Value.int .i64)) hown ⟨g, 0, none⟩ 1 1 [.int .i64 a] (by simp) (fun j u hj => by
    cases j with
    | zero =>
      simp at hj; subst hj
      exact (cell_of_row _ _ 0 _ 3 _ hc).trans rfl
    | succ j => simp at hj) (by simp [Value.oneCell']) (by unfold maxLen; omega) (by omega) hB
  refine ⟨v', w', hr, ?_, gr_tw h3 rfl⟩
  show w'.ownsRow B 3 1 v' (L ++ [a]).length ((L ++ [a]).map (Value.int .i64))
  rw [List.map_append, List.length_append]
  exact h2
set_option maxRecDepth 10000 in
set_option maxHeartbeats 4000000 in
/-- the region whole -/
theorem push_any {ops : Array Oper} {Q : Exit → Act → World → Prop} {id : Nat} {w : World} {base : Act} (T sw sp sl si : Nat) (B0 H0 B1 gw cw : Nat) (M : List (List Int)) (pa : Option Addr) (pc : Nat) (p : List Int) (lb lo ln lc t : Nat) (a : Int)
    (hops : ops.size = 15) (hop : ∀ k, k < 15 → ∃ o, ops[k]? = some o ∧ o.guard = none ∧ o.op = opP T sw sp sl si k ∧ o.dst = some (dstP T sw k) ∧ (tyP k ≠ 0 → o.type = tyP k) ∧ (∀ e ∈ o.after, e.on < k) ∧ (∀ i, i < 15 → conP i = k → ∃ e ∈ o.after, Region.binds .any e = true ∧ e.on = i))
    (hT : T + 14 ≤ base.tmps.size) (hsz : sw < T ∧ sp < T ∧ sl < T ∧ si < T)
    (ew : base.eval (.tmp sw) = .slice (some ⟨gw, 0, none⟩) M.length cw) (ep : base.eval (.tmp sp) = .slice pa p.length pc) (el : base.eval (.tmp sl) = .slice (some ⟨lb, lo, none⟩) ln lc) (ei : base.eval (.tmp si) = .int .i64 t)
    (hM : MXg B1 B0 H0 (.slice (some ⟨gw, 0, none⟩) M.length cw) M w) (hB0 : B0 ≤ w.heap.size) (hp : SrcA w pa pc p) (hpl : p.length ≤ 800) (hMl : M.length ≤ 8000) (htl : t < ln) (hc : ∀ Y, Below w.heap.size w Y → Y.cell? ⟨lb, lo + t, none⟩ = some (.int .i64 a))
    (hK : ∀ (u : Nat → Value) (x : World), (∃ H, MXg w.heap.size B0 H (u sw) (M ++ [p ++ [a]]) x) → Below w.heap.size w x → Q .normal ⟨((List.range 15).map (dstP T sw)).foldl (fun t d => t.setIfInBounds d (u d)) base.tmps, base.defers⟩ x) :
    (Code.region id ops true).wp Try.prog Q base w := by
  have dne : ∀ i j, i < 15 → j < 15 → i ≠ j → dstP T sw i ≠ dstP T sw j := fun i j hi hj hne => by
    rcases fifteen hi with rfl | rfl | rfl | rfl | rfl | rfl | rfl | rfl | rfl | rfl | rfl | rfl | rfl | rfl | rfl <;> rcases fifteen hj with rfl | rfl | rfl | rfl | rfl | rfl | rfl | rfl | rfl | rfl | rfl | rfl | rfl | rfl | rfl <;> simp only [dstP] <;> omega
  have dsz : ∀ i, i < 15 → dstP T sw i < base.tmps.size := fun i hi => by
    rcases fifteen hi with rfl | rfl | rfl | rfl | rfl | rfl | rfl | rfl | rfl | rfl | rfl | rfl | rfl | rfl | rfl <;> simp only [dstP] <;> omega
  refine ri.region 15 (dstP T sw) conP (FP w.heap.size B0 gw cw M pa pc p (.slice (some ⟨lb, lo, none⟩) ln lc) t ⟨lb, lo + t, none⟩ a) (fun x => Below w.heap.size w x) base (by kernel_rfl) hops (fun k hk => ?_) (bl_drew w) (fun k done A x hk hnd hdep hI => ?_) (fun u x hF hR => ?_)
  · obtain ⟨o, h1, _, _, _, _, h6, _⟩ := hop k hk
    exact ⟨o, h1, h6⟩
  · obtain ⟨o, ho, hg, hopk, hdst, hty, _, hdp⟩ := hop k hk
    have hnd' : done.getD k false = false := by
      have hks : k < done.size := by rw [hI.sz]; exact hk
      simp [Array.getD, hks] at hnd ⊢
      exact hnd
    -- what it uses is there
    have hin : ∀ i, i < 15 → conP i = k → done.getD i false = true := fun i hi he => by
      obtain ⟨e, he1, he2, he3⟩ := hdp i hi he
      have := hdep o ho e he1 he2
      rw [he3] at this
      exact this
    have hlv : ∀ i, i < 15 → conP i = k → FP w.heap.size B0 gw cw M pa pc p (.slice (some ⟨lb, lo, none⟩) ln lc) t ⟨lb, lo + t, none⟩ a i (A.eval (.tmp (dstP T sw i))) x := fun i hi he => hI.lv i hi (hin i hi he) (by rw [he]; exact hnd')
    -- what is read of what was there before
    have hold : ∀ d, d < T → (d = sw → done.getD 14 false = false) → A.eval (.tmp d) = base.eval (.tmp d) := fun d hd hs => by
      show A.tmps.getD d undef = base.tmps.getD d undef
      rw [Array.getD_eq_getD_getElem?, Array.getD_eq_getD_getElem?, hI.fr d (fun j hj hdj e => ?_)]
      rcases fifteen hj with rfl | rfl | rfl | rfl | rfl | rfl | rfl | rfl | rfl | rfl | rfl | rfl | rfl | rfl | rfl
      all_goals simp only [dstP] at e
      all_goals first | omega | (have := hs e.symm; rw [this] at hdj; cases hdj)
    have fin : ∀ (v : Value) (x' : World), FP w.heap.size B0 gw cw M pa pc p (.slice (some ⟨lb, lo, none⟩) ln lc) t ⟨lb, lo + t, none⟩ a k v x' → Below w.heap.size w x' →
        (∀ j u, j < 15 → j ≠ k → conP j ≠ k → done.getD j false = true → done.getD (conP j) false = false → FP w.heap.size B0 gw cw M pa pc p (.slice (some ⟨lb, lo, none⟩) ln lc) t ⟨lb, lo + t, none⟩ a j u x → FP w.heap.size B0 gw cw M pa pc p (.slice (some ⟨lb, lo, none⟩) ln lc) t ⟨lb, lo + t, none⟩ a j u x') →
        ri.RI 15 (dstP T sw) conP (FP w.heap.size B0 gw cw M pa pc p (.slice (some ⟨lb, lo, none⟩) ln lc) t ⟨lb, lo + t, none⟩ a) (fun x => Below w.heap.size w x) base (done.setIfInBounds k true) (A.put o.dst v) x' := fun v x' hv hb hst => by
      rw [hdst]
      exact hI.step hk (fun j hj hne => dne j k hj hk hne) (dsz k hk) hin hv hb hst
    -- behind an operation that only makes new blocks
    have fal : ∀ (v : Value) (x' : World), FP w.heap.size B0 gw cw M pa pc p (.slice (some ⟨lb, lo, none⟩) ln lc) t ⟨lb, lo + t, none⟩ a k v x' → Tw [] x x' → ri.RI 15 (dstP T sw) conP (FP w.heap.size B0 gw cw M pa pc p (.slice (some ⟨lb, lo, none⟩) ln lc) t ⟨lb, lo + t, none⟩ a) (fun x => Below w.heap.size w x) base (done.setIfInBounds k true) (A.put o.dst v) x' := fun v x' hv ht =>
      fin v x' hv (Tw.below hI.hr ht (by simp) hI.hr.size) (fun j u hj _ _ _ _ h => FP.al ht hj h)
    have hB := hI.hr
    have n14 : k < 14 → done.getD 14 false = false := fun hk14 => by
      cases q : done.getD 14 false with
      | false => rfl
      | true =>
        exfalso
        have a13 := hI.cl 13 (by decide) q
        have a12 := hI.cl 12 (by decide) a13
        have a2 := hI.cl 2 (by decide) a13
        have a11 := hI.cl 11 (by decide) a12
        have a0 := hI.cl 0 (by decide) a2
        have a1 := hI.cl 1 (by decide) a2
        have a5 := hI.cl 5 (by decide) a11
        have a10 := hI.cl 10 (by decide) a11
        have a3 := hI.cl 3 (by decide) a5
        have a4 := hI.cl 4 (by decide) a5
        have a9 := hI.cl 9 (by decide) a10
        have a8 := hI.cl 8 (by decide) a9
        have a6 := hI.cl 6 (by decide) a8
        have a7 := hI.cl 7 (by decide) a8
        rcases fifteen hk with rfl | rfl | rfl | rfl | rfl | rfl | rfl | rfl | rfl | rfl | rfl | rfl | rfl | rfl | rfl
        all_goals first | omega | (simp_all; done)
    have hMx : MXg B1 B0 w.heap.size (.slice (some ⟨gw, 0, none⟩) M.length cw) M x := hM.top.keep hB
    rcases fifteen hk with rfl | rfl | rfl | rfl | rfl | rfl | rfl | rfl | rfl | rfl | rfl | rfl | rfl | rfl | rfl
    all_goals simp only [opP] at hopk
    · -- 0
      refine ri.plain ho hg (v := .slice (some ⟨x.heap.size, 0, none⟩) 0 0) (w' := x.alloc (.cells #[] 22)) ?_ (fal _ _ ⟨_, rfl, heap_alloc_new _ _, hB.size⟩ (Tw.al (Tw.refl _ _) _))
      unfold execOp; simp only [hopk]; go_simp
    · -- 1
      refine ri.plain ho hg (v := A.eval (.tmp sw)) (w' := x) ?_ (fal _ _ ((hold sw hsz.1 (fun _ => n14 (by decide))).trans ew) (Tw.refl _ _))
      unfold execOp; simp only [hopk]; rfl
    · -- 2
      obtain ⟨g0, e0, hh0, hb0⟩ := hlv 0 (by decide) rfl
      have e1 : A.eval (.tmp (T + 1)) = .slice (some ⟨gw, 0, none⟩) M.length cw := hlv 1 (by decide) rfl
      have e0' : A.eval (.tmp (T + 0)) = .slice (some ⟨g0, 0, none⟩) 0 0 := e0
      obtain ⟨ws, m1, m2, m3⟩ := hMx
      have hgwl : gw < x.heap.size ∨ M.length = 0 := by
        rcases m1.2 with ⟨_, h0⟩ | ⟨g', cap, cur, hv, hg', hh, q⟩
        · exact .inr h0
        · injection hv with hv _ _
          injection hv with hv
          injection hv with hv _ _
          subst hv
          exact .inl (lt_hp hh)
      have hnews : ∀ j u, ws[j]? = some u → x.cell? ((⟨gw, 0, none⟩ : Addr).add j) = some u := fun j u hj => by
        have hjl : j < ws.length := (List.getElem?_eq_some_iff.mp hj).1
        rcases m1.2 with ⟨_, h0⟩ | ⟨g', cap, cur, hv, hg', hh, q1, q2, q3, q4⟩
        · omega
        · injection hv with hv _ _
          injection hv with hv
          injection hv with hv _ _
          subst hv
          rw [add_at, Nat.zero_add]
          exact cell_take hh q4 hj
      obtain ⟨v', x', hr, r1, r2, r3⟩ := run_app23 (c := cw) (own_new hh0 hb0) hB.size m2 hnews (fun u hu => by
        obtain ⟨j, hj, rfl⟩ := List.mem_iff_getElem.1 hu
        obtain ⟨r, s1, s2, _⟩ := m3 j (by omega)
        rw [List.getElem?_eq_getElem hj] at s1
        injection s1 with s1
        rw [s1]; exact olv_one s2) (by omega)
      have r2' : Tw [g0] x x' := r2
      refine ri.plain ho hg (v := v') (w' := x') ?_ (fin _ _ ?_ (Tw.below hB r2' (fun i hi => by simp at hi; omega) hB.size) (fun j u hj hne hcn hdj hcj h => FP.st2 r2' hh0 ⟨?_, ?_⟩ h))
      · unfold execOp
        simp only [hopk, hty (by decide), tyP, resolve, invoke, builtin, Sem.run_bind, Sem.run_pure, Result.andThen_ok, List.map_toArray, List.map_cons, List.map_nil, e0', e1, hr]
      · have := MXg.app (Z := M) (M := []) (H := w.heap.size) (B0 := B0) ⟨[], own_new hh0 hb0, rfl, fun j hj => absurd hj (by simp)⟩ m2 (fun j hj => by
          obtain ⟨r, s1, s2, s3⟩ := m3 j hj
          exact ⟨r, s1, olv_one22 r2' hh0 s2, s3⟩) [] (own_new hh0 hb0) (by simpa using r1) r2'
        show MXg w.heap.size B0 w.heap.size v' M x'
        simpa using this
      · rcases fifteen hj with rfl | rfl | rfl | rfl | rfl | rfl | rfl | rfl | rfl | rfl | rfl | rfl | rfl | rfl | rfl
        all_goals first | omega | exact absurd rfl hcn | exact absurd rfl hne
      · rcases fifteen hj with rfl | rfl | rfl | rfl | rfl | rfl | rfl | rfl | rfl | rfl | rfl | rfl | rfl | rfl | rfl
        all_goals first | omega | (have := hI.cl 2 (by decide) hdj; rw [this] at hnd'; cases hnd') | (have := hI.cl 2 (by decide) (hI.cl 13 (by decide) hdj); rw [this] at hnd'; cases hnd')
    · -- 3
      refine ri.plain ho hg (v := .slice (some ⟨x.heap.size, 0, none⟩) 0 0) (w' := x.alloc (.cells #[] 3)) ?_ (fal _ _ ⟨_, rfl, heap_alloc_new _ _, hB.size⟩ (Tw.al (Tw.refl _ _) _))
      unfold execOp; simp only [hopk]; go_simp
    · -- 4
      refine ri.plain ho hg (v := A.eval (.tmp sp)) (w' := x) ?_ (fal _ _ ((hold sp hsz.2.1 (fun _ => n14 (by decide))).trans ep) (Tw.refl _ _))
      unfold execOp; simp only [hopk]; rfl
    · -- 5
      obtain ⟨g0, e0, hh0, hb0⟩ := hlv 3 (by decide) rfl
      have e1 : A.eval (.tmp (T + 4)) = .slice pa p.length pc := hlv 4 (by decide) rfl
      have e0' : A.eval (.tmp (T + 3)) = .slice (some ⟨g0, 0, none⟩) 0 0 := e0
      have hpx : SrcA x pa pc p := by
        rcases hp with h | ⟨ad, e, hcc⟩
        · exact .inl h
        · exact .inr ⟨ad, e, fun j u hj => (hB.cell (p := ad.add j) (block_lt_of_cell (hcc j u hj))).trans (hcc j u hj)⟩
      obtain ⟨g, cap, x', hr, r1, r2, r3⟩ := app_run w.heap.size g0 p pa pc x (by omega) (own_new hh0 hb0) hB.size hpx
      have r2' : Tw [g0] x x' := gr_tw (v := .slice (some ⟨g0, 0, none⟩) 0 0) r2 rfl
      refine ri.plain ho hg (v := .slice (some ⟨g, 0, none⟩) p.length cap) (w' := x') ?_ (fin _ _ r1 (Tw.below hB r2' (fun i hi => by simp at hi; omega) hB.size) (fun j u hj hne hcn hdj hcj h => ?_))
      · unfold execOp
        simp only [hopk, hty (by decide), tyP, resolve, invoke, builtin, Sem.run_bind, Sem.run_pure, Result.andThen_ok, List.map_toArray, List.map_cons, List.map_nil, e0', e1, hr]
      · by_cases q10 : j = 10
        · subst q10
          obtain ⟨g', e', hh', hb'⟩ := h
          exact ⟨g', e', tw_one r2' hh' hh0 (.inr (by simp)), hb'⟩
        · refine FP.st3 r2' (fun i hi => by simp at hi; subst hi; exact ⟨hb0, _, hh0⟩) ?_ h
          rcases fifteen hj with rfl | rfl | rfl | rfl | rfl | rfl | rfl | rfl | rfl | rfl | rfl | rfl | rfl | rfl | rfl
          all_goals first | omega | exact absurd rfl hcn | exact absurd rfl hne | (have := hI.cl 5 (by decide) hdj; rw [this] at hnd'; cases hnd') | (have := hI.cl 5 (by decide) (hI.cl 11 (by decide) hdj); rw [this] at hnd'; cases hnd') | (have := hI.cl 5 (by decide) (hI.cl 11 (by decide) (hI.cl 12 (by decide) hdj)); rw [this] at hnd'; cases hnd') | (have := hI.cl 5 (by decide) (hI.cl 11 (by decide) (hI.cl 12 (by decide) (hI.cl 13 (by decide) hdj))); rw [this] at hnd'; cases hnd')
    · -- 6
      refine ri.plain ho hg (v := A.eval (.tmp sl)) (w' := x) ?_ (fal _ _ ((hold sl hsz.2.2.1 (fun _ => n14 (by decide))).trans el) (Tw.refl _ _))
      unfold execOp; simp only [hopk]; rfl
    · -- 7
      refine ri.plain ho hg (v := A.eval (.tmp si)) (w' := x) ?_ (fal _ _ ((hold si hsz.2.2.2 (fun _ => n14 (by decide))).trans ei) (Tw.refl _ _))
      unfold execOp; simp only [hopk]; rfl
    · -- 8
      have e0 : A.eval (.tmp (T + 6)) = .slice (some ⟨lb, lo, none⟩) ln lc := hlv 6 (by decide) rfl
      have e1 : A.eval (.tmp (T + 7)) = .int .i64 t := hlv 7 (by decide) rfl
      have q0 : (0 : Int) ≤ (t : Int) := by omega
      have q1 : (t : Int) < (ln : Int) := by omega
      refine ri.plain ho hg (v := .pointer (some ⟨lb, lo + t, none⟩)) (w' := x) ?_ (fal _ _ rfl (Tw.refl _ _))
      unfold execOp; simp only [hopk, e0, e1]; go_simp
    · -- 9
      have e0 : A.eval (.tmp (T + 8)) = .pointer (some ⟨lb, lo + t, none⟩) := hlv 8 (by decide) rfl
      have cc := hc x hB
      refine ri.plain ho hg (v := .int .i64 a) (w' := x) ?_ (fal _ _ rfl (Tw.refl _ _))
      unfold execOp; simp only [hopk, e0]; go_simp
    · -- 10
      have e0 : A.eval (.tmp (T + 9)) = .int .i64 a := hlv 9 (by decide) rfl
      refine ri.plain ho hg (v := .slice (some ⟨x.heap.size, 0, none⟩) 1 1) (w' := x.alloc (.cells #[.int .i64 a] 3)) ?_ (fal _ _ ⟨_, rfl, heap_alloc_new _ _, hB.size⟩ (Tw.al (Tw.refl _ _) _))
      unfold execOp; simp only [hopk, List.map_toArray, List.map_cons, List.map_nil, e0]; go_simp
    · -- 11
      have h5 : Ol w.heap.size (A.eval (.tmp (T + 5))) p x := hlv 5 (by decide) rfl
      obtain ⟨g, e1, hh1, hb1⟩ := hlv 10 (by decide) rfl
      have e1' : A.eval (.tmp (T + 10)) = .slice (some ⟨g, 0, none⟩) 1 1 := e1
      have d5 := hin 5 (by decide) rfl
      obtain ⟨v5, e5⟩ : ∃ v5, A.eval (.tmp (T + 5)) = v5 := ⟨_, rfl⟩
      rw [e5] at h5
      obtain ⟨v', x', hr, r1, r2⟩ := run_app22 h5 hB.size (by omega) hh1
      refine ri.plain ho hg (v := v') (w' := x') ?_ (fin _ _ r1 (Tw.below hB r2 (fun i hi => (h5.blk i hi).1) hB.size) (fun j u hj hne hcn hdj hcj h => ?_))
      · unfold execOp
        simp only [hopk, hty (by decide), tyP, resolve, invoke, builtin, Sem.run_bind, Sem.run_pure, Result.andThen_ok, List.map_toArray, List.map_cons, List.map_nil, e5, e1', hr]
      · by_cases q4 : j = 4
        · subst q4; exact h
        · refine FP.st3 r2 (fun i hi => h5.blk i hi) ?_ h
          rcases fifteen hj with rfl | rfl | rfl | rfl | rfl | rfl | rfl | rfl | rfl | rfl | rfl | rfl | rfl | rfl | rfl
          all_goals first | omega | exact absurd rfl hcn | exact absurd rfl hne | (have : done.getD 5 false = false := hcj; rw [d5] at this; cases this) | (have := hI.cl 11 (by decide) hdj; rw [this] at hnd'; cases hnd') | (have := hI.cl 11 (by decide) (hI.cl 12 (by decide) hdj); rw [this] at hnd'; cases hnd') | (have := hI.cl 11 (by decide) (hI.cl 12 (by decide) (hI.cl 13 (by decide) hdj)); rw [this] at hnd'; cases hnd')
    · -- 12
      have h11 : Ol w.heap.size (A.eval (.tmp (T + 11))) (p ++ [a]) x := hlv 11 (by decide) rfl
      obtain ⟨v5, e5⟩ : ∃ v5, A.eval (.tmp (T + 11)) = v5 := ⟨_, rfl⟩
      rw [e5] at h11
      have al : Tw [] x (x.alloc (.cells #[v5] 22)) := Tw.al (Tw.refl _ _) _
      obtain ⟨ra, rc, rfl⟩ := h11.form
      refine ri.plain ho hg (v := .slice (some ⟨x.heap.size, 0, none⟩) 1 1) (w' := x.alloc (.cells #[.slice ra (p ++ [a]).length rc] 22)) ?_ (fal _ _ ⟨_, _, rfl, heap_alloc_new _ _, hB.size, h11.keep al (by simp)⟩ al)
      unfold execOp; simp only [hopk, List.map_toArray, List.map_cons, List.map_nil, e5]; go_simp
    · -- 13
      have h2 : MXg w.heap.size B0 w.heap.size (A.eval (.tmp (T + 2))) M x := hlv 2 (by decide) rfl
      obtain ⟨g, r, e1, hh1, hb1, h12⟩ := hlv 12 (by decide) rfl
      have e1' : A.eval (.tmp (T + 12)) = .slice (some ⟨g, 0, none⟩) 1 1 := e1
      obtain ⟨v5, e5⟩ : ∃ v5, A.eval (.tmp (T + 2)) = v5 := ⟨_, rfl⟩
      rw [e5] at h2
      have hbl := h2.blk
      have h2k := h2
      obtain ⟨ws, m1, m2, m3⟩ := h2
      obtain ⟨v', x', hr, r1, r2, r3⟩ := run_app23 (c := 1) (ga := ⟨g, 0, none⟩) (news := [r]) (m := 1) m1 hB.size rfl (fun j u hj => by
        cases j with
        | zero =>
          simp at hj; subst hj
          exact (cell_of_row _ _ 0 _ 22 _ hh1).trans rfl
        | succ j => simp at hj) (fun u hu => by simp at hu; subst hu; exact olv_one h12) (by omega)
      have d2 := hin 2 (by decide) rfl
      have d12 := hin 12 (by decide) rfl
      have a11 := hI.cl 11 (by decide) d12
      have a0 := hI.cl 0 (by decide) d2
      have a1 := hI.cl 1 (by decide) d2
      have a5 := hI.cl 5 (by decide) a11
      have a10 := hI.cl 10 (by decide) a11
      have a9 := hI.cl 9 (by decide) a10
      have a8 := hI.cl 8 (by decide) a9
      refine ri.plain ho hg (v := v') (w' := x') ?_ (fin _ _ ⟨x'.heap.size, ?_⟩ (Tw.below hB r2 (fun i hi => (hbl i hi).1) hB.size) (fun j u hj hne hcn hdj hcj h => ?_))
      · unfold execOp
        simp only [hopk, hty (by decide), tyP, resolve, invoke, builtin, Sem.run_bind, Sem.run_pure, Result.andThen_ok, List.map_toArray, List.map_cons, List.map_nil, e5, e1', hr]
      · have rk : Ol w.heap.size r (p ++ [a]) x' := h12.keep r2 (fun i hi hm => by
          obtain ⟨_, C, c1⟩ := hbl i hi
          obtain ⟨_, D, c2⟩ := h12.blk i hm
          rw [c1] at c2
          injection c2 with c2
          injection c2 with _ c2
          cases c2)
        refine (MXg.app (Z := [p ++ [a]]) (us := [r]) (h2k.up (Nat.le_trans hB.size r2.size)) rfl (fun j hj => ?_) ws m1 r1 r2)
        have : j = 0 := by simpa using hj
        subst this
        refine ⟨r, rfl, rk.mono hB0, fun i hi => ?_⟩
        obtain ⟨_, C, c1⟩ := rk.blk i hi
        exact lt_hp c1
      · exfalso
        rcases fifteen hj with rfl | rfl | rfl | rfl | rfl | rfl | rfl | rfl | rfl | rfl | rfl | rfl | rfl | rfl | rfl
        all_goals first | exact absurd rfl hcn | exact absurd rfl hne | (have := hI.cl 13 (by decide) hdj; rw [this] at hnd'; cases hnd') | (simp only [conP] at hcj; simp_all; done)
    · -- 14
      have h13 := hlv 13 (by decide) rfl
      refine ri.plain ho hg (v := A.eval (.tmp (T + 13))) (w' := x) ?_ (fal _ _ h13 (Tw.refl _ _))
      unfold execOp; simp only [hopk]; rfl
  · exact hK u x (hF 14 (by decide) (by decide)) hR
/-- what an operation waits for, as a sum -/
def okP (k : Nat) (o : Oper) : Bool := o.after.all (fun e => decide (e.on < k)) && (List.range 15).all (fun i => conP i != k || o.after.any (fun e => Region.binds .any e && e.on == i))
theorem ok_hop {T sw sp sl si : Nat} {ops : Array Oper} (h : ∀ k, k < 15 → ∃ o, ops[k]? = some o ∧ o.guard = none ∧ o.op = opP T sw sp sl si k ∧ o.dst = some (dstP T sw k) ∧ (tyP k ≠ 0 → o.type = tyP k) ∧ okP k o = true) :
    ∀ k, k < 15 → ∃ o, ops[k]? = some o ∧ o.guard = none ∧ o.op = opP T sw sp sl si k ∧ o.dst = some (dstP T sw k) ∧ (tyP k ≠ 0 → o.type = tyP k) ∧ (∀ e ∈ o.after, e.on < k) ∧ (∀ i, i < 15 → conP i = k → ∃ e ∈ o.after, Region.binds .any e = true ∧ e.on = i) := fun k hk => by
  obtain ⟨o, h1, h2, h3, h4, h5, h6⟩ := h k hk
  unfold okP at h6
  rw [Bool.and_eq_true, Array.all_eq_true_iff_forall_mem, List.all_eq_true] at h6
  refine ⟨o, h1, h2, h3, h4, h5, fun e he => by simpa using h6.1 e he, fun i hi hc => ?_⟩
  have := h6.2 i (List.mem_range.2 hi)
  rw [Bool.or_eq_true] at this
  rcases this with q | q
  · simp [hc] at q
  · rw [Array.any_eq_true] at q
    obtain ⟨j, hj, q⟩ := q
    rw [Bool.and_eq_true, beq_iff_eq] at q
    exact ⟨_, Array.getElem_mem hj, q.1, q.2⟩
end Go.Proofs.Yteoionlnnjcggaa.kn

/-
  The region rule once more: what is made is apart from what else was made.
-/
namespace Go.Proofs.Yteoionlnnjcggaa.ri
open Go.RowKit
set_option linter.unusedVariables false
section
variable {N : Nat} {dst con : Nat → Nat} {F : Nat → Value → World → Prop} {R : World → Prop} {base : Act}
theorem RI.stepX {done : Array Bool} {a : Act} {w w' : World} {k : Nat} {v : Value} (h : RI N dst con F R base done a w) (hk : k < N) (hd : ∀ j, j < N → j ≠ k → dst j ≠ dst k) (hsz : dst k < base.tmps.size)
    (hdp : ∀ i, i < N → con i = k → done.getD i false = true) (hv : F k v w') (hR : R w') (hst : ∀ j, j < N → j ≠ k → con j ≠ k → done.getD j false = true → done.getD (con j) false = false → F j (a.eval (.tmp (dst j))) w → F j (a.eval (.tmp (dst j))) w') :
    RI N dst con F R base (done.setIfInBounds k true) (a.put (some (dst k)) v) w' := by
  have hks : k < done.size := by rw [h.sz]; exact hk
  refine ⟨by simp [h.sz], h.df, by simp [Act.put, h.ts], fun d hd' => ?_, fun j hj hdj hcj => ?_, hR, fun i hi hci => ?_⟩
  rotate_left 2
  · rw [gd_set done k _ hks] at hci ⊢
    by_cases e : k = i
    · rw [if_pos e]
    · rw [if_neg e]
      by_cases e2 : k = con i
      · exact hdp i hi e2.symm
      · rw [if_neg e2] at hci
        exact h.cl i hi hci
  · have e1 : dst k ≠ d := hd' k hk (by rw [gd_set done k k hks, if_pos rfl])
    have e2 := h.fr d (fun j hj hdj => hd' j hj (by rw [gd_set done k j hks]; split <;> simp_all))
    show (a.tmps.setIfInBounds (dst k) v)[d]? = _
    rw [Array.getElem?_setIfInBounds_ne e1]
    exact e2
  · rw [gd_set done k _ hks] at hdj hcj
    by_cases e : k = con j
    · rw [if_pos e] at hcj; cases hcj
    · rw [if_neg e] at hcj
      by_cases e2 : k = j
      · subst e2
        rw [eval_put a _ v (by rw [h.ts]; exact hsz)]
        exact hv
      · rw [if_neg e2] at hdj
        rw [eval_put_ne a _ _ v (fun q => hd j hj (fun z => e2 z.symm) q.symm)]
        exact hst j hj (fun z => e2 z.symm) (fun z => e z.symm) hdj hcj (h.lv j hj hdj hcj)
/-- what lives is apart -/
def Apart (N : Nat) (dst con : Nat → Nat) (own : Nat → Bool) (done : Array Bool) (a : Act) : Prop :=
  ∀ i j, i < N → j < N → i ≠ j → own i = true → own j = true → done.getD i false = true → done.getD (con i) false = false → done.getD j false = true → done.getD (con j) false = false → ∀ b, b ∈ kn.vb (a.eval (.tmp (dst i))) → b ∉ kn.vb (a.eval (.tmp (dst j)))
theorem Apart.step {own : Nat → Bool} {done : Array Bool} {a : Act} {w : World} {k : Nat} {v : Value} (h : Apart N dst con own done a) (hI : RI N dst con F R base done a w) (hk : k < N) (hd : ∀ j, j < N → j ≠ k → dst j ≠ dst k) (hsz : dst k < base.tmps.size)
    (hv : own k = true → ∀ j, j < N → j ≠ k → con j ≠ k → own j = true → done.getD j false = true → done.getD (con j) false = false → ∀ b, b ∈ kn.vb v → b ∉ kn.vb (a.eval (.tmp (dst j)))) :
    Apart N dst con own (done.setIfInBounds k true) (a.put (some (dst k)) v) := by
  have hks : k < done.size := by rw [hI.sz]; exact hk
  have e1 : (a.put (some (dst k)) v).eval (.tmp (dst k)) = v := eval_put a _ v (by rw [hI.ts]; exact hsz)
  have e2 : ∀ j, j < N → j ≠ k → (a.put (some (dst k)) v).eval (.tmp (dst j)) = a.eval (.tmp (dst j)) := fun j hj hne => eval_put_ne a _ _ v (fun q => hd j hj hne q.symm)
  have lv : ∀ j, j ≠ k → (done.setIfInBounds k true).getD j false = true → (done.setIfInBounds k true).getD (con j) false = false → done.getD j false = true ∧ done.getD (con j) false = false ∧ con j ≠ k := fun j hne h1 h2 => by
    rw [gd_set done k _ hks] at h1 h2
    by_cases q : k = con j
    · rw [if_pos q] at h2; cases h2
    · rw [if_neg (fun z => hne z.symm)] at h1
      rw [if_neg q] at h2
      exact ⟨h1, h2, fun z => q z.symm⟩
  intro i j hi hj hij oi oj di ci dj cj b hb
  by_cases ki : i = k
  · subst ki
    rw [e1] at hb
    obtain ⟨x1, x2, x3⟩ := lv j (fun z => hij z.symm) dj cj
    rw [e2 j hj (fun z => hij z.symm)]
    exact hv oi j hj (fun z => hij z.symm) x3 oj x1 x2 b hb
  · obtain ⟨y1, y2, y3⟩ := lv i ki di ci
    rw [e2 i hi ki] at hb
    by_cases kj : j = k
    · subst kj
      rw [e1]
      exact fun hm => hv oj i hi ki y3 oi y1 y2 b hm hb
    · obtain ⟨x1, x2, x3⟩ := lv j kj dj cj
      rw [e2 j hj kj]
      exact h i j hi hj hij oi oj y1 y2 x1 x2 b hb
theorem regionX {P : Program} {ops : Array Oper} {Q : Exit → Act → World → Prop} {id : Nat} {w : World} (N : Nat) (dst con : Nat → Nat) (own : Nat → Bool) (F : Nat → Value → World → Prop) (R : World → Prop) (base : Act) (hm : P.follows .mixedOrders = true) (hN : ops.size = N)
    (hop : ∀ k, k < N → ∃ o, ops[k]? = some o ∧ ∀ e ∈ o.after, e.on < k) (hR : R w.drew)
    (hstep : ∀ k done a x, k < N → done.getD k true = false → (∀ o, ops[k]? = some o → ∀ e ∈ o.after, Region.binds .any e = true → done.getD e.on false = true) → RI N dst con F R base done a x → Apart N dst con own done a → wpOp P ops Q k (fun b y => RI N dst con F R base (done.setIfInBounds k true) b y ∧ Apart N dst con own (done.setIfInBounds k true) b) a x)
    (hend : ∀ (u : Nat → Value) x, (∀ j, j < N → N ≤ con j → F j (u (dst j)) x) → R x → Q .normal ⟨((List.range N).map dst).foldl (fun t d => t.setIfInBounds d (u d)) base.tmps, base.defers⟩ x) :
    (Code.region id ops true).wp P Q base w := by
  refine wp_region_any hm (any_inv (fun done a x => RI N dst con F R base done a x ∧ Apart N dst con own done a) (fun k done a x hk hI => ?_) (fun done a x hr hI => ?_) ops.size (List.range N) (Array.replicate ops.size false) base w.drew (by rw [List.length_range, hN]) (fun j hj => ?_) ⟨?_, ?_⟩)
  · have hm := mem_ready.1 hk
    obtain ⟨h1, p, hp, h2⟩ := hm
    have hkN : k < N := by
      rcases Nat.lt_or_ge k N with c | c
      · exact c
      · rw [Array.getElem?_eq_none (by omega)] at hp; cases hp
    exact hstep k done a x hkN h1 (fun o ho e he hb => by rw [hp] at ho; injection ho with ho; subst ho; exact h2 e he hb) hI.1 hI.2
  · replace hI := hI.1
    have all : ∀ n j, j < n → j < N → done.getD j false = true := by
      intro n
      induction n with
      | zero => intro j hj _; omega
      | succ n ih =>
        intro j hj hjN
        rcases Nat.lt_or_ge j n with c | c
        · exact ih j c hjN
        · obtain rfl : j = n := by omega
          cases hd : done.getD j false with
          | true => rfl
          | false =>
            exfalso
            obtain ⟨o, ho, hb⟩ := hop j hjN
            have hjs : j < done.size := by rw [hI.sz]; exact hjN
            have : j ∈ Region.ready .any ops done := by
              refine mem_ready.2 ⟨?_, o, ho, fun e he _ => ih e.on (hb e he) (by have := hb e he; omega)⟩
              simp [Array.getD, hjs] at hd ⊢
              exact hd
            rw [hr] at this
            simp at this
    have key : a = ⟨((List.range N).map dst).foldl (fun t d => t.setIfInBounds d (a.eval (.tmp d))) base.tmps, base.defers⟩ := by
      have e : a.tmps = ((List.range N).map dst).foldl (fun t d => t.setIfInBounds d (a.eval (.tmp d))) base.tmps := by
        refine Array.ext_getElem? (fun d => ?_)
        rw [fold_at]
        by_cases h1 : d ∈ (List.range N).map dst ∧ d < base.tmps.size
        · rw [if_pos h1]
          have hlt : d < a.tmps.size := by rw [hI.ts]; exact h1.2
          show _ = some (a.tmps.getD d undef)
          simp [Array.getD, hlt]
        · rw [if_neg h1]
          by_cases h2 : d < base.tmps.size
          · exact hI.fr d (fun j hj _ q => h1 ⟨List.mem_map.2 ⟨j, List.mem_range.2 hj, q⟩, h2⟩)
          · rw [Array.getElem?_eq_none (by rw [hI.ts]; omega), Array.getElem?_eq_none (by omega)]
      have e2 := hI.df
      cases a
      simp only at e e2
      subst e2
      exact congrArg (fun t => Act.mk t _) e
    rw [key]
    refine hend (fun d => a.eval (.tmp d)) x (fun j hj hc => hI.lv j hj (all N j hj hj) ?_) hI.hr
    rw [Array.getD_eq_getD_getElem?, Array.getElem?_eq_none (by rw [hI.sz]; exact hc)]
    rfl
  · rw [List.mem_range, ← hN]
    rcases Nat.lt_or_ge j ops.size with c | c
    · exact c
    · rw [Array.getD_eq_getD_getElem?, Array.getElem?_eq_none (by simpa using c)] at hj; cases hj
  · have nf : ∀ j, (Array.replicate ops.size false).getD j false = false := fun j => by
      rw [Array.getD_eq_getD_getElem?, Array.getElem?_replicate]
      split <;> rfl
    exact ⟨by simp [hN], rfl, rfl, fun d _ => rfl, fun j _ hdj => absurd hdj (by rw [nf]; decide), hR, fun i _ hdi => absurd hdi (by rw [nf]; decide)⟩
  · have nf : ∀ j, (Array.replicate ops.size false).getD j false = false := fun j => by
      rw [Array.getD_eq_getD_getElem?, Array.getElem?_replicate]
      split <;> rfl
    intro i j _ _ _ _ _ di
    exact absurd di (by rw [nf]; decide)
/-- an operation without a guard that calls -/
theorem callv {P : Program} {ops : Array Oper} {Q : Exit → Act → World → Prop} {k : Nat} {o : Oper} {K : Act → World → Prop} {a : Act} {w : World} {f : FuncId} {args : Array Value} (ho : ops[k]? = some o) (hg : o.guard = none) (hr : (execOp a.eval o).run P w = .ok (.enter f args) w)
    (hc : Calls P f args w fun e w' => ∃ v, e = .returned v ∧ K (a.put o.dst v) w') : wpOp P ops Q k K a w :=
  wpOp_step ho fun K' hK' => by
    rw [if_pos (by simp [Region.wanted, hg])]
    unfold Oper.wp
    rw [hr, Oper.upon_enter]
    refine hc.mono ?_
    rintro e w' ⟨v, rfl, h⟩
    exact hK' _ _ h
end
end Go.Proofs.Yteoionlnnjcggaa.ri

/-
  A region that calls a function with a list and a number more, twice, and adds what it answers.
-/
namespace Go.Proofs.Yteoionlnnjcggaa.kn
open Go.RowKit
set_option linter.unusedVariables false
set_option linter.unusedSimpArgs false
def dstA (T sd : Nat) : Nat → Nat
  | 15 => sd
  | j => T + j
def conA : Nat → Nat
  | 0 => 6 | 1 => 3 | 2 => 3 | 3 => 5 | 4 => 5 | 5 => 6 | 6 => 14 | 7 => 13 | 8 => 10 | 9 => 10 | 10 => 12 | 11 => 12 | 12 => 13 | 13 => 14 | 14 => 15 | _ => 16
def ownA : Nat → Bool
  | 1 => true | 3 => true | 4 => true | 5 => true | 8 => true | 10 => true | 11 => true | 12 => true | _ => false
def opA (T sb sx f : Nat) (ty : TypeId) : Nat → Op
  | 0 => .load 25 (.tmp sb)
  | 1 => .buildSlice 22 0 #[]
  | 2 => .move (.tmp sx)
  | 3 => .call { callee := .builtin .append, args := #[.tmp (T + 1), .tmp (T + 2)], argTypes := #[22, 22] }
  | 4 => .buildSlice 22 1 #[(0, .const (.int .i64 0))]
  | 5 => .call { callee := .builtin .append, args := #[.tmp (T + 3), .tmp (T + 4)], argTypes := #[22, 22] }
  | 6 => .call { callee := .value (.func f), args := #[.tmp (T + 0), .tmp (T + 5)], argTypes := #[25, 22] }
  | 7 => .load 25 (.tmp sb)
  | 8 => .buildSlice 22 0 #[]
  | 9 => .move (.tmp sx)
  | 10 => .call { callee := .builtin .append, args := #[.tmp (T + 8), .tmp (T + 9)], argTypes := #[22, 22] }
  | 11 => .buildSlice 22 1 #[(0, .const (.int .i64 1))]
  | 12 => .call { callee := .builtin .append, args := #[.tmp (T + 10), .tmp (T + 11)], argTypes := #[22, 22] }
  | 13 => .call { callee := .value (.func f), args := #[.tmp (T + 7), .tmp (T + 12)], argTypes := #[25, 22] }
  | 14 => .binOp .add 3 (.tmp (T + 6)) (.tmp (T + 13)) 3
  | _ => .assign (.tmp (T + 14))
def tyA : Nat → TypeId
  | 3 => 22 | 5 => 22 | 10 => 22 | 12 => 22 | _ => 0
/-- what each operation leaves -/
def FA (B : Nat) (bv : Value) (xa : Option Addr) (xc : Nat) (x : List Int) (A0 A1 : Int) : Nat → Value → World → Prop
  | 0, v, y => v = bv
  | 1, v, y => ∃ g, v = .slice (some ⟨g, 0, none⟩) 0 0 ∧ y.heap[g]? = some (.cells #[] 3 (0, 0)) ∧ B ≤ g
  | 2, v, y => v = .slice xa x.length xc
  | 3, v, y => Ol B v x y
  | 4, v, y => ∃ g, v = .slice (some ⟨g, 0, none⟩) 1 1 ∧ y.heap[g]? = some (.cells #[.int .i64 0] 3 (0, 0)) ∧ B ≤ g
  | 5, v, y => Ol B v (x ++ [0]) y
  | 6, v, y => v = .int .i64 A0
  | 7, v, y => v = bv
  | 8, v, y => ∃ g, v = .slice (some ⟨g, 0, none⟩) 0 0 ∧ y.heap[g]? = some (.cells #[] 3 (0, 0)) ∧ B ≤ g
  | 9, v, y => v = .slice xa x.length xc
  | 10, v, y => Ol B v x y
  | 11, v, y => ∃ g, v = .slice (some ⟨g, 0, none⟩) 1 1 ∧ y.heap[g]? = some (.cells #[.int .i64 1] 3 (0, 0)) ∧ B ≤ g
  | 12, v, y => Ol B v (x ++ [1]) y
  | 13, v, y => v = .int .i64 A1
  | _, v, y => v = .int .i64 (A0 + A1)
theorem sixteen {j : Nat} (h : j < 16) : j = 0 ∨ j = 1 ∨ j = 2 ∨ j = 3 ∨ j = 4 ∨ j = 5 ∨ j = 6 ∨ j = 7 ∨ j = 8 ∨ j = 9 ∨ j = 10 ∨ j = 11 ∨ j = 12 ∨ j = 13 ∨ j = 14 ∨ j = 15 := by omega
section
variable {B : Nat} {bv : Value} {xa : Option Addr} {xc : Nat} {x : List Int} {A0 A1 : Int}
theorem FA.tw {y y' : World} {S : List Nat} (k : Tw S y y') {j : Nat} (hj : j < 16) {v : Value} (hS : ownA j = true → ∀ i, i ∈ S → i ∉ vb v) (h : FA B bv xa xc x A0 A1 j v y) : FA B bv xa xc x A0 A1 j v y' := by
  rcases sixteen hj with rfl | rfl | rfl | rfl | rfl | rfl | rfl | rfl | rfl | rfl | rfl | rfl | rfl | rfl | rfl | rfl
  · exact h
  · obtain ⟨g, rfl, hh, hb⟩ := h; exact ⟨g, rfl, blk_tw hh k (fun hm => hS rfl g hm (by simp [vb])), hb⟩
  · exact h
  · exact Ol.keep h k (hS rfl)
  · obtain ⟨g, rfl, hh, hb⟩ := h; exact ⟨g, rfl, blk_tw hh k (fun hm => hS rfl g hm (by simp [vb])), hb⟩
  · exact Ol.keep h k (hS rfl)
  · exact h
  · exact h
  · obtain ⟨g, rfl, hh, hb⟩ := h; exact ⟨g, rfl, blk_tw hh k (fun hm => hS rfl g hm (by simp [vb])), hb⟩
  · exact h
  · exact Ol.keep h k (hS rfl)
  · obtain ⟨g, rfl, hh, hb⟩ := h; exact ⟨g, rfl, blk_tw hh k (fun hm => hS rfl g hm (by simp [vb])), hb⟩
  · exact Ol.keep h k (hS rfl)
  · exact h
  · exact h
  · exact h
theorem FA.lt {y : World} {j : Nat} (hj : j < 16) {v : Value} (ho : ownA j = true) (h : FA B bv xa xc x A0 A1 j v y) : ∀ b, b ∈ vb v → b < y.heap.size := by
  have ol : ∀ L : List Int, Ol B v L y → ∀ b, b ∈ vb v → b < y.heap.size := fun L q b hb => by
    obtain ⟨_, C, e⟩ := q.blk b hb
    exact lt_hp e
  rcases sixteen hj with rfl | rfl | rfl | rfl | rfl | rfl | rfl | rfl | rfl | rfl | rfl | rfl | rfl | rfl | rfl | rfl
  · cases ho
  · obtain ⟨g, rfl, hh, hb⟩ := h; intro b hb; simp [vb] at hb; subst hb; exact lt_hp hh
  · cases ho
  · exact ol _ h
  · obtain ⟨g, rfl, hh, hb⟩ := h; intro b hb; simp [vb] at hb; subst hb; exact lt_hp hh
  · exact ol _ h
  · cases ho
  · cases ho
  · obtain ⟨g, rfl, hh, hb⟩ := h; intro b hb; simp [vb] at hb; subst hb; exact lt_hp hh
  · cases ho
  · exact ol _ h
  · obtain ⟨g, rfl, hh, hb⟩ := h; intro b hb; simp [vb] at hb; subst hb; exact lt_hp hh
  · exact ol _ h
  · cases ho
  · cases ho
  · cases ho
end
theorem run_app22v {X : World} {B : Nat} {v : Value} {L : List Int} {a : Int} {g : Nat} (hown : Ol B v L X) (hB : B ≤ X.heap.size) (hl : L.length ≤ 900) (hc : X.heap[g]? = some (.cells #[.int .i64 a] 3 (0, 0))) :
    ∃ v' X', (Builtin.append_ #[22, 22] 22 #[v, .slice (some ⟨g, 0, none⟩) 1 1]).run Try.prog X = .ok v' X' ∧ Ol B v' (L ++ [a]) X' ∧ Tw (vb v) X X' ∧ ∀ i, i ∈ vb v' → i ∈ vb v ∨ X.heap.size ≤ i := by
  obtain ⟨i0, hi, hz0, hz1, hz2⟩ := info_parts info3
  obtain ⟨v', w', hr, h2, h3, h4, h5⟩ := run_append_own_at (P := Try.prog) X B 22 22 3 i0 (.int .i64 0) 1 8 Try.underlying22 hi hz0 hz1 hz2 rfl (by decide) v L.length (L.map (Value.int .i64)) hown ⟨g, 0, none⟩ 1 1 [.int .i64 a] (by simp) (fun j u hj => by
    cases j with
    | zero =>
      simp at hj; subst hj
      exact (cell_of_row _ _ 0 _ 3 _ hc).trans rfl
    | succ j => simp at hj) (by simp [Value.oneCell']) (by unfold maxLen; omega) (by omega) hB
  refine ⟨v', w', hr, ?_, gr_tw h3 rfl, fun i hi => ?_⟩
  · show w'.ownsRow B 3 1 v' (L ++ [a]).length ((L ++ [a]).map (Value.int .i64))
    rw [List.map_append, List.length_append]
    exact h2
  · have e := (vb_own v' i).mp hi
    rcases h5 with h5 | h5
    · rw [h5] at e; exact .inl ((vb_own v i).mpr e)
    · rw [h5] at e; injection e with e; right; omega
def okA (k : Nat) (o : Oper) : Bool := o.after.all (fun e => decide (e.on < k)) && (List.range 16).all (fun i => conA i != k || o.after.any (fun e => Region.binds .any e && e.on == i))
set_option maxRecDepth 10000 in
set_option maxHeartbeats 8000000 in
theorem two_calls {ops : Array Oper} {Q : Exit → Act → World → Prop} {id : Nat} {w : World} {base : Act} (T sb sx sd f : Nat) (pb : Nat) (bv : Value) (xa : Option Addr) (xc : Nat) (x : List Int) (A0 A1 : Int)
    (hops : ops.size = 16) (hop : ∀ k, k < 16 → ∃ o, ops[k]? = some o ∧ o.guard = none ∧ o.op = opA T sb sx f 0 k ∧ o.dst = some (dstA T sd k) ∧ (tyA k ≠ 0 → o.type = tyA k) ∧ okA k o = true)
    (hT : T + 15 ≤ base.tmps.size) (hsz : sb < T ∧ sx < T ∧ sd < T ∧ sb ≠ sd ∧ sx ≠ sd)
    (eb : base.eval (.tmp sb) = .pointer (some ⟨pb, 0, none⟩)) (ex : base.eval (.tmp sx) = .slice xa x.length xc)
    (hb : ∀ Y, Below w.heap.size w Y → (Instr.loadAt 25 (.pointer (some ⟨pb, 0, none⟩))).run Try.prog Y = .ok bv Y)
    (hcf : ∀ (av : Array Value) (Y : World), (callFunc f av).run Try.prog Y = .ok (.enter f av) Y)
    (hp : SrcA w xa xc x) (hpl : x.length ≤ 800) (hA0 : 0 ≤ A0 ∧ A0 ≤ 1000000) (hA1 : 0 ≤ A1 ∧ A1 ≤ 1000000)
    (ih0 : ∀ Y u, Below w.heap.size w Y → Ol w.heap.size u (x ++ [0]) Y → Calls Try.prog f #[bv, u] Y fun e w' => e = .returned (.int .i64 A0) ∧ Below Y.heap.size Y w')
    (ih1 : ∀ Y u, Below w.heap.size w Y → Ol w.heap.size u (x ++ [1]) Y → Calls Try.prog f #[bv, u] Y fun e w' => e = .returned (.int .i64 A1) ∧ Below Y.heap.size Y w')
    (hK : ∀ (u : Nat → Value) (y : World), u sd = .int .i64 (A0 + A1) → Below w.heap.size w y → Q .normal ⟨((List.range 16).map (dstA T sd)).foldl (fun t d => t.setIfInBounds d (u d)) base.tmps, base.defers⟩ y) :
    (Code.region id ops true).wp Try.prog Q base w := by
  have hop2 : ∀ k, k < 16 → ∃ o, ops[k]? = some o ∧ o.guard = none ∧ o.op = opA T sb sx f 0 k ∧ o.dst = some (dstA T sd k) ∧ (tyA k ≠ 0 → o.type = tyA k) ∧ (∀ e ∈ o.after, e.on < k) ∧ (∀ i, i < 16 → conA i = k → ∃ e ∈ o.after, Region.binds .any e = true ∧ e.on = i) := fun k hk => by
    obtain ⟨o, h1, h2, h3, h4, h5, h6⟩ := hop k hk
    unfold okA at h6
    rw [Bool.and_eq_true, Array.all_eq_true_iff_forall_mem, List.all_eq_true] at h6
    refine ⟨o, h1, h2, h3, h4, h5, fun e he => by simpa using h6.1 e he, fun i hi hc => ?_⟩
    have := h6.2 i (List.mem_range.2 hi)
    rw [Bool.or_eq_true] at this
    rcases this with q | q
    · simp [hc] at q
    · rw [Array.any_eq_true] at q
      obtain ⟨j, hj, q⟩ := q
      rw [Bool.and_eq_true, beq_iff_eq] at q
      exact ⟨_, Array.getElem_mem hj, q.1, q.2⟩
  have dne : ∀ i j, i < 16 → j < 16 → i ≠ j → dstA T sd i ≠ dstA T sd j := fun i j hi hj hne => by
    rcases sixteen hi with rfl | rfl | rfl | rfl | rfl | rfl | rfl | rfl | rfl | rfl | rfl | rfl | rfl | rfl | rfl | rfl <;> rcases sixteen hj with rfl | rfl | rfl | rfl | rfl | rfl | rfl | rfl | rfl | rfl | rfl | rfl | rfl | rfl | rfl | rfl <;> simp only [dstA] <;> omega
  have dsz : ∀ i, i < 16 → dstA T sd i < base.tmps.size := fun i hi => by
    rcases sixteen hi with rfl | rfl | rfl | rfl | rfl | rfl | rfl | rfl | rfl | rfl | rfl | rfl | rfl | rfl | rfl | rfl <;> simp only [dstA] <;> omega
  refine ri.regionX 16 (dstA T sd) conA ownA (FA w.heap.size bv xa xc x A0 A1) (fun y => Below w.heap.size w y) base (by kernel_rfl) hops (fun k hk => ?_) (bl_drew w) (fun k done A y hk hnd hdep hI hAp => ?_) (fun u y hF hR => ?_)
  · obtain ⟨o, h1, _, _, _, _, h6, _⟩ := hop2 k hk
    exact ⟨o, h1, h6⟩
  · obtain ⟨o, ho, hg, hopk, hdst, hty, _, hdp⟩ := hop2 k hk
    have hnd' : done.getD k false = false := by
      have hks : k < done.size := by rw [hI.sz]; exact hk
      simp [Array.getD, hks] at hnd ⊢
      exact hnd
    have hin : ∀ i, i < 16 → conA i = k → done.getD i false = true := fun i hi he => by
      obtain ⟨e, he1, he2, he3⟩ := hdp i hi he
      have := hdep o ho e he1 he2
      rw [he3] at this
      exact this
    have hlv : ∀ i, i < 16 → conA i = k → FA w.heap.size bv xa xc x A0 A1 i (A.eval (.tmp (dstA T sd i))) y := fun i hi he => hI.lv i hi (hin i hi he) (by rw [he]; exact hnd')
    have hold : ∀ d, d < T → d ≠ sd → A.eval (.tmp d) = base.eval (.tmp d) := fun d hd hs => by
      show A.tmps.getD d undef = base.tmps.getD d undef
      rw [Array.getD_eq_getD_getElem?, Array.getD_eq_getD_getElem?, hI.fr d (fun j hj hdj e => ?_)]
      rcases sixteen hj with rfl | rfl | rfl | rfl | rfl | rfl | rfl | rfl | rfl | rfl | rfl | rfl | rfl | rfl | rfl | rfl
      all_goals simp only [dstA] at e
      all_goals omega
    have hB := hI.hr
    -- behind an operation: S is what it stored into
    have fin : ∀ (v : Value) (y' : World) (S : List Nat), FA w.heap.size bv xa xc x A0 A1 k v y' → Tw S y y' → (∀ i, i ∈ S → w.heap.size ≤ i) →
        (∀ j, j < 16 → j ≠ k → conA j ≠ k → ownA j = true → done.getD j false = true → done.getD (conA j) false = false → ∀ i, i ∈ S → i ∉ vb (A.eval (.tmp (dstA T sd j)))) →
        (ownA k = true → ∀ i, i ∈ vb v → i ∈ S ∨ y.heap.size ≤ i) →
        ri.RI 16 (dstA T sd) conA (FA w.heap.size bv xa xc x A0 A1) (fun y => Below w.heap.size w y) base (done.setIfInBounds k true) (A.put o.dst v) y' ∧ ri.Apart 16 (dstA T sd) conA ownA (done.setIfInBounds k true) (A.put o.dst v) := fun v y' S hv ht hS hap hvb => by
      rw [hdst]
      refine ⟨?_, hAp.step hI hk (fun j hj hne => dne j k hj hk hne) (dsz k hk) (fun ok j hj hne hcn oj hdj hcj b hbv hbj => ?_)⟩
      · exact hI.stepX hk (fun j hj hne => dne j k hj hk hne) (dsz k hk) hin hv (Tw.below hB ht hS hB.size) (fun j hj hne hcn hdj hcj h => FA.tw ht hj (fun oj => hap j hj hne hcn oj hdj hcj) h)
      · rcases hvb ok b hbv with q | q
        · exact hap j hj hne hcn oj hdj hcj b q hbj
        · have := FA.lt hj oj (hI.lv j hj hdj hcj) b hbj
          omega
    have fal : ∀ (v : Value) (y' : World), FA w.heap.size bv xa xc x A0 A1 k v y' → Tw [] y y' → (ownA k = true → ∀ i, i ∈ vb v → y.heap.size ≤ i) →
        ri.RI 16 (dstA T sd) conA (FA w.heap.size bv xa xc x A0 A1) (fun y => Below w.heap.size w y) base (done.setIfInBounds k true) (A.put o.dst v) y' ∧ ri.Apart 16 (dstA T sd) conA ownA (done.setIfInBounds k true) (A.put o.dst v) := fun v y' hv ht hvb =>
      fin v y' [] hv ht (by simp) (fun j _ _ _ _ _ _ i hi => by simp at hi) (fun ok i hi => .inr (hvb ok i hi))
    -- what an append stores into is apart from what lives
    have hapart : ∀ i, i < 16 → conA i = k → ownA i = true → ∀ j, j < 16 → j ≠ k → conA j ≠ k → ownA j = true → done.getD j false = true → done.getD (conA j) false = false → ∀ b, b ∈ vb (A.eval (.tmp (dstA T sd i))) → b ∉ vb (A.eval (.tmp (dstA T sd j))) := fun i hi he oi j hj hne hcn oj hdj hcj =>
      hAp i j hi hj (fun e => hcn (by rw [← e]; exact he)) oi oj (hin i hi he) (by rw [he]; exact hnd') hdj hcj
    have hpy : SrcA y xa xc x := by
      rcases hp with h | ⟨ad, e, hcc⟩
      · exact .inl h
      · exact .inr ⟨ad, e, fun j u hj => (hB.cell (p := ad.add j) (block_lt_of_cell (hcc j u hj))).trans (hcc j u hj)⟩
    -- an append of the list to an empty one
    have app1 : ∀ i0 i1, i0 < 16 → i1 < 16 → conA i0 = k → conA i1 = k → ownA i0 = true → tyA k = 22 → (∃ g, A.eval (.tmp (dstA T sd i0)) = .slice (some ⟨g, 0, none⟩) 0 0 ∧ y.heap[g]? = some (.cells #[] 3 (0, 0)) ∧ w.heap.size ≤ g) → A.eval (.tmp (dstA T sd i1)) = .slice xa x.length xc →
        o.op = .call { callee := .builtin .append, args := #[.tmp (dstA T sd i0), .tmp (dstA T sd i1)], argTypes := #[22, 22] } → (∀ v y', Ol w.heap.size v x y' → FA w.heap.size bv xa xc x A0 A1 k v y') →
        wpOp Try.prog ops Q k (fun b y => ri.RI 16 (dstA T sd) conA (FA w.heap.size bv xa xc x A0 A1) (fun y => Below w.heap.size w y) base (done.setIfInBounds k true) b y ∧ ri.Apart 16 (dstA T sd) conA ownA (done.setIfInBounds k true) b) A y := fun i0 i1 h0 h1 c0 c1 o0 ht e0 e1 hop3 hF => by
      have hS := hapart i0 h0 c0 o0
      obtain ⟨g0, e0, hh0, hb0⟩ := e0
      rw [e0] at hS
      obtain ⟨g, cap, y', hr, r1, r2, r3⟩ := app_run w.heap.size g0 x xa xc y (by omega) (own_new hh0 hb0) hB.size hpy
      have r2' : Tw (vb (.slice (some ⟨g0, 0, none⟩) 0 0)) y y' := gr_tw (v := .slice (some ⟨g0, 0, none⟩) 0 0) r2 rfl
      have hty2 : o.type = 22 := by rw [← ht]; exact hty (by rw [ht]; decide)
      refine ri.plain ho hg (v := .slice (some ⟨g, 0, none⟩) x.length cap) (w' := y') ?_ (fin _ _ _ (hF _ _ r1) r2' (fun i hi => by simp [vb] at hi; subst hi; exact hb0) hS (fun _ i hi => by
        simp [vb] at hi ⊢
        subst hi
        exact r3))
      unfold execOp
      simp only [hop3, hty2, resolve, invoke, builtin, Sem.run_bind, Sem.run_pure, Result.andThen_ok, List.map_toArray, List.map_cons, List.map_nil, e0, e1, hr]
    -- an append of one number
    have app2 : ∀ i0 i1 (m : Int), i0 < 16 → i1 < 16 → conA i0 = k → conA i1 = k → ownA i0 = true → tyA k = 22 → Ol w.heap.size (A.eval (.tmp (dstA T sd i0))) x y → (∃ g, A.eval (.tmp (dstA T sd i1)) = .slice (some ⟨g, 0, none⟩) 1 1 ∧ y.heap[g]? = some (.cells #[.int .i64 m] 3 (0, 0)) ∧ w.heap.size ≤ g) →
        o.op = .call { callee := .builtin .append, args := #[.tmp (dstA T sd i0), .tmp (dstA T sd i1)], argTypes := #[22, 22] } → (∀ v y', Ol w.heap.size v (x ++ [m]) y' → FA w.heap.size bv xa xc x A0 A1 k v y') →
        wpOp Try.prog ops Q k (fun b y => ri.RI 16 (dstA T sd) conA (FA w.heap.size bv xa xc x A0 A1) (fun y => Below w.heap.size w y) base (done.setIfInBounds k true) b y ∧ ri.Apart 16 (dstA T sd) conA ownA (done.setIfInBounds k true) b) A y := fun i0 i1 m h0 h1 c0 c1 o0 ht e0 e1 hop3 hF => by
      have hS := hapart i0 h0 c0 o0
      obtain ⟨g, e1, hh1, hb1⟩ := e1
      obtain ⟨v5, e5⟩ : ∃ v5, A.eval (.tmp (dstA T sd i0)) = v5 := ⟨_, rfl⟩
      rw [e5] at e0 hS
      obtain ⟨v', y', hr, r1, r2, r3⟩ := run_app22v e0 hB.size (by omega) hh1
      have hty2 : o.type = 22 := by rw [← ht]; exact hty (by rw [ht]; decide)
      refine ri.plain ho hg (v := v') (w' := y') ?_ (fin _ _ _ (hF _ _ r1) r2 (fun i hi => (e0.blk i hi).1) hS (fun _ i hi => r3 i hi))
      unfold execOp
      simp only [hop3, hty2, resolve, invoke, builtin, Sem.run_bind, Sem.run_pure, Result.andThen_ok, List.map_toArray, List.map_cons, List.map_nil, e5, e1, hr]
    rcases sixteen hk with rfl | rfl | rfl | rfl | rfl | rfl | rfl | rfl | rfl | rfl | rfl | rfl | rfl | rfl | rfl | rfl
    all_goals simp only [opA] at hopk
    · -- 0
      have e0 : A.eval (.tmp sb) = .pointer (some ⟨pb, 0, none⟩) := (hold sb hsz.1 hsz.2.2.2.1).trans eb
      have hl := hb y hB
      refine ri.plain ho hg (v := bv) (w' := y) ?_ (fal _ _ rfl (Tw.refl _ _) (fun h => by cases h))
      unfold execOp; simp only [hopk, e0, Sem.run_bind, hl, Result.andThen_ok, Sem.run_pure]
    · -- 1
      refine ri.plain ho hg (v := .slice (some ⟨y.heap.size, 0, none⟩) 0 0) (w' := y.alloc (.cells #[] 3)) ?_ (fal _ _ ⟨_, rfl, heap_alloc_new _ _, hB.size⟩ (Tw.al (Tw.refl _ _) _) (fun _ i hi => by simp [vb] at hi; omega))
      unfold execOp; simp only [hopk]; go_simp
    · -- 2
      refine ri.plain ho hg (v := A.eval (.tmp sx)) (w' := y) ?_ (fal _ _ ((hold sx hsz.2.1 hsz.2.2.2.2).trans ex) (Tw.refl _ _) (fun h => by cases h))
      unfold execOp; simp only [hopk]; rfl
    · -- 3
      exact app1 1 2 (by decide) (by decide) rfl rfl rfl rfl (hlv 1 (by decide) rfl) (hlv 2 (by decide) rfl) hopk (fun v y' h => h)
    · -- 4
      refine ri.plain ho hg (v := .slice (some ⟨y.heap.size, 0, none⟩) 1 1) (w' := y.alloc (.cells #[.int .i64 0] 3)) ?_ (fal _ _ ⟨_, rfl, heap_alloc_new _ _, hB.size⟩ (Tw.al (Tw.refl _ _) _) (fun _ i hi => by simp [vb] at hi; omega))
      unfold execOp; simp only [hopk]; go_simp
    · -- 5
      exact app2 3 4 0 (by decide) (by decide) rfl rfl rfl rfl (hlv 3 (by decide) rfl) (hlv 4 (by decide) rfl) hopk (fun v y' h => h)
    · -- 6
      have e0 : A.eval (.tmp (T + 0)) = bv := hlv 0 (by decide) rfl
      have h5 : Ol w.heap.size (A.eval (.tmp (T + 5))) (x ++ [0]) y := hlv 5 (by decide) rfl
      refine ri.callv ho hg (f := f) (args := #[bv, A.eval (.tmp (T + 5))]) ?_ ((ih0 y _ hB h5).mono ?_)
      · unfold execOp
        simp only [hopk, resolve, invoke, Sem.run_bind, Sem.run_pure, Result.andThen_ok, List.map_toArray, List.map_cons, List.map_nil, e0]
        exact hcf _ _
      · rintro e y' ⟨rfl, hbb⟩
        exact ⟨_, rfl, fal _ _ rfl (Tw.of hbb) (fun h => by cases h)⟩
    · -- 7
      have e0 : A.eval (.tmp sb) = .pointer (some ⟨pb, 0, none⟩) := (hold sb hsz.1 hsz.2.2.2.1).trans eb
      have hl := hb y hB
      refine ri.plain ho hg (v := bv) (w' := y) ?_ (fal _ _ rfl (Tw.refl _ _) (fun h => by cases h))
      unfold execOp; simp only [hopk, e0, Sem.run_bind, hl, Result.andThen_ok, Sem.run_pure]
    · -- 8
      refine ri.plain ho hg (v := .slice (some ⟨y.heap.size, 0, none⟩) 0 0) (w' := y.alloc (.cells #[] 3)) ?_ (fal _ _ ⟨_, rfl, heap_alloc_new _ _, hB.size⟩ (Tw.al (Tw.refl _ _) _) (fun _ i hi => by simp [vb] at hi; omega))
      unfold execOp; simp only [hopk]; go_simp
    · -- 9
      refine ri.plain ho hg (v := A.eval (.tmp sx)) (w' := y) ?_ (fal _ _ ((hold sx hsz.2.1 hsz.2.2.2.2).trans ex) (Tw.refl _ _) (fun h => by cases h))
      unfold execOp; simp only [hopk]; rfl
    · -- 10
      exact app1 8 9 (by decide) (by decide) rfl rfl rfl rfl (hlv 8 (by decide) rfl) (hlv 9 (by decide) rfl) hopk (fun v y' h => h)
    · -- 11
      refine ri.plain ho hg (v := .slice (some ⟨y.heap.size, 0, none⟩) 1 1) (w' := y.alloc (.cells #[.int .i64 1] 3)) ?_ (fal _ _ ⟨_, rfl, heap_alloc_new _ _, hB.size⟩ (Tw.al (Tw.refl _ _) _) (fun _ i hi => by simp [vb] at hi; omega))
      unfold execOp; simp only [hopk]; go_simp
    · -- 12
      exact app2 10 11 1 (by decide) (by decide) rfl rfl rfl rfl (hlv 10 (by decide) rfl) (hlv 11 (by decide) rfl) hopk (fun v y' h => h)
    · -- 13
      have e0 : A.eval (.tmp (T + 7)) = bv := hlv 7 (by decide) rfl
      have h5 : Ol w.heap.size (A.eval (.tmp (T + 12))) (x ++ [1]) y := hlv 12 (by decide) rfl
      refine ri.callv ho hg (f := f) (args := #[bv, A.eval (.tmp (T + 12))]) ?_ ((ih1 y _ hB h5).mono ?_)
      · unfold execOp
        simp only [hopk, resolve, invoke, Sem.run_bind, Sem.run_pure, Result.andThen_ok, List.map_toArray, List.map_cons, List.map_nil, e0]
        exact hcf _ _
      · rintro e y' ⟨rfl, hbb⟩
        exact ⟨_, rfl, fal _ _ rfl (Tw.of hbb) (fun h => by cases h)⟩
    · -- 14
      have e0 : A.eval (.tmp (T + 6)) = .int .i64 A0 := hlv 6 (by decide) rfl
      have e1 : A.eval (.tmp (T + 13)) = .int .i64 A1 := hlv 13 (by decide) rfl
      have hw1 : IntKind.i64.wrap (A0 + A1) = A0 + A1 := by rw [IntKind.wrap_i64]; omega
      refine ri.plain ho hg (v := .int .i64 (A0 + A1)) (w' := y) ?_ (fal _ _ rfl (Tw.refl _ _) (fun h => by cases h))
      unfold execOp; simp only [hopk, e0, e1]; go_simp
    · -- 15
      have h14 := hlv 14 (by decide) rfl
      refine ri.plain ho hg (v := A.eval (.tmp (T + 14))) (w' := y) ?_ (fal _ _ h14 (Tw.refl _ _) (fun h => by cases h))
      unfold execOp; simp only [hopk]; rfl
  · exact hK u y (hF 15 (by decide) (by decide)) hR
end Go.Proofs.Yteoionlnnjcggaa.kn
