/-
  The region of a search that puts one more beginning upon what waits.
-/
import Derived.Test.YtlhpiikpmmlpeaaDoorDa
import Derived.Test.YtlhpiikpmmlpeaaDoorDb
namespace Go.Proofs.YtlhpiikpmmlpeaaDoor.kn
open Go.RowKit
set_option linter.unusedVariables false
set_option linter.unusedSimpArgs false
def dstP (T sw : Nat) : Nat → Nat
  | 14 => sw
  | j => T + j
def conP : Nat → Nat
  | 0 => 2 | 1 => 2 | 2 => 13 | 3 => 5 | 4 => 5 | 5 => 11 | 6 => 8 | 7 => 8 | 8 => 9 | 9 => 10 | 10 => 11 | 11 => 12 | 12 => 13 | 13 => 14 | _ => 15
def opP (T sw sp sl si : Nat) : Nat → Op
  | 0 => .buildSlice 23 0 #[]
  | 1 => .move (.tmp sw)
  | 2 => .call { callee := .builtin .append, args := #[.tmp (T + 0), .tmp (T + 1)], argTypes := #[23, 23] }
  | 3 => .buildSlice 22 0 #[]
  | 4 => .move (.tmp sp)
  | 5 => .call { callee := .builtin .append, args := #[.tmp (T + 3), .tmp (T + 4)], argTypes := #[22, 22] }
  | 6 => .move (.tmp sl)
  | 7 => .move (.tmp si)
  | 8 => .indexAddr 22 (.tmp (T + 6)) (.tmp (T + 7))
  | 9 => .load 3 (.tmp (T + 8))
  | 10 => .buildSlice 22 1 #[(0, .tmp (T + 9))]
  | 11 => .call { callee := .builtin .append, args := #[.tmp (T + 5), .tmp (T + 10)], argTypes := #[22, 22] }
  | 12 => .buildSlice 23 1 #[(0, .tmp (T + 11))]
  | 13 => .call { callee := .builtin .append, args := #[.tmp (T + 2), .tmp (T + 12)], argTypes := #[23, 23] }
  | _ => .assign (.tmp (T + 13))
def tyP : Nat → TypeId
  | 5 => 22 | 11 => 22 | 2 => 23 | 13 => 23 | _ => 0
/-- what each operation leaves -/
def FP (B B0 gw cw : Nat) (M : List (List Int)) (pa : Option Addr) (pc : Nat) (p : List Int) (lv : Value) (t : Nat) (la : Addr) (a : Int) : Nat → Value → World → Prop
  | 0, v, x => ∃ g, v = .slice (some ⟨g, 0, none⟩) 0 0 ∧ x.heap[g]? = some (.cells #[] 22 (0, 0)) ∧ B ≤ g
  | 1, v, x => v = .slice (some ⟨gw, 0, none⟩) M.length cw
  | 2, v, x => MXg B B0 B v M x
  | 3, v, x => ∃ g, v = .slice (some ⟨g, 0, none⟩) 0 0 ∧ x.heap[g]? = some (.cells #[] 3 (0, 0)) ∧ B ≤ g
  | 4, v, x => v = .slice pa p.length pc
  | 5, v, x => Ol B v p x
  | 6, v, x => v = lv
  | 7, v, x => v = .int .i64 t
  | 8, v, x => v = .pointer (some la)
  | 9, v, x => v = .int .i64 a
  | 10, v, x => ∃ g, v = .slice (some ⟨g, 0, none⟩) 1 1 ∧ x.heap[g]? = some (.cells #[.int .i64 a] 3 (0, 0)) ∧ B ≤ g
  | 11, v, x => Ol B v (p ++ [a]) x
  | 12, v, x => ∃ g r, v = .slice (some ⟨g, 0, none⟩) 1 1 ∧ x.heap[g]? = some (.cells #[r] 22 (0, 0)) ∧ B ≤ g ∧ Ol B r (p ++ [a]) x
  | _, v, x => ∃ H, MXg B B0 H v (M ++ [p ++ [a]]) x
theorem fifteen {j : Nat} (h : j < 15) : j = 0 ∨ j = 1 ∨ j = 2 ∨ j = 3 ∨ j = 4 ∨ j = 5 ∨ j = 6 ∨ j = 7 ∨ j = 8 ∨ j = 9 ∨ j = 10 ∨ j = 11 ∨ j = 12 ∨ j = 13 ∨ j = 14 := by omega
section
variable {B B0 gw cw : Nat} {M : List (List Int)} {pa : Option Addr} {pc : Nat} {p : List Int} {lv : Value} {t : Nat} {la : Addr} {a : Int}
theorem FP.al {x x' : World} (k : Tw [] x x') {j : Nat} (hj : j < 15) {v : Value} (h : FP B B0 gw cw M pa pc p lv t la a j v x) : FP B B0 gw cw M pa pc p lv t la a j v x' := by
  rcases fifteen hj with rfl | rfl | rfl | rfl | rfl | rfl | rfl | rfl | rfl | rfl | rfl | rfl | rfl | rfl | rfl
  · obtain ⟨g, e, hh, hb⟩ := h; exact ⟨g, e, blk_tw hh k (by simp), hb⟩
  · exact h
  · exact MXg.tw h k (by simp) (by simp)
  · obtain ⟨g, e, hh, hb⟩ := h; exact ⟨g, e, blk_tw hh k (by simp), hb⟩
  · exact h
  · exact Ol.keep h k (by simp)
  · exact h
  · exact h
  · exact h
  · exact h
  · obtain ⟨g, e, hh, hb⟩ := h; exact ⟨g, e, blk_tw hh k (by simp), hb⟩
  · exact Ol.keep h k (by simp)
  · obtain ⟨g, r, e, hh, hb, ho⟩ := h; exact ⟨g, r, e, blk_tw hh k (by simp), hb, ho.keep k (by simp)⟩
  · obtain ⟨H, h⟩ := h; exact ⟨H, h.tw k (by simp) (by simp)⟩
  · obtain ⟨H, h⟩ := h; exact ⟨H, h.tw k (by simp) (by simp)⟩
theorem ne_blk {x : World} {g g0 : Nat} {C D : Array Value} {t u : TypeId} (h : x.heap[g]? = some (.cells C t (0, 0))) (h0 : x.heap[g0]? = some (.cells D u (0, 0))) (hne : t ≠ u ∨ C.size ≠ D.size) : g ∉ [g0] := fun hm => by
  simp at hm
  subst hm
  rw [h] at h0
  injection h0 with h0
  injection h0 with e1 e2
  rcases hne with q | q
  · exact q e2
  · exact q (by rw [e1])
theorem tw_one {x x' : World} {g g0 : Nat} {C D : Array Value} {t u : TypeId} (k : Tw [g0] x x') (h : x.heap[g]? = some (.cells C t (0, 0))) (h0 : x.heap[g0]? = some (.cells D u (0, 0))) (hne : t ≠ u ∨ C.size ≠ D.size) : x'.heap[g]? = some (.cells C t (0, 0)) := blk_tw h k (ne_blk h h0 hne)
theorem ol_one22 {x x' : World} {g0 : Nat} {D : Array Value} {L : List Int} {v : Value} {B1 : Nat} (k : Tw [g0] x x') (h0 : x.heap[g0]? = some (.cells D 22 (0, 0))) (h : Ol B1 v L x) : Ol B1 v L x' := h.keep k (fun i hi => by
  simp at hi
  subst hi
  exact h.far h0 (by decide))
theorem FP.st2 {x x' : World} {g0 : Nat} (k : Tw [g0] x x') (h0 : x.heap[g0]? = some (.cells #[] 22 (0, 0))) {j : Nat} (hj : 3 ≤ j ∧ j < 13) {v : Value} (h : FP B B0 gw cw M pa pc p lv t la a j v x) : FP B B0 gw cw M pa pc p lv t la a j v x' := by
  rcases fifteen (show j < 15 by omega) with rfl | rfl | rfl | rfl | rfl | rfl | rfl | rfl | rfl | rfl | rfl | rfl | rfl | rfl | rfl
  · omega
  · omega
  · omega
  · obtain ⟨g, e, hh, hb⟩ := h; exact ⟨g, e, tw_one k hh h0 (.inl (by decide)), hb⟩
  · exact h
  · exact ol_one22 k h0 h
  · exact h
  · exact h
  · exact h
  · exact h
  · obtain ⟨g, e, hh, hb⟩ := h; exact ⟨g, e, tw_one k hh h0 (.inl (by decide)), hb⟩
  · exact ol_one22 k h0 h
  · obtain ⟨g, r, e, hh, hb, ho⟩ := h; exact ⟨g, r, e, tw_one k hh h0 (.inr (by simp)), hb, ol_one22 k h0 ho⟩
  · omega
  · omega
theorem FP.st3 {x x' : World} {S : List Nat} (k : Tw S x x') (hS : ∀ g, g ∈ S → B ≤ g ∧ ∃ D, x.heap[g]? = some (.cells D 3 (0, 0))) {j : Nat} (hj : j < 3 ∨ (6 ≤ j ∧ j < 10)) {v : Value} (h : FP B B0 gw cw M pa pc p lv t la a j v x) : FP B B0 gw cw M pa pc p lv t la a j v x' := by
  have far : ∀ (g : Nat) (C : Array Value), x.heap[g]? = some (.cells C 22 (0, 0)) → g ∉ S := fun g C hh hm => by
    obtain ⟨_, D, e⟩ := hS g hm
    rw [hh] at e
    injection e with e
    injection e with _ e
    cases e
  rcases fifteen (show j < 15 by omega) with rfl | rfl | rfl | rfl | rfl | rfl | rfl | rfl | rfl | rfl | rfl | rfl | rfl | rfl | rfl
  · obtain ⟨g, e, hh, hb⟩ := h; exact ⟨g, e, blk_tw hh k (far g _ hh), hb⟩
  · exact h
  · refine MXg.tw h k (fun i hi hm => ?_) (fun i hi => .inl (hS i hi).1)
    obtain ⟨_, C, hh⟩ := MXg.blk h i hm
    exact far i C hh hi
  · omega
  · omega
  · omega
  · exact h
  · exact h
  · exact h
  · exact h
  · omega
  · omega
  · omega
  · omega
  · omega
end
theorem gr_tw {X Y : World} {v : Value} {row : Option Nat} (h : X.grownBy Y row) (hv : v.ownBlock = row) : Tw (vb v) X Y := ⟨h.os, h.tape, h.output, h.size, fun b hb hn => h.block b hb (fun e => hn ((vb_own v b).mpr (by rw [hv, ← e])))⟩
theorem own_new {B g : Nat} {e : TypeId} {x : World} (h : x.heap[g]? = some (.cells #[] e (0, 0))) (hb : B ≤ g) : x.ownsRow B e 1 (.slice (some ⟨g, 0, none⟩) 0 0) 0 [] := ⟨rfl, .inr ⟨g, 0, #[], rfl, hb, h, Nat.le_refl _, by unfold maxLen; omega, rfl, rfl⟩⟩
theorem run_app22 {X : World} {B : Nat} {v : Value} {L : List Int} {a : Int} {g : Nat} (hown : Ol B v L X) (hB : B ≤ X.heap.size) (hl : L.length ≤ 900) (hc : X.heap[g]? = some (.cells #[.int .i64 a] 3 (0, 0))) :
    ∃ v' X', (Builtin.append_ #[22, 22] 22 #[v, .slice (some ⟨g, 0, none⟩) 1 1]).run Tryd.prog X = .ok v' X' ∧ Ol B v' (L ++ [a]) X' ∧ Tw (vb v) X X' := by
  obtain ⟨i0, hi, hz0, hz1, hz2⟩ := info_parts info3
  obtain ⟨v', w', hr, h2, h3, h4, h5⟩ := run_append_own_at (P := Tryd.prog) X B 22 22 3 i0 (.int .i64 0) 1 8 Tryd.underlying22 hi hz0 hz1 hz2 rfl (by decide) v L.length (L.map (Value.int .i64)) hown ⟨g, 0, none⟩ 1 1 [.int .i64 a] (by simp) (fun j u hj => by
    cases j with
    | zero =>
      simp at hj; subst hj
      exact (cell_of_row _ _ 0 _ 3 _ hc).trans rfl
    | succ j => simp at hj) (by simp [Value.oneCell']) (by unfold maxLen; omega) (by omega) hB
  refine ⟨v', w', hr, ?_, gr_tw h3 rfl⟩
  show w'.ownsRow B 3 1 v' (L ++ [a]).length ((L ++ [a]).map (Value.int .i64))
  rw [List.map_append, List.length_append]
  exact h2
set_option maxRecDepth 10000 in
set_option maxHeartbeats 4000000 in
/-- the region whole -/
theorem push_any {ops : Array Oper} {Q : Exit → Act → World → Prop} {id : Nat} {w : World} {base : Act} (T sw sp sl si : Nat) (B0 H0 B1 gw cw : Nat) (M : List (List Int)) (pa : Option Addr) (pc : Nat) (p : List Int) (lb lo ln lc t : Nat) (a : Int)
    (hops : ops.size = 15) (hop : ∀ k, k < 15 → ∃ o, ops[k]? = some o ∧ o.guard = none ∧ o.op = opP T sw sp sl si k ∧ o.dst = some (dstP T sw k) ∧ (tyP k ≠ 0 → o.type = tyP k) ∧ (∀ e ∈ o.after, e.on < k) ∧ (∀ i, i < 15 → conP i = k → ∃ e ∈ o.after, Region.binds .any e = true ∧ e.on = i))
    (hT : T + 14 ≤ base.tmps.size) (hsz : sw < T ∧ sp < T ∧ sl < T ∧ si < T)
    (ew : base.eval (.tmp sw) = .slice (some ⟨gw, 0, none⟩) M.length cw) (ep : base.eval (.tmp sp) = .slice pa p.length pc) (el : base.eval (.tmp sl) = .slice (some ⟨lb, lo, none⟩) ln lc) (ei : base.eval (.tmp si) = .int .i64 t)
    (hM : MXg B1 B0 H0 (.slice (some ⟨gw, 0, none⟩) M.length cw) M w) (hB0 : B0 ≤ w.heap.size) (hp : SrcA w pa pc p) (hpl : p.length ≤ 800) (hMl : M.length ≤ 8000) (htl : t < ln) (hc : ∀ Y, Below w.heap.size w Y → Y.cell? ⟨lb, lo + t, none⟩ = some (.int .i64 a))
    (hK : ∀ (u : Nat → Value) (x : World), (∃ H, MXg w.heap.size B0 H (u sw) (M ++ [p ++ [a]]) x) → Below w.heap.size w x → Q .normal ⟨((List.range 15).map (dstP T sw)).foldl (fun t d => t.setIfInBounds d (u d)) base.tmps, base.defers⟩ x) :
    (Code.region id ops true).wp Tryd.prog Q base w := by
  have dne : ∀ i j, i < 15 → j < 15 → i ≠ j → dstP T sw i ≠ dstP T sw j := fun i j hi hj hne => by
    rcases fifteen hi with rfl | rfl | rfl | rfl | rfl | rfl | rfl | rfl | rfl | rfl | rfl | rfl | rfl | rfl | rfl <;> rcases fifteen hj with rfl | rfl | rfl | rfl | rfl | rfl | rfl | rfl | rfl | rfl | rfl | rfl | rfl | rfl | rfl <;> simp only [dstP] <;> omega
  have dsz : ∀ i, i < 15 → dstP T sw i < base.tmps.size := fun i hi => by
    rcases fifteen hi with rfl | rfl | rfl | rfl | rfl | rfl | rfl | rfl | rfl | rfl | rfl | rfl | rfl | rfl | rfl <;> simp only [dstP] <;> omega
  refine ri.region 15 (dstP T sw) conP (FP w.heap.size B0 gw cw M pa pc p (.slice (some ⟨lb, lo, none⟩) ln lc) t ⟨lb, lo + t, none⟩ a) (fun x => Below w.heap.size w x) base (by kernel_rfl) hops (fun k hk => ?_) (bl_drew w) (fun k done A x hk hnd hdep hI => ?_) (fun u x hF hR => ?_)
  · obtain ⟨o, h1, _, _, _, _, h6, _⟩ := hop k hk
    exact ⟨o, h1, h6⟩
  · obtain ⟨o, ho, hg, hopk, hdst, hty, _, hdp⟩ := hop k hk
    have hnd' : done.getD k false = false := by
      have hks : k < done.size := by rw [hI.sz]; exact hk
      simp [Array.getD, hks] at hnd ⊢
      exact hnd
    -- what it uses is there
    have hin : ∀ i, i < 15 → conP i = k → done.getD i false = true := fun i hi he => by
      obtain ⟨e, he1, he2, he3⟩ := hdp i hi he
      have := hdep o ho e he1 he2
      rw [he3] at this
      exact this
    have hlv : ∀ i, i < 15 → conP i = k → FP w.heap.size B0 gw cw M pa pc p (.slice (some ⟨lb, lo, none⟩) ln lc) t ⟨lb, lo + t, none⟩ a i (A.eval (.tmp (dstP T sw i))) x := fun i hi he => hI.lv i hi (hin i hi he) (by rw [he]; exact hnd')
    -- what is read of what was there before
    have hold : ∀ d, d < T → (d = sw → done.getD 14 false = false) → A.eval (.tmp d) = base.eval (.tmp d) := fun d hd hs => by
      show A.tmps.getD d undef = base.tmps.getD d undef
      rw [Array.getD_eq_getD_getElem?, Array.getD_eq_getD_getElem?, hI.fr d (fun j hj hdj e => ?_)]
      rcases fifteen hj with rfl | rfl | rfl | rfl | rfl | rfl | rfl | rfl | rfl | rfl | rfl | rfl | rfl | rfl | rfl
      all_goals simp only [dstP] at e
      all_goals first | omega | (have := hs e.symm; rw [this] at hdj; cases hdj)
    have fin : ∀ (v : Value) (x' : World), FP w.heap.size B0 gw cw M pa pc p (.slice (some ⟨lb, lo, none⟩) ln lc) t ⟨lb, lo + t, none⟩ a k v x' → Below w.heap.size w x' →
        (∀ j u, j < 15 → j ≠ k → conP j ≠ k → done.getD j false = true → done.getD (conP j) false = false → FP w.heap.size B0 gw cw M pa pc p (.slice (some ⟨lb, lo, none⟩) ln lc) t ⟨lb, lo + t, none⟩ a j u x → FP w.heap.size B0 gw cw M pa pc p (.slice (some ⟨lb, lo, none⟩) ln lc) t ⟨lb, lo + t, none⟩ a j u x') →
        ri.RI 15 (dstP T sw) conP (FP w.heap.size B0 gw cw M pa pc p (.slice (some ⟨lb, lo, none⟩) ln lc) t ⟨lb, lo + t, none⟩ a) (fun x => Below w.heap.size w x) base (done.setIfInBounds k true) (A.put o.dst v) x' := fun v x' hv hb hst => by
      rw [hdst]
      exact hI.step hk (fun j hj hne => dne j k hj hk hne) (dsz k hk) hin hv hb hst
    -- behind an operation that only makes new blocks
    have fal : ∀ (v : Value) (x' : World), FP w.heap.size B0 gw cw M pa pc p (.slice (some ⟨lb, lo, none⟩) ln lc) t ⟨lb, lo + t, none⟩ a k v x' → Tw [] x x' → ri.RI 15 (dstP T sw) conP (FP w.heap.size B0 gw cw M pa pc p (.slice (some ⟨lb, lo, none⟩) ln lc) t ⟨lb, lo + t, none⟩ a) (fun x => Below w.heap.size w x) base (done.setIfInBounds k true) (A.put o.dst v) x' := fun v x' hv ht =>
      fin v x' hv (Tw.below hI.hr ht (by simp) hI.hr.size) (fun j u hj _ _ _ _ h => FP.al ht hj h)
    have hB := hI.hr
    have n14 : k < 14 → done.getD 14 false = false := fun hk14 => by
      cases q : done.getD 14 false with
      | false => rfl
      | true =>
        exfalso
        have a13 := hI.cl 13 (by decide) q
        have a12 := hI.cl 12 (by decide) a13
        have a2 := hI.cl 2 (by decide) a13
        have a11 := hI.cl 11 (by decide) a12
        have a0 := hI.cl 0 (by decide) a2
        have a1 := hI.cl 1 (by decide) a2
        have a5 := hI.cl 5 (by decide) a11
        have a10 := hI.cl 10 (by decide) a11
        have a3 := hI.cl 3 (by decide) a5
        have a4 := hI.cl 4 (by decide) a5
        have a9 := hI.cl 9 (by decide) a10
        have a8 := hI.cl 8 (by decide) a9
        have a6 := hI.cl 6 (by decide) a8
        have a7 := hI.cl 7 (by decide) a8
        rcases fifteen hk with rfl | rfl | rfl | rfl | rfl | rfl | rfl | rfl | rfl | rfl | rfl | rfl | rfl | rfl | rfl
        all_goals first | omega | (simp_all; done)
    have hMx : MXg B1 B0 w.heap.size (.slice (some ⟨gw, 0, none⟩) M.length cw) M x := hM.top.keep hB
    rcases fifteen hk with rfl | rfl | rfl | rfl | rfl | rfl | rfl | rfl | rfl | rfl | rfl | rfl | rfl | rfl | rfl
    all_goals simp only [opP] at hopk
    · -- 0
      refine ri.plain ho hg (v := .slice (some ⟨x.heap.size, 0, none⟩) 0 0) (w' := x.alloc (.cells #[] 22)) ?_ (fal _ _ ⟨_, rfl, heap_alloc_new _ _, hB.size⟩ (Tw.al (Tw.refl _ _) _))
      unfold execOp; simp only [hopk]; go_simp
    · -- 1
      refine ri.plain ho hg (v := A.eval (.tmp sw)) (w' := x) ?_ (fal _ _ ((hold sw hsz.1 (fun _ => n14 (by decide))).trans ew) (Tw.refl _ _))
      unfold execOp; simp only [hopk]; rfl
    · -- 2
      obtain ⟨g0, e0, hh0, hb0⟩ := hlv 0 (by decide) rfl
      have e1 : A.eval (.tmp (T + 1)) = .slice (some ⟨gw, 0, none⟩) M.length cw := hlv 1 (by decide) rfl
      have e0' : A.eval (.tmp (T + 0)) = .slice (some ⟨g0, 0, none⟩) 0 0 := e0
      obtain ⟨ws, m1, m2, m3⟩ := hMx
      have hgwl : gw < x.heap.size ∨ M.length = 0 := by
        rcases m1.2 with ⟨_, h0⟩ | ⟨g', cap, cur, hv, hg', hh, q⟩
        · exact .inr h0
        · injection hv with hv _ _
          injection hv with hv
          injection hv with hv _ _
          subst hv
          exact .inl (lt_hp hh)
      have hnews : ∀ j u, ws[j]? = some u → x.cell? ((⟨gw, 0, none⟩ : Addr).add j) = some u := fun j u hj => by
        have hjl : j < ws.length := (List.getElem?_eq_some_iff.mp hj).1
        rcases m1.2 with ⟨_, h0⟩ | ⟨g', cap, cur, hv, hg', hh, q1, q2, q3, q4⟩
        · omega
        · injection hv with hv _ _
          injection hv with hv
          injection hv with hv _ _
          subst hv
          rw [add_at, Nat.zero_add]
          exact cell_take hh q4 hj
      obtain ⟨v', x', hr, r1, r2, r3⟩ := run_app23 (c := cw) (own_new hh0 hb0) hB.size m2 hnews (fun u hu => by
        obtain ⟨j, hj, rfl⟩ := List.mem_iff_getElem.1 hu
        obtain ⟨r, s1, s2, _⟩ := m3 j (by omega)
        rw [List.getElem?_eq_getElem hj] at s1
        injection s1 with s1
        rw [s1]; exact ol_one s2) (by omega)
      have r2' : Tw [g0] x x' := r2
      refine ri.plain ho hg (v := v') (w' := x') ?_ (fin _ _ ?_ (Tw.below hB r2' (fun i hi => by simp at hi; omega) hB.size) (fun j u hj hne hcn hdj hcj h => FP.st2 r2' hh0 ⟨?_, ?_⟩ h))
      · unfold execOp
        simp only [hopk, hty (by decide), tyP, resolve, invoke, builtin, Sem.run_bind, Sem.run_pure, Result.andThen_ok, List.map_toArray, List.map_cons, List.map_nil, e0', e1, hr]
      · have := MXg.app (Z := M) (M := []) (H := w.heap.size) (B0 := B0) ⟨[], own_new hh0 hb0, rfl, fun j hj => absurd hj (by simp)⟩ m2 (fun j hj => by
          obtain ⟨r, s1, s2, s3⟩ := m3 j hj
          exact ⟨r, s1, ol_one22 r2' hh0 s2, s3⟩) [] (own_new hh0 hb0) (by simpa using r1) r2'
        show MXg w.heap.size B0 w.heap.size v' M x'
        simpa using this
      · rcases fifteen hj with rfl | rfl | rfl | rfl | rfl | rfl | rfl | rfl | rfl | rfl | rfl | rfl | rfl | rfl | rfl
        all_goals first | omega | exact absurd rfl hcn | exact absurd rfl hne
      · rcases fifteen hj with rfl | rfl | rfl | rfl | rfl | rfl | rfl | rfl | rfl | rfl | rfl | rfl | rfl | rfl | rfl
        all_goals first | omega | (have := hI.cl 2 (by decide) hdj; rw [this] at hnd'; cases hnd') | (have := hI.cl 2 (by decide) (hI.cl 13 (by decide) hdj); rw [this] at hnd'; cases hnd')
    · -- 3
      refine ri.plain ho hg (v := .slice (some ⟨x.heap.size, 0, none⟩) 0 0) (w' := x.alloc (.cells #[] 3)) ?_ (fal _ _ ⟨_, rfl, heap_alloc_new _ _, hB.size⟩ (Tw.al (Tw.refl _ _) _))
      unfold execOp; simp only [hopk]; go_simp
    · -- 4
      refine ri.plain ho hg (v := A.eval (.tmp sp)) (w' := x) ?_ (fal _ _ ((hold sp hsz.2.1 (fun _ => n14 (by decide))).trans ep) (Tw.refl _ _))
      unfold execOp; simp only [hopk]; rfl
    · -- 5
      obtain ⟨g0, e0, hh0, hb0⟩ := hlv 3 (by decide) rfl
      have e1 : A.eval (.tmp (T + 4)) = .slice pa p.length pc := hlv 4 (by decide) rfl
      have e0' : A.eval (.tmp (T + 3)) = .slice (some ⟨g0, 0, none⟩) 0 0 := e0
      have hpx : SrcA x pa pc p := by
        rcases hp with h | ⟨ad, e, hcc⟩
        · exact .inl h
        · exact .inr ⟨ad, e, fun j u hj => (hB.cell (p := ad.add j) (block_lt_of_cell (hcc j u hj))).trans (hcc j u hj)⟩
      obtain ⟨g, cap, x', hr, r1, r2, r3⟩ := app_run w.heap.size g0 p pa pc x (by omega) (own_new hh0 hb0) hB.size hpx
      have r2' : Tw [g0] x x' := gr_tw (v := .slice (some ⟨g0, 0, none⟩) 0 0) r2 rfl
      refine ri.plain ho hg (v := .slice (some ⟨g, 0, none⟩) p.length cap) (w' := x') ?_ (fin _ _ r1 (Tw.below hB r2' (fun i hi => by simp at hi; omega) hB.size) (fun j u hj hne hcn hdj hcj h => ?_))
      · unfold execOp
        simp only [hopk, hty (by decide), tyP, resolve, invoke, builtin, Sem.run_bind, Sem.run_pure, Result.andThen_ok, List.map_toArray, List.map_cons, List.map_nil, e0', e1, hr]
      · by_cases q10 : j = 10
        · subst q10
          obtain ⟨g', e', hh', hb'⟩ := h
          exact ⟨g', e', tw_one r2' hh' hh0 (.inr (by simp)), hb'⟩
        · refine FP.st3 r2' (fun i hi => by simp at hi; subst hi; exact ⟨hb0, _, hh0⟩) ?_ h
          rcases fifteen hj with rfl | rfl | rfl | rfl | rfl | rfl | rfl | rfl | rfl | rfl | rfl | rfl | rfl | rfl | rfl
          all_goals first | omega | exact absurd rfl hcn | exact absurd rfl hne | (have := hI.cl 5 (by decide) hdj; rw [this] at hnd'; cases hnd') | (have := hI.cl 5 (by decide) (hI.cl 11 (by decide) hdj); rw [this] at hnd'; cases hnd') | (have := hI.cl 5 (by decide) (hI.cl 11 (by decide) (hI.cl 12 (by decide) hdj)); rw [this] at hnd'; cases hnd') | (have := hI.cl 5 (by decide) (hI.cl 11 (by decide) (hI.cl 12 (by decide) (hI.cl 13 (by decide) hdj))); rw [this] at hnd'; cases hnd')
    · -- 6
      refine ri.plain ho hg (v := A.eval (.tmp sl)) (w' := x) ?_ (fal _ _ ((hold sl hsz.2.2.1 (fun _ => n14 (by decide))).trans el) (Tw.refl _ _))
      unfold execOp; simp only [hopk]; rfl
    · -- 7
      refine ri.plain ho hg (v := A.eval (.tmp si)) (w' := x) ?_ (fal _ _ ((hold si hsz.2.2.2 (fun _ => n14 (by decide))).trans ei) (Tw.refl _ _))
      unfold execOp; simp only [hopk]; rfl
    · -- 8
      have e0 : A.eval (.tmp (T + 6)) = .slice (some ⟨lb, lo, none⟩) ln lc := hlv 6 (by decide) rfl
      have e1 : A.eval (.tmp (T + 7)) = .int .i64 t := hlv 7 (by decide) rfl
      have q0 : (0 : Int) ≤ (t : Int) := by omega
      have q1 : (t : Int) < (ln : Int) := by omega
      refine ri.plain ho hg (v := .pointer (some ⟨lb, lo + t, none⟩)) (w' := x) ?_ (fal _ _ rfl (Tw.refl _ _))
      unfold execOp; simp only [hopk, e0, e1]; go_simp
    · -- 9
      have e0 : A.eval (.tmp (T + 8)) = .pointer (some ⟨lb, lo + t, none⟩) := hlv 8 (by decide) rfl
      have cc := hc x hB
      refine ri.plain ho hg (v := .int .i64 a) (w' := x) ?_ (fal _ _ rfl (Tw.refl _ _))
      unfold execOp; simp only [hopk, e0]; go_simp
    · -- 10
      have e0 : A.eval (.tmp (T + 9)) = .int .i64 a := hlv 9 (by decide) rfl
      refine ri.plain ho hg (v := .slice (some ⟨x.heap.size, 0, none⟩) 1 1) (w' := x.alloc (.cells #[.int .i64 a] 3)) ?_ (fal _ _ ⟨_, rfl, heap_alloc_new _ _, hB.size⟩ (Tw.al (Tw.refl _ _) _))
      unfold execOp; simp only [hopk, List.map_toArray, List.map_cons, List.map_nil, e0]; go_simp
    · -- 11
      have h5 : Ol w.heap.size (A.eval (.tmp (T + 5))) p x := hlv 5 (by decide) rfl
      obtain ⟨g, e1, hh1, hb1⟩ := hlv 10 (by decide) rfl
      have e1' : A.eval (.tmp (T + 10)) = .slice (some ⟨g, 0, none⟩) 1 1 := e1
      have d5 := hin 5 (by decide) rfl
      obtain ⟨v5, e5⟩ : ∃ v5, A.eval (.tmp (T + 5)) = v5 := ⟨_, rfl⟩
      rw [e5] at h5
      obtain ⟨v', x', hr, r1, r2⟩ := run_app22 h5 hB.size (by omega) hh1
      refine ri.plain ho hg (v := v') (w' := x') ?_ (fin _ _ r1 (Tw.below hB r2 (fun i hi => (h5.blk i hi).1) hB.size) (fun j u hj hne hcn hdj hcj h => ?_))
      · unfold execOp
        simp only [hopk, hty (by decide), tyP, resolve, invoke, builtin, Sem.run_bind, Sem.run_pure, Result.andThen_ok, List.map_toArray, List.map_cons, List.map_nil, e5, e1', hr]
      · by_cases q4 : j = 4
        · subst q4; exact h
        · refine FP.st3 r2 (fun i hi => h5.blk i hi) ?_ h
          rcases fifteen hj with rfl | rfl | rfl | rfl | rfl | rfl | rfl | rfl | rfl | rfl | rfl | rfl | rfl | rfl | rfl
          all_goals first | omega | exact absurd rfl hcn | exact absurd rfl hne | (have : done.getD 5 false = false := hcj; rw [d5] at this; cases this) | (have := hI.cl 11 (by decide) hdj; rw [this] at hnd'; cases hnd') | (have := hI.cl 11 (by decide) (hI.cl 12 (by decide) hdj); rw [this] at hnd'; cases hnd') | (have := hI.cl 11 (by decide) (hI.cl 12 (by decide) (hI.cl 13 (by decide) hdj)); rw [this] at hnd'; cases hnd')
    · -- 12
      have h11 : Ol w.heap.size (A.eval (.tmp (T + 11))) (p ++ [a]) x := hlv 11 (by decide) rfl
      obtain ⟨v5, e5⟩ : ∃ v5, A.eval (.tmp (T + 11)) = v5 := ⟨_, rfl⟩
      rw [e5] at h11
      have al : Tw [] x (x.alloc (.cells #[v5] 22)) := Tw.al (Tw.refl _ _) _
      obtain ⟨ra, rc, rfl⟩ := h11.form
      refine ri.plain ho hg (v := .slice (some ⟨x.heap.size, 0, none⟩) 1 1) (w' := x.alloc (.cells #[.slice ra (p ++ [a]).length rc] 22)) ?_ (fal _ _ ⟨_, _, rfl, heap_alloc_new _ _, hB.size, h11.keep al (by simp)⟩ al)
      unfold execOp; simp only [hopk, List.map_toArray, List.map_cons, List.map_nil, e5]; go_simp
    · -- 13
      have h2 : MXg w.heap.size B0 w.heap.size (A.eval (.tmp (T + 2))) M x := hlv 2 (by decide) rfl
      obtain ⟨g, r, e1, hh1, hb1, h12⟩ := hlv 12 (by decide) rfl
      have e1' : A.eval (.tmp (T + 12)) = .slice (some ⟨g, 0, none⟩) 1 1 := e1
      obtain ⟨v5, e5⟩ : ∃ v5, A.eval (.tmp (T + 2)) = v5 := ⟨_, rfl⟩
      rw [e5] at h2
      have hbl := h2.blk
      have h2k := h2
      obtain ⟨ws, m1, m2, m3⟩ := h2
      obtain ⟨v', x', hr, r1, r2, r3⟩ := run_app23 (c := 1) (ga := ⟨g, 0, none⟩) (news := [r]) (m := 1) m1 hB.size rfl (fun j u hj => by
        cases j with
        | zero =>
          simp at hj; subst hj
          exact (cell_of_row _ _ 0 _ 22 _ hh1).trans rfl
        | succ j => simp at hj) (fun u hu => by simp at hu; subst hu; exact ol_one h12) (by omega)
      have d2 := hin 2 (by decide) rfl
      have d12 := hin 12 (by decide) rfl
      have a11 := hI.cl 11 (by decide) d12
      have a0 := hI.cl 0 (by decide) d2
      have a1 := hI.cl 1 (by decide) d2
      have a5 := hI.cl 5 (by decide) a11
      have a10 := hI.cl 10 (by decide) a11
      have a9 := hI.cl 9 (by decide) a10
      have a8 := hI.cl 8 (by decide) a9
      refine ri.plain ho hg (v := v') (w' := x') ?_ (fin _ _ ⟨x'.heap.size, ?_⟩ (Tw.below hB r2 (fun i hi => (hbl i hi).1) hB.size) (fun j u hj hne hcn hdj hcj h => ?_))
      · unfold execOp
        simp only [hopk, hty (by decide), tyP, resolve, invoke, builtin, Sem.run_bind, Sem.run_pure, Result.andThen_ok, List.map_toArray, List.map_cons, List.map_nil, e5, e1', hr]
      · have rk : Ol w.heap.size r (p ++ [a]) x' := h12.keep r2 (fun i hi hm => by
          obtain ⟨_, C, c1⟩ := hbl i hi
          obtain ⟨_, D, c2⟩ := h12.blk i hm
          rw [c1] at c2
          injection c2 with c2
          injection c2 with _ c2
          cases c2)
        refine (MXg.app (Z := [p ++ [a]]) (us := [r]) (h2k.up (Nat.le_trans hB.size r2.size)) rfl (fun j hj => ?_) ws m1 r1 r2)
        have : j = 0 := by simpa using hj
        subst this
        refine ⟨r, rfl, rk.mono hB0, fun i hi => ?_⟩
        obtain ⟨_, C, c1⟩ := rk.blk i hi
        exact lt_hp c1
      · exfalso
        rcases fifteen hj with rfl | rfl | rfl | rfl | rfl | rfl | rfl | rfl | rfl | rfl | rfl | rfl | rfl | rfl | rfl
        all_goals first | exact absurd rfl hcn | exact absurd rfl hne | (have := hI.cl 13 (by decide) hdj; rw [this] at hnd'; cases hnd') | (simp only [conP] at hcj; simp_all; done)
    · -- 14
      have h13 := hlv 13 (by decide) rfl
      refine ri.plain ho hg (v := A.eval (.tmp (T + 13))) (w' := x) ?_ (fal _ _ h13 (Tw.refl _ _))
      unfold execOp; simp only [hopk]; rfl
  · exact hK u x (hF 14 (by decide) (by decide)) hR
/-- what an operation waits for, as a sum -/
def okP (k : Nat) (o : Oper) : Bool := o.after.all (fun e => decide (e.on < k)) && (List.range 15).all (fun i => conP i != k || o.after.any (fun e => Region.binds .any e && e.on == i))
theorem ok_hop {T sw sp sl si : Nat} {ops : Array Oper} (h : ∀ k, k < 15 → ∃ o, ops[k]? = some o ∧ o.guard = none ∧ o.op = opP T sw sp sl si k ∧ o.dst = some (dstP T sw k) ∧ (tyP k ≠ 0 → o.type = tyP k) ∧ okP k o = true) :
    ∀ k, k < 15 → ∃ o, ops[k]? = some o ∧ o.guard = none ∧ o.op = opP T sw sp sl si k ∧ o.dst = some (dstP T sw k) ∧ (tyP k ≠ 0 → o.type = tyP k) ∧ (∀ e ∈ o.after, e.on < k) ∧ (∀ i, i < 15 → conP i = k → ∃ e ∈ o.after, Region.binds .any e = true ∧ e.on = i) := fun k hk => by
  obtain ⟨o, h1, h2, h3, h4, h5, h6⟩ := h k hk
  unfold okP at h6
  rw [Bool.and_eq_true, Array.all_eq_true_iff_forall_mem, List.all_eq_true] at h6
  refine ⟨o, h1, h2, h3, h4, h5, fun e he => by simpa using h6.1 e he, fun i hi hc => ?_⟩
  have := h6.2 i (List.mem_range.2 hi)
  rw [Bool.or_eq_true] at this
  rcases this with q | q
  · simp [hc] at q
  · rw [Array.any_eq_true] at q
    obtain ⟨j, hj, q⟩ := q
    rw [Bool.and_eq_true, beq_iff_eq] at q
    exact ⟨_, Array.getElem_mem hj, q.1, q.2⟩
end Go.Proofs.YtlhpiikpmmlpeaaDoor.kn
