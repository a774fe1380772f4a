/-
  Nodes: copied, Keep, Node, Bound.
-/
import Derived.Test.YtaihmkflhapjeaaPoF
import Derived.Handy
import Derived.Deep.Cut
namespace Go.Proofs.Ytaihmkflhapjeaa
open Go.RowKit Go.MuLone
set_option linter.unusedVariables false
/-- a list in memory, whole, in a block from B on -/
def Lst (B : Nat) (v : Value) (l : List Int) (w : World) : Prop := (v = .slice none 0 0 ∧ l = []) ∨ ∃ g cap cur, v = .slice (some ⟨g, 0, none⟩) l.length cap ∧ B ≤ g ∧ l.length ≤ cap ∧ cap ≤ 9223372036854775807 ∧ w.heap[g]? = some (.cells cur 3 (0, 0)) ∧ ∀ j, j < l.length → w.cell? ⟨g, j, none⟩ = some (.int .i64 (nth l j))
theorem Lst.keep {B : Nat} {v : Value} {l : List Int} {S : List Nat} {w w1 : World} (h : Lst B v l w) (k : Tw S w w1) (hS : ∀ i, i ∈ S → i < B ∨ ∃ c t, w.heap[i]? = some (.cells c t (0, 0)) ∧ t ≠ 3) : Lst B v l w1 := by
  rcases h with h | ⟨g, cap, cur, h1, h2, h3, h4, h5, h6⟩
  · exact .inl h
  · have hg : g ∉ S := fun hm => by
      rcases hS g hm with h | ⟨c, t, hc, ht⟩
      · omega
      · rw [h5] at hc
        injection hc with hc
        injection hc with _ hc _
        exact ht hc.symm
    exact .inr ⟨g, cap, cur, h1, h2, h3, h4, blk_tw h5 k hg, fun j hj => (cell_tw k (lt_hp h5) hg j).trans (h6 j hj)⟩
theorem Lst.mono {B C : Nat} {v : Value} {l : List Int} {w : World} (h : Lst B v l w) (hc : C ≤ B) : Lst C v l w := by
  rcases h with h | ⟨g, cap, cur, h1, h2, h3⟩
  · exact .inl h
  · exact .inr ⟨g, cap, cur, h1, by omega, h3⟩
theorem Lst.form {B : Nat} {v : Value} {l : List Int} {w : World} (h : Lst B v l w) : ∃ a n c, v = .slice a n c := by
  rcases h with h | ⟨g, cap, cur, h1, h2, h3⟩
  · exact ⟨_, _, _, h.1⟩
  · exact ⟨_, _, _, h1⟩
theorem Lst.up {B : Nat} {v : Value} {l : List Int} {w w1 : World} (h : Lst B v l w) (k : Below w.heap.size w w1) : Lst B v l w1 := h.keep (Tw.of (S := []) k) (by simp)
theorem Own.lst {B g n cap : Nat} {l : List Int} {w0 w : World} (h : Own B g n cap l w0 w) : Lst B (.slice (some ⟨g, 0, none⟩) n cap) l w := by
  obtain ⟨cur, hc⟩ := h.blk
  have hk := h.cap
  have hl := h.1
  exact .inr ⟨g, cap, cur, by rw [hl], h.2.1, by omega, hk.2, hc, fun j hj => h.cell j (by omega)⟩
theorem clone_nil (w : World) : Calls Try.prog 35 #[.slice none 0 0] w fun e w' => e = .returned (.slice none 0 0) ∧ w = w' := by
  have hnil : ∀ W, (binOp .eql 36 (.slice none 0 0) (.slice none 0 0)).run Try.prog W = .ok (.bool true) W := fun W => Lib.run_eql_slice_nil W _ _ none 0 0 0 0 Try.underlying36
  go_enter Try.func35, Try.ntmps35
  go_wp2
  go_ret
  exact ⟨rfl, rfl⟩
theorem clone_l (B : Nat) (v : Value) (l : List Int) (w : World) (h : Lst B v l w) (hl : l.length ≤ 1000) : Calls Try.prog 35 #[v] w fun e w' => ∃ v', e = .returned v' ∧ Lst w.heap.size v' l w' ∧ Below w.heap.size w w' := by
  rcases h with ⟨rfl, rfl⟩ | ⟨g, cap, cur, rfl, h2, h3, h4, h5, h6⟩
  · refine (clone_nil w).mono ?_
    rintro e w' ⟨rfl, rfl⟩
    exact ⟨_, rfl, .inl ⟨rfl, rfl⟩, Below.refl _ _⟩
  · refine (clone_any l g 0 cap h3 (by omega) h4 w (lt_hp h5) (by simpa using h6)).mono ?_
    rintro e w' ⟨g2, cap2, rfl, ho⟩
    exact ⟨_, rfl, ho.lst, ho.2.2.2⟩
theorem cells2 {w : World} {p : Nat} {v u : Value} {t : TypeId} (h : w.heap[p]? = some (.cells #[v, u] t (0, 0))) : w.cell? ⟨p, 0, none⟩ = some v ∧ w.cell? ⟨p, 1, none⟩ = some u ∧ ∀ j, w.frozen? ⟨p, j, none⟩ = false :=
  ⟨(cell_of_row w p 0 _ t _ h).trans rfl, (cell_of_row w p 1 _ t _ h).trans rfl, fun j => by simp [World.frozen?, h]⟩
set_option maxHeartbeats 4000000 in
theorem copied_any (B : Nat) (v : Value) (b : Int) (l : List Int) (w : World) (h : Lst B v l w) (hl : l.length ≤ 1000) : Calls Try.prog 43 #[.agg #[v, .int .i64 b]] w fun e w' => ∃ v', e = .returned (.agg #[v', .int .i64 b]) ∧ Lst w.heap.size v' l w' ∧ Below w.heap.size w w' := by
  obtain ⟨a, n, c, rfl⟩ := h.form
  have b1 := bl_al (Below.refl _ w) (.cells #[.slice a n c, .int .i64 b] 62)
  have b2 := bl_al (Below.refl _ (w.alloc (.cells #[.slice a n c, .int .i64 b] 62))) (.cells #[.slice none 0 0, .int .i64 0] 62)
  have E1 := Lib.hid ((b2.block _ (lt_hp (hal_new w (.cells #[.slice a n c, .int .i64 b] 62 (0, 0))))).trans (hal_new w (.cells #[.slice a n c, .int .i64 b] 62 (0, 0))))
  have E2 := Lib.hid (hal_new (w.alloc (.cells #[.slice a n c, .int .i64 b] 62)) (.cells #[.slice none 0 0, .int .i64 0] 62 (0, 0)))
  rw [show (w.alloc (.cells #[.slice a n c, .int .i64 b] 62)).heap.size = w.heap.size + 1 by simp] at E2
  have B0 := Lib.hid (bl_tr b1 b2)
  have LL := Lib.hid (h.up (bl_tr b1 b2))
  clear h b1 b2
  go_enter Try.func43, Try.ntmps43
  go_upto_region 1 with fail
  generalize ((w.alloc (.cells #[.slice a n c, .int .i64 b] 62)).alloc (.cells #[.slice none 0 0, .int .i64 0] 62)) = W2 at *
  have HS := Lib.hid (show w.heap.size ≤ W2.heap.size from B0.out.size)
  have CL := Lib.hid (clone_l B (.slice a n c) l W2.drew LL.out (by omega))
  obtain ⟨c0, c1, cf⟩ := cells2 E1.out
  have PB := Lib.hid B0.out
  clear B0 LL cf
  generalize hsz : w.heap.size = q at *
  have FX := Lib.hid (fun w3 v' (hl2 : Lst W2.drew.heap.size v' l w3) (hb2 : Below W2.drew.heap.size W2.drew w3) => show (∃ a' n' c', v' = .slice a' n' c') ∧ (w3.cell? ⟨q, 0, none⟩ = some (.slice a n c) ∧ w3.cell? ⟨q, 1, none⟩ = some (.int .i64 b)) ∧ w3.heap[q + 1]? = some (.cells #[.slice none 0 0, .int .i64 0] 62 (0, 0)) ∧ Lst q v' l w3 ∧ Below q w w3 from
    ⟨hl2.form, ⟨(cells2 ((hb2.block _ (lt_hp E1.out)).trans E1.out)).1, (cells2 ((hb2.block _ (lt_hp E1.out)).trans E1.out)).2.1⟩, (hb2.block _ (lt_hp E2.out)).trans E2.out, hl2.mono HS.out, PB.out.trans (show Below q W2 w3 from ⟨(hb2.mono HS.out).os, (hb2.mono HS.out).tape, (hb2.mono HS.out).output, (hb2.mono HS.out).size, (hb2.mono HS.out).block⟩)⟩)
  clear E1 E2 PB HS
  go_region_held3 (fun w' => w'.cell? ⟨q, 0, none⟩ = some (.slice a n c) ∧ w'.cell? ⟨q, 1, none⟩ = some (.int .i64 b)) (first | exact ⟨c0, c1⟩ | exact ⟨e0, e1⟩ | (refine ⟨?_, ?_⟩ <;> simp [go_sem, *]))
    (first | (go_at_call 35; (with_reducible refine CL.out.mono ?_); rintro e w3 ⟨v', rfl, hl2, hb2⟩; obtain ⟨⟨a', n', c', rfl⟩, ⟨e0, e1⟩, E3, HL, HB⟩ := FX.out w3 v' hl2 hb2; obtain ⟨d0, d1, df⟩ := cells2 E3; have E3 := Lib.hid E3; have HL := Lib.hid HL; have HB := Lib.hid HB; clear hl2 hb2))
  all_goals
    have E4 := (blk_set (blk_set E3.out 0 (.slice a' n' c')) 1 (.int .i64 b)).trans rfl
    have E4 : ((w3.setCell ⟨q + 1, 0, none⟩ (.slice a' n' c')).setCell ⟨q + 1, 1, none⟩ (.int .i64 b)).heap[q + 1]? = some (.cells #[.slice a' n' c', .int .i64 b] 62 (0, 0)) := E4
    have TT : Tw [q + 1] w3 ((w3.setCell ⟨q + 1, 0, none⟩ (.slice a' n' c')).setCell ⟨q + 1, 1, none⟩ (.int .i64 b)) := ((Tw.refl _ w3).st (q + 1) (.inl (by simp)) 0 _).st (q + 1) (.inl (by simp)) 1 _
    have HL2 := Lib.hid (HL.out.keep TT (fun i hi => by simp at hi; subst hi; exact .inr ⟨_, _, E3.out, by decide⟩))
    have HB2 := Lib.hid (TT.below HB.out (by intro i hi; simp at hi; omega) (by rw [← hsz]; exact HB.out.size))
    clear e0 e1 d0 d1 df E3 HL HB TT
    generalize (w3.setCell ⟨q + 1, 0, none⟩ (.slice a' n' c')).setCell ⟨q + 1, 1, none⟩ (.int .i64 b) = w5 at *
    obtain ⟨d0, d1, df⟩ := cells2 E4
    clear E4 df CL FX
    go_wp2
    refine bodyPost_ret (by simp [results, Try.results43, go_sem, d0, d1]; rfl) rfl ?_
    exact ⟨_, rfl, by rw [hsz]; exact HL2.out, by rw [hsz]; exact HB2.out⟩
section
variable {A : Ad} {nv : Nat → Value} {nb : Nat → Int} {hd : Nat → Bool} {ow : Nat → Value} {l : List Int} {s : Int} {w : World}
theorem Po.nc (h : Po A nv nb hd ow l s w) (j : Nat) (hj : j < A.n) : w.cell? ⟨A.bn, j * 2, none⟩ = some (nv j) ∧ w.cell? ⟨A.bn, j * 2 + 1, none⟩ = some (.int .i64 (nb j)) ∧ ∀ i, w.frozen? ⟨A.bn, i, none⟩ = false := by
  obtain ⟨C, hC, _, hc⟩ := h.nod
  obtain ⟨c1, c2⟩ := hc j hj
  rw [show j * 2 = 2 * j by omega]
  exact ⟨(cell_of_row w A.bn _ _ 62 _ hC).trans c1, (cell_of_row w A.bn _ _ 62 _ hC).trans c2, fun i => by simp [World.frozen?, hC]⟩
/-- another node -/
theorem Po.sn (h : Po A nv nb hd ow l s w) (j : Nat) (hj : j < A.n) (v : Value) (b : Int) : Po A (upf nv j v) (upf nb j b) hd ow l s ((w.setCell ⟨A.bn, j * 2, none⟩ v).setCell ⟨A.bn, j * 2 + 1, none⟩ (.int .i64 b)) := by
  have hn := h.ne
  have k : Tw [A.bn] w ((w.setCell ⟨A.bn, j * 2, none⟩ v).setCell ⟨A.bn, j * 2 + 1, none⟩ (.int .i64 b)) := ((Tw.refl _ w).st A.bn (.inl (by simp)) _ _).st A.bn (.inl (by simp)) _ _
  obtain ⟨kk, c, o, m, d, hm⟩ := h.mem
  obtain ⟨C1, c1, c2, c7⟩ := h.nod
  obtain ⟨C2, c3, c4⟩ := h.hel
  obtain ⟨C3, c5, c6⟩ := h.own
  refine ⟨blk_tw h.box k (by simp; exact hn.pn), ⟨_, blk_set (blk_set c1 (j * 2) v) (j * 2 + 1) (.int .i64 b), by simpa using c2, fun i hi => ?_⟩, ⟨C2, blk_tw c3 k (by simp; exact fun e => hn.nh e.symm), c4⟩, ⟨C3, blk_tw c5 k (by simp; exact fun e => hn.no e.symm), c6⟩, h.len, h.len2, h.n1, h.n2, h.k1, h.k2, kk, c, o, m, d, ⟨blk_tw hm.1 k (by simp; exact fun e => hn.ng e.symm), blk_tw hm.2 k (by simp; exact fun e => hn.nb e.symm)⟩⟩
  unfold upf
  obtain ⟨x1, x2⟩ := c7 i hi
  rw [Array.getElem?_setIfInBounds, Array.getElem?_setIfInBounds, Array.getElem?_setIfInBounds, Array.getElem?_setIfInBounds, x1, x2]
  by_cases e : i = j
  · subst e
    constructor
    · rw [if_neg (by omega), if_pos (by omega), if_pos rfl]; simp; omega
    · rw [if_pos (by omega), if_pos rfl]; simp; omega
  · constructor
    · rw [if_neg (by omega), if_neg (by omega), if_neg e]
    · rw [if_neg (by omega), if_neg (by omega), if_neg e]
theorem keep_no (x : Int) (hx : x < 0 ∨ (A.n : Int) ≤ x) (a : Option Addr) (n c : Nat) (b : Int) (h : Po A nv nb hd ow l s w) : Calls Try.prog 25 #[.pointer (some ⟨A.p, 0, none⟩), .int .i64 x, .agg #[.slice a n c, .int .i64 b]] w fun e w' => e = .returned (.tuple #[]) ∧ Below w.heap.size w w' := by
  have hal := bl_al (Below.refl _ w) (.cells #[.slice a n c, .int .i64 b] 62)
  have H := Lib.hid (phas_out x A.n hx _ _ (slots_any _ _ _ _ _ _ _ _ _ (h.up hal).box))
  have B := Lib.hid hal
  clear h hal hx
  go_enter Try.func25, Try.ntmps25
  go_wp2_with fail
  refine H.out.mono ?_; rintro e w1 ⟨rfl, rfl⟩
  clear H
  go_wp2
  go_end0
  exact ⟨rfl, B.out⟩
set_option maxHeartbeats 8000000 in
theorem keep_any (B m : Nat) (hm : m < A.n) (v : Value) (b : Int) (z : List Int) (hz : z.length ≤ 1000) (hL : Lst B v z w) (h : Po A nv nb hd ow l s w) : Calls Try.prog 25 #[.pointer (some ⟨A.p, 0, none⟩), .int .i64 m, .agg #[v, .int .i64 b]] w fun e w' => e = .returned (.tuple #[]) ∧ ∃ v', Lst w.heap.size v' z w' ∧ Po A (upf nv m v') (upf nb m b) hd ow l s w' ∧ Tw [A.bn] w w' := by
  obtain ⟨a, n, c, rfl⟩ := hL.form
  have hal := bl_al (Below.refl _ w) (.cells #[.slice a n c, .int .i64 b] 62)
  have n2 := h.n2
  have H := Lib.hid (phas_in (m : Int) A.n (by omega) (by omega) _ _ (slots_any _ _ _ _ _ _ _ _ _ (h.up hal).box))
  have CP := Lib.hid (copied_any B (.slice a n c) b z (w.alloc (.cells #[.slice a n c, .int .i64 b] 62)).drew (show Lst B (.slice a n c) z (w.alloc (.cells #[.slice a n c, .int .i64 b] 62)).drew from hL.up (w1 := w.alloc (.cells #[.slice a n c, .int .i64 b] 62)) hal) hz)
  have E1 := Lib.hid (hal_new w (.cells #[.slice a n c, .int .i64 b] 62 (0, 0)))
  have PO := Lib.hid (h.up hal)
  have BL := Lib.hid hal
  have LB := Lib.hid (show A.bn < w.heap.size from h.lt.2.2.2.1)
  have i1 : (m : Int) < (A.n : Int) := by omega
  clear h hal hL hz
  go_enter Try.func25, Try.ntmps25
  go_upto_region 1 with fail
  generalize (w.alloc (.cells #[.slice a n c, .int .i64 b] 62)) = W2 at *
  have HS := Lib.hid (show w.heap.size ≤ W2.heap.size from BL.out.size)
  have ht : ∀ x : Nat, W2.heap[x]? = W2.heap[x]? := fun _ => rfl
  generalize hq : w.heap.size = q at *
  have HQ := Lib.hid hq
  clear hq
  go_wp2_with fail
  refine H.out.mono ?_; rintro e w1 ⟨rfl, rfl⟩
  clear H ht
  obtain ⟨c0, c1, cf⟩ := cells2 E1.out
  obtain ⟨q0, q1, q2, q3, q4⟩ := PO.out.cells
  have FX := Lib.hid (fun w3 v' (hl2 : Lst W2.drew.heap.size v' z w3) (hb2 : Below W2.drew.heap.size W2.drew w3) => show (∃ a' n' c', v' = .slice a' n' c') ∧ (w3.cell? ⟨q, 0, none⟩ = some (.slice a n c) ∧ w3.cell? ⟨q, 1, none⟩ = some (.int .i64 b)) ∧ Po A nv nb hd ow l s w3 ∧ Lst q v' z w3 ∧ Below q w w3 from
    ⟨hl2.form, ⟨(cells2 ((hb2.block _ (lt_hp E1.out)).trans E1.out)).1, (cells2 ((hb2.block _ (lt_hp E1.out)).trans E1.out)).2.1⟩, PO.out.dr.up hb2, hl2.mono HS.out, BL.out.trans (show Below q W2 w3 from ⟨(hb2.mono HS.out).os, (hb2.mono HS.out).tape, (hb2.mono HS.out).output, (hb2.mono HS.out).size, (hb2.mono HS.out).block⟩)⟩)
  have e1 : q ≠ A.bn := by have := LB.out; omega
  have e2 : A.p ≠ A.bn := PO.out.ne.pn
  clear cf q0 q1 q3 q4 E1 PO BL HS
  go_wp2_with fail
  go_region_held3 (fun w' => w'.cell? ⟨A.p, 2, none⟩ = some (.slice (some ⟨A.bn, 0, none⟩) A.n A.n) ∧ w'.cell? ⟨q, 0, none⟩ = some (.slice a n c) ∧ w'.cell? ⟨q, 1, none⟩ = some (.int .i64 b)) (first | exact ⟨q2, c0, c1⟩ | exact ⟨r2, d0, d1⟩ | (refine ⟨?_, ?_, ?_⟩ <;> simp [go_sem, *]))
    (first | (go_at_call 43; (with_reducible refine CP.out.mono ?_); rintro e w3 ⟨v', rfl, hl2, hb2⟩; obtain ⟨⟨a', n', c', rfl⟩, ⟨d0, d1⟩, PQ, HL, HB⟩ := FX.out w3 v' hl2 hb2; obtain ⟨r0, r1, r2, r3, r4⟩ := PQ.cells; obtain ⟨k0, k1, kf⟩ := PQ.nc m hm; have PQ := Lib.hid PQ; have HL := Lib.hid HL; have HB := Lib.hid HB; clear hl2 hb2 r0 r1 r3 r4))
  all_goals
    have P2 := Lib.hid (PQ.out.sn m hm (.slice a' n' c') b)
    have TT : Tw [A.bn] w3 ((w3.setCell ⟨A.bn, m * 2, none⟩ (.slice a' n' c')).setCell ⟨A.bn, m * 2 + 1, none⟩ (.int .i64 b)) := ((Tw.refl _ w3).st A.bn (.inl (by simp)) _ _).st A.bn (.inl (by simp)) _ _
    have HL2 := Lib.hid (HL.out.keep TT (fun i hi => by
      simp at hi
      subst hi
      obtain ⟨C1, h1, _⟩ := PQ.out.nod
      exact .inr ⟨_, _, h1, by decide⟩))
    have HT : Hid (Tw [A.bn] w ((w3.setCell ⟨A.bn, m * 2, none⟩ (.slice a' n' c')).setCell ⟨A.bn, m * 2 + 1, none⟩ (.int .i64 b))) := Lib.hid ((Tw.of (S := [A.bn]) (by rw [HQ.out]; exact HB.out)).trans TT)
    clear PQ HL HB TT d0 d1 r2 k0 k1 kf CP FX
    go_end0
    exact ⟨rfl, _, by rw [HQ.out]; exact HL2.out, P2.out, HT.out⟩
theorem bound_no (x : Int) (hx : x < 0 ∨ (A.n : Int) ≤ x) (h : Po A nv nb hd ow l s w) : Calls Try.prog 28 #[.pointer (some ⟨A.p, 0, none⟩), .int .i64 x] w fun e w' => e = .returned (.int .i64 0) ∧ w = w' := by
  have H := Lib.hid (phas_out x A.n hx _ _ (slots_any _ _ _ _ _ _ _ _ _ h.box))
  clear h hx
  go_enter Try.func28, Try.ntmps28
  go_wp2_with fail
  refine H.out.mono ?_; rintro e w1 ⟨rfl, rfl⟩
  go_wp2
  go_ret
  exact ⟨rfl, rfl⟩
theorem bound_any (m : Nat) (hm : m < A.n) (h : Po A nv nb hd ow l s w) : Calls Try.prog 28 #[.pointer (some ⟨A.p, 0, none⟩), .int .i64 m] w fun e w' => e = .returned (.int .i64 (nb m)) ∧ w = w' := by
  have H := Lib.hid (phas_in (m : Int) A.n (by omega) (by omega) _ _ (slots_any _ _ _ _ _ _ _ _ _ h.box))
  obtain ⟨q0, q1, q2, q3, q4⟩ := h.cells
  obtain ⟨k0, k1, kf⟩ := h.nc m hm
  have n2 := h.n2
  have i1 : (m : Int) < (A.n : Int) := by omega
  clear h q0 q1 q3 q4 k0 kf
  go_enter Try.func28, Try.ntmps28
  go_wp2_with fail
  refine H.out.mono ?_; rintro e w1 ⟨rfl, rfl⟩
  go_wp2
  go_ret
  exact ⟨rfl, rfl⟩
theorem node_no (x : Int) (hx : x < 0 ∨ (A.n : Int) ≤ x) (h : Po A nv nb hd ow l s w) : Calls Try.prog 26 #[.pointer (some ⟨A.p, 0, none⟩), .int .i64 x] w fun e w' => e = .returned (.agg #[.slice none 0 0, .int .i64 0]) ∧ Below w.heap.size w w' := by
  have hal := bl_al (Below.refl _ w) (.cells #[.slice none 0 0, .int .i64 0] 62)
  have H := Lib.hid (phas_out x A.n hx _ _ (slots_any _ _ _ _ _ _ _ _ _ (h.up hal).box))
  have B := Lib.hid hal
  clear h hx hal
  go_enter Try.func26, Try.ntmps26
  go_wp2_with fail
  refine H.out.mono ?_; rintro e w1 ⟨rfl, rfl⟩
  go_wp2
  refine bodyPost_ret (by simp [results, Try.results26, go_sem]; rfl) rfl ?_
  exact ⟨rfl, B.out⟩
set_option maxHeartbeats 4000000 in
theorem node_any (B m : Nat) (hm : m < A.n) (z : List Int) (hz : z.length ≤ 1000) (hL : Lst B (nv m) z w) (h : Po A nv nb hd ow l s w) : Calls Try.prog 26 #[.pointer (some ⟨A.p, 0, none⟩), .int .i64 m] w fun e w' => ∃ v', e = .returned (.agg #[v', .int .i64 (nb m)]) ∧ Lst w.heap.size v' z w' ∧ Below w.heap.size w w' := by
  have hal := bl_al (Below.refl _ w) (.cells #[.slice none 0 0, .int .i64 0] 62)
  have E1 := hal_new w (.cells #[.slice none 0 0, .int .i64 0] 62 (0, 0))
  have H := Lib.hid (phas_in (m : Int) A.n (by omega) (by omega) _ _ (slots_any _ _ _ _ _ _ _ _ _ (h.up hal).box))
  have CP := Lib.hid (copied_any B (nv m) (nb m) z (w.alloc (.cells #[.slice none 0 0, .int .i64 0] 62)) (hL.up hal) hz)
  obtain ⟨q0, q1, q2, q3, q4⟩ := (h.up hal).cells
  obtain ⟨k0, k1, kf⟩ := (h.up hal).nc m hm
  have n2 := h.n2
  have i1 : (m : Int) < (A.n : Int) := by omega
  have E1 := Lib.hid E1
  have BL := Lib.hid hal
  have HS := Lib.hid (show w.heap.size ≤ (w.alloc (.cells #[.slice none 0 0, .int .i64 0] 62)).heap.size from hal.size)
  clear h hal hL q0 q1 q3 q4 kf hz
  generalize nv m = v at *
  generalize nb m = b at *
  go_enter Try.func26, Try.ntmps26
  go_wp2_with fail
  refine H.out.mono ?_; rintro e w1 ⟨rfl, rfl⟩
  clear H
  go_wp2_with fail
  refine CP.out.mono ?_; rintro e w3 ⟨v', rfl, hl2, hb2⟩
  obtain ⟨a', n', c', rfl⟩ := hl2.form
  have E3 := (hb2.block _ (lt_hp E1.out)).trans E1.out
  have HL := Lib.hid (hl2.mono HS.out)
  have HB := Lib.hid (bl_tr BL.out hb2)
  obtain ⟨d0, d1, df⟩ := cells2 E3
  have E3h := Lib.hid E3
  clear E3 hl2 hb2 BL HS CP E1 q2 k0 k1
  generalize hq : w.heap.size = q at *
  have HQ := Lib.hid hq
  clear hq
  have TT : Tw [q] w3 ((w3.setCell ⟨q, 0, none⟩ (.slice a' n' c')).setCell ⟨q, 1, none⟩ (.int .i64 b)) := ((Tw.refl _ w3).st q (.inl (by simp)) _ _).st q (.inl (by simp)) _ _
  have HL2 := Lib.hid (HL.out.keep TT (fun i hi => by simp at hi; subst hi; exact .inr ⟨_, _, E3h.out, by decide⟩))
  have HB2 := Lib.hid (TT.below HB.out (by intro i hi; simp at hi; omega) (by rw [← HQ.out]; exact HB.out.size))
  have E4 : ((w3.setCell ⟨q, 0, none⟩ (.slice a' n' c')).setCell ⟨q, 1, none⟩ (.int .i64 b)).heap[q]? = some (.cells #[.slice a' n' c', .int .i64 b] 62 (0, 0)) := (blk_set (blk_set E3h.out 0 (.slice a' n' c')) 1 (.int .i64 b)).trans rfl
  clear HL HB TT E3h
  go_wp2_with fail
  have X := cells2 E4
  generalize (w3.setCell ⟨q, 0, none⟩ (.slice a' n' c')).setCell ⟨q, 1, none⟩ (.int .i64 b) = w5 at *
  clear d0 d1 df E4
  obtain ⟨d0, d1, df⟩ := X
  clear df
  go_wp2
  refine bodyPost_ret (by simp [results, Try.results26, go_sem, d0, d1]; rfl) rfl ?_
  exact ⟨_, rfl, by rw [HQ.out]; exact HL2.out, by rw [HQ.out]; exact HB2.out⟩
end
end Go.Proofs.Ytaihmkflhapjeaa
