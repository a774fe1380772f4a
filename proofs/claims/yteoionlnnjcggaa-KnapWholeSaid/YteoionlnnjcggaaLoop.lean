/-
  What the reference's Copy answers: what its loop keeps.
-/
import Derived.Test.YteoionlnnjcggaaSrc
namespace Go.Proofs.Yteoionlnnjcggaa
open Go.RowKit
set_option linter.unusedVariables false

theorem info22 : (Try.prog.info? 22).map (fun i => (i.zero, i.size, i.bytes)) = some (some (.slice none 0 0), 1, 24) := by kernel_rfl
theorem cp_more {kd N C : Int} {wa va ca : Option Addr} {wn vn cn wc vc cc : Nat} {bx rb : Nat} {W0 W W1 : World} (hb : Below W.heap.size W W1) (q : W.heap[bx]? = some (.cells #[.int .i64 kd, .int .i64 N, .int .i64 C, .slice wa wn wc, .slice va vn vc, .slice ca cn cc] 25 (0, 0)) ∧ W.heap[rb]? = some (.cells #[.int .i64 0, .int .i64 0, .int .i64 0, .slice none 0 0, .slice none 0 0, .slice none 0 0] 25 (0, 0)) ∧ Below W0.heap.size W0 W) : W1.heap[bx]? = some (.cells #[.int .i64 kd, .int .i64 N, .int .i64 C, .slice wa wn wc, .slice va vn vc, .slice ca cn cc] 25 (0, 0)) ∧ W1.heap[rb]? = some (.cells #[.int .i64 0, .int .i64 0, .int .i64 0, .slice none 0 0, .slice none 0 0, .slice none 0 0] 25 (0, 0)) ∧ Below W0.heap.size W0 W1 :=
  ⟨(hb.block _ (lt_hp q.1)).trans q.1, (hb.block _ (lt_hp q.2.1)).trans q.2.1, bl_tr q.2.2 hb⟩
theorem cp_alloc {kd N C : Int} {wa va ca : Option Addr} {wn vn cn wc vc cc : Nat} {bx rb : Nat} {W0 W : World} (q : W.heap[bx]? = some (.cells #[.int .i64 kd, .int .i64 N, .int .i64 C, .slice wa wn wc, .slice va vn vc, .slice ca cn cc] 25 (0, 0)) ∧ W.heap[rb]? = some (.cells #[.int .i64 0, .int .i64 0, .int .i64 0, .slice none 0 0, .slice none 0 0, .slice none 0 0] 25 (0, 0)) ∧ Below W0.heap.size W0 W) (o : Obj) : (W.alloc o).heap[bx]? = some (.cells #[.int .i64 kd, .int .i64 N, .int .i64 C, .slice wa wn wc, .slice va vn vc, .slice ca cn cc] 25 (0, 0)) ∧ (W.alloc o).heap[rb]? = some (.cells #[.int .i64 0, .int .i64 0, .int .i64 0, .slice none 0 0, .slice none 0 0, .slice none 0 0] 25 (0, 0)) ∧ Below W0.heap.size W0 (W.alloc o) := cp_more (bl_al (Below.refl _ _) o) q
theorem cp_drew {kd N C : Int} {wa va ca : Option Addr} {wn vn cn wc vc cc : Nat} {bx rb : Nat} {W0 W : World} (q : W.heap[bx]? = some (.cells #[.int .i64 kd, .int .i64 N, .int .i64 C, .slice wa wn wc, .slice va vn vc, .slice ca cn cc] 25 (0, 0)) ∧ W.heap[rb]? = some (.cells #[.int .i64 0, .int .i64 0, .int .i64 0, .slice none 0 0, .slice none 0 0, .slice none 0 0] 25 (0, 0)) ∧ Below W0.heap.size W0 W) : W.drew.heap[bx]? = some (.cells #[.int .i64 kd, .int .i64 N, .int .i64 C, .slice wa wn wc, .slice va vn vc, .slice ca cn cc] 25 (0, 0)) ∧ W.drew.heap[rb]? = some (.cells #[.int .i64 0, .int .i64 0, .int .i64 0, .slice none 0 0, .slice none 0 0, .slice none 0 0] 25 (0, 0)) ∧ Below W0.heap.size W0 W.drew := ⟨q.1, q.2.1, q.2.2.drew⟩
theorem cp_store {kd N C : Int} {wa va ca : Option Addr} {wn vn cn wc vc cc : Nat} {bx rb g : Nat} {W0 W : World} (q : (W.heap[bx]? = some (.cells #[.int .i64 kd, .int .i64 N, .int .i64 C, .slice wa wn wc, .slice va vn vc, .slice ca cn cc] 25 (0, 0)) ∧ W.heap[rb]? = some (.cells #[.int .i64 0, .int .i64 0, .int .i64 0, .slice none 0 0, .slice none 0 0, .slice none 0 0] 25 (0, 0)) ∧ Below W0.heap.size W0 W) ∧ bx < W0.heap.size ∧ rb < W0.heap.size) (hg : W0.heap.size ≤ g) (v0 v1 v2 v3 v4 v5 : Value) : ((((((W.setCell ⟨g, 0, none⟩ (v0)).setCell ⟨g, 1, none⟩ (v1)).setCell ⟨g, 2, none⟩ (v2)).setCell ⟨g, 3, none⟩ (v3)).setCell ⟨g, 4, none⟩ (v4)).setCell ⟨g, 5, none⟩ (v5)).heap[bx]? = some (.cells #[.int .i64 kd, .int .i64 N, .int .i64 C, .slice wa wn wc, .slice va vn vc, .slice ca cn cc] 25 (0, 0)) ∧ ((((((W.setCell ⟨g, 0, none⟩ (v0)).setCell ⟨g, 1, none⟩ (v1)).setCell ⟨g, 2, none⟩ (v2)).setCell ⟨g, 3, none⟩ (v3)).setCell ⟨g, 4, none⟩ (v4)).setCell ⟨g, 5, none⟩ (v5)).heap[rb]? = some (.cells #[.int .i64 0, .int .i64 0, .int .i64 0, .slice none 0 0, .slice none 0 0, .slice none 0 0] 25 (0, 0)) ∧ Below W0.heap.size W0 ((((((W.setCell ⟨g, 0, none⟩ (v0)).setCell ⟨g, 1, none⟩ (v1)).setCell ⟨g, 2, none⟩ (v2)).setCell ⟨g, 3, none⟩ (v3)).setCell ⟨g, 4, none⟩ (v4)).setCell ⟨g, 5, none⟩ (v5)) :=
  ⟨(six_other (by omega) v0 v1 v2 v3 v4 v5).trans q.1.1, (six_other (by omega) v0 v1 v2 v3 v4 v5).trans q.1.2.1, six_below q.1.2.2 hg v0 v1 v2 v3 v4 v5⟩
structure Lo (kd N C : Int) (wa va ca : Option Addr) (wn vn cn wc vc cc : Nat) (wl vl : List Int) (cl : List (List Int)) (bx rb G g1 g2 k1 k2 : Nat) (W0 : World) (cv : Value) (ws : List Value) (k : Nat) (W : World) : Prop where
  o : W.heap[G]? = some (.cells #[.int .i64 kd, .int .i64 N, .int .i64 C, .slice (some ⟨g1, 0, none⟩) wl.length k1, .slice (some ⟨g2, 0, none⟩) vl.length k2, cv] 25 (0, 0))
  ow : W.ownsRow W0.heap.size 22 1 cv k ws
  ro : ∀ j, j < k → ∃ g cj, ws[j]? = some (.slice (some ⟨g, 0, none⟩) (cl[j]?.getD []).length cj) ∧ IntsO W g (cl[j]?.getD []) ∧ W0.heap.size ≤ g
  i1 : IntsO W g1 wl
  i2 : IntsO W g2 vl
theorem Lo.keep {kd N C : Int} {wa va ca : Option Addr} {wn vn cn wc vc cc : Nat} {wl vl : List Int} {cl : List (List Int)} {bx rb G g1 g2 k1 k2 : Nat} {W0 : World} {cv : Value} {ws : List Value} {k : Nat} {W W1 : World} (h : Lo kd N C wa va ca wn vn cn wc vc cc wl vl cl bx rb G g1 g2 k1 k2 W0 cv ws k W) (hb : Below W.heap.size W W1) : Lo kd N C wa va ca wn vn cn wc vc cc wl vl cl bx rb G g1 g2 k1 k2 W0 cv ws k W1 :=
  { o := (hb.block _ (lt_hp h.o)).trans h.o
    ow := h.ow.kept (row := none) ⟨hb.os, hb.tape, hb.output, hb.size, fun i hi _ => hb.block i hi⟩ (by by_cases e : cv.ownBlock = none; exact Or.inl e; exact Or.inr e)
    ro := fun j hj => by
      obtain ⟨g, cj, e1, e2, e3⟩ := h.ro j hj
      exact ⟨g, cj, e1, e2.keep hb, e3⟩
    i1 := h.i1.keep hb
    i2 := h.i2.keep hb }
theorem row_ne {W : World} {B k b : Nat} {cv : Value} {ws : List Value} {cs : Array Value} {t : TypeId} (h : W.ownsRow B 22 1 cv k ws) (hb : W.heap[b]? = some (.cells cs t (0, 0))) (ht : t ≠ 22) : some b ≠ cv.ownBlock := by
  rcases h.2 with ⟨h', _⟩ | ⟨g', cap', cur, h', _, hg, _⟩
  · subst h'; simp [Value.ownBlock]
  · subst h'
    intro e
    simp [Value.ownBlock] at e
    subst e
    rw [hg] at hb
    injection hb with hb
    injection hb with _ hb
    exact ht hb.symm
theorem Lo.step {kd N C : Int} {wa va ca : Option Addr} {wn vn cn wc vc cc : Nat} {wl vl : List Int} {cl : List (List Int)} {bx rb G g1 g2 k1 k2 : Nat} {W0 : World} {cv cv' val : Value} {ws : List Value} {k g kc : Nat} {x w3 : World} (h : Lo kd N C wa va ca wn vn cn wc vc cc wl vl cl bx rb G g1 g2 k1 k2 W0 cv ws k x) (hi : IntsO x g (cl[k]?.getD [])) (hg0 : W0.heap.size ≤ g) (hv : val = .slice (some ⟨g, 0, none⟩) (cl[k]?.getD []).length kc)
    (q : x.heap[bx]? = some (.cells #[.int .i64 kd, .int .i64 N, .int .i64 C, .slice wa wn wc, .slice va vn vc, .slice ca cn cc] 25 (0, 0)) ∧ x.heap[rb]? = some (.cells #[.int .i64 0, .int .i64 0, .int .i64 0, .slice none 0 0, .slice none 0 0, .slice none 0 0] 25 (0, 0)) ∧ Below W0.heap.size W0 x) (hbx : bx < W0.heap.size) (hrb : rb < W0.heap.size) (lg : W0.heap.size ≤ G)
    (hown : w3.ownsRow W0.heap.size 22 1 cv' (k + 1) (ws ++ [val])) (hgrow : (x.alloc (.cells #[val] 22)).grownBy w3 cv.ownBlock) :
    ((w3.heap[bx]? = some (.cells #[.int .i64 kd, .int .i64 N, .int .i64 C, .slice wa wn wc, .slice va vn vc, .slice ca cn cc] 25 (0, 0)) ∧ w3.heap[rb]? = some (.cells #[.int .i64 0, .int .i64 0, .int .i64 0, .slice none 0 0, .slice none 0 0, .slice none 0 0] 25 (0, 0)) ∧ Below W0.heap.size W0 w3) ∧ w3.heap[G]? = some (.cells #[.int .i64 kd, .int .i64 N, .int .i64 C, .slice (some ⟨g1, 0, none⟩) wl.length k1, .slice (some ⟨g2, 0, none⟩) vl.length k2, cv] 25 (0, 0))) ∧ ((w3.setCell ⟨G, 5, none⟩ cv').heap[bx]? = some (.cells #[.int .i64 kd, .int .i64 N, .int .i64 C, .slice wa wn wc, .slice va vn vc, .slice ca cn cc] 25 (0, 0)) ∧ (w3.setCell ⟨G, 5, none⟩ cv').heap[rb]? = some (.cells #[.int .i64 0, .int .i64 0, .int .i64 0, .slice none 0 0, .slice none 0 0, .slice none 0 0] 25 (0, 0)) ∧ Below W0.heap.size W0 (w3.setCell ⟨G, 5, none⟩ cv')) ∧ Lo kd N C wa va ca wn vn cn wc vc cc wl vl cl bx rb G g1 g2 k1 k2 W0 cv' (ws ++ [val]) (k + 1) (w3.setCell ⟨G, 5, none⟩ cv') := by
  have bA : Below x.heap.size x (x.alloc (.cells #[val] 22)) := bl_al (Below.refl _ _) _
  have ha := h.keep bA
  have blk : ∀ (b : Nat) (cs : Array Value) (t : TypeId), x.heap[b]? = some (.cells cs t (0, 0)) → t ≠ 22 → w3.heap[b]? = x.heap[b]? := fun b cs t e ht => by
    have hlt := lt_hp e
    rw [hgrow.block b (by simp; omega) (row_ne h.ow e ht)]
    exact bA.block b hlt
  have e0 : w3.heap[G]? = some (.cells #[.int .i64 kd, .int .i64 N, .int .i64 C, .slice (some ⟨g1, 0, none⟩) wl.length k1, .slice (some ⟨g2, 0, none⟩) vl.length k2, cv] 25 (0, 0)) := (blk _ _ _ h.o (by decide)).trans h.o
  have bl3 : Below W0.heap.size W0 w3 := by
    have b1 : Below W0.heap.size W0 (x.alloc (.cells #[val] 22)) := bl_tr q.2.2 bA
    exact b1.grown hgrow b1.size (fun j hj => (h.ow.lt j hj).1)
  have q3 : w3.heap[bx]? = some (.cells #[.int .i64 kd, .int .i64 N, .int .i64 C, .slice wa wn wc, .slice va vn vc, .slice ca cn cc] 25 (0, 0)) ∧ w3.heap[rb]? = some (.cells #[.int .i64 0, .int .i64 0, .int .i64 0, .slice none 0 0, .slice none 0 0, .slice none 0 0] 25 (0, 0)) ∧ Below W0.heap.size W0 w3 := ⟨(blk _ _ _ q.1 (by decide)).trans q.1, (blk _ _ _ q.2.1 (by decide)).trans q.2.1, bl3⟩
  have ot : ∀ b, b ≠ G → (w3.setCell ⟨G, 5, none⟩ cv').heap[b]? = w3.heap[b]? := fun b hb => heap_setCell_other _ ⟨G, 5, none⟩ b _ hb
  have io : ∀ (g : Nat) (l : List Int), IntsO x g l → IntsO (w3.setCell ⟨G, 5, none⟩ cv') g l := fun g l hg => by
    have hne : g ≠ G := hg.ne h.o (by decide)
    obtain ⟨cur, c1, c2⟩ := hg
    exact ⟨cur, (ot g hne).trans ((blk _ _ _ c1 (by decide)).trans c1), c2⟩
  refine ⟨⟨q3, e0⟩, ⟨(ot _ (by omega)).trans q3.1, (ot _ (by omega)).trans q3.2.1, bl3.setCell (p := ⟨G, 5, none⟩) lg _⟩, ?_⟩
  exact {
    o := heap_setCell_same w3 G 5 _ 25 cv' e0
    ow := hown.kept (row := some G) ⟨rfl, rfl, rfl, by simp [World.setCell], fun i _ hne => ot i (fun e => hne (by rw [e]))⟩ (Or.inr (Ne.symm (row_ne hown e0 (by decide))))
    ro := fun j hj => by
      rcases Nat.lt_or_ge j k with hlt | hge
      · obtain ⟨g', cj, e1, e2, e3⟩ := h.ro j hlt
        refine ⟨g', cj, ?_, io _ _ e2, e3⟩
        rw [List.getElem?_append_left]
        · exact e1
        · rcases Nat.lt_or_ge j ws.length with h' | h'
          · exact h'
          · rw [List.getElem?_eq_none h'] at e1; cases e1
      · obtain rfl : j = k := by omega
        have hl : ws.length = j := by have := h.ow.1; omega
        refine ⟨g, kc, ?_, io _ _ hi, hg0⟩
        rw [List.getElem?_append_right (by omega), hl, hv]
        simp
    i1 := io _ _ h.i1
    i2 := io _ _ h.i2 }
theorem gr_set {a w : World} {g : Nat} (h : a.grownBy w (some g)) (i : Nat) (v : Value) : a.grownBy (w.setCell ⟨g, i, none⟩ v) (some g) :=
  ⟨h.os, h.tape, h.output, by simpa [World.setCell] using h.size, fun j hj hne => (heap_setCell_other w ⟨g, i, none⟩ j v (fun e => hne (by rw [e]))).trans (h.block j hj hne)⟩
theorem gr_refl (w : World) (r : Option Nat) : w.grownBy w r := ⟨rfl, rfl, rfl, Nat.le_refl _, fun _ _ _ => rfl⟩
theorem six_grown (w : World) (g : Nat) (v0 v1 v2 v3 v4 v5 : Value) : w.grownBy ((((((w.setCell ⟨g, 0, none⟩ (v0)).setCell ⟨g, 1, none⟩ (v1)).setCell ⟨g, 2, none⟩ (v2)).setCell ⟨g, 3, none⟩ (v3)).setCell ⟨g, 4, none⟩ (v4)).setCell ⟨g, 5, none⟩ (v5)) (some g) :=
  gr_set (gr_set (gr_set (gr_set (gr_set (gr_set (gr_refl w _) 0 v0) 1 v1) 2 v2) 3 v3) 4 v4) 5 v5
theorem Lo.fin {kd N C : Int} {wa va ca : Option Addr} {wn vn cn wc vc cc : Nat} {wl vl : List Int} {cl : List (List Int)} {bx rb G g1 g2 k1 k2 : Nat} {W0 : World} {cv : Value} {ws : List Value} {w W : World} (h : Lo kd N C wa va ca wn vn cn wc vc cc wl vl cl bx rb G g1 g2 k1 k2 W0 cv ws cl.length W) (q : W.heap[bx]? = some (.cells #[.int .i64 kd, .int .i64 N, .int .i64 C, .slice wa wn wc, .slice va vn vc, .slice ca cn cc] 25 (0, 0)) ∧ W.heap[rb]? = some (.cells #[.int .i64 0, .int .i64 0, .int .i64 0, .slice none 0 0, .slice none 0 0, .slice none 0 0] 25 (0, 0)) ∧ Below W0.heap.size W0 W) (hs : RSrc W0 ca cn cc cl) (hrb : rb < W0.heap.size) (lg : W0.heap.size ≤ G) (bw : Below w.heap.size w W0) (hw : w.heap.size ≤ rb) :
    ((((((W.setCell ⟨rb, 0, none⟩ ((.int .i64 kd))).setCell ⟨rb, 1, none⟩ ((.int .i64 N))).setCell ⟨rb, 2, none⟩ ((.int .i64 C))).setCell ⟨rb, 3, none⟩ ((.slice (some ⟨g1, 0, none⟩) wl.length k1))).setCell ⟨rb, 4, none⟩ ((.slice (some ⟨g2, 0, none⟩) vl.length k2))).setCell ⟨rb, 5, none⟩ (cv)).heap[rb]? = some (.cells #[.int .i64 kd, .int .i64 N, .int .i64 C, .slice (some ⟨g1, 0, none⟩) wl.length k1, .slice (some ⟨g2, 0, none⟩) vl.length k2, cv] 25 (0, 0)) ∧ Below w.heap.size w ((((((W.setCell ⟨rb, 0, none⟩ ((.int .i64 kd))).setCell ⟨rb, 1, none⟩ ((.int .i64 N))).setCell ⟨rb, 2, none⟩ ((.int .i64 C))).setCell ⟨rb, 3, none⟩ ((.slice (some ⟨g1, 0, none⟩) wl.length k1))).setCell ⟨rb, 4, none⟩ ((.slice (some ⟨g2, 0, none⟩) vl.length k2))).setCell ⟨rb, 5, none⟩ (cv)) ∧ IntsO ((((((W.setCell ⟨rb, 0, none⟩ ((.int .i64 kd))).setCell ⟨rb, 1, none⟩ ((.int .i64 N))).setCell ⟨rb, 2, none⟩ ((.int .i64 C))).setCell ⟨rb, 3, none⟩ ((.slice (some ⟨g1, 0, none⟩) wl.length k1))).setCell ⟨rb, 4, none⟩ ((.slice (some ⟨g2, 0, none⟩) vl.length k2))).setCell ⟨rb, 5, none⟩ (cv)) g1 wl ∧ IntsO ((((((W.setCell ⟨rb, 0, none⟩ ((.int .i64 kd))).setCell ⟨rb, 1, none⟩ ((.int .i64 N))).setCell ⟨rb, 2, none⟩ ((.int .i64 C))).setCell ⟨rb, 3, none⟩ ((.slice (some ⟨g1, 0, none⟩) wl.length k1))).setCell ⟨rb, 4, none⟩ ((.slice (some ⟨g2, 0, none⟩) vl.length k2))).setCell ⟨rb, 5, none⟩ (cv)) g2 vl ∧ ∃ ca' cc', cv = .slice ca' cl.length cc' ∧ RwsO w.heap.size ((((((W.setCell ⟨rb, 0, none⟩ ((.int .i64 kd))).setCell ⟨rb, 1, none⟩ ((.int .i64 N))).setCell ⟨rb, 2, none⟩ ((.int .i64 C))).setCell ⟨rb, 3, none⟩ ((.slice (some ⟨g1, 0, none⟩) wl.length k1))).setCell ⟨rb, 4, none⟩ ((.slice (some ⟨g2, 0, none⟩) vl.length k2))).setCell ⟨rb, 5, none⟩ (cv)) ca' cl := by
  have ot : ∀ b, b ≠ rb → ((((((W.setCell ⟨rb, 0, none⟩ ((.int .i64 kd))).setCell ⟨rb, 1, none⟩ ((.int .i64 N))).setCell ⟨rb, 2, none⟩ ((.int .i64 C))).setCell ⟨rb, 3, none⟩ ((.slice (some ⟨g1, 0, none⟩) wl.length k1))).setCell ⟨rb, 4, none⟩ ((.slice (some ⟨g2, 0, none⟩) vl.length k2))).setCell ⟨rb, 5, none⟩ (cv)).heap[b]? = W.heap[b]? := fun b hb => six_other hb (.int .i64 kd) (.int .i64 N) (.int .i64 C) (.slice (some ⟨g1, 0, none⟩) wl.length k1) (.slice (some ⟨g2, 0, none⟩) vl.length k2) cv
  have e0 := six q.2.1 (.int .i64 kd) (.int .i64 N) (.int .i64 C) (.slice (some ⟨g1, 0, none⟩) wl.length k1) (.slice (some ⟨g2, 0, none⟩) vl.length k2) cv
  have gb := six_grown W rb (.int .i64 kd) (.int .i64 N) (.int .i64 C) (.slice (some ⟨g1, 0, none⟩) wl.length k1) (.slice (some ⟨g2, 0, none⟩) vl.length k2) cv
  have bl := six_below (bw.trans (q.2.2.mono bw.size)) hw (.int .i64 kd) (.int .i64 N) (.int .i64 C) (.slice (some ⟨g1, 0, none⟩) wl.length k1) (.slice (some ⟨g2, 0, none⟩) vl.length k2) cv
  generalize ((((((W.setCell ⟨rb, 0, none⟩ ((.int .i64 kd))).setCell ⟨rb, 1, none⟩ ((.int .i64 N))).setCell ⟨rb, 2, none⟩ ((.int .i64 C))).setCell ⟨rb, 3, none⟩ ((.slice (some ⟨g1, 0, none⟩) wl.length k1))).setCell ⟨rb, 4, none⟩ ((.slice (some ⟨g2, 0, none⟩) vl.length k2))).setCell ⟨rb, 5, none⟩ (cv)) = Wf at *
  have io : ∀ (g : Nat) (l : List Int), IntsO W g l → IntsO Wf g l := fun g l hg => hg.same (ot g (hg.ne q.2.1 (by decide)))
  have ow : Wf.ownsRow W0.heap.size 22 1 cv cl.length ws := h.ow.kept (row := some rb) gb (Or.inr (Ne.symm (row_ne h.ow q.2.1 (by decide))))
  refine ⟨e0, bl, io _ _ h.i1, io _ _ h.i2, ?_⟩
  have hcell := fun g cap (e : cv = .slice (some ⟨g, 0, none⟩) cl.length cap) => (e ▸ ow : Wf.ownsRow W0.heap.size 22 1 (.slice (some ⟨g, 0, none⟩) cl.length cap) cl.length ws).cellAt
  rcases ow.2 with ⟨e, z0⟩ | ⟨g, cap, cur, e, hb, hg, _⟩
  · subst e
    exact ⟨none, 0, by rw [z0], fun j hj => absurd hj (by omega)⟩
  · refine ⟨some ⟨g, 0, none⟩, cap, e, fun j hj => ?_⟩
    obtain ⟨g', cj, e1, e2, e3⟩ := h.ro j hj
    have hk := hcell g cap e j (by omega)
    rw [cell_of_row _ _ _ _ _ _ hg] at hk
    refine ⟨g, cur, g', cj, rfl, hg, hk.trans e1, io _ _ e2, ?_, Nat.le_trans bw.size e3⟩
    obtain ⟨s1, s2, s3, s4⟩ := hs
    rcases s4 with ⟨s4, _⟩ | ⟨b, o, _, _, s4⟩
    · omega
    · obtain ⟨aj, nj, cj', _, s5⟩ := s4 j hj
      have := s5.1
      omega
theorem own_slice {w : World} {base : Nat} {e : TypeId} {v : Value} {n : Nat} {xs : List Value} (h : w.ownsRow base e 1 v n xs) : ∃ a m c, v = .slice a m c := by
  rcases h.2 with ⟨h', _⟩ | ⟨g, cap, cur, hv, _⟩
  · exact ⟨_, _, _, h'⟩
  · exact ⟨_, _, _, hv⟩
theorem cp_S {kd N C : Int} {wa va ca : Option Addr} {wn vn cn wc vc cc : Nat} {bx rb b n : Nat} {z : Value} {W0 W : World} (q : W.heap[bx]? = some (.cells #[.int .i64 kd, .int .i64 N, .int .i64 C, .slice wa wn wc, .slice va vn vc, .slice ca cn cc] 25 (0, 0)) ∧ W.heap[rb]? = some (.cells #[.int .i64 0, .int .i64 0, .int .i64 0, .slice none 0 0, .slice none 0 0, .slice none 0 0] 25 (0, 0)) ∧ Below W0.heap.size W0 W) (hrow : W0.cell? ⟨b, n, none⟩ = some z) (hb : b < W0.heap.size) : W.cell? ⟨bx, 5, none⟩ = some (.slice ca cn cc) ∧ W.cell? ⟨b, n, none⟩ = some z :=
  ⟨(box6 q.1).2.2.2.2.2, (q.2.2.cell (p := ⟨b, n, none⟩) hb).trans hrow⟩
/-- what the reference's Copy leaves -/
def cpost (kd N C : Int) (wl vl : List Int) (cl : List (List Int)) (w : World) : Ending → World → Prop := fun e w' => ∃ (g1 k1 g2 k2 : Nat) (ca' : Option Addr) (cc' : Nat), e = .returned (.agg #[.int .i64 kd, .int .i64 N, .int .i64 C, .slice (some ⟨g1, 0, none⟩) wl.length k1, .slice (some ⟨g2, 0, none⟩) vl.length k2, .slice ca' cl.length cc']) ∧ Below w.heap.size w w' ∧ IntsO w' g1 wl ∧ IntsO w' g2 vl ∧ RwsO w.heap.size w' ca' cl
theorem cp_post {kd N C : Int} {wl vl : List Int} {cl : List (List Int)} {g1 k1 g2 k2 rb : Nat} {cv : Value} {w W : World} (h : W.heap[rb]? = some (.cells #[.int .i64 kd, .int .i64 N, .int .i64 C, .slice (some ⟨g1, 0, none⟩) wl.length k1, .slice (some ⟨g2, 0, none⟩) vl.length k2, cv] 25 (0, 0)) ∧ Below w.heap.size w W ∧ IntsO W g1 wl ∧ IntsO W g2 vl ∧ ∃ ca' cc', cv = .slice ca' cl.length cc' ∧ RwsO w.heap.size W ca' cl) :
    ∃ (g1' k1' g2' k2' : Nat) (ca' : Option Addr) (cc' : Nat), Ending.returned (.agg #[.int .i64 kd, .int .i64 N, .int .i64 C, .slice (some ⟨g1, 0, none⟩) wl.length k1, .slice (some ⟨g2, 0, none⟩) vl.length k2, cv]) = .returned (.agg #[.int .i64 kd, .int .i64 N, .int .i64 C, .slice (some ⟨g1', 0, none⟩) wl.length k1', .slice (some ⟨g2', 0, none⟩) vl.length k2', .slice ca' cl.length cc']) ∧ Below w.heap.size w W ∧ IntsO W g1' wl ∧ IntsO W g2' vl ∧ RwsO w.heap.size W ca' cl := by
  obtain ⟨_, h2, h3, h4, ca', cc', rfl, h5⟩ := h
  exact ⟨g1, k1, g2, k2, ca', cc', rfl, h2, h3, h4, h5⟩
end Go.Proofs.Yteoionlnnjcggaa
