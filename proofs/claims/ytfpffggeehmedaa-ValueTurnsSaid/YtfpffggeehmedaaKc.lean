/-
  The reference's Copy, once more: each list of the copy has a room, and its block is new.
-/
import Derived.Test.YtfpffggeehmedaaCopy
namespace Go.Proofs.Ytfpffggeehmedaa.kc
open Go.RowKit
set_option linter.unusedVariables false
/-- a list in a block of its own, from B on, with a room -/
def IO (B : Nat) (W : World) (g k : Nat) (l : List Int) : Prop := IntsO W g l ∧ l.length ≤ k ∧ k ≤ 9223372036854775807 ∧ B ≤ g
theorem IO.keep {B : Nat} {W W1 : World} {g k : Nat} {l : List Int} (h : IO B W g k l) (hb : Below W.heap.size W W1) : IO B W1 g k l := ⟨h.1.keep hb, h.2⟩
theorem IO.same {B : Nat} {W W1 : World} {g k : Nat} {l : List Int} (h : IO B W g k l) (he : W1.heap[g]? = W.heap[g]?) : IO B W1 g k l := ⟨h.1.same he, h.2⟩
theorem IO.ne {B : Nat} {W : World} {g k b : Nat} {l : List Int} {cs : Array Value} {t : TypeId} (h : IO B W g k l) (hb : W.heap[b]? = some (.cells cs t (0, 0))) (ht : t ≠ 3) : g ≠ b := h.1.ne hb ht
theorem own_io {B B' g cap : Nat} {l : List Int} {w : World} (hB : B ≤ B') (h : w.ownsRow B' 3 1 (.slice (some ⟨g, 0, none⟩) l.length cap) l.length (l.map (Value.int .i64))) : IO B w g cap l := by
  refine ⟨ints_own rfl h, ?_⟩
  have hl := (h.lt g rfl).1
  rcases h.2 with ⟨h', _⟩ | ⟨g', cap', cur, h', _, hg, h1, h2, _⟩
  · cases h'
  · injection h' with h0 _ h'
    injection h0 with h0
    injection h0 with h0 _ _
    subst h' h0
    exact ⟨by omega, by unfold maxLen at *; omega, by omega⟩
theorem cut_srcC {B : Nat} {W : World} {a : Option Addr} {n c : Nat} {l : List Int} (h : Src W a n c l) (hB : B ≤ W.heap.size) :
    Calls Try.prog 18 #[.slice a n c] W fun e w' => ∃ g cap, e = .returned (.slice (some ⟨g, 0, none⟩) l.length cap) ∧ Below W.heap.size W w' ∧ IO B w' g cap l ∧ W.heap.size ≤ g := by
  obtain ⟨h1, h2, h3, h4⟩ := h
  rcases h4 with ⟨rfl, h4⟩ | ⟨b, o, rfl, hlt, hc⟩
  · have hl : l = [] := List.eq_nil_of_length_eq_zero (by omega)
    subst hl
    cases a with
    | none =>
      obtain rfl := h4 rfl
      refine (cut_nil W).mono ?_
      rintro e w' ⟨g, cap, he, hb, ho⟩
      exact ⟨g, cap, he, hb, own_io hB ho, (ho.lt g rfl).1⟩
    | some x =>
      refine (cut_zero x c W h3).mono ?_
      rintro e w' ⟨g, cap, he, hb, ho⟩
      exact ⟨g, cap, he, hb, own_io hB ho, (ho.lt g rfl).1⟩
  · refine (cut_some b o n c l.length l W rfl (by omega) h2 h3 hlt hc).mono ?_
    rintro e w' ⟨g, cap, he, hb, ho⟩
    exact ⟨g, cap, he, hb, own_io hB ho, (ho.lt g rfl).1⟩
def RwsC (B : Nat) (W : World) (a : Option Addr) (c : Nat) (l : List (List Int)) : Prop := (l.length ≤ c ∧ c ≤ 9223372036854775807 ∧ ((a = none → c = 0) ∧ ∀ g0, a = some ⟨g0, 0, none⟩ → B ≤ g0) ∧ ∀ (i j g : Nat) (cur : Array Value) (gi ni ci gj nj cj : Nat), i < j → j < l.length → a = some ⟨g, 0, none⟩ → W.heap[g]? = some (.cells cur 22 (0, 0)) → cur[i]? = some (.slice (some ⟨gi, 0, none⟩) ni ci) → cur[j]? = some (.slice (some ⟨gj, 0, none⟩) nj cj) → gi ≠ gj) ∧
  ∀ j, j < l.length → ∃ (g : Nat) (cur : Array Value) (g' cj : Nat), a = some ⟨g, 0, none⟩ ∧ W.heap[g]? = some (.cells cur 22 (0, 0)) ∧ cur[j]? = some (.slice (some ⟨g', 0, none⟩) (l[j]?.getD []).length cj) ∧ IO B W g' cj (l[j]?.getD []) ∧ (l[j]?.getD []).length ≤ 1000 ∧ B ≤ g'
theorem RwsC.rwsO {B : Nat} {W : World} {a : Option Addr} {c : Nat} {l : List (List Int)} (h : RwsC B W a c l) : RwsO B W a l := fun j hj => by
  obtain ⟨g, cur, g', cj, e1, e2, e3, e4, e5⟩ := h.2 j hj
  exact ⟨g, cur, g', cj, e1, e2, e3, e4.1, e5⟩
structure Lo (kd N C : Int) (wa va ca : Option Addr) (wn vn cn wc vc cc : Nat) (wl vl : List Int) (cl : List (List Int)) (bx rb G g1 g2 k1 k2 : Nat) (W0 : World) (cv : Value) (ws : List Value) (k : Nat) (W : World) : Prop where
  o : W.heap[G]? = some (.cells #[.int .i64 kd, .int .i64 N, .int .i64 C, .slice (some ⟨g1, 0, none⟩) wl.length k1, .slice (some ⟨g2, 0, none⟩) vl.length k2, cv] 25 (0, 0))
  ow : W.ownsRow W0.heap.size 22 1 cv k ws
  ro : ∀ j, j < k → ∃ g cj, ws[j]? = some (.slice (some ⟨g, 0, none⟩) (cl[j]?.getD []).length cj) ∧ IO W0.heap.size W g cj (cl[j]?.getD []) ∧ W0.heap.size ≤ g
  i1 : IO W0.heap.size W g1 k1 wl
  i2 : IO W0.heap.size W g2 k2 vl
  sep : ∀ (i j gi gj ni nj ci cj : Nat), i < j → ws[i]? = some (.slice (some ⟨gi, 0, none⟩) ni ci) → ws[j]? = some (.slice (some ⟨gj, 0, none⟩) nj cj) → gi ≠ gj
theorem Lo.keep {kd N C : Int} {wa va ca : Option Addr} {wn vn cn wc vc cc : Nat} {wl vl : List Int} {cl : List (List Int)} {bx rb G g1 g2 k1 k2 : Nat} {W0 : World} {cv : Value} {ws : List Value} {k : Nat} {W W1 : World} (h : Lo kd N C wa va ca wn vn cn wc vc cc wl vl cl bx rb G g1 g2 k1 k2 W0 cv ws k W) (hb : Below W.heap.size W W1) : Lo kd N C wa va ca wn vn cn wc vc cc wl vl cl bx rb G g1 g2 k1 k2 W0 cv ws k W1 :=
  { o := (hb.block _ (lt_hp h.o)).trans h.o
    ow := h.ow.kept (row := none) ⟨hb.os, hb.tape, hb.output, hb.size, fun i hi _ => hb.block i hi⟩ (by by_cases e : cv.ownBlock = none; exact Or.inl e; exact Or.inr e)
    ro := fun j hj => by
      obtain ⟨g, cj, e1, e2, e3⟩ := h.ro j hj
      exact ⟨g, cj, e1, e2.keep hb, e3⟩
    i1 := h.i1.keep hb
    i2 := h.i2.keep hb
    sep := h.sep }
theorem Lo.news {kd N C : Int} {wa va ca : Option Addr} {wn vn cn wc vc cc : Nat} {wl vl : List Int} {cl : List (List Int)} {bx rb G g1 g2 k1 k2 : Nat} {W0 : World} {cv : Value} {ws : List Value} {k g : Nat} {W : World} (h : Lo kd N C wa va ca wn vn cn wc vc cc wl vl cl bx rb G g1 g2 k1 k2 W0 cv ws k W) (hg : W.heap.size ≤ g) : ∀ (j g' n c : Nat), ws[j]? = some (.slice (some ⟨g', 0, none⟩) n c) → g' ≠ g := fun j g' n c e => by
  have hl : ws.length = k := by have := h.ow.1; omega
  have hj : j < k := by have := (List.getElem?_eq_some_iff.1 e).1; omega
  obtain ⟨g0, cj, e1, e2, e3⟩ := h.ro j hj
  rw [e1] at e
  injection e with e; injection e with e _ _; injection e with e; injection e with e _ _
  obtain ⟨cur, h1, h2⟩ := e2.1
  have := lt_hp h1
  omega
theorem Lo.step {kd N C : Int} {wa va ca : Option Addr} {wn vn cn wc vc cc : Nat} {wl vl : List Int} {cl : List (List Int)} {bx rb G g1 g2 k1 k2 : Nat} {W0 : World} {cv cv' val : Value} {ws : List Value} {k g kc : Nat} {x w3 : World} (h : Lo kd N C wa va ca wn vn cn wc vc cc wl vl cl bx rb G g1 g2 k1 k2 W0 cv ws k x) (hi : IO W0.heap.size x g kc (cl[k]?.getD [])) (hg0 : W0.heap.size ≤ g) (hnw : ∀ (j g' n c : Nat), ws[j]? = some (.slice (some ⟨g', 0, none⟩) n c) → g' ≠ g) (hv : val = .slice (some ⟨g, 0, none⟩) (cl[k]?.getD []).length kc)
    (q : x.heap[bx]? = some (.cells #[.int .i64 kd, .int .i64 N, .int .i64 C, .slice wa wn wc, .slice va vn vc, .slice ca cn cc] 25 (0, 0)) ∧ x.heap[rb]? = some (.cells #[.int .i64 0, .int .i64 0, .int .i64 0, .slice none 0 0, .slice none 0 0, .slice none 0 0] 25 (0, 0)) ∧ Below W0.heap.size W0 x) (hbx : bx < W0.heap.size) (hrb : rb < W0.heap.size) (lg : W0.heap.size ≤ G)
    (hown : w3.ownsRow W0.heap.size 22 1 cv' (k + 1) (ws ++ [val])) (hgrow : (x.alloc (.cells #[val] 22)).grownBy w3 cv.ownBlock) :
    ((w3.heap[bx]? = some (.cells #[.int .i64 kd, .int .i64 N, .int .i64 C, .slice wa wn wc, .slice va vn vc, .slice ca cn cc] 25 (0, 0)) ∧ w3.heap[rb]? = some (.cells #[.int .i64 0, .int .i64 0, .int .i64 0, .slice none 0 0, .slice none 0 0, .slice none 0 0] 25 (0, 0)) ∧ Below W0.heap.size W0 w3) ∧ w3.heap[G]? = some (.cells #[.int .i64 kd, .int .i64 N, .int .i64 C, .slice (some ⟨g1, 0, none⟩) wl.length k1, .slice (some ⟨g2, 0, none⟩) vl.length k2, cv] 25 (0, 0))) ∧ ((w3.setCell ⟨G, 5, none⟩ cv').heap[bx]? = some (.cells #[.int .i64 kd, .int .i64 N, .int .i64 C, .slice wa wn wc, .slice va vn vc, .slice ca cn cc] 25 (0, 0)) ∧ (w3.setCell ⟨G, 5, none⟩ cv').heap[rb]? = some (.cells #[.int .i64 0, .int .i64 0, .int .i64 0, .slice none 0 0, .slice none 0 0, .slice none 0 0] 25 (0, 0)) ∧ Below W0.heap.size W0 (w3.setCell ⟨G, 5, none⟩ cv')) ∧ Lo kd N C wa va ca wn vn cn wc vc cc wl vl cl bx rb G g1 g2 k1 k2 W0 cv' (ws ++ [val]) (k + 1) (w3.setCell ⟨G, 5, none⟩ cv') := by
  have bA : Below x.heap.size x (x.alloc (.cells #[val] 22)) := bl_al (Below.refl _ _) _
  have ha := h.keep bA
  have blk : ∀ (b : Nat) (cs : Array Value) (t : TypeId), x.heap[b]? = some (.cells cs t (0, 0)) → t ≠ 22 → w3.heap[b]? = x.heap[b]? := fun b cs t e ht => by
    have hlt := lt_hp e
    rw [hgrow.block b (by simp; omega) (row_ne h.ow e ht)]
    exact bA.block b hlt
  have e0 : w3.heap[G]? = some (.cells #[.int .i64 kd, .int .i64 N, .int .i64 C, .slice (some ⟨g1, 0, none⟩) wl.length k1, .slice (some ⟨g2, 0, none⟩) vl.length k2, cv] 25 (0, 0)) := (blk _ _ _ h.o (by decide)).trans h.o
  have bl3 : Below W0.heap.size W0 w3 := by
    have b1 : Below W0.heap.size W0 (x.alloc (.cells #[val] 22)) := bl_tr q.2.2 bA
    exact b1.grown hgrow b1.size (fun j hj => (h.ow.lt j hj).1)
  have q3 : w3.heap[bx]? = some (.cells #[.int .i64 kd, .int .i64 N, .int .i64 C, .slice wa wn wc, .slice va vn vc, .slice ca cn cc] 25 (0, 0)) ∧ w3.heap[rb]? = some (.cells #[.int .i64 0, .int .i64 0, .int .i64 0, .slice none 0 0, .slice none 0 0, .slice none 0 0] 25 (0, 0)) ∧ Below W0.heap.size W0 w3 := ⟨(blk _ _ _ q.1 (by decide)).trans q.1, (blk _ _ _ q.2.1 (by decide)).trans q.2.1, bl3⟩
  have ot : ∀ b, b ≠ G → (w3.setCell ⟨G, 5, none⟩ cv').heap[b]? = w3.heap[b]? := fun b hb => heap_setCell_other _ ⟨G, 5, none⟩ b _ hb
  have io : ∀ (g k : Nat) (l : List Int), IO W0.heap.size x g k l → IO W0.heap.size (w3.setCell ⟨G, 5, none⟩ cv') g k l := fun g k l hg => by
    have hne : g ≠ G := hg.1.ne h.o (by decide)
    obtain ⟨⟨cur, c1, c2⟩, c3⟩ := hg
    exact ⟨⟨cur, (ot g hne).trans ((blk _ _ _ c1 (by decide)).trans c1), c2⟩, c3⟩
  refine ⟨⟨q3, e0⟩, ⟨(ot _ (by omega)).trans q3.1, (ot _ (by omega)).trans q3.2.1, bl3.setCell (p := ⟨G, 5, none⟩) lg _⟩, ?_⟩
  exact {
    o := heap_setCell_same w3 G 5 _ 25 cv' e0
    ow := hown.kept (row := some G) ⟨rfl, rfl, rfl, by simp [World.setCell], fun i _ hne => ot i (fun e => hne (by rw [e]))⟩ (Or.inr (Ne.symm (row_ne hown e0 (by decide))))
    ro := fun j hj => by
      rcases Nat.lt_or_ge j k with hlt | hge
      · obtain ⟨g', cj, e1, e2, e3⟩ := h.ro j hlt
        refine ⟨g', cj, ?_, io _ _ _ e2, e3⟩
        rw [List.getElem?_append_left]
        · exact e1
        · rcases Nat.lt_or_ge j ws.length with h' | h'
          · exact h'
          · rw [List.getElem?_eq_none h'] at e1; cases e1
      · obtain rfl : j = k := by omega
        have hl : ws.length = j := by have := h.ow.1; omega
        refine ⟨g, kc, ?_, io _ _ _ hi, hg0⟩
        rw [List.getElem?_append_right (by omega), hl, hv]
        simp
    i1 := io _ _ _ h.i1
    i2 := io _ _ _ h.i2
    sep := fun i j gi gj ni nj ci cj hij e1 e2 => by
      have hl : ws.length = k := by have := h.ow.1; omega
      have hj : j < k + 1 := by
        have := (List.getElem?_eq_some_iff.1 e2).1
        rw [List.length_append, hl] at this
        simpa using this
      have e1' : ws[i]? = some (.slice (some ⟨gi, 0, none⟩) ni ci) := by rw [List.getElem?_append_left (by omega)] at e1; exact e1
      rcases Nat.lt_or_ge j k with c | c
      · rw [List.getElem?_append_left (by omega)] at e2
        exact h.sep i j gi gj ni nj ci cj hij e1' e2
      · obtain rfl : j = k := by omega
        rw [List.getElem?_append_right (by omega), hl, hv] at e2
        simp at e2
        have := hnw i gi ni ci e1'
        omega }
theorem Lo.fin {kd N C : Int} {wa va ca : Option Addr} {wn vn cn wc vc cc : Nat} {wl vl : List Int} {cl : List (List Int)} {bx rb G g1 g2 k1 k2 : Nat} {W0 : World} {cv : Value} {ws : List Value} {w W : World} (h : Lo kd N C wa va ca wn vn cn wc vc cc wl vl cl bx rb G g1 g2 k1 k2 W0 cv ws cl.length W) (q : W.heap[bx]? = some (.cells #[.int .i64 kd, .int .i64 N, .int .i64 C, .slice wa wn wc, .slice va vn vc, .slice ca cn cc] 25 (0, 0)) ∧ W.heap[rb]? = some (.cells #[.int .i64 0, .int .i64 0, .int .i64 0, .slice none 0 0, .slice none 0 0, .slice none 0 0] 25 (0, 0)) ∧ Below W0.heap.size W0 W) (hs : RSrc W0 ca cn cc cl) (hrb : rb < W0.heap.size) (lg : W0.heap.size ≤ G) (bw : Below w.heap.size w W0) (hw : w.heap.size ≤ rb) :
    ((((((W.setCell ⟨rb, 0, none⟩ ((.int .i64 kd))).setCell ⟨rb, 1, none⟩ ((.int .i64 N))).setCell ⟨rb, 2, none⟩ ((.int .i64 C))).setCell ⟨rb, 3, none⟩ ((.slice (some ⟨g1, 0, none⟩) wl.length k1))).setCell ⟨rb, 4, none⟩ ((.slice (some ⟨g2, 0, none⟩) vl.length k2))).setCell ⟨rb, 5, none⟩ (cv)).heap[rb]? = some (.cells #[.int .i64 kd, .int .i64 N, .int .i64 C, .slice (some ⟨g1, 0, none⟩) wl.length k1, .slice (some ⟨g2, 0, none⟩) vl.length k2, cv] 25 (0, 0)) ∧ Below w.heap.size w ((((((W.setCell ⟨rb, 0, none⟩ ((.int .i64 kd))).setCell ⟨rb, 1, none⟩ ((.int .i64 N))).setCell ⟨rb, 2, none⟩ ((.int .i64 C))).setCell ⟨rb, 3, none⟩ ((.slice (some ⟨g1, 0, none⟩) wl.length k1))).setCell ⟨rb, 4, none⟩ ((.slice (some ⟨g2, 0, none⟩) vl.length k2))).setCell ⟨rb, 5, none⟩ (cv)) ∧ IO w.heap.size ((((((W.setCell ⟨rb, 0, none⟩ ((.int .i64 kd))).setCell ⟨rb, 1, none⟩ ((.int .i64 N))).setCell ⟨rb, 2, none⟩ ((.int .i64 C))).setCell ⟨rb, 3, none⟩ ((.slice (some ⟨g1, 0, none⟩) wl.length k1))).setCell ⟨rb, 4, none⟩ ((.slice (some ⟨g2, 0, none⟩) vl.length k2))).setCell ⟨rb, 5, none⟩ (cv)) g1 k1 wl ∧ IO w.heap.size ((((((W.setCell ⟨rb, 0, none⟩ ((.int .i64 kd))).setCell ⟨rb, 1, none⟩ ((.int .i64 N))).setCell ⟨rb, 2, none⟩ ((.int .i64 C))).setCell ⟨rb, 3, none⟩ ((.slice (some ⟨g1, 0, none⟩) wl.length k1))).setCell ⟨rb, 4, none⟩ ((.slice (some ⟨g2, 0, none⟩) vl.length k2))).setCell ⟨rb, 5, none⟩ (cv)) g2 k2 vl ∧ ∃ ca' cc', cv = .slice ca' cl.length cc' ∧ RwsC w.heap.size ((((((W.setCell ⟨rb, 0, none⟩ ((.int .i64 kd))).setCell ⟨rb, 1, none⟩ ((.int .i64 N))).setCell ⟨rb, 2, none⟩ ((.int .i64 C))).setCell ⟨rb, 3, none⟩ ((.slice (some ⟨g1, 0, none⟩) wl.length k1))).setCell ⟨rb, 4, none⟩ ((.slice (some ⟨g2, 0, none⟩) vl.length k2))).setCell ⟨rb, 5, none⟩ (cv)) ca' cc' cl := by
  have ot : ∀ b, b ≠ rb → ((((((W.setCell ⟨rb, 0, none⟩ ((.int .i64 kd))).setCell ⟨rb, 1, none⟩ ((.int .i64 N))).setCell ⟨rb, 2, none⟩ ((.int .i64 C))).setCell ⟨rb, 3, none⟩ ((.slice (some ⟨g1, 0, none⟩) wl.length k1))).setCell ⟨rb, 4, none⟩ ((.slice (some ⟨g2, 0, none⟩) vl.length k2))).setCell ⟨rb, 5, none⟩ (cv)).heap[b]? = W.heap[b]? := fun b hb => six_other hb (.int .i64 kd) (.int .i64 N) (.int .i64 C) (.slice (some ⟨g1, 0, none⟩) wl.length k1) (.slice (some ⟨g2, 0, none⟩) vl.length k2) cv
  have e0 := six q.2.1 (.int .i64 kd) (.int .i64 N) (.int .i64 C) (.slice (some ⟨g1, 0, none⟩) wl.length k1) (.slice (some ⟨g2, 0, none⟩) vl.length k2) cv
  have gb := six_grown W rb (.int .i64 kd) (.int .i64 N) (.int .i64 C) (.slice (some ⟨g1, 0, none⟩) wl.length k1) (.slice (some ⟨g2, 0, none⟩) vl.length k2) cv
  have bl := six_below (bw.trans (q.2.2.mono bw.size)) hw (.int .i64 kd) (.int .i64 N) (.int .i64 C) (.slice (some ⟨g1, 0, none⟩) wl.length k1) (.slice (some ⟨g2, 0, none⟩) vl.length k2) cv
  generalize ((((((W.setCell ⟨rb, 0, none⟩ ((.int .i64 kd))).setCell ⟨rb, 1, none⟩ ((.int .i64 N))).setCell ⟨rb, 2, none⟩ ((.int .i64 C))).setCell ⟨rb, 3, none⟩ ((.slice (some ⟨g1, 0, none⟩) wl.length k1))).setCell ⟨rb, 4, none⟩ ((.slice (some ⟨g2, 0, none⟩) vl.length k2))).setCell ⟨rb, 5, none⟩ (cv)) = Wf at *
  have io : ∀ (g k : Nat) (l : List Int), IO W0.heap.size W g k l → IO w.heap.size Wf g k l := fun g k l hg => ⟨hg.1.same (ot g (hg.1.ne q.2.1 (by decide))), hg.2.1, hg.2.2.1, Nat.le_trans bw.size hg.2.2.2⟩
  have ow : Wf.ownsRow W0.heap.size 22 1 cv cl.length ws := h.ow.kept (row := some rb) gb (Or.inr (Ne.symm (row_ne h.ow q.2.1 (by decide))))
  refine ⟨e0, bl, io _ _ _ h.i1, io _ _ _ h.i2, ?_⟩
  have hcell := fun g cap (e : cv = .slice (some ⟨g, 0, none⟩) cl.length cap) => (e ▸ ow : Wf.ownsRow W0.heap.size 22 1 (.slice (some ⟨g, 0, none⟩) cl.length cap) cl.length ws).cellAt
  rcases ow.2 with ⟨e, z0⟩ | ⟨g, cap, cur, e, hb, hg, p1, p2, _⟩
  · subst e
    exact ⟨none, 0, by rw [z0], ⟨by omega, by omega, ⟨fun _ => rfl, fun _ h => by cases h⟩, fun i j _ _ _ _ _ _ _ _ hij hj => absurd hj (by omega)⟩, fun j hj => absurd hj (by omega)⟩
  · refine ⟨some ⟨g, 0, none⟩, cap, e, ⟨by omega, by unfold maxLen at *; omega, ⟨fun h => (by cases h), fun g0 h => by injection h with h; injection h with h _ _; subst h; exact Nat.le_trans bw.size hb⟩, fun i j g2' cur' gi ni ci gj nj cj hij hj eg hg' e1 e2 => by
      injection eg with eg; injection eg with eg _ _; subst eg
      rw [hg] at hg'; injection hg' with hg'; injection hg' with hg' _ _; subst hg'
      have hki := hcell g cap e i (by omega)
      have hkj := hcell g cap e j (by omega)
      rw [cell_of_row _ _ _ _ _ _ hg, e1] at hki
      rw [cell_of_row _ _ _ _ _ _ hg, e2] at hkj
      exact h.sep i j gi gj ni nj ci cj hij hki.symm hkj.symm⟩, fun j hj => ?_⟩
    obtain ⟨g', cj, e1, e2, e3⟩ := h.ro j hj
    have hk := hcell g cap e j (by omega)
    rw [cell_of_row _ _ _ _ _ _ hg] at hk
    refine ⟨g, cur, g', cj, rfl, hg, hk.trans e1, io _ _ _ e2, ?_, Nat.le_trans bw.size e3⟩
    obtain ⟨s1, s2, s3, s4⟩ := hs
    rcases s4 with ⟨s4, _⟩ | ⟨b, o, _, _, s4⟩
    · omega
    · obtain ⟨aj, nj, cj', _, s5⟩ := s4 j hj
      have := s5.1
      omega
/-- what the reference's Copy leaves -/
def cpost (kd N C : Int) (wl vl : List Int) (cl : List (List Int)) (w : World) : Ending → World → Prop := fun e w' => ∃ (g1 k1 g2 k2 : Nat) (ca' : Option Addr) (cc' : Nat), e = .returned (.agg #[.int .i64 kd, .int .i64 N, .int .i64 C, .slice (some ⟨g1, 0, none⟩) wl.length k1, .slice (some ⟨g2, 0, none⟩) vl.length k2, .slice ca' cl.length cc']) ∧ Below w.heap.size w w' ∧ IO w.heap.size w' g1 k1 wl ∧ IO w.heap.size w' g2 k2 vl ∧ RwsC w.heap.size w' ca' cc' cl
theorem cp_post {kd N C : Int} {wl vl : List Int} {cl : List (List Int)} {g1 k1 g2 k2 rb : Nat} {cv : Value} {w W : World} (h : W.heap[rb]? = some (.cells #[.int .i64 kd, .int .i64 N, .int .i64 C, .slice (some ⟨g1, 0, none⟩) wl.length k1, .slice (some ⟨g2, 0, none⟩) vl.length k2, cv] 25 (0, 0)) ∧ Below w.heap.size w W ∧ IO w.heap.size W g1 k1 wl ∧ IO w.heap.size W g2 k2 vl ∧ ∃ ca' cc', cv = .slice ca' cl.length cc' ∧ RwsC w.heap.size W ca' cc' cl) :
    ∃ (g1' k1' g2' k2' : Nat) (ca' : Option Addr) (cc' : Nat), Ending.returned (.agg #[.int .i64 kd, .int .i64 N, .int .i64 C, .slice (some ⟨g1, 0, none⟩) wl.length k1, .slice (some ⟨g2, 0, none⟩) vl.length k2, cv]) = .returned (.agg #[.int .i64 kd, .int .i64 N, .int .i64 C, .slice (some ⟨g1', 0, none⟩) wl.length k1', .slice (some ⟨g2', 0, none⟩) vl.length k2', .slice ca' cl.length cc']) ∧ Below w.heap.size w W ∧ IO w.heap.size W g1' k1' wl ∧ IO w.heap.size W g2' k2' vl ∧ RwsC w.heap.size W ca' cc' cl := by
  obtain ⟨_, h2, h3, h4, ca', cc', rfl, h5⟩ := h
  exact ⟨g1, k1, g2, k2, ca', cc', rfl, h2, h3, h4, h5⟩
set_option linter.unusedVariables false

set_option maxRecDepth 1000000 in
set_option maxHeartbeats 4000000 in
theorem refcopy_any (kd N C : Int) (wl vl : List Int) (cl : List (List Int)) (wa va ca : Option Addr) (wn vn cn wc vc cc : Nat) (w : World) (h1 : Src w wa wn wc wl) (h2 : Src w va vn vc vl) (h3 : RSrc w ca cn cc cl) :
    Calls Try.prog 7 #[.agg #[.int .i64 kd, .int .i64 N, .int .i64 C, .slice wa wn wc, .slice va vn vc, .slice ca cn cc]] w (cpost kd N C wl vl cl w) := by
  obtain ⟨i0, hi, hz0, hz1, hz2⟩ := info_parts info22
  have bA : Below w.heap.size w ((w.alloc (.cells #[.int .i64 kd, .int .i64 N, .int .i64 C, .slice wa wn wc, .slice va vn vc, .slice ca cn cc] 25)).alloc (.cells #[.int .i64 0, .int .i64 0, .int .i64 0, .slice none 0 0, .slice none 0 0, .slice none 0 0] 25)) := bl_al (bl_al (Below.refl _ _) _) _
  have HS1 := Lib.hid (h1.keep bA)
  have HS2 := Lib.hid (h2.keep bA)
  have HS3 := Lib.hid (h3.keep bA)
  have BW := Lib.hid bA
  clear h1 h2 h3 bA
  go_enter Try.func7, Try.ntmps7
  go_wp2
  have S0 : ((w.alloc (.cells #[.int .i64 kd, .int .i64 N, .int .i64 C, .slice wa wn wc, .slice va vn vc, .slice ca cn cc] 25)).alloc (.cells #[.int .i64 0, .int .i64 0, .int .i64 0, .slice none 0 0, .slice none 0 0, .slice none 0 0] 25)).heap[w.heap.size]? = some (.cells #[.int .i64 kd, .int .i64 N, .int .i64 C, .slice wa wn wc, .slice va vn vc, .slice ca cn cc] 25 (0, 0)) ∧ ((w.alloc (.cells #[.int .i64 kd, .int .i64 N, .int .i64 C, .slice wa wn wc, .slice va vn vc, .slice ca cn cc] 25)).alloc (.cells #[.int .i64 0, .int .i64 0, .int .i64 0, .slice none 0 0, .slice none 0 0, .slice none 0 0] 25)).heap[(w.heap.size + 1)]? = some (.cells #[.int .i64 0, .int .i64 0, .int .i64 0, .slice none 0 0, .slice none 0 0, .slice none 0 0] 25 (0, 0)) ∧ Below ((w.alloc (.cells #[.int .i64 kd, .int .i64 N, .int .i64 C, .slice wa wn wc, .slice va vn vc, .slice ca cn cc] 25)).alloc (.cells #[.int .i64 0, .int .i64 0, .int .i64 0, .slice none 0 0, .slice none 0 0, .slice none 0 0] 25)).heap.size ((w.alloc (.cells #[.int .i64 kd, .int .i64 N, .int .i64 C, .slice wa wn wc, .slice va vn vc, .slice ca cn cc] 25)).alloc (.cells #[.int .i64 0, .int .i64 0, .int .i64 0, .slice none 0 0, .slice none 0 0, .slice none 0 0] 25)) ((w.alloc (.cells #[.int .i64 kd, .int .i64 N, .int .i64 C, .slice wa wn wc, .slice va vn vc, .slice ca cn cc] 25)).alloc (.cells #[.int .i64 0, .int .i64 0, .int .i64 0, .slice none 0 0, .slice none 0 0, .slice none 0 0] 25)) := ⟨heap_alloc2_old w _ _, heap_alloc2_new w _ _, Below.refl _ _⟩
  have hbx : w.heap.size < ((w.alloc (.cells #[.int .i64 kd, .int .i64 N, .int .i64 C, .slice wa wn wc, .slice va vn vc, .slice ca cn cc] 25)).alloc (.cells #[.int .i64 0, .int .i64 0, .int .i64 0, .slice none 0 0, .slice none 0 0, .slice none 0 0] 25)).heap.size := by simp; omega
  have hrb : w.heap.size + 1 < ((w.alloc (.cells #[.int .i64 kd, .int .i64 N, .int .i64 C, .slice wa wn wc, .slice va vn vc, .slice ca cn cc] 25)).alloc (.cells #[.int .i64 0, .int .i64 0, .int .i64 0, .slice none 0 0, .slice none 0 0, .slice none 0 0] 25)).heap.size := by simp
  generalize ((w.alloc (.cells #[.int .i64 kd, .int .i64 N, .int .i64 C, .slice wa wn wc, .slice va vn vc, .slice ca cn cc] 25)).alloc (.cells #[.int .i64 0, .int .i64 0, .int .i64 0, .slice none 0 0, .slice none 0 0, .slice none 0 0] 25)) = W0 at S0 HS1 HS2 HS3 BW hbx hrb ⊢
  generalize hb0 : w.heap.size = bx at S0 hbx hrb ⊢
  generalize hb1 : bx + 1 = rb at S0 hrb ⊢
  have hwrb : w.heap.size ≤ rb := by omega
  refine wp_region_held_drew (S := fun w' => w'.heap[bx]? = some (.cells #[.int .i64 kd, .int .i64 N, .int .i64 C, .slice wa wn wc, .slice va vn vc, .slice ca cn cc] 25 (0, 0)) ∧ w'.heap[rb]? = some (.cells #[.int .i64 0, .int .i64 0, .int .i64 0, .slice none 0 0, .slice none 0 0, .slice none 0 0] 25 (0, 0)) ∧ Below W0.heap.size W0 w') (by kernel_rfl) ⟨S0.1, S0.2.1, S0.2.2.drew⟩ (fun hHeld => ?_)
  clear S0
  refine wpAnyH_take (i := 0) (v := ?vu1) (by rw [List.getElem?_toArray]; rfl) (by kernel_rfl) (by kernel_rfl) (by kernel_rfl) ?qu1 (Or.inl ⟨by rfl, ?yu1⟩) (by assumption) ?ru1
  case qu1 => exact fun _ _ _ h => h
  case yu1 => (intro wz hSw; go_simp; try (with_reducible rfl))
  simp only [Act.put, List.setIfInBounds_toArray, List.set_cons_zero, List.set_cons_succ]
  refine wpAnyH_take (i := 1) (v := ?vu2) (by rw [List.getElem?_toArray]; rfl) (by kernel_rfl) (by kernel_rfl) (by kernel_rfl) ?qu2 (Or.inl ⟨by rfl, ?yu2⟩) (by assumption) ?ru2
  case qu2 => exact fun _ _ _ h => h
  case yu2 => (intro wz hSw; obtain ⟨q0, q1, q2, q3, q4, q5⟩ := box6 hSw.1; go_simp; try (with_reducible rfl))
  simp only [Act.put, List.setIfInBounds_toArray, List.set_cons_zero, List.set_cons_succ]
  refine wpAnyH_take (i := 2) (v := ?vu3) (by rw [List.getElem?_toArray]; rfl) (by kernel_rfl) (by kernel_rfl) (by kernel_rfl) ?qu3 (Or.inl ⟨by rfl, ?yu3⟩) (by assumption) ?ru3
  case qu3 => exact fun _ _ _ h => h
  case yu3 => (intro wz hSw; go_simp; try (with_reducible rfl))
  simp only [Act.put, List.setIfInBounds_toArray, List.set_cons_zero, List.set_cons_succ]
  refine wpAnyH_take (i := 3) (v := ?vu4) (by rw [List.getElem?_toArray]; rfl) (by kernel_rfl) (by kernel_rfl) (by kernel_rfl) ?qu4 (Or.inl ⟨by rfl, ?yu4⟩) (by assumption) ?ru4
  case qu4 => exact fun _ _ _ h => h
  case yu4 => (intro wz hSw; obtain ⟨q0, q1, q2, q3, q4, q5⟩ := box6 hSw.1; go_simp; try (with_reducible rfl))
  simp only [Act.put, List.setIfInBounds_toArray, List.set_cons_zero, List.set_cons_succ]
  refine wpAnyH_take (i := 4) (v := ?vu5) (by rw [List.getElem?_toArray]; rfl) (by kernel_rfl) (by kernel_rfl) (by kernel_rfl) ?qu5 (Or.inl ⟨by rfl, ?yu5⟩) (by assumption) ?ru5
  case qu5 => exact fun _ _ _ h => h
  case yu5 => (intro wz hSw; go_simp; try (with_reducible rfl))
  simp only [Act.put, List.setIfInBounds_toArray, List.set_cons_zero, List.set_cons_succ]
  refine wpAnyH_take (i := 5) (v := ?vu6) (by rw [List.getElem?_toArray]; rfl) (by kernel_rfl) (by kernel_rfl) (by kernel_rfl) ?qu6 (Or.inl ⟨by rfl, ?yu6⟩) (by assumption) ?ru6
  case qu6 => exact fun _ _ _ h => h
  case yu6 => (intro wz hSw; obtain ⟨q0, q1, q2, q3, q4, q5⟩ := box6 hSw.1; go_simp; try (with_reducible rfl))
  simp only [Act.put, List.setIfInBounds_toArray, List.set_cons_zero, List.set_cons_succ]
  refine wpAnyH_take (i := 6) (v := ?vu7) (by rw [List.getElem?_toArray]; rfl) (by kernel_rfl) (by kernel_rfl) (by kernel_rfl) ?qu7 (Or.inl ⟨by rfl, ?yu7⟩) (by assumption) ?ru7
  case qu7 => exact fun _ _ _ h => h
  case yu7 => (intro wz hSw; go_simp; try (with_reducible rfl))
  simp only [Act.put, List.setIfInBounds_toArray, List.set_cons_zero, List.set_cons_succ]
  refine wpAnyH_take (i := 7) (v := ?vu8) (by rw [List.getElem?_toArray]; rfl) (by kernel_rfl) (by kernel_rfl) (by kernel_rfl) ?qu8 (Or.inl ⟨by rfl, ?yu8⟩) (by assumption) ?ru8
  case qu8 => exact fun _ _ _ h => h
  case yu8 => (intro wz hSw; obtain ⟨q0, q1, q2, q3, q4, q5⟩ := box6 hSw.1; go_simp; try (with_reducible rfl))
  simp only [Act.put, List.setIfInBounds_toArray, List.set_cons_zero, List.set_cons_succ]
  refine wpAnyH_take (i := 9) (v := ?vu9) (by rw [List.getElem?_toArray]; rfl) (by kernel_rfl) (by kernel_rfl) (by kernel_rfl) ?qu9 (Or.inl ⟨by rfl, ?yu9⟩) (by assumption) ?ru9
  case qu9 => exact fun _ _ _ h => h
  case yu9 => (intro wz hSw; go_simp; try (with_reducible rfl))
  simp only [Act.put, List.setIfInBounds_toArray, List.set_cons_zero, List.set_cons_succ]
  refine wpAnyH_take (i := 10) (v := ?vu10) (by rw [List.getElem?_toArray]; rfl) (by kernel_rfl) (by kernel_rfl) (by kernel_rfl) ?qu10 (Or.inl ⟨by rfl, ?yu10⟩) (by assumption) ?ru10
  case qu10 => exact fun _ _ _ h => h
  case yu10 => (intro wz hSw; obtain ⟨q0, q1, q2, q3, q4, q5⟩ := box6 hSw.1; go_simp; try (with_reducible rfl))
  simp only [Act.put, List.setIfInBounds_toArray, List.set_cons_zero, List.set_cons_succ]
  refine wpAnyH_ready (rs := [8, 13]) (by kernel_rfl) (by simp) ?_
  refine AllReadyH.cons (by rw [List.getElem?_toArray]; rfl) (fun K hK => ?_) (AllReadyH.cons (by rw [List.getElem?_toArray]; rfl) (fun K hK => ?_) AllReadyH.nil)
  · have hHid := Lib.hid hHeld
    clear hHeld
    go_simp
    go_at_call 18; refine (cut_srcC (HS1.out.keep hHid.out.2.2) hHid.out.2.2.size).mono ?_; rintro e xu11 ⟨g1, k1, rfl, hb, I1u, -⟩
    have I1 := Lib.hid I1u
    have hNew := Lib.hid (cp_more hb hHid.out)
    clear hb hHid I1u
    go_wp2_with fail
    refine hK.out _ _ hNew.out (fun hHeld => ?_)
    clear hK K hNew
    refine wpAnyH_ready (rs := [11, 13]) (by kernel_rfl) (by simp) ?_
    refine AllReadyH.cons (by rw [List.getElem?_toArray]; rfl) (fun K hK => ?_) (AllReadyH.cons (by rw [List.getElem?_toArray]; rfl) (fun K hK => ?_) AllReadyH.nil)
    · have hHid := Lib.hid hHeld
      clear hHeld
      go_simp
      go_at_call 18; refine (cut_srcC (HS2.out.keep hHid.out.2.2) hHid.out.2.2.size).mono ?_; rintro e xu12 ⟨g2, k2, rfl, hb, I2u, -⟩
      have I2 := Lib.hid I2u
      have hNew := Lib.hid (cp_more hb hHid.out)
      have I1x := Lib.hid (I1.out.keep hb)
      clear I1
      have I1 := I1x
      clear I1x
      clear hb hHid I2u
      go_wp2_with fail
      refine hK.out _ _ hNew.out (fun hHeld => ?_)
      clear hK K hNew
      refine wpAnyH_take (i := 12) (v := ?vu13) (by rw [List.getElem?_toArray]; rfl) (by kernel_rfl) (by kernel_rfl) (by kernel_rfl) ?qu13 (Or.inl ⟨by rfl, ?yu13⟩) (by assumption) ?ru13
      case qu13 => exact fun _ _ _ h => h
      case yu13 => (intro wz hSw; go_simp; try (with_reducible rfl))
      simp only [Act.put, List.setIfInBounds_toArray, List.set_cons_zero, List.set_cons_succ]
      refine wpAnyH_ready (rs := [13]) (by kernel_rfl) (by simp) ?_
      refine AllReadyH.cons (by rw [List.getElem?_toArray]; rfl) (fun K hK => ?_) AllReadyH.nil
      have hHid0 := Lib.hid hHeld
      clear hHeld
      go_simp
      refine hK.out _ _ (cp_alloc hHid0.out _) (fun hHeld => ?_)
      clear hK K
      have PA := Lib.hid (heap_alloc_new xu12 (.cells #[.int .i64 0, .int .i64 0, .int .i64 0, .slice none 0 0, .slice none 0 0, .slice none 0 0] 25))
      refine wpAnyH_ready (rs := [14]) (by kernel_rfl) (by simp) ?_
      refine AllReadyH.cons (by rw [List.getElem?_toArray]; rfl) (fun K hK => ?_) AllReadyH.nil
      obtain ⟨z0, z1, z2, z3, z4, z5⟩ := box6 PA.out
      have zf := fr6 PA.out
      clear hHeld
      go_simp
      refine hK.out _ _ (cp_alloc hHid0.out _) (fun hHeld => ?_)
      have T := Lib.hid (heap_alloc_new xu12 (.cells #[.int .i64 kd, .int .i64 N, .int .i64 C, .slice (some ⟨g1, 0, none⟩) wl.length k1, .slice (some ⟨g2, 0, none⟩) vl.length k2, .slice none 0 0] 25))
      have BT := Lib.hid (cp_alloc hHid0.out (.cells #[.int .i64 kd, .int .i64 N, .int .i64 C, .slice (some ⟨g1, 0, none⟩) wl.length k1, .slice (some ⟨g2, 0, none⟩) vl.length k2, .slice none 0 0] 25))
      have J1 := Lib.hid (I1.out.keep (bl_al (Below.refl _ _) (.cells #[.int .i64 kd, .int .i64 N, .int .i64 C, .slice (some ⟨g1, 0, none⟩) wl.length k1, .slice (some ⟨g2, 0, none⟩) vl.length k2, .slice none 0 0] 25)))
      have J2 := Lib.hid (I2.out.keep (bl_al (Below.refl _ _) (.cells #[.int .i64 kd, .int .i64 N, .int .i64 C, .slice (some ⟨g1, 0, none⟩) wl.length k1, .slice (some ⟨g2, 0, none⟩) vl.length k2, .slice none 0 0] 25)))
      have LG : Hid (W0.heap.size ≤ xu12.heap.size) := hHid0.out.2.2.size
      clear hK K z0 z1 z2 z3 z4 z5 zf hHeld hHid0 PA I1 I2
      refine wpAnyH_done (by kernel_rfl) ?_ _
      go_wp2
      have LO : Hid (Lo kd N C wa va ca wn vn cn wc vc cc wl vl cl bx rb xu12.heap.size g1 g2 k1 k2 W0 (.slice none 0 0) [] 0 _) := { o := T.out, ow := World.ownsRow_nil _ _ _ _, ro := fun j hj => absurd hj (by omega), i1 := J1.out, i2 := J2.out, sep := fun i j gi gj ni nj ci cj _ e1 _ => by simp at e1 }
      clear T J1 J2
      go_loopw [4] (fun i wr => ∃ k : Nat, k ≤ cl.length ∧ i = .int .i64 k ∧ Hid (wr.heap[bx]? = some (.cells #[.int .i64 kd, .int .i64 N, .int .i64 C, .slice wa wn wc, .slice va vn vc, .slice ca cn cc] 25 (0, 0)) ∧ wr.heap[rb]? = some (.cells #[.int .i64 0, .int .i64 0, .int .i64 0, .slice none 0 0, .slice none 0 0, .slice none 0 0] 25 (0, 0)) ∧ Below W0.heap.size W0 wr) ∧ ∃ cv ws, Hid (Lo kd N C wa va ca wn vn cn wc vc cc wl vl cl bx rb xu12.heap.size g1 g2 k1 k2 W0 cv ws k wr)) (fun i _ => cl.length - (intOf i).toNat)
      case atStart => exact ⟨0, by omega, rfl, BT, _, _, LO⟩
      case round =>
        clear BT LO
        obtain ⟨k, hk, rfl, Q, cv, ws, L⟩ := hrel
        have hcl := HS3.out.1
        obtain ⟨b0, b1, b2, b3, b4, b5⟩ := box6 Q.out.1
        by_cases hlt : k < cl.length
        · have hkn : k < cn := by omega
          have hk30 : (k : Int) < 30 := by omega
          have hkc : (0 : Int) ≤ (k : Int) ∧ (k : Int) < (cn : Int) := by omega
          obtain ⟨-, hnc, hc63, hs⟩ := HS3.out
          rcases hs with ⟨h0, _⟩ | ⟨b, o, rfl, hbW, hrows⟩
          · omega
          · obtain ⟨aj, nj, cj, hrow, hsrc⟩ := hrows k hlt
            clear hrows
            obtain ⟨row, hrw⟩ : ∃ r, cl[k]?.getD [] = r := ⟨_, rfl⟩
            have HG := Lib.hid hrw
            rw [hrw] at hsrc
            clear hrw hcl
            have SR := Lib.hid hsrc
            have RW := Lib.hid hrow
            have lgW : xu12.heap.size < wr.heap.size := lt_hp L.out.o
            obtain ⟨d0, d1, d2, d3, d4, d5⟩ := box6 L.out.o
            clear hsrc hrow
            have K0 := Lib.hid (cp_drew Q.out)
            have L0 := Lib.hid (L.out.keep (Below.refl _ _).drew)
            go_wp2
            refine wp_region_held_drew (S := fun w' => w'.cell? ⟨bx, 5, none⟩ = some (.slice (some ⟨b, o, none⟩) cn cc) ∧ w'.cell? ⟨b, o + k, none⟩ = some (.slice aj nj cj)) (by kernel_rfl) (cp_S K0.out RW.out hbW) (fun hHeld => ?_)
            refine wpAnyH_take (i := 0) (v := ?vu17) (by rw [List.getElem?_toArray]; rfl) (by kernel_rfl) (by kernel_rfl) (by kernel_rfl) ?qu17 (Or.inl ⟨by rfl, ?yu17⟩) (by assumption) ?ru17
            case qu17 => exact fun _ _ _ h => h
            case yu17 => (intro wz hSw; go_simp; try (with_reducible rfl))
            simp only [Act.put, List.setIfInBounds_toArray, List.set_cons_zero, List.set_cons_succ]
            refine wpAnyH_take (i := 2) (v := ?vu18) (by rw [List.getElem?_toArray]; rfl) (by kernel_rfl) (by kernel_rfl) (by kernel_rfl) ?qu18 (Or.inl ⟨by rfl, ?yu18⟩) (by assumption) ?ru18
            case qu18 => exact fun _ _ _ h => h
            case yu18 => (intro wz hSw; go_simp; try (with_reducible rfl))
            simp only [Act.put, List.setIfInBounds_toArray, List.set_cons_zero, List.set_cons_succ]
            refine wpAnyH_take (i := 3) (v := ?vu19) (by rw [List.getElem?_toArray]; rfl) (by kernel_rfl) (by kernel_rfl) (by kernel_rfl) ?qu19 (Or.inl ⟨by rfl, ?yu19⟩) (by assumption) ?ru19
            case qu19 => exact fun _ _ _ h => h
            case yu19 => (intro wz hSw; obtain ⟨q0, q1⟩ := hSw; go_simp; try (with_reducible rfl))
            simp only [Act.put, List.setIfInBounds_toArray, List.set_cons_zero, List.set_cons_succ]
            refine wpAnyH_take (i := 4) (v := ?vu20) (by rw [List.getElem?_toArray]; rfl) (by kernel_rfl) (by kernel_rfl) (by kernel_rfl) ?qu20 (Or.inl ⟨by rfl, ?yu20⟩) (by assumption) ?ru20
            case qu20 => exact fun _ _ _ h => h
            case yu20 => (intro wz hSw; go_simp; try (with_reducible rfl))
            simp only [Act.put, List.setIfInBounds_toArray, List.set_cons_zero, List.set_cons_succ]
            refine wpAnyH_take (i := 5) (v := ?vu21) (by rw [List.getElem?_toArray]; rfl) (by kernel_rfl) (by kernel_rfl) (by kernel_rfl) ?qu21 (Or.inl ⟨by rfl, ?yu21⟩) (by assumption) ?ru21
            case qu21 => exact fun _ _ _ h => h
            case yu21 => (intro wz hSw; go_simp; try (with_reducible rfl))
            simp only [Act.put, List.setIfInBounds_toArray, List.set_cons_zero, List.set_cons_succ]
            refine wpAnyH_take (i := 6) (v := ?vu22) (by rw [List.getElem?_toArray]; rfl) (by kernel_rfl) (by kernel_rfl) (by kernel_rfl) ?qu22 (Or.inl ⟨by rfl, ?yu22⟩) (by assumption) ?ru22
            case qu22 => exact fun _ _ _ h => h
            case yu22 => (intro wz hSw; obtain ⟨q0, q1⟩ := hSw; go_simp; try (with_reducible rfl))
            simp only [Act.put, List.setIfInBounds_toArray, List.set_cons_zero, List.set_cons_succ]
            refine wpAnyH_ready (rs := [1, 7]) (by kernel_rfl) (by simp) ?_
            refine AllReadyH.cons (by rw [List.getElem?_toArray]; rfl) (fun K hK => ?_) (AllReadyH.cons (by rw [List.getElem?_toArray]; rfl) (fun K hK => ?_) AllReadyH.nil)
            · have hHid := Lib.hid hHeld
              clear hHeld
              go_simp
              refine hK.out _ _ hHid.out (fun hHeld => ?_)
              clear hK K hHid
              refine wpAnyH_ready (rs := [7]) (by kernel_rfl) (by simp) ?_
              refine AllReadyH.cons (by rw [List.getElem?_toArray]; rfl) (fun K hK => ?_) AllReadyH.nil
              clear hHeld
              go_simp
              go_at_call 18; refine (cut_srcC (SR.out.keep K0.out.2.2) K0.out.2.2.size).mono ?_; rintro e x ⟨g, kc, rfl, hb, Iu, gu⟩
              have GW := Lib.hid (Nat.le_trans K0.out.2.2.size gu)
              have K1 := Lib.hid (cp_more hb K0.out)
              have L1 := Lib.hid (L0.out.keep hb)
              have NW := Lib.hid (Lo.news L0.out gu)
              have IG := Lib.hid Iu
              have e5 := (box6 L1.out.o).2.2.2.2.2
              have lgx : xu12.heap.size < x.heap.size := lt_hp L1.out.o
              clear hb Iu gu
              go_wp2_with fail
              refine hK.out _ _ (cp_S K1.out RW.out hbW) (fun hHeld => ?_)
              clear hK K
              refine wpAnyH_ready (rs := [8]) (by kernel_rfl) (by simp) ?_
              refine AllReadyH.cons (by rw [List.getElem?_toArray]; rfl) (fun K hK => ?_) AllReadyH.nil
              clear hHeld
              go_simp
              refine hK.out _ _ (cp_S (cp_alloc K1.out _) RW.out hbW) (fun hHeld => ?_)
              clear hK K
              refine wpAnyH_ready (rs := [9]) (by kernel_rfl) (by simp) ?_
              refine AllReadyH.cons (by rw [List.getElem?_toArray]; rfl) (fun K hK => ?_) AllReadyH.nil
              clear hHeld
              refine step_append_lies _ (by rfl) _ _ _ (by rfl) W0.heap.size 22 i0 (.slice none 0 0) 1 24 Try.underlying23 hi hz0 hz1 hz2 rfl (by omega) cv k ws (by rfl) (L1.out.ow.alloc _) ⟨x.heap.size, 0, none⟩ 1 1 [.slice (some ⟨g, 0, none⟩) row.length kc] (by rfl) rfl (cell_one_new _ _ _) (by simp [Value.oneCell']) (by omega) (by unfold maxLen; omega) (by omega) (by have := K1.out.2.2.size; simp; omega) (x.heap.size + 1) (by simp) ?_
              intro g3 cap3 w3 hown3 hgrow3 hat3 hlt3
              have P := Lo.step L1.out (by rw [HG.out]; exact IG.out) GW.out NW.out (by rw [HG.out]) K1.out hbx hrb LG.out hown3 hgrow3
              have K2 := Lib.hid P.1.1
              have K3 := Lib.hid P.2.1
              have L3 := Lib.hid P.2.2
              have t5 := (box6 P.1.2).2.2.2.2.2
              have f5 := fr6 P.1.2 5
              clear P hown3 hgrow3 hat3
              simp only [Act.put, List.setIfInBounds_toArray, List.set_cons_zero, List.set_cons_succ]
              refine hK.out _ _ (cp_S K2.out RW.out hbW) (fun hHeld => ?_)
              clear hK K
              refine wpAnyH_take (i := 10) (v := ?vu14) (by rw [List.getElem?_toArray]; rfl) (by kernel_rfl) (by kernel_rfl) (by kernel_rfl) ?qu14 (Or.inl ⟨by rfl, ?yu14⟩) (by assumption) ?ru14
              case qu14 => exact fun _ _ _ h => h
              case yu14 => (intro wz hSw; go_simp; try (with_reducible rfl))
              simp only [Act.put, List.setIfInBounds_toArray, List.set_cons_zero, List.set_cons_succ]
              refine wpAnyH_ready (rs := [11]) (by kernel_rfl) (by simp) ?_
              refine AllReadyH.cons (by rw [List.getElem?_toArray]; rfl) (fun K hK => ?_) AllReadyH.nil
              clear hHeld
              go_simp
              refine hK.out _ _ (cp_S K3.out RW.out hbW) (fun hHeld => ?_)
              clear hK K t5 f5
              refine wpAnyH_done (by kernel_rfl) ?_ _
              clear hHeld
              go_wp2
              go_roundw
              case rel => exact ⟨k + 1, by omega, by go_num, K3, _, _, L3⟩
              case measure => simp [intOf]; omega
            · clear hHeld
              go_simp
              go_at_call 18; refine (cut_srcC (SR.out.keep K0.out.2.2) K0.out.2.2.size).mono ?_; rintro e x ⟨g, kc, rfl, hb, Iu, gu⟩
              have GW := Lib.hid (Nat.le_trans K0.out.2.2.size gu)
              have K1 := Lib.hid (cp_more hb K0.out)
              have L1 := Lib.hid (L0.out.keep hb)
              have NW := Lib.hid (Lo.news L0.out gu)
              have IG := Lib.hid Iu
              have e5 := (box6 L1.out.o).2.2.2.2.2
              have lgx : xu12.heap.size < x.heap.size := lt_hp L1.out.o
              clear hb Iu gu
              go_wp2_with fail
              refine hK.out _ _ (cp_S K1.out RW.out hbW) (fun hHeld => ?_)
              clear hK K
              refine wpAnyH_ready (rs := [1, 8]) (by kernel_rfl) (by simp) ?_
              refine AllReadyH.cons (by rw [List.getElem?_toArray]; rfl) (fun K hK => ?_) (AllReadyH.cons (by rw [List.getElem?_toArray]; rfl) (fun K hK => ?_) AllReadyH.nil)
              · have hHid := Lib.hid hHeld
                clear hHeld
                go_simp
                refine hK.out _ _ hHid.out (fun hHeld => ?_)
                clear hK K hHid
                refine wpAnyH_ready (rs := [8]) (by kernel_rfl) (by simp) ?_
                refine AllReadyH.cons (by rw [List.getElem?_toArray]; rfl) (fun K hK => ?_) AllReadyH.nil
                clear hHeld
                go_simp
                refine hK.out _ _ (cp_S (cp_alloc K1.out _) RW.out hbW) (fun hHeld => ?_)
                clear hK K
                refine wpAnyH_ready (rs := [9]) (by kernel_rfl) (by simp) ?_
                refine AllReadyH.cons (by rw [List.getElem?_toArray]; rfl) (fun K hK => ?_) AllReadyH.nil
                clear hHeld
                refine step_append_lies _ (by rfl) _ _ _ (by rfl) W0.heap.size 22 i0 (.slice none 0 0) 1 24 Try.underlying23 hi hz0 hz1 hz2 rfl (by omega) cv k ws (by rfl) (L1.out.ow.alloc _) ⟨x.heap.size, 0, none⟩ 1 1 [.slice (some ⟨g, 0, none⟩) row.length kc] (by rfl) rfl (cell_one_new _ _ _) (by simp [Value.oneCell']) (by omega) (by unfold maxLen; omega) (by omega) (by have := K1.out.2.2.size; simp; omega) (x.heap.size + 1) (by simp) ?_
                intro g3 cap3 w3 hown3 hgrow3 hat3 hlt3
                have P := Lo.step L1.out (by rw [HG.out]; exact IG.out) GW.out NW.out (by rw [HG.out]) K1.out hbx hrb LG.out hown3 hgrow3
                have K2 := Lib.hid P.1.1
                have K3 := Lib.hid P.2.1
                have L3 := Lib.hid P.2.2
                have t5 := (box6 P.1.2).2.2.2.2.2
                have f5 := fr6 P.1.2 5
                clear P hown3 hgrow3 hat3
                simp only [Act.put, List.setIfInBounds_toArray, List.set_cons_zero, List.set_cons_succ]
                refine hK.out _ _ (cp_S K2.out RW.out hbW) (fun hHeld => ?_)
                clear hK K
                refine wpAnyH_take (i := 10) (v := ?vu15) (by rw [List.getElem?_toArray]; rfl) (by kernel_rfl) (by kernel_rfl) (by kernel_rfl) ?qu15 (Or.inl ⟨by rfl, ?yu15⟩) (by assumption) ?ru15
                case qu15 => exact fun _ _ _ h => h
                case yu15 => (intro wz hSw; go_simp; try (with_reducible rfl))
                simp only [Act.put, List.setIfInBounds_toArray, List.set_cons_zero, List.set_cons_succ]
                refine wpAnyH_ready (rs := [11]) (by kernel_rfl) (by simp) ?_
                refine AllReadyH.cons (by rw [List.getElem?_toArray]; rfl) (fun K hK => ?_) AllReadyH.nil
                clear hHeld
                go_simp
                refine hK.out _ _ (cp_S K3.out RW.out hbW) (fun hHeld => ?_)
                clear hK K t5 f5
                refine wpAnyH_done (by kernel_rfl) ?_ _
                clear hHeld
                go_wp2
                go_roundw
                case rel => exact ⟨k + 1, by omega, by go_num, K3, _, _, L3⟩
                case measure => simp [intOf]; omega
              · clear hHeld
                go_simp
                refine hK.out _ _ (cp_S (cp_alloc K1.out _) RW.out hbW) (fun hHeld => ?_)
                clear hK K
                refine wpAnyH_ready (rs := [1]) (by kernel_rfl) (by simp) ?_
                refine AllReadyH.cons (by rw [List.getElem?_toArray]; rfl) (fun K hK => ?_) AllReadyH.nil
                have hHid := Lib.hid hHeld
                clear hHeld
                go_simp
                refine hK.out _ _ hHid.out (fun hHeld => ?_)
                clear hK K hHid
                refine wpAnyH_ready (rs := [9]) (by kernel_rfl) (by simp) ?_
                refine AllReadyH.cons (by rw [List.getElem?_toArray]; rfl) (fun K hK => ?_) AllReadyH.nil
                clear hHeld
                refine step_append_lies _ (by rfl) _ _ _ (by rfl) W0.heap.size 22 i0 (.slice none 0 0) 1 24 Try.underlying23 hi hz0 hz1 hz2 rfl (by omega) cv k ws (by rfl) (L1.out.ow.alloc _) ⟨x.heap.size, 0, none⟩ 1 1 [.slice (some ⟨g, 0, none⟩) row.length kc] (by rfl) rfl (cell_one_new _ _ _) (by simp [Value.oneCell']) (by omega) (by unfold maxLen; omega) (by omega) (by have := K1.out.2.2.size; simp; omega) (x.heap.size + 1) (by simp) ?_
                intro g3 cap3 w3 hown3 hgrow3 hat3 hlt3
                have P := Lo.step L1.out (by rw [HG.out]; exact IG.out) GW.out NW.out (by rw [HG.out]) K1.out hbx hrb LG.out hown3 hgrow3
                have K2 := Lib.hid P.1.1
                have K3 := Lib.hid P.2.1
                have L3 := Lib.hid P.2.2
                have t5 := (box6 P.1.2).2.2.2.2.2
                have f5 := fr6 P.1.2 5
                clear P hown3 hgrow3 hat3
                simp only [Act.put, List.setIfInBounds_toArray, List.set_cons_zero, List.set_cons_succ]
                refine hK.out _ _ (cp_S K2.out RW.out hbW) (fun hHeld => ?_)
                clear hK K
                refine wpAnyH_take (i := 10) (v := ?vu16) (by rw [List.getElem?_toArray]; rfl) (by kernel_rfl) (by kernel_rfl) (by kernel_rfl) ?qu16 (Or.inl ⟨by rfl, ?yu16⟩) (by assumption) ?ru16
                case qu16 => exact fun _ _ _ h => h
                case yu16 => (intro wz hSw; go_simp; try (with_reducible rfl))
                simp only [Act.put, List.setIfInBounds_toArray, List.set_cons_zero, List.set_cons_succ]
                refine wpAnyH_ready (rs := [11]) (by kernel_rfl) (by simp) ?_
                refine AllReadyH.cons (by rw [List.getElem?_toArray]; rfl) (fun K hK => ?_) AllReadyH.nil
                clear hHeld
                go_simp
                refine hK.out _ _ (cp_S K3.out RW.out hbW) (fun hHeld => ?_)
                clear hK K t5 f5
                refine wpAnyH_done (by kernel_rfl) ?_ _
                clear hHeld
                go_wp2
                go_roundw
                case rel => exact ⟨k + 1, by omega, by go_num, K3, _, _, L3⟩
                case measure => simp [intOf]; omega
        · obtain rfl : k = cl.length := by omega
          obtain ⟨ca', nn', cc', hcv⟩ := own_slice L.out.ow
          subst hcv
          obtain ⟨d0, d1, d2, d3, d4, d5⟩ := box6 L.out.o
          obtain ⟨z0, z1, z2, z3, z4, z5⟩ := box6 Q.out.2.1
          have zf := fr6 Q.out.2.1
          have FN := Lib.hid (Lo.fin L.out Q.out HS3.out hrb LG.out BW.out hwrb)
          have hx : ((cl.length : Int) < (cn : Int) ∧ (cl.length : Int) = 30) ∨ ¬ (cl.length : Int) < (cn : Int) := by omega
          clear hcl hk hlt
          rcases hx with ⟨hx1, hx2⟩ | hx1
          · have hx3 : ¬ (cl.length : Int) < 30 := by omega
            clear hx2
            go_wp2
            refine bodyPost_ret (results_cell_row Try.results7 _ _ rb 25 _ (0, 0) _ rfl FN.out.1 Try.underlying25 rfl (by kernel_rfl)) rfl ?_; exact cp_post FN.out
          · go_wp2
            refine bodyPost_ret (results_cell_row Try.results7 _ _ rb 25 _ (0, 0) _ rfl FN.out.1 Try.underlying25 rfl (by kernel_rfl)) rfl ?_; exact cp_post FN.out
    · have hHid := Lib.hid hHeld
      clear hHeld
      go_simp
      refine hK.out _ _ (cp_alloc hHid.out _) (fun hHeld => ?_)
      clear hK K
      have PA := Lib.hid (heap_alloc_new xu11 (.cells #[.int .i64 0, .int .i64 0, .int .i64 0, .slice none 0 0, .slice none 0 0, .slice none 0 0] 25))
      have LG0 := hHid.out.2.2.size
      have LG : Hid (W0.heap.size ≤ xu11.heap.size) := LG0
      clear LG0
      have I1x := Lib.hid (I1.out.keep (bl_al (Below.refl _ _) (.cells #[.int .i64 0, .int .i64 0, .int .i64 0, .slice none 0 0, .slice none 0 0, .slice none 0 0] 25)))
      clear I1
      have I1 := I1x
      clear I1x
      clear hHid
      refine wpAnyH_ready (rs := [11]) (by kernel_rfl) (by simp) ?_
      refine AllReadyH.cons (by rw [List.getElem?_toArray]; rfl) (fun K hK => ?_) AllReadyH.nil
      have hHid := Lib.hid hHeld
      clear hHeld
      go_simp
      go_at_call 18; refine (cut_srcC (HS2.out.keep hHid.out.2.2) hHid.out.2.2.size).mono ?_; rintro e xu23 ⟨g2, k2, rfl, hb, I2u, -⟩
      have I2 := Lib.hid I2u
      have hNew := Lib.hid (cp_more hb hHid.out)
      have I1x := Lib.hid (I1.out.keep hb)
      clear I1
      have I1 := I1x
      clear I1x
      have PAx := Lib.hid ((hb.block _ (lt_hp PA.out)).trans PA.out)
      clear PA
      have PA := PAx
      clear PAx
      clear hb hHid I2u
      go_wp2_with fail
      refine hK.out _ _ hNew.out (fun hHeld => ?_)
      clear hK K hNew
      refine wpAnyH_take (i := 12) (v := ?vu24) (by rw [List.getElem?_toArray]; rfl) (by kernel_rfl) (by kernel_rfl) (by kernel_rfl) ?qu24 (Or.inl ⟨by rfl, ?yu24⟩) (by assumption) ?ru24
      case qu24 => exact fun _ _ _ h => h
      case yu24 => (intro wz hSw; go_simp; try (with_reducible rfl))
      simp only [Act.put, List.setIfInBounds_toArray, List.set_cons_zero, List.set_cons_succ]
      refine wpAnyH_ready (rs := [14]) (by kernel_rfl) (by simp) ?_
      refine AllReadyH.cons (by rw [List.getElem?_toArray]; rfl) (fun K hK => ?_) AllReadyH.nil
      obtain ⟨z0, z1, z2, z3, z4, z5⟩ := box6 PA.out
      have zf := fr6 PA.out
      have hHid := Lib.hid hHeld
      clear hHeld
      go_simp
      refine hK.out _ _ (cp_store ⟨hHid.out, hbx, hrb⟩ LG.out (.int .i64 kd) (.int .i64 N) (.int .i64 C) (.slice (some ⟨g1, 0, none⟩) wl.length k1) (.slice (some ⟨g2, 0, none⟩) vl.length k2) (.slice none 0 0)) (fun hHeld => ?_)
      have T := Lib.hid (six PA.out (.int .i64 kd) (.int .i64 N) (.int .i64 C) (.slice (some ⟨g1, 0, none⟩) wl.length k1) (.slice (some ⟨g2, 0, none⟩) vl.length k2) (.slice none 0 0))
      have BT := Lib.hid (cp_store ⟨hHid.out, hbx, hrb⟩ LG.out (.int .i64 kd) (.int .i64 N) (.int .i64 C) (.slice (some ⟨g1, 0, none⟩) wl.length k1) (.slice (some ⟨g2, 0, none⟩) vl.length k2) (.slice none 0 0))
      have J1 := Lib.hid (I1.out.same (six_other (I1.out.ne PA.out (by decide)) (.int .i64 kd) (.int .i64 N) (.int .i64 C) (.slice (some ⟨g1, 0, none⟩) wl.length k1) (.slice (some ⟨g2, 0, none⟩) vl.length k2) (.slice none 0 0)))
      have J2 := Lib.hid (I2.out.same (six_other (I2.out.ne PA.out (by decide)) (.int .i64 kd) (.int .i64 N) (.int .i64 C) (.slice (some ⟨g1, 0, none⟩) wl.length k1) (.slice (some ⟨g2, 0, none⟩) vl.length k2) (.slice none 0 0)))
      clear hK K z0 z1 z2 z3 z4 z5 zf hHeld hHid PA I1 I2
      refine wpAnyH_done (by kernel_rfl) ?_ _
      go_wp2
      have LO : Hid (Lo kd N C wa va ca wn vn cn wc vc cc wl vl cl bx rb xu11.heap.size g1 g2 k1 k2 W0 (.slice none 0 0) [] 0 _) := { o := T.out, ow := World.ownsRow_nil _ _ _ _, ro := fun j hj => absurd hj (by omega), i1 := J1.out, i2 := J2.out, sep := fun i j gi gj ni nj ci cj _ e1 _ => by simp at e1 }
      clear T J1 J2
      go_loopw [4] (fun i wr => ∃ k : Nat, k ≤ cl.length ∧ i = .int .i64 k ∧ Hid (wr.heap[bx]? = some (.cells #[.int .i64 kd, .int .i64 N, .int .i64 C, .slice wa wn wc, .slice va vn vc, .slice ca cn cc] 25 (0, 0)) ∧ wr.heap[rb]? = some (.cells #[.int .i64 0, .int .i64 0, .int .i64 0, .slice none 0 0, .slice none 0 0, .slice none 0 0] 25 (0, 0)) ∧ Below W0.heap.size W0 wr) ∧ ∃ cv ws, Hid (Lo kd N C wa va ca wn vn cn wc vc cc wl vl cl bx rb xu11.heap.size g1 g2 k1 k2 W0 cv ws k wr)) (fun i _ => cl.length - (intOf i).toNat)
      case atStart => exact ⟨0, by omega, rfl, BT, _, _, LO⟩
      case round =>
        clear BT LO
        obtain ⟨k, hk, rfl, Q, cv, ws, L⟩ := hrel
        have hcl := HS3.out.1
        obtain ⟨b0, b1, b2, b3, b4, b5⟩ := box6 Q.out.1
        by_cases hlt : k < cl.length
        · have hkn : k < cn := by omega
          have hk30 : (k : Int) < 30 := by omega
          have hkc : (0 : Int) ≤ (k : Int) ∧ (k : Int) < (cn : Int) := by omega
          obtain ⟨-, hnc, hc63, hs⟩ := HS3.out
          rcases hs with ⟨h0, _⟩ | ⟨b, o, rfl, hbW, hrows⟩
          · omega
          · obtain ⟨aj, nj, cj, hrow, hsrc⟩ := hrows k hlt
            clear hrows
            obtain ⟨row, hrw⟩ : ∃ r, cl[k]?.getD [] = r := ⟨_, rfl⟩
            have HG := Lib.hid hrw
            rw [hrw] at hsrc
            clear hrw hcl
            have SR := Lib.hid hsrc
            have RW := Lib.hid hrow
            have lgW : xu11.heap.size < wr.heap.size := lt_hp L.out.o
            obtain ⟨d0, d1, d2, d3, d4, d5⟩ := box6 L.out.o
            clear hsrc hrow
            have K0 := Lib.hid (cp_drew Q.out)
            have L0 := Lib.hid (L.out.keep (Below.refl _ _).drew)
            go_wp2
            refine wp_region_held_drew (S := fun w' => w'.cell? ⟨bx, 5, none⟩ = some (.slice (some ⟨b, o, none⟩) cn cc) ∧ w'.cell? ⟨b, o + k, none⟩ = some (.slice aj nj cj)) (by kernel_rfl) (cp_S K0.out RW.out hbW) (fun hHeld => ?_)
            refine wpAnyH_take (i := 0) (v := ?vu28) (by rw [List.getElem?_toArray]; rfl) (by kernel_rfl) (by kernel_rfl) (by kernel_rfl) ?qu28 (Or.inl ⟨by rfl, ?yu28⟩) (by assumption) ?ru28
            case qu28 => exact fun _ _ _ h => h
            case yu28 => (intro wz hSw; go_simp; try (with_reducible rfl))
            simp only [Act.put, List.setIfInBounds_toArray, List.set_cons_zero, List.set_cons_succ]
            refine wpAnyH_take (i := 2) (v := ?vu29) (by rw [List.getElem?_toArray]; rfl) (by kernel_rfl) (by kernel_rfl) (by kernel_rfl) ?qu29 (Or.inl ⟨by rfl, ?yu29⟩) (by assumption) ?ru29
            case qu29 => exact fun _ _ _ h => h
            case yu29 => (intro wz hSw; go_simp; try (with_reducible rfl))
            simp only [Act.put, List.setIfInBounds_toArray, List.set_cons_zero, List.set_cons_succ]
            refine wpAnyH_take (i := 3) (v := ?vu30) (by rw [List.getElem?_toArray]; rfl) (by kernel_rfl) (by kernel_rfl) (by kernel_rfl) ?qu30 (Or.inl ⟨by rfl, ?yu30⟩) (by assumption) ?ru30
            case qu30 => exact fun _ _ _ h => h
            case yu30 => (intro wz hSw; obtain ⟨q0, q1⟩ := hSw; go_simp; try (with_reducible rfl))
            simp only [Act.put, List.setIfInBounds_toArray, List.set_cons_zero, List.set_cons_succ]
            refine wpAnyH_take (i := 4) (v := ?vu31) (by rw [List.getElem?_toArray]; rfl) (by kernel_rfl) (by kernel_rfl) (by kernel_rfl) ?qu31 (Or.inl ⟨by rfl, ?yu31⟩) (by assumption) ?ru31
            case qu31 => exact fun _ _ _ h => h
            case yu31 => (intro wz hSw; go_simp; try (with_reducible rfl))
            simp only [Act.put, List.setIfInBounds_toArray, List.set_cons_zero, List.set_cons_succ]
            refine wpAnyH_take (i := 5) (v := ?vu32) (by rw [List.getElem?_toArray]; rfl) (by kernel_rfl) (by kernel_rfl) (by kernel_rfl) ?qu32 (Or.inl ⟨by rfl, ?yu32⟩) (by assumption) ?ru32
            case qu32 => exact fun _ _ _ h => h
            case yu32 => (intro wz hSw; go_simp; try (with_reducible rfl))
            simp only [Act.put, List.setIfInBounds_toArray, List.set_cons_zero, List.set_cons_succ]
            refine wpAnyH_take (i := 6) (v := ?vu33) (by rw [List.getElem?_toArray]; rfl) (by kernel_rfl) (by kernel_rfl) (by kernel_rfl) ?qu33 (Or.inl ⟨by rfl, ?yu33⟩) (by assumption) ?ru33
            case qu33 => exact fun _ _ _ h => h
            case yu33 => (intro wz hSw; obtain ⟨q0, q1⟩ := hSw; go_simp; try (with_reducible rfl))
            simp only [Act.put, List.setIfInBounds_toArray, List.set_cons_zero, List.set_cons_succ]
            refine wpAnyH_ready (rs := [1, 7]) (by kernel_rfl) (by simp) ?_
            refine AllReadyH.cons (by rw [List.getElem?_toArray]; rfl) (fun K hK => ?_) (AllReadyH.cons (by rw [List.getElem?_toArray]; rfl) (fun K hK => ?_) AllReadyH.nil)
            · have hHid := Lib.hid hHeld
              clear hHeld
              go_simp
              refine hK.out _ _ hHid.out (fun hHeld => ?_)
              clear hK K hHid
              refine wpAnyH_ready (rs := [7]) (by kernel_rfl) (by simp) ?_
              refine AllReadyH.cons (by rw [List.getElem?_toArray]; rfl) (fun K hK => ?_) AllReadyH.nil
              clear hHeld
              go_simp
              go_at_call 18; refine (cut_srcC (SR.out.keep K0.out.2.2) K0.out.2.2.size).mono ?_; rintro e x ⟨g, kc, rfl, hb, Iu, gu⟩
              have GW := Lib.hid (Nat.le_trans K0.out.2.2.size gu)
              have K1 := Lib.hid (cp_more hb K0.out)
              have L1 := Lib.hid (L0.out.keep hb)
              have NW := Lib.hid (Lo.news L0.out gu)
              have IG := Lib.hid Iu
              have e5 := (box6 L1.out.o).2.2.2.2.2
              have lgx : xu11.heap.size < x.heap.size := lt_hp L1.out.o
              clear hb Iu gu
              go_wp2_with fail
              refine hK.out _ _ (cp_S K1.out RW.out hbW) (fun hHeld => ?_)
              clear hK K
              refine wpAnyH_ready (rs := [8]) (by kernel_rfl) (by simp) ?_
              refine AllReadyH.cons (by rw [List.getElem?_toArray]; rfl) (fun K hK => ?_) AllReadyH.nil
              clear hHeld
              go_simp
              refine hK.out _ _ (cp_S (cp_alloc K1.out _) RW.out hbW) (fun hHeld => ?_)
              clear hK K
              refine wpAnyH_ready (rs := [9]) (by kernel_rfl) (by simp) ?_
              refine AllReadyH.cons (by rw [List.getElem?_toArray]; rfl) (fun K hK => ?_) AllReadyH.nil
              clear hHeld
              refine step_append_lies _ (by rfl) _ _ _ (by rfl) W0.heap.size 22 i0 (.slice none 0 0) 1 24 Try.underlying23 hi hz0 hz1 hz2 rfl (by omega) cv k ws (by rfl) (L1.out.ow.alloc _) ⟨x.heap.size, 0, none⟩ 1 1 [.slice (some ⟨g, 0, none⟩) row.length kc] (by rfl) rfl (cell_one_new _ _ _) (by simp [Value.oneCell']) (by omega) (by unfold maxLen; omega) (by omega) (by have := K1.out.2.2.size; simp; omega) (x.heap.size + 1) (by simp) ?_
              intro g3 cap3 w3 hown3 hgrow3 hat3 hlt3
              have P := Lo.step L1.out (by rw [HG.out]; exact IG.out) GW.out NW.out (by rw [HG.out]) K1.out hbx hrb LG.out hown3 hgrow3
              have K2 := Lib.hid P.1.1
              have K3 := Lib.hid P.2.1
              have L3 := Lib.hid P.2.2
              have t5 := (box6 P.1.2).2.2.2.2.2
              have f5 := fr6 P.1.2 5
              clear P hown3 hgrow3 hat3
              simp only [Act.put, List.setIfInBounds_toArray, List.set_cons_zero, List.set_cons_succ]
              refine hK.out _ _ (cp_S K2.out RW.out hbW) (fun hHeld => ?_)
              clear hK K
              refine wpAnyH_take (i := 10) (v := ?vu25) (by rw [List.getElem?_toArray]; rfl) (by kernel_rfl) (by kernel_rfl) (by kernel_rfl) ?qu25 (Or.inl ⟨by rfl, ?yu25⟩) (by assumption) ?ru25
              case qu25 => exact fun _ _ _ h => h
              case yu25 => (intro wz hSw; go_simp; try (with_reducible rfl))
              simp only [Act.put, List.setIfInBounds_toArray, List.set_cons_zero, List.set_cons_succ]
              refine wpAnyH_ready (rs := [11]) (by kernel_rfl) (by simp) ?_
              refine AllReadyH.cons (by rw [List.getElem?_toArray]; rfl) (fun K hK => ?_) AllReadyH.nil
              clear hHeld
              go_simp
              refine hK.out _ _ (cp_S K3.out RW.out hbW) (fun hHeld => ?_)
              clear hK K t5 f5
              refine wpAnyH_done (by kernel_rfl) ?_ _
              clear hHeld
              go_wp2
              go_roundw
              case rel => exact ⟨k + 1, by omega, by go_num, K3, _, _, L3⟩
              case measure => simp [intOf]; omega
            · clear hHeld
              go_simp
              go_at_call 18; refine (cut_srcC (SR.out.keep K0.out.2.2) K0.out.2.2.size).mono ?_; rintro e x ⟨g, kc, rfl, hb, Iu, gu⟩
              have GW := Lib.hid (Nat.le_trans K0.out.2.2.size gu)
              have K1 := Lib.hid (cp_more hb K0.out)
              have L1 := Lib.hid (L0.out.keep hb)
              have NW := Lib.hid (Lo.news L0.out gu)
              have IG := Lib.hid Iu
              have e5 := (box6 L1.out.o).2.2.2.2.2
              have lgx : xu11.heap.size < x.heap.size := lt_hp L1.out.o
              clear hb Iu gu
              go_wp2_with fail
              refine hK.out _ _ (cp_S K1.out RW.out hbW) (fun hHeld => ?_)
              clear hK K
              refine wpAnyH_ready (rs := [1, 8]) (by kernel_rfl) (by simp) ?_
              refine AllReadyH.cons (by rw [List.getElem?_toArray]; rfl) (fun K hK => ?_) (AllReadyH.cons (by rw [List.getElem?_toArray]; rfl) (fun K hK => ?_) AllReadyH.nil)
              · have hHid := Lib.hid hHeld
                clear hHeld
                go_simp
                refine hK.out _ _ hHid.out (fun hHeld => ?_)
                clear hK K hHid
                refine wpAnyH_ready (rs := [8]) (by kernel_rfl) (by simp) ?_
                refine AllReadyH.cons (by rw [List.getElem?_toArray]; rfl) (fun K hK => ?_) AllReadyH.nil
                clear hHeld
                go_simp
                refine hK.out _ _ (cp_S (cp_alloc K1.out _) RW.out hbW) (fun hHeld => ?_)
                clear hK K
                refine wpAnyH_ready (rs := [9]) (by kernel_rfl) (by simp) ?_
                refine AllReadyH.cons (by rw [List.getElem?_toArray]; rfl) (fun K hK => ?_) AllReadyH.nil
                clear hHeld
                refine step_append_lies _ (by rfl) _ _ _ (by rfl) W0.heap.size 22 i0 (.slice none 0 0) 1 24 Try.underlying23 hi hz0 hz1 hz2 rfl (by omega) cv k ws (by rfl) (L1.out.ow.alloc _) ⟨x.heap.size, 0, none⟩ 1 1 [.slice (some ⟨g, 0, none⟩) row.length kc] (by rfl) rfl (cell_one_new _ _ _) (by simp [Value.oneCell']) (by omega) (by unfold maxLen; omega) (by omega) (by have := K1.out.2.2.size; simp; omega) (x.heap.size + 1) (by simp) ?_
                intro g3 cap3 w3 hown3 hgrow3 hat3 hlt3
                have P := Lo.step L1.out (by rw [HG.out]; exact IG.out) GW.out NW.out (by rw [HG.out]) K1.out hbx hrb LG.out hown3 hgrow3
                have K2 := Lib.hid P.1.1
                have K3 := Lib.hid P.2.1
                have L3 := Lib.hid P.2.2
                have t5 := (box6 P.1.2).2.2.2.2.2
                have f5 := fr6 P.1.2 5
                clear P hown3 hgrow3 hat3
                simp only [Act.put, List.setIfInBounds_toArray, List.set_cons_zero, List.set_cons_succ]
                refine hK.out _ _ (cp_S K2.out RW.out hbW) (fun hHeld => ?_)
                clear hK K
                refine wpAnyH_take (i := 10) (v := ?vu26) (by rw [List.getElem?_toArray]; rfl) (by kernel_rfl) (by kernel_rfl) (by kernel_rfl) ?qu26 (Or.inl ⟨by rfl, ?yu26⟩) (by assumption) ?ru26
                case qu26 => exact fun _ _ _ h => h
                case yu26 => (intro wz hSw; go_simp; try (with_reducible rfl))
                simp only [Act.put, List.setIfInBounds_toArray, List.set_cons_zero, List.set_cons_succ]
                refine wpAnyH_ready (rs := [11]) (by kernel_rfl) (by simp) ?_
                refine AllReadyH.cons (by rw [List.getElem?_toArray]; rfl) (fun K hK => ?_) AllReadyH.nil
                clear hHeld
                go_simp
                refine hK.out _ _ (cp_S K3.out RW.out hbW) (fun hHeld => ?_)
                clear hK K t5 f5
                refine wpAnyH_done (by kernel_rfl) ?_ _
                clear hHeld
                go_wp2
                go_roundw
                case rel => exact ⟨k + 1, by omega, by go_num, K3, _, _, L3⟩
                case measure => simp [intOf]; omega
              · clear hHeld
                go_simp
                refine hK.out _ _ (cp_S (cp_alloc K1.out _) RW.out hbW) (fun hHeld => ?_)
                clear hK K
                refine wpAnyH_ready (rs := [1]) (by kernel_rfl) (by simp) ?_
                refine AllReadyH.cons (by rw [List.getElem?_toArray]; rfl) (fun K hK => ?_) AllReadyH.nil
                have hHid := Lib.hid hHeld
                clear hHeld
                go_simp
                refine hK.out _ _ hHid.out (fun hHeld => ?_)
                clear hK K hHid
                refine wpAnyH_ready (rs := [9]) (by kernel_rfl) (by simp) ?_
                refine AllReadyH.cons (by rw [List.getElem?_toArray]; rfl) (fun K hK => ?_) AllReadyH.nil
                clear hHeld
                refine step_append_lies _ (by rfl) _ _ _ (by rfl) W0.heap.size 22 i0 (.slice none 0 0) 1 24 Try.underlying23 hi hz0 hz1 hz2 rfl (by omega) cv k ws (by rfl) (L1.out.ow.alloc _) ⟨x.heap.size, 0, none⟩ 1 1 [.slice (some ⟨g, 0, none⟩) row.length kc] (by rfl) rfl (cell_one_new _ _ _) (by simp [Value.oneCell']) (by omega) (by unfold maxLen; omega) (by omega) (by have := K1.out.2.2.size; simp; omega) (x.heap.size + 1) (by simp) ?_
                intro g3 cap3 w3 hown3 hgrow3 hat3 hlt3
                have P := Lo.step L1.out (by rw [HG.out]; exact IG.out) GW.out NW.out (by rw [HG.out]) K1.out hbx hrb LG.out hown3 hgrow3
                have K2 := Lib.hid P.1.1
                have K3 := Lib.hid P.2.1
                have L3 := Lib.hid P.2.2
                have t5 := (box6 P.1.2).2.2.2.2.2
                have f5 := fr6 P.1.2 5
                clear P hown3 hgrow3 hat3
                simp only [Act.put, List.setIfInBounds_toArray, List.set_cons_zero, List.set_cons_succ]
                refine hK.out _ _ (cp_S K2.out RW.out hbW) (fun hHeld => ?_)
                clear hK K
                refine wpAnyH_take (i := 10) (v := ?vu27) (by rw [List.getElem?_toArray]; rfl) (by kernel_rfl) (by kernel_rfl) (by kernel_rfl) ?qu27 (Or.inl ⟨by rfl, ?yu27⟩) (by assumption) ?ru27
                case qu27 => exact fun _ _ _ h => h
                case yu27 => (intro wz hSw; go_simp; try (with_reducible rfl))
                simp only [Act.put, List.setIfInBounds_toArray, List.set_cons_zero, List.set_cons_succ]
                refine wpAnyH_ready (rs := [11]) (by kernel_rfl) (by simp) ?_
                refine AllReadyH.cons (by rw [List.getElem?_toArray]; rfl) (fun K hK => ?_) AllReadyH.nil
                clear hHeld
                go_simp
                refine hK.out _ _ (cp_S K3.out RW.out hbW) (fun hHeld => ?_)
                clear hK K t5 f5
                refine wpAnyH_done (by kernel_rfl) ?_ _
                clear hHeld
                go_wp2
                go_roundw
                case rel => exact ⟨k + 1, by omega, by go_num, K3, _, _, L3⟩
                case measure => simp [intOf]; omega
        · obtain rfl : k = cl.length := by omega
          obtain ⟨ca', nn', cc', hcv⟩ := own_slice L.out.ow
          subst hcv
          obtain ⟨d0, d1, d2, d3, d4, d5⟩ := box6 L.out.o
          obtain ⟨z0, z1, z2, z3, z4, z5⟩ := box6 Q.out.2.1
          have zf := fr6 Q.out.2.1
          have FN := Lib.hid (Lo.fin L.out Q.out HS3.out hrb LG.out BW.out hwrb)
          have hx : ((cl.length : Int) < (cn : Int) ∧ (cl.length : Int) = 30) ∨ ¬ (cl.length : Int) < (cn : Int) := by omega
          clear hcl hk hlt
          rcases hx with ⟨hx1, hx2⟩ | hx1
          · have hx3 : ¬ (cl.length : Int) < 30 := by omega
            clear hx2
            go_wp2
            refine bodyPost_ret (results_cell_row Try.results7 _ _ rb 25 _ (0, 0) _ rfl FN.out.1 Try.underlying25 rfl (by kernel_rfl)) rfl ?_; exact cp_post FN.out
          · go_wp2
            refine bodyPost_ret (results_cell_row Try.results7 _ _ rb 25 _ (0, 0) _ rfl FN.out.1 Try.underlying25 rfl (by kernel_rfl)) rfl ?_; exact cp_post FN.out
  · have hHid := Lib.hid hHeld
    clear hHeld
    go_simp
    refine hK.out _ _ (cp_alloc hHid.out _) (fun hHeld => ?_)
    clear hK K
    have PA := Lib.hid (heap_alloc_new W0 (.cells #[.int .i64 0, .int .i64 0, .int .i64 0, .slice none 0 0, .slice none 0 0, .slice none 0 0] 25))
    have LG0 := hHid.out.2.2.size
    have LG : Hid (W0.heap.size ≤ W0.heap.size) := LG0
    clear LG0
    clear hHid
    refine wpAnyH_ready (rs := [8]) (by kernel_rfl) (by simp) ?_
    refine AllReadyH.cons (by rw [List.getElem?_toArray]; rfl) (fun K hK => ?_) AllReadyH.nil
    have hHid := Lib.hid hHeld
    clear hHeld
    go_simp
    go_at_call 18; refine (cut_srcC (HS1.out.keep hHid.out.2.2) hHid.out.2.2.size).mono ?_; rintro e xu34 ⟨g1, k1, rfl, hb, I1u, -⟩
    have I1 := Lib.hid I1u
    have hNew := Lib.hid (cp_more hb hHid.out)
    have PAx := Lib.hid ((hb.block _ (lt_hp PA.out)).trans PA.out)
    clear PA
    have PA := PAx
    clear PAx
    clear hb hHid I1u
    go_wp2_with fail
    refine hK.out _ _ hNew.out (fun hHeld => ?_)
    clear hK K hNew
    refine wpAnyH_ready (rs := [11]) (by kernel_rfl) (by simp) ?_
    refine AllReadyH.cons (by rw [List.getElem?_toArray]; rfl) (fun K hK => ?_) AllReadyH.nil
    have hHid := Lib.hid hHeld
    clear hHeld
    go_simp
    go_at_call 18; refine (cut_srcC (HS2.out.keep hHid.out.2.2) hHid.out.2.2.size).mono ?_; rintro e xu35 ⟨g2, k2, rfl, hb, I2u, -⟩
    have I2 := Lib.hid I2u
    have hNew := Lib.hid (cp_more hb hHid.out)
    have PAx := Lib.hid ((hb.block _ (lt_hp PA.out)).trans PA.out)
    clear PA
    have PA := PAx
    clear PAx
    have I1x := Lib.hid (I1.out.keep hb)
    clear I1
    have I1 := I1x
    clear I1x
    clear hb hHid I2u
    go_wp2_with fail
    refine hK.out _ _ hNew.out (fun hHeld => ?_)
    clear hK K hNew
    refine wpAnyH_take (i := 12) (v := ?vu36) (by rw [List.getElem?_toArray]; rfl) (by kernel_rfl) (by kernel_rfl) (by kernel_rfl) ?qu36 (Or.inl ⟨by rfl, ?yu36⟩) (by assumption) ?ru36
    case qu36 => exact fun _ _ _ h => h
    case yu36 => (intro wz hSw; go_simp; try (with_reducible rfl))
    simp only [Act.put, List.setIfInBounds_toArray, List.set_cons_zero, List.set_cons_succ]
    refine wpAnyH_ready (rs := [14]) (by kernel_rfl) (by simp) ?_
    refine AllReadyH.cons (by rw [List.getElem?_toArray]; rfl) (fun K hK => ?_) AllReadyH.nil
    obtain ⟨z0, z1, z2, z3, z4, z5⟩ := box6 PA.out
    have zf := fr6 PA.out
    have hHid := Lib.hid hHeld
    clear hHeld
    go_simp
    refine hK.out _ _ (cp_store ⟨hHid.out, hbx, hrb⟩ LG.out (.int .i64 kd) (.int .i64 N) (.int .i64 C) (.slice (some ⟨g1, 0, none⟩) wl.length k1) (.slice (some ⟨g2, 0, none⟩) vl.length k2) (.slice none 0 0)) (fun hHeld => ?_)
    have T := Lib.hid (six PA.out (.int .i64 kd) (.int .i64 N) (.int .i64 C) (.slice (some ⟨g1, 0, none⟩) wl.length k1) (.slice (some ⟨g2, 0, none⟩) vl.length k2) (.slice none 0 0))
    have BT := Lib.hid (cp_store ⟨hHid.out, hbx, hrb⟩ LG.out (.int .i64 kd) (.int .i64 N) (.int .i64 C) (.slice (some ⟨g1, 0, none⟩) wl.length k1) (.slice (some ⟨g2, 0, none⟩) vl.length k2) (.slice none 0 0))
    have J1 := Lib.hid (I1.out.same (six_other (I1.out.ne PA.out (by decide)) (.int .i64 kd) (.int .i64 N) (.int .i64 C) (.slice (some ⟨g1, 0, none⟩) wl.length k1) (.slice (some ⟨g2, 0, none⟩) vl.length k2) (.slice none 0 0)))
    have J2 := Lib.hid (I2.out.same (six_other (I2.out.ne PA.out (by decide)) (.int .i64 kd) (.int .i64 N) (.int .i64 C) (.slice (some ⟨g1, 0, none⟩) wl.length k1) (.slice (some ⟨g2, 0, none⟩) vl.length k2) (.slice none 0 0)))
    clear hK K z0 z1 z2 z3 z4 z5 zf hHeld hHid PA I1 I2
    refine wpAnyH_done (by kernel_rfl) ?_ _
    go_wp2
    have LO : Hid (Lo kd N C wa va ca wn vn cn wc vc cc wl vl cl bx rb W0.heap.size g1 g2 k1 k2 W0 (.slice none 0 0) [] 0 _) := { o := T.out, ow := World.ownsRow_nil _ _ _ _, ro := fun j hj => absurd hj (by omega), i1 := J1.out, i2 := J2.out, sep := fun i j gi gj ni nj ci cj _ e1 _ => by simp at e1 }
    clear T J1 J2
    go_loopw [4] (fun i wr => ∃ k : Nat, k ≤ cl.length ∧ i = .int .i64 k ∧ Hid (wr.heap[bx]? = some (.cells #[.int .i64 kd, .int .i64 N, .int .i64 C, .slice wa wn wc, .slice va vn vc, .slice ca cn cc] 25 (0, 0)) ∧ wr.heap[rb]? = some (.cells #[.int .i64 0, .int .i64 0, .int .i64 0, .slice none 0 0, .slice none 0 0, .slice none 0 0] 25 (0, 0)) ∧ Below W0.heap.size W0 wr) ∧ ∃ cv ws, Hid (Lo kd N C wa va ca wn vn cn wc vc cc wl vl cl bx rb W0.heap.size g1 g2 k1 k2 W0 cv ws k wr)) (fun i _ => cl.length - (intOf i).toNat)
    case atStart => exact ⟨0, by omega, rfl, BT, _, _, LO⟩
    case round =>
      clear BT LO
      obtain ⟨k, hk, rfl, Q, cv, ws, L⟩ := hrel
      have hcl := HS3.out.1
      obtain ⟨b0, b1, b2, b3, b4, b5⟩ := box6 Q.out.1
      by_cases hlt : k < cl.length
      · have hkn : k < cn := by omega
        have hk30 : (k : Int) < 30 := by omega
        have hkc : (0 : Int) ≤ (k : Int) ∧ (k : Int) < (cn : Int) := by omega
        obtain ⟨-, hnc, hc63, hs⟩ := HS3.out
        rcases hs with ⟨h0, _⟩ | ⟨b, o, rfl, hbW, hrows⟩
        · omega
        · obtain ⟨aj, nj, cj, hrow, hsrc⟩ := hrows k hlt
          clear hrows
          obtain ⟨row, hrw⟩ : ∃ r, cl[k]?.getD [] = r := ⟨_, rfl⟩
          have HG := Lib.hid hrw
          rw [hrw] at hsrc
          clear hrw hcl
          have SR := Lib.hid hsrc
          have RW := Lib.hid hrow
          have lgW : W0.heap.size < wr.heap.size := lt_hp L.out.o
          obtain ⟨d0, d1, d2, d3, d4, d5⟩ := box6 L.out.o
          clear hsrc hrow
          have K0 := Lib.hid (cp_drew Q.out)
          have L0 := Lib.hid (L.out.keep (Below.refl _ _).drew)
          go_wp2
          refine wp_region_held_drew (S := fun w' => w'.cell? ⟨bx, 5, none⟩ = some (.slice (some ⟨b, o, none⟩) cn cc) ∧ w'.cell? ⟨b, o + k, none⟩ = some (.slice aj nj cj)) (by kernel_rfl) (cp_S K0.out RW.out hbW) (fun hHeld => ?_)
          refine wpAnyH_take (i := 0) (v := ?vu40) (by rw [List.getElem?_toArray]; rfl) (by kernel_rfl) (by kernel_rfl) (by kernel_rfl) ?qu40 (Or.inl ⟨by rfl, ?yu40⟩) (by assumption) ?ru40
          case qu40 => exact fun _ _ _ h => h
          case yu40 => (intro wz hSw; go_simp; try (with_reducible rfl))
          simp only [Act.put, List.setIfInBounds_toArray, List.set_cons_zero, List.set_cons_succ]
          refine wpAnyH_take (i := 2) (v := ?vu41) (by rw [List.getElem?_toArray]; rfl) (by kernel_rfl) (by kernel_rfl) (by kernel_rfl) ?qu41 (Or.inl ⟨by rfl, ?yu41⟩) (by assumption) ?ru41
          case qu41 => exact fun _ _ _ h => h
          case yu41 => (intro wz hSw; go_simp; try (with_reducible rfl))
          simp only [Act.put, List.setIfInBounds_toArray, List.set_cons_zero, List.set_cons_succ]
          refine wpAnyH_take (i := 3) (v := ?vu42) (by rw [List.getElem?_toArray]; rfl) (by kernel_rfl) (by kernel_rfl) (by kernel_rfl) ?qu42 (Or.inl ⟨by rfl, ?yu42⟩) (by assumption) ?ru42
          case qu42 => exact fun _ _ _ h => h
          case yu42 => (intro wz hSw; obtain ⟨q0, q1⟩ := hSw; go_simp; try (with_reducible rfl))
          simp only [Act.put, List.setIfInBounds_toArray, List.set_cons_zero, List.set_cons_succ]
          refine wpAnyH_take (i := 4) (v := ?vu43) (by rw [List.getElem?_toArray]; rfl) (by kernel_rfl) (by kernel_rfl) (by kernel_rfl) ?qu43 (Or.inl ⟨by rfl, ?yu43⟩) (by assumption) ?ru43
          case qu43 => exact fun _ _ _ h => h
          case yu43 => (intro wz hSw; go_simp; try (with_reducible rfl))
          simp only [Act.put, List.setIfInBounds_toArray, List.set_cons_zero, List.set_cons_succ]
          refine wpAnyH_take (i := 5) (v := ?vu44) (by rw [List.getElem?_toArray]; rfl) (by kernel_rfl) (by kernel_rfl) (by kernel_rfl) ?qu44 (Or.inl ⟨by rfl, ?yu44⟩) (by assumption) ?ru44
          case qu44 => exact fun _ _ _ h => h
          case yu44 => (intro wz hSw; go_simp; try (with_reducible rfl))
          simp only [Act.put, List.setIfInBounds_toArray, List.set_cons_zero, List.set_cons_succ]
          refine wpAnyH_take (i := 6) (v := ?vu45) (by rw [List.getElem?_toArray]; rfl) (by kernel_rfl) (by kernel_rfl) (by kernel_rfl) ?qu45 (Or.inl ⟨by rfl, ?yu45⟩) (by assumption) ?ru45
          case qu45 => exact fun _ _ _ h => h
          case yu45 => (intro wz hSw; obtain ⟨q0, q1⟩ := hSw; go_simp; try (with_reducible rfl))
          simp only [Act.put, List.setIfInBounds_toArray, List.set_cons_zero, List.set_cons_succ]
          refine wpAnyH_ready (rs := [1, 7]) (by kernel_rfl) (by simp) ?_
          refine AllReadyH.cons (by rw [List.getElem?_toArray]; rfl) (fun K hK => ?_) (AllReadyH.cons (by rw [List.getElem?_toArray]; rfl) (fun K hK => ?_) AllReadyH.nil)
          · have hHid := Lib.hid hHeld
            clear hHeld
            go_simp
            refine hK.out _ _ hHid.out (fun hHeld => ?_)
            clear hK K hHid
            refine wpAnyH_ready (rs := [7]) (by kernel_rfl) (by simp) ?_
            refine AllReadyH.cons (by rw [List.getElem?_toArray]; rfl) (fun K hK => ?_) AllReadyH.nil
            clear hHeld
            go_simp
            go_at_call 18; refine (cut_srcC (SR.out.keep K0.out.2.2) K0.out.2.2.size).mono ?_; rintro e x ⟨g, kc, rfl, hb, Iu, gu⟩
            have GW := Lib.hid (Nat.le_trans K0.out.2.2.size gu)
            have K1 := Lib.hid (cp_more hb K0.out)
            have L1 := Lib.hid (L0.out.keep hb)
            have NW := Lib.hid (Lo.news L0.out gu)
            have IG := Lib.hid Iu
            have e5 := (box6 L1.out.o).2.2.2.2.2
            have lgx : W0.heap.size < x.heap.size := lt_hp L1.out.o
            clear hb Iu gu
            go_wp2_with fail
            refine hK.out _ _ (cp_S K1.out RW.out hbW) (fun hHeld => ?_)
            clear hK K
            refine wpAnyH_ready (rs := [8]) (by kernel_rfl) (by simp) ?_
            refine AllReadyH.cons (by rw [List.getElem?_toArray]; rfl) (fun K hK => ?_) AllReadyH.nil
            clear hHeld
            go_simp
            refine hK.out _ _ (cp_S (cp_alloc K1.out _) RW.out hbW) (fun hHeld => ?_)
            clear hK K
            refine wpAnyH_ready (rs := [9]) (by kernel_rfl) (by simp) ?_
            refine AllReadyH.cons (by rw [List.getElem?_toArray]; rfl) (fun K hK => ?_) AllReadyH.nil
            clear hHeld
            refine step_append_lies _ (by rfl) _ _ _ (by rfl) W0.heap.size 22 i0 (.slice none 0 0) 1 24 Try.underlying23 hi hz0 hz1 hz2 rfl (by omega) cv k ws (by rfl) (L1.out.ow.alloc _) ⟨x.heap.size, 0, none⟩ 1 1 [.slice (some ⟨g, 0, none⟩) row.length kc] (by rfl) rfl (cell_one_new _ _ _) (by simp [Value.oneCell']) (by omega) (by unfold maxLen; omega) (by omega) (by have := K1.out.2.2.size; simp; omega) (x.heap.size + 1) (by simp) ?_
            intro g3 cap3 w3 hown3 hgrow3 hat3 hlt3
            have P := Lo.step L1.out (by rw [HG.out]; exact IG.out) GW.out NW.out (by rw [HG.out]) K1.out hbx hrb LG.out hown3 hgrow3
            have K2 := Lib.hid P.1.1
            have K3 := Lib.hid P.2.1
            have L3 := Lib.hid P.2.2
            have t5 := (box6 P.1.2).2.2.2.2.2
            have f5 := fr6 P.1.2 5
            clear P hown3 hgrow3 hat3
            simp only [Act.put, List.setIfInBounds_toArray, List.set_cons_zero, List.set_cons_succ]
            refine hK.out _ _ (cp_S K2.out RW.out hbW) (fun hHeld => ?_)
            clear hK K
            refine wpAnyH_take (i := 10) (v := ?vu37) (by rw [List.getElem?_toArray]; rfl) (by kernel_rfl) (by kernel_rfl) (by kernel_rfl) ?qu37 (Or.inl ⟨by rfl, ?yu37⟩) (by assumption) ?ru37
            case qu37 => exact fun _ _ _ h => h
            case yu37 => (intro wz hSw; go_simp; try (with_reducible rfl))
            simp only [Act.put, List.setIfInBounds_toArray, List.set_cons_zero, List.set_cons_succ]
            refine wpAnyH_ready (rs := [11]) (by kernel_rfl) (by simp) ?_
            refine AllReadyH.cons (by rw [List.getElem?_toArray]; rfl) (fun K hK => ?_) AllReadyH.nil
            clear hHeld
            go_simp
            refine hK.out _ _ (cp_S K3.out RW.out hbW) (fun hHeld => ?_)
            clear hK K t5 f5
            refine wpAnyH_done (by kernel_rfl) ?_ _
            clear hHeld
            go_wp2
            go_roundw
            case rel => exact ⟨k + 1, by omega, by go_num, K3, _, _, L3⟩
            case measure => simp [intOf]; omega
          · clear hHeld
            go_simp
            go_at_call 18; refine (cut_srcC (SR.out.keep K0.out.2.2) K0.out.2.2.size).mono ?_; rintro e x ⟨g, kc, rfl, hb, Iu, gu⟩
            have GW := Lib.hid (Nat.le_trans K0.out.2.2.size gu)
            have K1 := Lib.hid (cp_more hb K0.out)
            have L1 := Lib.hid (L0.out.keep hb)
            have NW := Lib.hid (Lo.news L0.out gu)
            have IG := Lib.hid Iu
            have e5 := (box6 L1.out.o).2.2.2.2.2
            have lgx : W0.heap.size < x.heap.size := lt_hp L1.out.o
            clear hb Iu gu
            go_wp2_with fail
            refine hK.out _ _ (cp_S K1.out RW.out hbW) (fun hHeld => ?_)
            clear hK K
            refine wpAnyH_ready (rs := [1, 8]) (by kernel_rfl) (by simp) ?_
            refine AllReadyH.cons (by rw [List.getElem?_toArray]; rfl) (fun K hK => ?_) (AllReadyH.cons (by rw [List.getElem?_toArray]; rfl) (fun K hK => ?_) AllReadyH.nil)
            · have hHid := Lib.hid hHeld
              clear hHeld
              go_simp
              refine hK.out _ _ hHid.out (fun hHeld => ?_)
              clear hK K hHid
              refine wpAnyH_ready (rs := [8]) (by kernel_rfl) (by simp) ?_
              refine AllReadyH.cons (by rw [List.getElem?_toArray]; rfl) (fun K hK => ?_) AllReadyH.nil
              clear hHeld
              go_simp
              refine hK.out _ _ (cp_S (cp_alloc K1.out _) RW.out hbW) (fun hHeld => ?_)
              clear hK K
              refine wpAnyH_ready (rs := [9]) (by kernel_rfl) (by simp) ?_
              refine AllReadyH.cons (by rw [List.getElem?_toArray]; rfl) (fun K hK => ?_) AllReadyH.nil
              clear hHeld
              refine step_append_lies _ (by rfl) _ _ _ (by rfl) W0.heap.size 22 i0 (.slice none 0 0) 1 24 Try.underlying23 hi hz0 hz1 hz2 rfl (by omega) cv k ws (by rfl) (L1.out.ow.alloc _) ⟨x.heap.size, 0, none⟩ 1 1 [.slice (some ⟨g, 0, none⟩) row.length kc] (by rfl) rfl (cell_one_new _ _ _) (by simp [Value.oneCell']) (by omega) (by unfold maxLen; omega) (by omega) (by have := K1.out.2.2.size; simp; omega) (x.heap.size + 1) (by simp) ?_
              intro g3 cap3 w3 hown3 hgrow3 hat3 hlt3
              have P := Lo.step L1.out (by rw [HG.out]; exact IG.out) GW.out NW.out (by rw [HG.out]) K1.out hbx hrb LG.out hown3 hgrow3
              have K2 := Lib.hid P.1.1
              have K3 := Lib.hid P.2.1
              have L3 := Lib.hid P.2.2
              have t5 := (box6 P.1.2).2.2.2.2.2
              have f5 := fr6 P.1.2 5
              clear P hown3 hgrow3 hat3
              simp only [Act.put, List.setIfInBounds_toArray, List.set_cons_zero, List.set_cons_succ]
              refine hK.out _ _ (cp_S K2.out RW.out hbW) (fun hHeld => ?_)
              clear hK K
              refine wpAnyH_take (i := 10) (v := ?vu38) (by rw [List.getElem?_toArray]; rfl) (by kernel_rfl) (by kernel_rfl) (by kernel_rfl) ?qu38 (Or.inl ⟨by rfl, ?yu38⟩) (by assumption) ?ru38
              case qu38 => exact fun _ _ _ h => h
              case yu38 => (intro wz hSw; go_simp; try (with_reducible rfl))
              simp only [Act.put, List.setIfInBounds_toArray, List.set_cons_zero, List.set_cons_succ]
              refine wpAnyH_ready (rs := [11]) (by kernel_rfl) (by simp) ?_
              refine AllReadyH.cons (by rw [List.getElem?_toArray]; rfl) (fun K hK => ?_) AllReadyH.nil
              clear hHeld
              go_simp
              refine hK.out _ _ (cp_S K3.out RW.out hbW) (fun hHeld => ?_)
              clear hK K t5 f5
              refine wpAnyH_done (by kernel_rfl) ?_ _
              clear hHeld
              go_wp2
              go_roundw
              case rel => exact ⟨k + 1, by omega, by go_num, K3, _, _, L3⟩
              case measure => simp [intOf]; omega
            · clear hHeld
              go_simp
              refine hK.out _ _ (cp_S (cp_alloc K1.out _) RW.out hbW) (fun hHeld => ?_)
              clear hK K
              refine wpAnyH_ready (rs := [1]) (by kernel_rfl) (by simp) ?_
              refine AllReadyH.cons (by rw [List.getElem?_toArray]; rfl) (fun K hK => ?_) AllReadyH.nil
              have hHid := Lib.hid hHeld
              clear hHeld
              go_simp
              refine hK.out _ _ hHid.out (fun hHeld => ?_)
              clear hK K hHid
              refine wpAnyH_ready (rs := [9]) (by kernel_rfl) (by simp) ?_
              refine AllReadyH.cons (by rw [List.getElem?_toArray]; rfl) (fun K hK => ?_) AllReadyH.nil
              clear hHeld
              refine step_append_lies _ (by rfl) _ _ _ (by rfl) W0.heap.size 22 i0 (.slice none 0 0) 1 24 Try.underlying23 hi hz0 hz1 hz2 rfl (by omega) cv k ws (by rfl) (L1.out.ow.alloc _) ⟨x.heap.size, 0, none⟩ 1 1 [.slice (some ⟨g, 0, none⟩) row.length kc] (by rfl) rfl (cell_one_new _ _ _) (by simp [Value.oneCell']) (by omega) (by unfold maxLen; omega) (by omega) (by have := K1.out.2.2.size; simp; omega) (x.heap.size + 1) (by simp) ?_
              intro g3 cap3 w3 hown3 hgrow3 hat3 hlt3
              have P := Lo.step L1.out (by rw [HG.out]; exact IG.out) GW.out NW.out (by rw [HG.out]) K1.out hbx hrb LG.out hown3 hgrow3
              have K2 := Lib.hid P.1.1
              have K3 := Lib.hid P.2.1
              have L3 := Lib.hid P.2.2
              have t5 := (box6 P.1.2).2.2.2.2.2
              have f5 := fr6 P.1.2 5
              clear P hown3 hgrow3 hat3
              simp only [Act.put, List.setIfInBounds_toArray, List.set_cons_zero, List.set_cons_succ]
              refine hK.out _ _ (cp_S K2.out RW.out hbW) (fun hHeld => ?_)
              clear hK K
              refine wpAnyH_take (i := 10) (v := ?vu39) (by rw [List.getElem?_toArray]; rfl) (by kernel_rfl) (by kernel_rfl) (by kernel_rfl) ?qu39 (Or.inl ⟨by rfl, ?yu39⟩) (by assumption) ?ru39
              case qu39 => exact fun _ _ _ h => h
              case yu39 => (intro wz hSw; go_simp; try (with_reducible rfl))
              simp only [Act.put, List.setIfInBounds_toArray, List.set_cons_zero, List.set_cons_succ]
              refine wpAnyH_ready (rs := [11]) (by kernel_rfl) (by simp) ?_
              refine AllReadyH.cons (by rw [List.getElem?_toArray]; rfl) (fun K hK => ?_) AllReadyH.nil
              clear hHeld
              go_simp
              refine hK.out _ _ (cp_S K3.out RW.out hbW) (fun hHeld => ?_)
              clear hK K t5 f5
              refine wpAnyH_done (by kernel_rfl) ?_ _
              clear hHeld
              go_wp2
              go_roundw
              case rel => exact ⟨k + 1, by omega, by go_num, K3, _, _, L3⟩
              case measure => simp [intOf]; omega
      · obtain rfl : k = cl.length := by omega
        obtain ⟨ca', nn', cc', hcv⟩ := own_slice L.out.ow
        subst hcv
        obtain ⟨d0, d1, d2, d3, d4, d5⟩ := box6 L.out.o
        obtain ⟨z0, z1, z2, z3, z4, z5⟩ := box6 Q.out.2.1
        have zf := fr6 Q.out.2.1
        have FN := Lib.hid (Lo.fin L.out Q.out HS3.out hrb LG.out BW.out hwrb)
        have hx : ((cl.length : Int) < (cn : Int) ∧ (cl.length : Int) = 30) ∨ ¬ (cl.length : Int) < (cn : Int) := by omega
        clear hcl hk hlt
        rcases hx with ⟨hx1, hx2⟩ | hx1
        · have hx3 : ¬ (cl.length : Int) < 30 := by omega
          clear hx2
          go_wp2
          refine bodyPost_ret (results_cell_row Try.results7 _ _ rb 25 _ (0, 0) _ rfl FN.out.1 Try.underlying25 rfl (by kernel_rfl)) rfl ?_; exact cp_post FN.out
        · go_wp2
          refine bodyPost_ret (results_cell_row Try.results7 _ _ rb 25 _ (0, 0) _ rfl FN.out.1 Try.underlying25 rfl (by kernel_rfl)) rfl ?_; exact cp_post FN.out
end Go.Proofs.Ytfpffggeehmedaa.kc
