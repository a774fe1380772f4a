/-
  What inst.Copy answers.
-/
import Derived.Test.YtlhpiikpmmlpeaaDoorCList
import Derived.Test.YtlhpiikpmmlpeaaDoorLoop
import Derived.Deep.Cut
namespace Go.Proofs.YtlhpiikpmmlpeaaDoor
open Go.RowKit
set_option linter.unusedVariables false
/-- lists of numbers, listed in a block of their own -/
def RO (B : Nat) (W : World) (a : Option Addr) (l : List (List Int)) : Prop := l = [] ∨ ∃ g cur, a = some ⟨g, 0, none⟩ ∧ W.heap[g]? = some (.cells cur 22 (0, 0)) ∧ B ≤ g ∧
  ∀ j, j < l.length → ∃ aj cj, cur[j]? = some (.slice aj (l[j]?.getD []).length cj) ∧ LO B W aj (l[j]?.getD []) ∧ (l[j]?.getD []).length ≤ 1000
theorem RO.keep {B : Nat} {W W1 : World} {a : Option Addr} {l : List (List Int)} (h : RO B W a l) (hb : Below W.heap.size W W1) : RO B W1 a l := by
  rcases h with h | ⟨g, cur, e, h1, h2, h3⟩
  · exact .inl h
  · refine .inr ⟨g, cur, e, (hb.block _ (lt_hp h1)).trans h1, h2, fun j hj => ?_⟩
    obtain ⟨aj, cj, k1, k2, k3⟩ := h3 j hj
    exact ⟨aj, cj, k1, k2.keep hb, k3⟩
theorem RO.rws {B : Nat} {W : World} {a : Option Addr} {l : List (List Int)} (h : RO B W a l) : Rws W a l := by
  rcases h with rfl | ⟨g, cur, rfl, h1, h2, h3⟩
  · intro j hj; simp at hj
  · intro j hj
    obtain ⟨aj, cj, k1, k2, k3⟩ := h3 j hj
    exact ⟨g, 0, aj, cj, rfl, lt_hp h1, by rw [Nat.zero_add, cell_of_row _ _ _ _ _ _ h1]; exact k1, k2.ints, k3⟩
/-- what the walk keeps -/
structure Cp (w : World) (wl vl : List Int) (cl : List (List Int)) (kd N C : Int) (v3 v4 v5 : Value) (a1 a2 : Option Addr) (cv : Value) (ws : List Value) (k : Nat) (W : World) : Prop where
  box : W.heap[w.heap.size]? = some (.cells #[.int .i64 kd, .int .i64 N, .int .i64 C, v3, v4, v5] 25 (0, 0))
  rb : W.heap[w.heap.size + 1]? = some (.cells #[.int .i64 0, .int .i64 0, .int .i64 0, .slice none 0 0, .slice none 0 0, .slice none 0 0] 25 (0, 0))
  bel : Below w.heap.size w W
  l1 : LO w.heap.size W a1 wl
  l2 : LO w.heap.size W a2 vl
  ow : W.ownsRow w.heap.size 22 1 cv k ws
  ro : ∀ j, j < k → ∃ aj cj, ws[j]? = some (.slice aj (cl[j]?.getD []).length cj) ∧ LO w.heap.size W aj (cl[j]?.getD [])
theorem Cp.keep {w : World} {wl vl : List Int} {cl : List (List Int)} {kd N C : Int} {v3 v4 v5 : Value} {a1 a2 : Option Addr} {cv : Value} {ws : List Value} {k : Nat} {W W1 : World} (h : Cp w wl vl cl kd N C v3 v4 v5 a1 a2 cv ws k W) (hb : Below W.heap.size W W1) : Cp w wl vl cl kd N C v3 v4 v5 a1 a2 cv ws k W1 :=
  { box := (hb.block _ (lt_hp h.box)).trans h.box
    rb := (hb.block _ (lt_hp h.rb)).trans h.rb
    bel := bl_tr h.bel hb
    l1 := h.l1.keep hb
    l2 := h.l2.keep hb
    ow := h.ow.kept (row := none) ⟨hb.os, hb.tape, hb.output, hb.size, fun i hi _ => hb.block i hi⟩ (by by_cases e : cv.ownBlock = none; exact Or.inl e; exact Or.inr e)
    ro := fun j hj => by
      obtain ⟨aj, cj, e1, e2⟩ := h.ro j hj
      exact ⟨aj, cj, e1, e2.keep hb⟩ }
theorem Cp.step {w : World} {wl vl : List Int} {cl : List (List Int)} {kd N C : Int} {v3 v4 v5 : Value} {a1 a2 : Option Addr} {cv cv' : Value} {ws : List Value} {k : Nat} {x w3 : World} {aj : Option Addr} {cj : Nat} {val : Value} (h : Cp w wl vl cl kd N C v3 v4 v5 a1 a2 cv ws k x) (hv : val = .slice aj (cl[k]?.getD []).length cj) (hi : LO w.heap.size x aj (cl[k]?.getD []))
    (hown : w3.ownsRow w.heap.size 22 1 cv' (k + 1) (ws ++ [val])) (hgrow : (x.alloc (.cells #[val] 22)).grownBy w3 cv.ownBlock) : Cp w wl vl cl kd N C v3 v4 v5 a1 a2 cv' (ws ++ [val]) (k + 1) w3 := by
  have bA : Below x.heap.size x (x.alloc (.cells #[val] 22)) := bl_al (Below.refl _ _) _
  have blk : ∀ (b : Nat) (cs : Array Value) (t : TypeId), x.heap[b]? = some (.cells cs t (0, 0)) → t ≠ 22 → w3.heap[b]? = x.heap[b]? := fun b cs t e ht => by
    have hlt := lt_hp e
    rw [hgrow.block b (by simp; omega) (row_ne h.ow e ht)]
    exact bA.block b hlt
  have bl3 : Below w.heap.size w w3 := by
    have b1 : Below w.heap.size w (x.alloc (.cells #[val] 22)) := bl_tr h.bel bA
    exact b1.grown hgrow b1.size (fun j hj => (h.ow.lt j hj).1)
  have lo : ∀ a l, LO w.heap.size x a l → LO w.heap.size w3 a l := fun a l q => q.same fun g cur h1 _ => blk g cur 3 h1 (by decide)
  exact {
    box := (blk _ _ _ h.box (by decide)).trans h.box
    rb := (blk _ _ _ h.rb (by decide)).trans h.rb
    bel := bl3
    l1 := lo _ _ h.l1
    l2 := lo _ _ h.l2
    ow := hown
    ro := fun j hj => by
      rcases Nat.lt_or_ge j k with hlt | hge
      · obtain ⟨a', c', e1, e2⟩ := h.ro j hlt
        refine ⟨a', c', ?_, lo _ _ e2⟩
        rw [List.getElem?_append_left]
        · exact e1
        · rcases Nat.lt_or_ge j ws.length with h' | h'
          · exact h'
          · rw [List.getElem?_eq_none h'] at e1; cases e1
      · obtain rfl : j = k := by omega
        have hl : ws.length = j := by have := h.ow.1; omega
        refine ⟨aj, cj, ?_, lo _ _ hi⟩
        rw [List.getElem?_append_right (by omega), hl, hv]
        simp }
theorem LO.other {B : Nat} {W W1 : World} {a : Option Addr} {l : List Int} (h : LO B W a l) (he : ∀ (g : Nat) (cs : Array Value) (t : TypeId), W.heap[g]? = some (.cells cs t (0, 0)) → t ≠ 25 → W1.heap[g]? = W.heap[g]?) : LO B W1 a l := h.same fun g cur h1 _ => he g cur 3 h1 (by decide)
theorem RO.other {B : Nat} {W W1 : World} {a : Option Addr} {l : List (List Int)} (h : RO B W a l) (he : ∀ (g : Nat) (cs : Array Value) (t : TypeId), W.heap[g]? = some (.cells cs t (0, 0)) → t ≠ 25 → W1.heap[g]? = W.heap[g]?) : RO B W1 a l := by
  rcases h with h | ⟨g, cur, e, h1, h2, h3⟩
  · exact .inl h
  · refine .inr ⟨g, cur, e, (he g cur 22 h1 (by decide)).trans h1, h2, fun j hj => ?_⟩
    obtain ⟨aj, cj, k1, k2, k3⟩ := h3 j hj
    exact ⟨aj, cj, k1, k2.other he, k3⟩
theorem Cp.fin {w : World} {wl vl : List Int} {cl : List (List Int)} {kd N C : Int} {v3 v4 v5 : Value} {a1 a2 : Option Addr} {cv : Value} {ws : List Value} {W : World} (h : Cp w wl vl cl kd N C v3 v4 v5 a1 a2 cv ws cl.length W) (hr : ∀ j, j < cl.length → (cl[j]?.getD []).length ≤ 1000) : ∃ a3 c3, cv = .slice a3 cl.length c3 ∧ RO w.heap.size W a3 cl := by
  have hcell := fun g cap (e : cv = .slice (some ⟨g, 0, none⟩) cl.length cap) => (e ▸ h.ow : W.ownsRow w.heap.size 22 1 (.slice (some ⟨g, 0, none⟩) cl.length cap) cl.length ws).cellAt
  rcases h.ow.2 with ⟨e, z0⟩ | ⟨g, cap, cur, e, hb, hg, hc1, hc2, _⟩
  · exact ⟨none, 0, by rw [z0]; exact e, .inl (List.eq_nil_of_length_eq_zero z0)⟩
  · refine ⟨some ⟨g, 0, none⟩, cap, e, .inr ⟨g, cur, rfl, hg, hb, fun j hj => ?_⟩⟩
    obtain ⟨aj, cj, e1, e2⟩ := h.ro j hj
    have hk := hcell g cap e j (by omega)
    rw [cell_of_row _ _ _ _ _ _ hg] at hk
    exact ⟨aj, cj, hk.trans e1, e2, hr j hj⟩
/-- what inst.Copy leaves -/
def icpost (kd N C : Int) (wl vl : List Int) (cl : List (List Int)) (w : World) (e : Ending) (w' : World) : Prop := ∃ (a1 a2 a3 : Option Addr) (c1 c2 c3 : Nat), e = .returned (.agg #[.int .i64 kd, .int .i64 N, .int .i64 C, .slice a1 wl.length c1, .slice a2 vl.length c2, .slice a3 cl.length c3]) ∧ Below w.heap.size w w' ∧ LO w.heap.size w' a1 wl ∧ LO w.heap.size w' a2 vl ∧ RO w.heap.size w' a3 cl
set_option maxRecDepth 1000000 in
set_option maxHeartbeats 2000000 in
theorem icopy_any (kd N C : Int) (wl vl : List Int) (cl : List (List Int)) (x1 x2 : Option Addr) (ca : Option Addr) (wc vc cc : Nat) (l1 : wl.length ≤ 1000) (l2 : vl.length ≤ 1000) (l3 : cl.length ≤ 1000) (w : World) (i1 : Ints w x1 wl) (i2 : Ints w x2 vl) (i3 : Rws w ca cl) :
    Calls Tryd.prog 48 #[.agg #[.int .i64 kd, .int .i64 N, .int .i64 C, .slice x1 wl.length wc, .slice x2 vl.length vc, .slice ca cl.length cc]] w (icpost kd N C wl vl cl w) := by
  obtain ⟨i0, hi, hz0, hz1, hz2⟩ := info_parts info22
  have H1 := Lib.hid i1
  have H2 := Lib.hid i2
  have H3 := Lib.hid i3
  have bA : Below w.heap.size w ((w.alloc (.cells #[.int .i64 kd, .int .i64 N, .int .i64 C, .slice x1 wl.length wc, .slice x2 vl.length vc, .slice ca cl.length cc] 25)).alloc (.cells #[.int .i64 0, .int .i64 0, .int .i64 0, .slice none 0 0, .slice none 0 0, .slice none 0 0] 25)) := bl_al (bl_al (Below.refl _ _) _) _
  have C1 := Lib.hid (clist_any x1 wc wl l1 _ (i1.keep bA))
  have BA := Lib.hid bA
  clear i1 i2 i3 bA
  go_enter Tryd.func48, Tryd.ntmps48
  go_wp2_with fail
  refine C1.out.mono ?_; rintro e w1 ⟨a1, c1, rfl, hb1, lo1⟩
  have q1 : w1.heap[w.heap.size]? = some (.cells #[.int .i64 kd, .int .i64 N, .int .i64 C, .slice x1 wl.length wc, .slice x2 vl.length vc, .slice ca cl.length cc] 25 (0, 0)) := (hb1.block _ (by simp; omega)).trans (heap_alloc2_old w _ _)
  have r1 : w1.heap[w.heap.size + 1]? = some (.cells #[.int .i64 0, .int .i64 0, .int .i64 0, .slice none 0 0, .slice none 0 0, .slice none 0 0] 25 (0, 0)) := (hb1.block _ (by simp)).trans (heap_alloc2_new w _ _)
  have B1 := bl_tr BA.out hb1
  have Q1 := Lib.hid q1
  have q2 : (w1.setCell ⟨w.heap.size, 3, none⟩ (.slice a1 wl.length c1)).heap[w.heap.size]? = some (.cells #[.int .i64 kd, .int .i64 N, .int .i64 C, .slice a1 wl.length c1, .slice x2 vl.length vc, .slice ca cl.length cc] 25 (0, 0)) := heap_setCell_same w1 w.heap.size 3 _ 25 (.slice a1 wl.length c1) q1
  have r2 : (w1.setCell ⟨w.heap.size, 3, none⟩ (.slice a1 wl.length c1)).heap[w.heap.size + 1]? = some (.cells #[.int .i64 0, .int .i64 0, .int .i64 0, .slice none 0 0, .slice none 0 0, .slice none 0 0] 25 (0, 0)) := (heap_setCell_other w1 ⟨w.heap.size, 3, none⟩ _ _ (by show w.heap.size + 1 ≠ w.heap.size; omega)).trans r1
  have B2 : Below w.heap.size w (w1.setCell ⟨w.heap.size, 3, none⟩ (.slice a1 wl.length c1)) := B1.setCell (p := ⟨w.heap.size, 3, none⟩) (Nat.le_refl _) _
  have L2 : LO w.heap.size (w1.setCell ⟨w.heap.size, 3, none⟩ (.slice a1 wl.length c1)) a1 wl := (lo1.mono (by simp; omega)).same fun g cur h1 _ => heap_setCell_other w1 ⟨w.heap.size, 3, none⟩ g _ (blk_ne h1 q1 (by decide))
  have HQ2 := Lib.hid q2
  have HR2 := Lib.hid r2
  have HB2 := Lib.hid B2
  have HL2 := Lib.hid L2
  clear q2 r2 B2 L2 B1 r1 lo1 hb1 BA C1 q1
  obtain ⟨e0, e1, e2, e3, e4, e5⟩ := box6 Q1.out
  have ef := fr6 Q1.out
  go_upto_region 2 with fail
  clear e0 e1 e2 e3 e4 e5 ef Q1
  generalize w1.setCell ⟨w.heap.size, 3, none⟩ (.slice a1 wl.length c1) = W2 at HQ2 HR2 HB2 HL2 ⊢
  have C2 := Lib.hid (clist_any x2 vc vl l2 W2 (H2.out.keep HB2.out))
  obtain ⟨e0, e1, e2, e3, e4, e5⟩ := box6 HQ2.out
  go_wp2_with fail
  refine C2.out.mono ?_; rintro e w3 ⟨a2, c2, rfl, hb3, lo3⟩
  clear e0 e1 e2 e3 e4 e5
  have Q3 := Lib.hid ((hb3.block _ (lt_hp HQ2.out)).trans HQ2.out)
  have R3 := Lib.hid ((hb3.block _ (lt_hp HR2.out)).trans HR2.out)
  have B3 := Lib.hid (bl_tr HB2.out hb3)
  have L3 := Lib.hid (HL2.out.keep hb3)
  have M3 := Lib.hid (lo3.mono HB2.out.size)
  clear hb3 lo3 HQ2 HR2 HB2 HL2 C2
  have S4 : Hid (Cp w wl vl cl kd N C (.slice a1 wl.length c1) (.slice a2 vl.length c2) (.slice ca cl.length cc) a1 a2 (.slice none 0 0) [] 0 (w3.setCell ⟨w.heap.size, 4, none⟩ (.slice a2 vl.length c2))) := Lib.hid {
    box := heap_setCell_same w3 w.heap.size 4 _ 25 (.slice a2 vl.length c2) Q3.out
    rb := (heap_setCell_other w3 ⟨w.heap.size, 4, none⟩ _ _ (by show w.heap.size + 1 ≠ w.heap.size; omega)).trans R3.out
    bel := B3.out.setCell (p := ⟨w.heap.size, 4, none⟩) (Nat.le_refl _) _
    l1 := L3.out.same fun g cur h1 _ => heap_setCell_other w3 ⟨w.heap.size, 4, none⟩ g _ (blk_ne h1 Q3.out (by decide))
    l2 := M3.out.same fun g cur h1 _ => heap_setCell_other w3 ⟨w.heap.size, 4, none⟩ g _ (blk_ne h1 Q3.out (by decide))
    ow := World.ownsRow_nil _ _ _ _
    ro := fun j hj => by omega }
  obtain ⟨e0, e1, e2, e3, e4, e5⟩ := box6 Q3.out
  have ef := fr6 Q3.out
  go_upto_region 3 with fail
  clear e0 e1 e2 e3 e4 e5 ef Q3 R3 B3 L3 M3
  generalize w3.setCell ⟨w.heap.size, 4, none⟩ (.slice a2 vl.length c2) = W4 at S4 ⊢
  obtain ⟨e0, e1, e2, e3, e4, e5⟩ := box6 S4.out.box
  obtain ⟨n, hn⟩ : ∃ n, cl.length = n := ⟨_, rfl⟩
  have HN := Lib.hid hn
  have hn1 : n ≤ 1000 := by omega
  rw [hn] at e5 ⊢
  clear hn l3
  go_wp2
  clear e0 e1 e2 e3 e4 e5
  go_loopw [3, 17] (fun cv i wr => ∃ (k : Nat) (ws : List Value), k ≤ n ∧ i = .int .i64 k ∧ Hid (Cp w wl vl cl kd N C (.slice a1 wl.length c1) (.slice a2 vl.length c2) (.slice ca cl.length cc) a1 a2 cv ws k wr)) (fun _ i _ => n - (intOf i).toNat)
  case atStart => exact ⟨0, [], by omega, rfl, S4⟩
  case round =>
    clear S4
    obtain ⟨k, ws, hk, rfl, R⟩ := hrel
    by_cases hlt : k < n
    · have h1 : (k : Int) < (n : Int) := by omega
      obtain ⟨b, o, xj, cj, rfl, hb, d1, hi1, hl1⟩ := (H3.out.keep R.out.bel) k (by have := HN.out; omega)
      obtain ⟨row, hrow⟩ : ∃ row, cl[k]?.getD [] = row := ⟨_, rfl⟩
      rw [hrow] at d1 hi1 hl1
      have CL := Lib.hid (clist_any xj cj row hl1 wr hi1)
      have HRW := Lib.hid hrow
      clear hi1 hrow
      go_wp2_with fail
      refine CL.out.mono ?_; rintro e w5 ⟨aj, c5, rfl, hb5, lo5⟩
      have R5 := Lib.hid (R.out.keep hb5)
      have L5 := Lib.hid (lo5.mono R.out.bel.size)
      clear hb5 lo5 R d1 CL
      have hsz := R5.out.bel.size
      go_wp2_with (at_builtin; refine wpList_append_own _ rfl _ _ 23 rfl w.heap.size 22 i0 (.slice none 0 0) 1 24 Tryd.underlying23 hi hz0 hz1 hz2 rfl (by decide) _ k ws rfl (R5.out.ow.alloc _) ⟨w5.heap.size, 0, none⟩ 1 1 [.slice aj row.length c5] rfl rfl (cell_one_new _ _ _) (by simp [Value.oneCell']) (by unfold maxLen; omega) (by omega) (by simp; omega) ?_)
      intro v2 w6 hown hgrow _
      have R6 := Lib.hid (Cp.step R5.out (by rw [HRW.out]) (by rw [HRW.out]; exact L5.out) hown hgrow)
      clear hown hgrow R5 L5
      go_wp2
      go_roundw
      case rel => exact ⟨k + 1, _, by omega, by go_num, R6⟩
      case measure => simp [intOf]; omega
    · have h1 : ¬ (k : Int) < (n : Int) := by omega
      obtain rfl : k = n := by omega
      obtain ⟨a3, c3, hcv, hro⟩ := Cp.fin (by rw [HN.out]; exact R.out) (fun j hj => by
        obtain ⟨_, _, _, _, _, _, _, _, h5⟩ := H3.out j hj
        exact h5)
      rw [HN.out] at hcv
      subst hcv
      have B7 := R.out.bel.setCell (p := ⟨w.heap.size, 5, none⟩) (Nat.le_refl _) (.slice a3 k c3)
      have o7 : ∀ g, g ≠ w.heap.size → (wr.setCell ⟨w.heap.size, 5, none⟩ (.slice a3 k c3)).heap[g]? = wr.heap[g]? := fun g hg => heap_setCell_other wr ⟨w.heap.size, 5, none⟩ g _ hg
      have q7 := heap_setCell_same wr w.heap.size 5 _ 25 (.slice a3 k c3) R.out.box
      have r7 := (o7 (w.heap.size + 1) (by omega)).trans R.out.rb
      have he7 : ∀ (g : Nat) (cs : Array Value) (t : TypeId), wr.heap[g]? = some (.cells cs t (0, 0)) → t ≠ 25 → (wr.setCell ⟨w.heap.size, 5, none⟩ (.slice a3 k c3)).heap[g]? = wr.heap[g]? := fun g cs t h ht => o7 g (blk_ne h R.out.box ht)
      have L7 := Lib.hid (R.out.l1.other he7)
      have M7 := Lib.hid (R.out.l2.other he7)
      have N7 := Lib.hid (hro.other he7)
      have Q7 := Lib.hid q7
      have R7 := Lib.hid r7
      have HB7 := Lib.hid B7
      obtain ⟨e0, e1, e2, e3, e4, e5⟩ := box6 R.out.box
      have ef := fr6 R.out.box
      clear B7 o7 q7 r7 he7 hro
      go_upto_region 10 with fail
      clear e0 e1 e2 e3 e4 e5 ef R
      have Q8 : Hid ((wr.setCell ⟨w.heap.size, 5, none⟩ (.slice a3 k c3)).heap[w.heap.size]? = some (.cells #[.int .i64 kd, .int .i64 N, .int .i64 C, .slice a1 wl.length c1, .slice a2 vl.length c2, .slice a3 k c3] 25 (0, 0))) := Q7
      clear Q7
      generalize wr.setCell ⟨w.heap.size, 5, none⟩ (.slice a3 k c3) = W7 at Q8 R7 HB7 L7 M7 N7 ⊢
      have rf := six R7.out (.int .i64 kd) (.int .i64 N) (.int .i64 C) (.slice a1 wl.length c1) (.slice a2 vl.length c2) (.slice a3 k c3)
      have bf := six_below HB7.out (show w.heap.size ≤ w.heap.size + 1 by omega) (.int .i64 kd) (.int .i64 N) (.int .i64 C) (.slice a1 wl.length c1) (.slice a2 vl.length c2) (.slice a3 k c3)
      have he8 : ∀ (g : Nat) (cs : Array Value) (t : TypeId), W7.heap[g]? = some (.cells cs t (0, 0)) → t ≠ 25 → ((((((W7.setCell ⟨w.heap.size + 1, 0, none⟩ (.int .i64 kd)).setCell ⟨w.heap.size + 1, 1, none⟩ (.int .i64 N)).setCell ⟨w.heap.size + 1, 2, none⟩ (.int .i64 C)).setCell ⟨w.heap.size + 1, 3, none⟩ (.slice a1 wl.length c1)).setCell ⟨w.heap.size + 1, 4, none⟩ (.slice a2 vl.length c2)).setCell ⟨w.heap.size + 1, 5, none⟩ (.slice a3 k c3)).heap[g]? = W7.heap[g]? := fun g cs t h ht => six_other (blk_ne h R7.out ht) (.int .i64 kd) (.int .i64 N) (.int .i64 C) (.slice a1 wl.length c1) (.slice a2 vl.length c2) (.slice a3 k c3)
      have HF := Lib.hid rf
      have HP := Lib.hid (show icpost kd N C wl vl cl w (.returned (.agg #[.int .i64 kd, .int .i64 N, .int .i64 C, .slice a1 wl.length c1, .slice a2 vl.length c2, .slice a3 k c3])) _ from ⟨a1, a2, a3, c1, c2, c3, by rw [HN.out], bf, L7.out.other he8, M7.out.other he8, N7.out.other he8⟩)
      obtain ⟨e0, e1, e2, e3, e4, e5⟩ := box6 Q8.out
      obtain ⟨f0, f1, f2, f3, f4, f5⟩ := box6 R7.out
      have ef := fr6 R7.out
      clear rf bf he8
      go_wp2
      refine bodyPost_ret (results_cell_row Tryd.results48 _ _ (w.heap.size + 1) 25 _ (0, 0) _ rfl HF.out Tryd.underlying25 rfl (by kernel_rfl)) rfl ?_
      exact HP.out
end Go.Proofs.YtlhpiikpmmlpeaaDoor
