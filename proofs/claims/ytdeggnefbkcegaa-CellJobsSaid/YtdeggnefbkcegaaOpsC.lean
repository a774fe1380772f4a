/-
  What Last and All answer.
-/
import Derived.Test.YtdeggnefbkcegaaOps
namespace Go.Proofs.Ytdeggnefbkcegaa
open Go.RowKit Go.MuLone
set_option linter.unusedVariables false
set_option maxRecDepth 100000 in
set_option maxHeartbeats 4000000 in
theorem last_any (g b : Nat) (l : List Int) (s k c o n : Int) (d : Bool) (w : World) (h : MB 0 g b l s k c o n d w) :
    Calls Try.prog 14 #[.pointer (some ⟨g, 0, none⟩)] w (Did (.agg #[.int .i64 k, .int .i64 c, .int .i64 o, .int .i64 n, .bool d]) g b l s k c o n d w) := by
  have HM := Lib.hid h
  clear h
  have B0 := Lib.hid (bl_al (Below.refl _ w) (.cells #[.int .i64 0, .int .i64 0, .int .i64 0, .int .i64 0, .bool false] 35))
  go_enter_defers Try.func14, Try.ntmps14
  go_wp2_with fail
  have hz0 := HM.out.mc.c0
  have hzf := HM.out.mc.fg 0
  refine (lock_free muLib ⟨g, 0, none⟩ _ ?_ ?_).mono ?_
  · exact (B0.out.cell (p := ⟨g, 0, none⟩) (lt_hp HM.out.1)).trans hz0
  · exact (B0.out.frozen (p := ⟨g, 0, none⟩) (lt_hp HM.out.1)).trans hzf
  clear hz0 hzf
  rintro e w1 ⟨rfl, hw1⟩
  have R1 : Hid (w1.heap[w.heap.size]? = some (.cells #[.int .i64 0, .int .i64 0, .int .i64 0, .int .i64 0, .bool false] 35 (0, 0))) := by
    show _ = _
    rw [hw1]; exact blk_oth (heap_alloc_new _ _) (by have := lt_hp HM.out.1; omega) 0 _
  have C1 : Hid (Ch g b w w1) := by
    show Ch _ _ _ _
    rw [hw1]; exact ((Ch.refl g b w).al _).st (.inl rfl) 0 _
  have N1 : Hid (MB 1 g b l s k c o n d w1) := by
    show MB _ _ _ _ _ _ _ _ _ _ _
    rw [hw1]; exact ⟨blk_set (HM.out.keep B0.out).1 0 _, blk_oth (HM.out.keep B0.out).2 HM.out.ne.symm 0 _⟩
  have LG := Lib.hid (lt_hp HM.out.1)
  have LB := Lib.hid (lt_hp HM.out.2)
  clear hw1 B0
  obtain ⟨c0, c2, c3, c4, c5, c6, c7, c8, fg, cb, fb⟩ := N1.out.mc
  clear cb c2
  have r0 := cell_of_row w1 _ 0 _ 35 _ R1.out
  have r1 := cell_of_row w1 _ 1 _ 35 _ R1.out
  have r2 := cell_of_row w1 _ 2 _ 35 _ R1.out
  have r3 := cell_of_row w1 _ 3 _ 35 _ R1.out
  have r4 := cell_of_row w1 _ 4 _ 35 _ R1.out
  have fr : ∀ j, w1.frozen? ⟨w.heap.size, j, none⟩ = false := fun j => by have := R1.out; simp [World.frozen?, this]
  have ne1 : w.heap.size ≠ g := by have := LG.out; omega
  have ne2 : w.heap.size ≠ b := by have := LB.out; omega
  have hr : w.heap.size ≤ w.heap.size := Nat.le_refl _
  have F : Hid (∀ W2, W2 = (((((w1.setCell ⟨w.heap.size, 0, none⟩ (.int .i64 k)).setCell ⟨w.heap.size, 1, none⟩ (.int .i64 c)).setCell ⟨w.heap.size, 2, none⟩ (.int .i64 o)).setCell ⟨w.heap.size, 3, none⟩ (.int .i64 n)).setCell ⟨w.heap.size, 4, none⟩ (.bool d)) →
      W2.cell? ⟨g, 0, none⟩ = some (.int .i32 1) ∧ W2.frozen? ⟨g, 0, none⟩ = false ∧ MB 0 g b l s k c o n d (W2.setCell ⟨g, 0, none⟩ (.int .i32 0)) ∧ Ch g b w (W2.setCell ⟨g, 0, none⟩ (.int .i32 0)) ∧ (W2.setCell ⟨g, 0, none⟩ (.int .i32 0)).heap[w.heap.size]? = some (.cells #[.int .i64 k, .int .i64 c, .int .i64 o, .int .i64 n, .bool d] 35 (0, 0))) := fun W2 hW => by
    have a1 := blk_oth (blk_oth (blk_oth (blk_oth (blk_oth N1.out.1 ne1.symm 0 (.int .i64 k)) ne1.symm 1 (.int .i64 c)) ne1.symm 2 (.int .i64 o)) ne1.symm 3 (.int .i64 n)) ne1.symm 4 (.bool d)
    have b1 := blk_oth (blk_oth (blk_oth (blk_oth (blk_oth N1.out.2 ne2.symm 0 (.int .i64 k)) ne2.symm 1 (.int .i64 c)) ne2.symm 2 (.int .i64 o)) ne2.symm 3 (.int .i64 n)) ne2.symm 4 (.bool d)
    have q1 := blk_set (blk_set (blk_set (blk_set (blk_set R1.out 0 (.int .i64 k)) 1 (.int .i64 c)) 2 (.int .i64 o)) 3 (.int .i64 n)) 4 (.bool d)
    have c1 := ((((C1.out.st (.inr (.inr hr)) 0 (.int .i64 k)).st (.inr (.inr hr)) 1 (.int .i64 c)).st (.inr (.inr hr)) 2 (.int .i64 o)).st (.inr (.inr hr)) 3 (.int .i64 n)).st (.inr (.inr hr)) 4 (.bool d)
    rw [← hW] at a1 b1 q1 c1
    exact ⟨(cell_of_row _ g 0 _ 71 _ a1).trans rfl, by simp [World.frozen?, a1], ⟨blk_set a1 0 _, blk_oth b1 HM.out.ne.symm 0 _⟩, c1.st (.inl rfl) 0 _, blk_oth q1 ne1 0 _⟩
  simp at r0 r1 r2 r3 r4
  clear hr
  generalize w.heap.size = r at *
  go_wp2_with fail
  obtain ⟨y1, y2, y3, y4, y5⟩ := F.out _ rfl
  clear c0 c3 c4 c5 c6 c7 c8 fg fb r0 r1 r2 r3 r4 fr
  refine leaves_cons (f := 31) (args := #[.pointer (some ⟨g, 0, none⟩)]) (by simp) (by simp [go_sem]) ?_
  refine (unlock_deferred muLib ⟨g, 0, none⟩ .returning _ ?_ ?_).mono ?_
  · exact y1
  · exact y2
  rintro e u' w'' ⟨rfl, rfl, hw⟩
  rw [← hw] at y3 y4 y5
  have q0 := cell_of_row _ r 0 _ 35 _ y5
  have q1 := cell_of_row _ r 1 _ 35 _ y5
  have q2 := cell_of_row _ r 2 _ 35 _ y5
  have q3 := cell_of_row _ r 3 _ 35 _ y5
  have q4 := cell_of_row _ r 4 _ 35 _ y5
  simp at q0 q1 q2 q3 q4
  simp [Leaves, settle, results, Try.results14, go_sem, q0, q1, q2, q3, q4]
  exact ⟨rfl, y3, y4⟩
theorem last_nil (w : World) : Calls Try.prog 14 #[.pointer none] w fun e w' => e = .returned (.agg #[.int .i64 0, .int .i64 0, .int .i64 0, .int .i64 0, .bool false]) ∧ Below w.heap.size w w' := by
  go_enter Try.func14, Try.ntmps14
  go_wp2
  refine bodyPost_ret (v := .agg #[.int .i64 0, .int .i64 0, .int .i64 0, .int .i64 0, .bool false]) (by simp [results, Try.results14, go_sem]) rfl ⟨rfl, ?_⟩
  exact bl_al (Below.refl _ w) _
/-- a list of its own is answered -/
def AllOf (g b : Nat) (l : List Int) (s k c o n : Int) (d : Bool) (w : World) (e : Ending) (w' : World) : Prop := ∃ ga ca, e = .returned (.slice (some ⟨ga, 0, none⟩) l.length ca) ∧ w'.ownsRow w.heap.size 3 1 (.slice (some ⟨ga, 0, none⟩) l.length ca) l.length (l.map (Value.int .i64)) ∧ w.heap.size ≤ ga ∧ MB 0 g b l s k c o n d w' ∧ Ch g b w w'
theorem row_st {w : World} {B ga q n ca : Nat} {xs : List Value} (h : w.ownsRow B 3 1 (.slice (some ⟨ga, 0, none⟩) n ca) n xs) (hne : ga ≠ q) (j : Nat) (v : Value) : (w.setCell ⟨q, j, none⟩ v).ownsRow B 3 1 (.slice (some ⟨ga, 0, none⟩) n ca) n xs := by
  obtain ⟨a1, a2⟩ := h
  refine ⟨a1, ?_⟩
  rcases a2 with hn | ⟨g', cap', cur', hv, hg', hh, r⟩
  · exact .inl hn
  · injection hv with hv h2 h3
    injection hv with hv
    injection hv with hv
    subst hv
    exact .inr ⟨ga, cap', cur', by rw [h3], hg', blk_oth hh hne j v, r⟩
set_option maxRecDepth 100000 in
set_option maxHeartbeats 4000000 in
theorem all_any (g b : Nat) (l : List Int) (s k c o n : Int) (d : Bool) (hl : l.length ≤ 2500) (w : World) (h : MB 0 g b l s k c o n d w) :
    Calls Try.prog 15 #[.pointer (some ⟨g, 0, none⟩)] w (AllOf g b l s k c o n d w) := by
  have HM := Lib.hid h
  have hm := h.mc
  have c0 := hm.c0
  have c2 := hm.c2
  have f0 := hm.fg 0
  have N1 : Hid (MB 1 g b l s k c o n d (w.setCell ⟨g, 0, none⟩ (.int .i32 1))) := ⟨blk_set h.1 0 _, blk_oth h.2 h.ne.symm 0 _⟩
  have C1 : Hid (Ch g b w (w.setCell ⟨g, 0, none⟩ (.int .i32 1))) := (Ch.refl g b w).st (.inl rfl) 0 _
  have HC := Lib.hid (clone_any l b 0 l.length (Nat.le_refl _) hl (by omega) (w.setCell ⟨g, 0, none⟩ (.int .i32 1)) (lt_hp N1.out.2) (fun j hj => by rw [Nat.zero_add]; exact N1.out.mc.cb j hj))
  clear h hm
  go_enter_defers Try.func15, Try.ntmps15
  go_wp2_with (go_at_call 30; refine (lock_free muLib ⟨g, 0, none⟩ _ c0 f0).mono ?_; rintro e w' ⟨rfl, rfl⟩)
  refine HC.out.mono ?_; rintro e w2 ⟨ga, ca, rfl, ho⟩
  have N2 := Lib.hid (N1.out.keep ho.2.2.2)
  have C2 := Lib.hid (C1.out.trans (Ch.of ho.2.2.2))
  have s2 : (w.setCell ⟨g, 0, none⟩ (.int .i32 1)).heap.size = w.heap.size := by simp [World.setCell]
  have hga : w.heap.size ≤ ga := by have := ho.2.1; omega
  have hg := lt_hp HM.out.1
  have HO : Hid (w2.ownsRow w.heap.size 3 1 (.slice (some ⟨ga, 0, none⟩) l.length ca) l.length (l.map (Value.int .i64))) := by
    have := ho.2.2.1
    rwa [s2] at this
  have F : Hid (AllOf g b l s k c o n d w (.returned (.slice (some ⟨ga, 0, none⟩) l.length ca)) (w2.setCell ⟨g, 0, none⟩ (.int .i32 0))) :=
    ⟨ga, ca, rfl, row_st HO.out (by omega) 0 _, hga, ⟨blk_set N2.out.1 0 _, blk_oth N2.out.2 N2.out.ne.symm 0 _⟩, C2.out.st (.inl rfl) 0 _⟩
  clear ho hga hg HO C2
  go_wp2_with fail
  refine leaves_cons (f := 31) (args := #[.pointer (some ⟨g, 0, none⟩)]) (by simp) (by simp [go_sem]) ?_
  refine (unlock_deferred muLib ⟨g, 0, none⟩ .returning _ ?_ ?_).mono ?_
  · exact N2.out.mc.c0
  · exact N2.out.mc.fg 0
  rintro e u' w'' ⟨rfl, rfl, rfl⟩
  refine ⟨_, results_tmp rfl _ _ _, ?_⟩
  exact F.out
theorem all_nil (w : World) : Calls Try.prog 15 #[.pointer none] w fun e w' => e = .returned (.slice none 0 0) ∧ w = w' := by
  go_enter Try.func15, Try.ntmps15
  go_wp2
  go_ret
  exact ⟨rfl, rfl⟩
end Go.Proofs.Ytdeggnefbkcegaa
