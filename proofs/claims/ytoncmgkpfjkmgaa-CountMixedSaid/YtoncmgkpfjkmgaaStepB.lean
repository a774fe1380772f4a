/-
  A step by a closure that makes memory.
-/
import Derived.Test.YtoncmgkpfjkmgaaStep
namespace Go.Proofs.Ytoncmgkpfjkmgaa
open Go.RowKit Go.MuLone
set_option linter.unusedVariables false
set_option maxRecDepth 100000 in
set_option maxHeartbeats 4000000 in
theorem step27b (g b : Nat) (l : List Int) (s k c o n : Int) (d : Bool) (K i x nw : Int) (dn : Bool) (ix : Nat) (hi : i = ix) (hx : ix < l.length) (hn : nth l ix = x) (s0 : 0 ≤ s) (s1 : s ≤ 1000000) (w : World) (h : MB 0 g b l s k c o n d w)
    (p1 : Option Addr) (HC : ∀ X, MB 1 g b l s k c o n d X → Ch g b w X → Calls Try.prog 34 #[.int .i64 x, .pointer p1] X fun e w' => e = .returned (.tuple #[.int .i64 nw, .bool dn, .int .i64 0]) ∧ Below X.heap.size X w') :
    Calls Try.prog 32 #[.pointer (some ⟨g, 0, none⟩), .int .i64 K, .int .i64 i, .func (.func 34) #[] #[.pointer p1]] w fun e w' => e = .returned (.tuple #[.agg #[.int .i64 K, .int .i64 i, .int .i64 x, .int .i64 nw, .bool dn], .int .i64 0]) ∧ MB 0 g b (l.set ix nw) (s + 1) K i x nw dn w' ∧ Ch g b w w' := by
  have HM := Lib.hid h
  have HCh := Lib.hid HC
  clear h HC
  have M1 : Hid (∀ X, Below w.heap.size w X → MB 1 g b l s k c o n d (X.setCell ⟨g, 0, none⟩ (.int .i32 1))) := fun X hX => ⟨blk_set (HM.out.keep hX).1 0 _, blk_oth (HM.out.keep hX).2 HM.out.ne.symm 0 _⟩
  have B0 := Lib.hid (bl_al (Below.refl _ w) (.cells #[.int .i64 0, .int .i64 0, .int .i64 0, .int .i64 0, .bool false] 56))
  go_enter_defers Try.func32, Try.ntmps32
  go_wp2_with fail
  have hz0 := HM.out.mc.c0
  have hzf := HM.out.mc.fg 0
  refine (lock_free muLib ⟨g, 0, none⟩ _ ?_ ?_).mono ?_
  · exact (B0.out.cell (p := ⟨g, 0, none⟩) (lt_hp HM.out.1)).trans hz0
  · exact (B0.out.frozen (p := ⟨g, 0, none⟩) (lt_hp HM.out.1)).trans hzf
  clear hz0 hzf
  rintro e w1 ⟨rfl, hw1⟩
  have R1 : Hid (w1.heap[w.heap.size]? = some (.cells #[.int .i64 0, .int .i64 0, .int .i64 0, .int .i64 0, .bool false] 56 (0, 0))) := by
    show _ = _
    rw [hw1]; exact blk_oth (heap_alloc_new _ _) (by have := lt_hp HM.out.1; omega) 0 _
  have C1 : Hid (Ch g b w w1) := by
    show Ch _ _ _ _
    rw [hw1]; exact ((Ch.refl g b w).al _).st (.inl rfl) 0 _
  have N1 : Hid (MB 1 g b l s k c o n d w1) := by
    show MB _ _ _ _ _ _ _ _ _ _ _
    rw [hw1]; exact M1.out _ B0.out
  have NE := Lib.hid HM.out.ne
  have LG := Lib.hid (lt_hp HM.out.1)
  have LB := Lib.hid (lt_hp HM.out.2)
  have AF := Lib.hid (aft_of g b w.heap.size l ix s k c o n K x nw d dn w w1 _ _ _ _ _ N1.out R1.out (by have := LG.out; omega) (by have := LB.out; omega) (Nat.le_refl _) C1.out)
  clear hw1 M1 B0
  have Hh := Lib.hid (has_yes 1 g b l s k c o n d i (by omega) (by omega) w1 N1.out)
  have Hc := Lib.hid (HCh.out w1 N1.out C1.out)
  obtain ⟨c0, c2, c3, c4, c5, c6, c7, c8, fg, cb, fb⟩ := N1.out.mc
  have cx := cb ix hx
  rw [hn] at cx
  clear cb HCh hn
  have r0 := cell_of_row w1 _ 0 _ 56 _ R1.out
  have r1 := cell_of_row w1 _ 1 _ 56 _ R1.out
  have r2 := cell_of_row w1 _ 2 _ 56 _ R1.out
  have r3 := cell_of_row w1 _ 3 _ 56 _ R1.out
  have r4 := cell_of_row w1 _ 4 _ 56 _ R1.out
  have fr : ∀ j, w1.frozen? ⟨w.heap.size, j, none⟩ = false := fun j => by have := R1.out; simp [World.frozen?, this]
  have ne1 : w.heap.size ≠ g := by have := LG.out; omega
  have ne2 : w.heap.size ≠ b := by have := LB.out; omega
  have ne3 : g ≠ b := NE.out
  simp at r0 r1 r2 r3 r4
  have hlen : l.length = l.length := rfl
  generalize hr : w.heap.size = r at *
  have HR := Lib.hid hr
  clear hr
  subst hi
  have HL := Lib.hid (enc_set l ix nw)
  have HLs := Lib.hid (show (l.set ix nw).length = l.length by simp)
  generalize hm : l.length = m at *
  have HMm := Lib.hid hm
  clear hm hlen
  go_wp2_with fail
  refine Hh.out.mono ?_; rintro e w2 ⟨rfl, rfl⟩
  go_wp2_with fail
  refine Hc.out.mono ?_; rintro e w2 ⟨rfl, hb⟩
  have R2 : Hid (w2.heap[r]? = some (.cells #[.int .i64 0, .int .i64 0, .int .i64 0, .int .i64 0, .bool false] 56 (0, 0))) := (hb.block r (lt_hp R1.out)).trans R1.out
  have C2 : Hid (Ch g b w w2) := C1.out.trans (Ch.of hb)
  have N2 : Hid (MB 1 g b l s k c o n d w2) := N1.out.keep hb
  clear c0 c2 c3 c4 c5 c6 c7 c8 fg fb cx r0 r1 r2 r3 r4 fr hb AF
  have hrr := HR.out
  have AF := Lib.hid (aft_of g b r l ix s k c o n K x nw d dn w w2 _ _ _ _ _ N2.out R2.out ne1 ne2 (Nat.le_of_eq hrr) C2.out)
  clear hrr
  obtain ⟨c0, c2, c3, c4, c5, c6, c7, c8, fg, cb, fb⟩ := N2.out.mc
  have cx := cb ix (by have := HMm.out; omega)
  clear cb
  rw [HMm.out] at c2
  have r0 := cell_of_row w2 _ 0 _ 56 _ R2.out
  have r1 := cell_of_row w2 _ 1 _ 56 _ R2.out
  have r2 := cell_of_row w2 _ 2 _ 56 _ R2.out
  have r3 := cell_of_row w2 _ 3 _ 56 _ R2.out
  have r4 := cell_of_row w2 _ 4 _ 56 _ R2.out
  have fr : ∀ j, w2.frozen? ⟨r, j, none⟩ = false := fun j => by have := R2.out; simp [World.frozen?, this]
  simp at r0 r1 r2 r3 r4
  go_wp2_with fail
  clear c0 c2 c3 c4 c5 c6 c7 c8 fg fb cx r0 r1 r2 r3 r4 fr
  generalize w2.setCell ⟨b, ix, none⟩ (.int .i64 nw) = u1 at *
  refine leaves_cons (f := 31) (args := #[.pointer (some ⟨g, 0, none⟩)]) (by simp) (by simp [go_sem]) ?_
  refine (unlock_deferred muLib ⟨g, 0, none⟩ .returning _ ?_ ?_).mono ?_
  · exact AF.out.c0
  · exact AF.out.f0
  rintro e u' w'' ⟨rfl, rfl, hw⟩
  have q0 := cell_of_row _ r 0 _ 56 _ AF.out.rr
  have q1 := cell_of_row _ r 1 _ 56 _ AF.out.rr
  have q2 := cell_of_row _ r 2 _ 56 _ AF.out.rr
  have q3 := cell_of_row _ r 3 _ 56 _ AF.out.rr
  have q4 := cell_of_row _ r 4 _ 56 _ AF.out.rr
  have P1 := AF.out.mb
  have P2 := AF.out.ch
  rw [← hw] at q0 q1 q2 q3 q4 P1 P2
  simp at q0 q1 q2 q3 q4
  simp [Leaves, settle, results, Try.results32, go_sem, q0, q1, q2, q3, q4]
  exact ⟨P1, P2⟩
set_option maxRecDepth 100000 in
set_option maxHeartbeats 4000000 in
theorem step_overb (g b : Nat) (l : List Int) (s k c o n : Int) (d : Bool) (K i : Int) (p1 : Option Addr) (x : Int) (ix : Nat) (hi : i = ix) (hx : ix < l.length) (hn : nth l ix = x) (w : World) (h : MB 0 g b l s k c o n d w)
    (HC : ∀ X, MB 1 g b l s k c o n d X → Ch g b w X → Calls Try.prog 34 #[.int .i64 x, .pointer p1] X fun e w' => e = .returned (.tuple #[.int .i64 0, .bool false, .int .i64 12]) ∧ Below X.heap.size X w') :
    Calls Try.prog 32 #[.pointer (some ⟨g, 0, none⟩), .int .i64 K, .int .i64 i, .func (.func 34) #[] #[.pointer p1]] w fun e w' => e = .returned (.tuple #[.agg #[.int .i64 0, .int .i64 0, .int .i64 0, .int .i64 0, .bool false], .int .i64 12]) ∧ MB 0 g b l s k c o n d w' ∧ Ch g b w w' := by
  have HM := Lib.hid h
  have HCh := Lib.hid HC
  clear HC
  clear h
  have B0 := Lib.hid (bl_al (Below.refl _ w) (.cells #[.int .i64 0, .int .i64 0, .int .i64 0, .int .i64 0, .bool false] 56))
  go_enter_defers Try.func32, Try.ntmps32
  go_wp2_with fail
  have hz0 := HM.out.mc.c0
  have hzf := HM.out.mc.fg 0
  refine (lock_free muLib ⟨g, 0, none⟩ _ ?_ ?_).mono ?_
  · exact (B0.out.cell (p := ⟨g, 0, none⟩) (lt_hp HM.out.1)).trans hz0
  · exact (B0.out.frozen (p := ⟨g, 0, none⟩) (lt_hp HM.out.1)).trans hzf
  clear hz0 hzf
  rintro e w1 ⟨rfl, hw1⟩
  have R1 : Hid (w1.heap[w.heap.size]? = some (.cells #[.int .i64 0, .int .i64 0, .int .i64 0, .int .i64 0, .bool false] 56 (0, 0))) := by
    show _ = _
    rw [hw1]; exact blk_oth (heap_alloc_new _ _) (by have := lt_hp HM.out.1; omega) 0 _
  have C1 : Hid (Ch g b w w1) := by
    show Ch _ _ _ _
    rw [hw1]; exact ((Ch.refl g b w).al _).st (.inl rfl) 0 _
  have N1 : Hid (MB 1 g b l s k c o n d w1) := by
    show MB _ _ _ _ _ _ _ _ _ _ _
    rw [hw1]; exact ⟨blk_set (HM.out.keep B0.out).1 0 _, blk_oth (HM.out.keep B0.out).2 HM.out.ne.symm 0 _⟩
  have NE := Lib.hid HM.out.ne
  have LG := Lib.hid (lt_hp HM.out.1)
  have LB := Lib.hid (lt_hp HM.out.2)
  have AF := Lib.hid (bad_of g b w.heap.size l s k c o n d w w1 N1.out R1.out (by have := LG.out; omega) (by have := LB.out; omega) (Nat.le_refl _) C1.out)
  clear hw1 B0
  have r0 := cell_of_row w1 _ 0 _ 56 _ R1.out
  have r1 := cell_of_row w1 _ 1 _ 56 _ R1.out
  have r2 := cell_of_row w1 _ 2 _ 56 _ R1.out
  have r3 := cell_of_row w1 _ 3 _ 56 _ R1.out
  have r4 := cell_of_row w1 _ 4 _ 56 _ R1.out
  have fr : ∀ j, w1.frozen? ⟨w.heap.size, j, none⟩ = false := fun j => by have := R1.out; simp [World.frozen?, this]
  have ne1 : w.heap.size ≠ g := by have := LG.out; omega
  have ne2 : w.heap.size ≠ b := by have := LB.out; omega
  simp at r0 r1 r2 r3 r4
  generalize hr : w.heap.size = r at *
  have HR := Lib.hid hr
  clear hr
  have Hh := Lib.hid (has_yes 1 g b l s k c o n d i (by omega) (by omega) w1 N1.out)
  have Hc := Lib.hid (HCh.out w1 N1.out C1.out)
  obtain ⟨c0, c2, c3, c4, c5, c6, c7, c8, fg, cb, fb⟩ := N1.out.mc
  have cx := cb ix hx
  rw [hn] at cx
  clear cb HCh hn
  subst hi
  generalize hm : l.length = m at *
  have HMm := Lib.hid hm
  clear hm
  go_wp2_with fail
  refine Hh.out.mono ?_; rintro e w2 ⟨rfl, rfl⟩
  go_wp2_with fail
  refine Hc.out.mono ?_; rintro e w2 ⟨rfl, hb⟩
  have R2 : Hid (w2.heap[r]? = some (.cells #[.int .i64 0, .int .i64 0, .int .i64 0, .int .i64 0, .bool false] 56 (0, 0))) := (hb.block r (lt_hp R1.out)).trans R1.out
  have C2 : Hid (Ch g b w w2) := C1.out.trans (Ch.of hb)
  have N2 : Hid (MB 1 g b l s k c o n d w2) := N1.out.keep hb
  clear r0 r1 r2 r3 r4 fr hb AF c0 c2 c3 c4 c5 c6 c7 c8 fg fb cx
  have hrr := HR.out
  have AF := Lib.hid (bad_of g b r l s k c o n d w w2 N2.out R2.out ne1 ne2 (Nat.le_of_eq hrr) C2.out)
  clear hrr
  have r0 := cell_of_row w2 _ 0 _ 56 _ R2.out
  have r1 := cell_of_row w2 _ 1 _ 56 _ R2.out
  have r2 := cell_of_row w2 _ 2 _ 56 _ R2.out
  have r3 := cell_of_row w2 _ 3 _ 56 _ R2.out
  have r4 := cell_of_row w2 _ 4 _ 56 _ R2.out
  have fr : ∀ j, w2.frozen? ⟨r, j, none⟩ = false := fun j => by have := R2.out; simp [World.frozen?, this]
  simp at r0 r1 r2 r3 r4
  go_wp2_with fail
  clear r0 r1 r2 r3 r4 fr
  refine leaves_cons (f := 31) (args := #[.pointer (some ⟨g, 0, none⟩)]) (by simp) (by simp [go_sem]) ?_
  refine (unlock_deferred muLib ⟨g, 0, none⟩ .returning _ ?_ ?_).mono ?_
  · exact AF.out.c0
  · exact AF.out.f0
  rintro e u' w'' ⟨rfl, rfl, hw⟩
  have q0 := cell_of_row _ r 0 _ 56 _ AF.out.rr
  have q1 := cell_of_row _ r 1 _ 56 _ AF.out.rr
  have q2 := cell_of_row _ r 2 _ 56 _ AF.out.rr
  have q3 := cell_of_row _ r 3 _ 56 _ AF.out.rr
  have q4 := cell_of_row _ r 4 _ 56 _ AF.out.rr
  have P1 := AF.out.mb
  have P2 := AF.out.ch
  rw [← hw] at q0 q1 q2 q3 q4 P1 P2
  simp at q0 q1 q2 q3 q4
  simp [Leaves, settle, results, Try.results32, go_sem, q0, q1, q2, q3, q4]
  exact ⟨P1, P2⟩
end Go.Proofs.Ytoncmgkpfjkmgaa
