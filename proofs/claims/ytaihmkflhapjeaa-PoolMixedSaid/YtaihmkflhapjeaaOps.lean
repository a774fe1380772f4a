/-
  What Get, Set, Cas, Steps and Peek answer.
-/
import Derived.Test.YtaihmkflhapjeaaStep
namespace Go.Proofs.Ytaihmkflhapjeaa
open Go.RowKit Go.MuLone
set_option linter.unusedVariables false
theorem wf_fn (fn : Fn) (first cap : Array Value) (w : World) : (Instr.makeFunc fn first cap).run Try.prog w = .ok (.func fn first cap) w := rfl
theorem get1 (x : Int) (w : World) : Calls Try.prog 59 #[.int .i64 x] w fun e w' => e = .returned (.tuple #[.int .i64 x, .bool true, .int .i64 0]) ∧ w = w' := by
  go_enter Try.func59, Try.ntmps59
  go_wp2
  go_ret3
  exact ⟨rfl, rfl⟩
theorem set1 (x n : Int) (p : Addr) (w : World) (hp : w.cell? p = some (.int .i64 n)) : Calls Try.prog 45 #[.int .i64 x, .pointer (some p)] w fun e w' => e = .returned (.tuple #[.int .i64 n, .bool true, .int .i64 0]) ∧ w = w' := by
  go_enter Try.func45, Try.ntmps45
  go_wp2
  go_ret3
  exact ⟨rfl, rfl⟩
theorem cas_hit (x n : Int) (p q : Addr) (w : World) (hp : w.cell? p = some (.int .i64 x)) (hq : w.cell? q = some (.int .i64 n)) : Calls Try.prog 69 #[.int .i64 x, .pointer (some p), .pointer (some q)] w fun e w' => e = .returned (.tuple #[.int .i64 n, .bool true, .int .i64 0]) ∧ w = w' := by
  have h : (x != x) = false := by simp
  go_enter Try.func69, Try.ntmps69
  go_wp2
  go_ret3
  exact ⟨rfl, rfl⟩
theorem cas_miss (x old n : Int) (hne : x ≠ old) (p q : Addr) (w : World) (hp : w.cell? p = some (.int .i64 old)) (hq : w.cell? q = some (.int .i64 n)) : Calls Try.prog 69 #[.int .i64 x, .pointer (some p), .pointer (some q)] w fun e w' => e = .returned (.tuple #[.int .i64 x, .bool false, .int .i64 0]) ∧ w = w' := by
  have h : (x != old) = true := by simpa using hne
  clear hne
  go_enter Try.func69, Try.ntmps69
  go_wp2
  go_ret3
  exact ⟨rfl, rfl⟩
/-- what is answered, and what lies there behind it -/
def Did (r : Value) (g b : Nat) (l : List Int) (s k c o n : Int) (d : Bool) (w : World) (e : Ending) (w' : World) : Prop := e = .returned r ∧ MB 0 g b l s k c o n d w' ∧ Ch g b w w'
theorem ch_cell {g b p : Nat} {w X : World} (h : Ch g b w X) (h1 : p ≠ g) (h2 : p ≠ b) (hp : p < w.heap.size) (j : Nat) : X.cell? ⟨p, j, none⟩ = w.cell? ⟨p, j, none⟩ := by simp [World.cell?, h.block p hp h1 h2]
set_option maxHeartbeats 2000000 in
theorem get_ok (g b : Nat) (l : List Int) (s k c o n : Int) (d : Bool) (i x : Int) (ix : Nat) (hi : i = ix) (hx : ix < l.length) (hn : nth l ix = x) (s0 : 0 ≤ s) (s1 : s ≤ 1000000) (w : World) (h : MB 0 g b l s k c o n d w) :
    Calls Try.prog 52 #[.pointer (some ⟨g, 0, none⟩), .int .i64 i] w (Did (.tuple #[.int .i64 x, .int .i64 0]) g b (l.set ix x) (s + 1) 1 i x x true w) := by
  have H := Lib.hid (step25 g b l s k c o n d 1 i x x true ix hi hx hn s0 s1 w h (fun X _ _ => get1 x X))
  have LG := Lib.hid (lt_hp h.1)
  clear h hi hn s0 s1
  go_enter Try.func52, Try.ntmps52
  go_wp2_with fail
  refine H.out.mono ?_; rintro e w1 ⟨rfl, m1, c1⟩
  have F := Lib.hid (show Did (.tuple #[.int .i64 x, .int .i64 0]) g b (l.set ix x) (s + 1) 1 i x x true w (.returned (.tuple #[.int .i64 x, .int .i64 0])) (w1.alloc (.cells #[.int .i64 1, .int .i64 i, .int .i64 x, .int .i64 x, .bool true] 74)) from ⟨rfl, m1.keep (bl_al (Below.refl _ _) _), c1.al _⟩)
  clear m1 c1 H
  generalize l.set ix x = l2 at *
  go_wp2
  go_ret2
  exact F.out
set_option maxHeartbeats 2000000 in
theorem get_miss (g b : Nat) (l : List Int) (s k c o n : Int) (d : Bool) (i : Int) (hi : i < 0 ∨ (l.length : Int) ≤ i) (w : World) (h : MB 0 g b l s k c o n d w) :
    Calls Try.prog 52 #[.pointer (some ⟨g, 0, none⟩), .int .i64 i] w (Did (.tuple #[.int .i64 0, .int .i64 11]) g b l s k c o n d w) := by
  have H := Lib.hid (step_miss g b l s k c o n d 1 i (.func (.func 59) #[] #[]) hi w h)
  clear h hi
  go_enter Try.func52, Try.ntmps52
  go_wp2_with fail
  refine H.out.mono ?_; rintro e w1 ⟨rfl, m1, c1⟩
  have F := Lib.hid (show Did (.tuple #[.int .i64 0, .int .i64 11]) g b l s k c o n d w (.returned (.tuple #[.int .i64 0, .int .i64 11])) (w1.alloc (.cells #[.int .i64 0, .int .i64 0, .int .i64 0, .int .i64 0, .bool false] 74)) from ⟨rfl, m1.keep (bl_al (Below.refl _ _) _), c1.al _⟩)
  clear m1 c1 H
  go_wp2
  go_ret2
  exact F.out
theorem get_nil (i : Int) (w : World) : Calls Try.prog 52 #[.pointer none, .int .i64 i] w fun e w' => e = .returned (.tuple #[.int .i64 0, .int .i64 1]) ∧ Below w.heap.size w w' := by
  have H := Lib.hid (step_nil 1 i (.func (.func 59) #[] #[]) w)
  go_enter Try.func52, Try.ntmps52
  go_wp2_with fail
  refine H.out.mono ?_; rintro e w1 ⟨rfl, b1⟩
  have F := Lib.hid (bl_al b1 (.cells #[.int .i64 0, .int .i64 0, .int .i64 0, .int .i64 0, .bool false] 74))
  clear b1 H
  go_wp2
  go_ret2
  exact ⟨rfl, F.out⟩
set_option maxHeartbeats 2000000 in
theorem cas_ok (g b : Nat) (l : List Int) (s k c o n : Int) (d : Bool) (i x old y nw : Int) (dn : Bool) (ix : Nat) (hi : i = ix) (hx : ix < l.length) (hn : nth l ix = x) (hc : (x = old ∧ nw = y ∧ dn = true) ∨ (x ≠ old ∧ nw = x ∧ dn = false)) (s0 : 0 ≤ s) (s1 : s ≤ 1000000) (w : World) (h : MB 0 g b l s k c o n d w) :
    Calls Try.prog 57 #[.pointer (some ⟨g, 0, none⟩), .int .i64 i, .int .i64 old, .int .i64 y] w (Did (.tuple #[.bool dn, .int .i64 0]) g b (l.set ix nw) (s + 1) 3 i x nw dn w) := by
  have lg := lt_hp h.1
  have lb := lt_hp h.2
  have e1 := heap_alloc_new w (.cells #[.int .i64 old] 3 (0, 0))
  have b1 := bl_al (bl_al (Below.refl _ w) (.cells #[.int .i64 old] 3 (0, 0))) (.cells #[.int .i64 y] 3 (0, 0))
  have e2 := heap_alloc_new (w.alloc (.cells #[.int .i64 old] 3 (0, 0))) (.cells #[.int .i64 y] 3 (0, 0))
  have e1' := blk_al e1 (.cells #[.int .i64 y] 3 (0, 0))
  have H := Lib.hid (step26 g b l s k c o n d 3 i x nw dn ix hi hx hn s0 s1 ((w.alloc (.cells #[.int .i64 old] 3)).alloc (.cells #[.int .i64 y] 3)) (h.keep b1) (some ⟨w.heap.size, 0, none⟩) (some ⟨w.heap.size + 1, 0, none⟩) (fun X _ hX => by
    have q1 : X.cell? ⟨w.heap.size, 0, none⟩ = some (.int .i64 old) := (ch_cell hX (by omega) (by omega) (by simp; omega) 0).trans ((cell_of_row _ _ 0 _ 3 _ e1').trans rfl)
    have q2 : X.cell? ⟨w.heap.size + 1, 0, none⟩ = some (.int .i64 y) := (ch_cell hX (by omega) (by omega) (by simp) 0).trans (by have := (cell_of_row _ _ 0 _ 3 _ e2).trans rfl; simp)
    rcases hc with ⟨rfl, rfl, rfl⟩ | ⟨h1, rfl, rfl⟩
    · exact cas_hit x nw _ _ X q1 q2
    · exact cas_miss nw old y h1 _ _ X q1 q2))
  have B1 := Lib.hid b1
  clear h hi hn s0 s1 hc e1 e2 e1' b1
  have hmf := wf_fn
  go_enter Try.func57, Try.ntmps57
  go_wp2_with fail
  refine H.out.mono ?_; rintro e w1 ⟨rfl, m1, c1⟩
  have F := Lib.hid (show Did (.tuple #[.bool dn, .int .i64 0]) g b (l.set ix nw) (s + 1) 3 i x nw dn w (.returned (.tuple #[.bool dn, .int .i64 0])) (w1.alloc (.cells #[.int .i64 3, .int .i64 i, .int .i64 x, .int .i64 nw, .bool dn] 74)) from ⟨rfl, m1.keep (bl_al (Below.refl _ _) _), (((Ch.of B1.out).trans (by simpa using c1)).al _)⟩)
  clear m1 c1 H
  generalize l.set ix nw = l2 at *
  go_wp2
  go_ret2
  exact F.out
set_option maxHeartbeats 2000000 in
theorem steps_any (g b : Nat) (l : List Int) (s k c o n : Int) (d : Bool) (w : World) (h : MB 0 g b l s k c o n d w) :
    Calls Try.prog 22 #[.pointer (some ⟨g, 0, none⟩)] w (Did (.int .i64 s) g b l s k c o n d w) := by
  have hm := h.mc
  have c0 := hm.c0
  have c3 := hm.c3
  have f0 := hm.fg 0
  have ne := h.ne
  have a1 := blk_set (blk_set h.1 0 (.int .i32 1)) 0 (.int .i32 0)
  have a2 := blk_oth (blk_oth h.2 ne.symm 0 (.int .i32 1)) ne.symm 0 (.int .i32 0)
  have F : Hid (Did (.int .i64 s) g b l s k c o n d w (.returned (.int .i64 s)) ((w.setCell ⟨g, 0, none⟩ (.int .i32 1)).setCell ⟨g, 0, none⟩ (.int .i32 0))) := ⟨rfl, ⟨a1, a2⟩, ((Ch.refl g b w).st (.inl rfl) 0 _).st (.inl rfl) 0 _⟩
  have c0' : (w.setCell ⟨g, 0, none⟩ (.int .i32 1)).cell? ⟨g, 0, none⟩ = some (.int .i32 1) := by simp [go_sem, c0]
  clear h hm a1 a2 ne
  go_enter_defers Try.func22, Try.ntmps22
  go_wp2_with (go_at_call 41; refine (lock_free muLib ⟨g, 0, none⟩ _ c0 f0).mono ?_; rintro e w' ⟨rfl, rfl⟩)
  refine leaves_cons (f := 42) (args := #[.pointer (some ⟨g, 0, none⟩)]) (by simp) (by simp [go_sem]) ?_
  refine (unlock_deferred muLib ⟨g, 0, none⟩ .returning _ ?_ ?_).mono ?_
  · exact c0'
  · simp [f0]
  rintro e u' w'' ⟨rfl, rfl, rfl⟩
  refine ⟨_, results_tmp rfl _ _ _, ?_⟩
  exact F.out
theorem steps_nil (w : World) : Calls Try.prog 22 #[.pointer none] w fun e w' => e = .returned (.int .i64 0) ∧ w = w' := by
  go_enter Try.func22, Try.ntmps22
  go_wp2
  go_ret
  exact ⟨rfl, rfl⟩
set_option maxHeartbeats 2000000 in
theorem peek_ok (g b : Nat) (l : List Int) (s k c o n : Int) (d : Bool) (i x : Int) (ix : Nat) (hi : i = ix) (hx : ix < l.length) (hn : nth l ix = x) (w : World) (h : MB 0 g b l s k c o n d w) :
    Calls Try.prog 37 #[.pointer (some ⟨g, 0, none⟩), .int .i64 i] w (Did (.int .i64 x) g b l s k c o n d w) := by
  have hm := h.mc
  have c0 := hm.c0
  have c2 := hm.c2
  have cx := hm.cb ix hx
  rw [hn] at cx
  have f0 := hm.fg 0
  have ne := h.ne
  have a1 := blk_set (blk_set h.1 0 (.int .i32 1)) 0 (.int .i32 0)
  have a2 := blk_oth (blk_oth h.2 ne.symm 0 (.int .i32 1)) ne.symm 0 (.int .i32 0)
  have F : Hid (Did (.int .i64 x) g b l s k c o n d w (.returned (.int .i64 x)) ((w.setCell ⟨g, 0, none⟩ (.int .i32 1)).setCell ⟨g, 0, none⟩ (.int .i32 0))) := ⟨rfl, ⟨a1, a2⟩, ((Ch.refl g b w).st (.inl rfl) 0 _).st (.inl rfl) 0 _⟩
  have c0' : (w.setCell ⟨g, 0, none⟩ (.int .i32 1)).cell? ⟨g, 0, none⟩ = some (.int .i32 1) := by simp [go_sem, c0]
  have Hh := Lib.hid (has_yes 0 g b l s k c o n d i (by omega) (by omega) w h)
  clear h hm a1 a2 hn
  subst hi
  generalize hm : l.length = m at *
  have HMm := Lib.hid hm
  clear hm
  go_enter_defers Try.func37, Try.ntmps37
  go_wp2_with fail
  refine Hh.out.mono ?_; rintro e w2 ⟨rfl, rfl⟩
  go_wp2_with (go_at_call 41; refine (lock_free muLib ⟨g, 0, none⟩ _ c0 f0).mono ?_; rintro e w' ⟨rfl, rfl⟩)
  refine leaves_cons (f := 42) (args := #[.pointer (some ⟨g, 0, none⟩)]) (by simp) (by simp [go_sem]) ?_
  refine (unlock_deferred muLib ⟨g, 0, none⟩ .returning _ ?_ ?_).mono ?_
  · exact c0'
  · simp [f0]
  rintro e u' w'' ⟨rfl, rfl, rfl⟩
  refine ⟨_, results_tmp rfl _ _ _, ?_⟩
  exact F.out
theorem peek_no (g b : Nat) (l : List Int) (s k c o n : Int) (d : Bool) (i : Int) (hi : i < 0 ∨ (l.length : Int) ≤ i) (w : World) (h : MB 0 g b l s k c o n d w) :
    Calls Try.prog 37 #[.pointer (some ⟨g, 0, none⟩), .int .i64 i] w fun e w' => e = .returned (.int .i64 0) ∧ w = w' := by
  have Hh := Lib.hid (has_no 0 g b l s k c o n d i hi w h)
  clear h hi
  go_enter Try.func37, Try.ntmps37
  go_wp2_with fail
  refine Hh.out.mono ?_; rintro e w2 ⟨rfl, rfl⟩
  go_wp2
  go_ret
  exact ⟨rfl, rfl⟩
theorem peek_nil (i : Int) (w : World) : Calls Try.prog 37 #[.pointer none, .int .i64 i] w fun e w' => e = .returned (.int .i64 0) ∧ w = w' := by
  go_enter Try.func37, Try.ntmps37
  go_wp2
  go_ret
  exact ⟨rfl, rfl⟩
end Go.Proofs.Ytaihmkflhapjeaa
