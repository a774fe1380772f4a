/-
  What New, Pick, Draw and Used answer of a tape.
-/
import Derived.Test.YtdeflnnbnabbgaaRFav
import Derived.StillTailTactics
namespace Go.Proofs.Ytdeflnnbnabbgaa
open Go.RowKit
set_option linter.unusedVariables false

/-- one of n, out of a number -/
def pickOf (x n : Int) : Int := IntKind.u64.wrap x % n
theorem pickOf_bd (x n : Int) (h : 1 ≤ n) : 0 ≤ pickOf x n ∧ pickOf x n ≤ n - 1 := by
  unfold pickOf
  have h1 := Int.emod_nonneg (IntKind.u64.wrap x) (show n ≠ 0 by omega)
  have h2 := Int.emod_lt_of_pos (IntKind.u64.wrap x) (show 0 < n by omega)
  omega
theorem u64_bd (x : Int) : 0 ≤ IntKind.u64.wrap x ∧ IntKind.u64.wrap x ≤ 18446744073709551615 := by rw [IntKind.wrap_u64]; omega
theorem pickOf_eq (x n : Int) : IntKind.u64.wrap x % n = pickOf x n := rfl
theorem w64 (R n : Int) (h : 0 ≤ R ∧ R ≤ n - 1) (h2 : n ≤ 9223372036854775807) : wrap64 R = R := by unfold wrap64; omega
attribute [irreducible] pickOf
/-- a list in memory, its block known whole, from B on -/
def LA (B : Nat) (w : World) (a : Option Addr) (l : List Int) : Prop := l = [] ∨ ∃ b o cur, B ≤ b ∧ a = some ⟨b, o, none⟩ ∧ w.heap[b]? = some (.cells cur 3 (0, 0)) ∧ ∀ j, j < l.length → w.cell? ⟨b, o + j, none⟩ = some (.int .i64 (nth l j))
theorem LA.ints {B : Nat} {w : World} {a : Option Addr} {l : List Int} (h : LA B w a l) : Ints w a l := by
  rcases h with rfl | ⟨b, o, cur, _, rfl, hb, hc⟩
  · exact ints_nil _ _
  · exact fun j hj => ⟨b, o, rfl, lt_hp hb, hc j hj⟩
theorem cell_same {w w1 : World} {b : Nat} (h : w1.heap[b]? = w.heap[b]?) (o : Nat) : w1.cell? ⟨b, o, none⟩ = w.cell? ⟨b, o, none⟩ := by simp [World.cell?, h]
theorem blk_ne {w : World} {g b : Nat} {cs cur : Array Value} {t : TypeId} (ht : t ≠ 3) (h1 : w.heap[g]? = some (.cells cs t (0, 0))) (h2 : w.heap[b]? = some (.cells cur 3 (0, 0))) : b ≠ g := by
  rintro rfl
  rw [h1] at h2
  simp at h2
  exact absurd h2.2 ht
theorem LA.grown {B g : Nat} {w w1 : World} {a : Option Addr} {l : List Int} {cs : Array Value} {t : TypeId} (h : LA B w a l) (ht : t ≠ 3) (hg : w.heap[g]? = some (.cells cs t (0, 0))) (k : w.grownBy w1 (some g)) : LA B w1 a l := by
  rcases h with rfl | ⟨b, o, cur, h1, rfl, hb, hc⟩
  · exact .inl rfl
  · have hne := blk_ne ht hg hb
    have e := k.block b (lt_hp hb) (fun e => hne (by injection e))
    exact .inr ⟨b, o, cur, h1, rfl, e.trans hb, fun j hj => (cell_same e _).trans (hc j hj)⟩
theorem LA.far {B g : Nat} {w w1 : World} {a : Option Addr} {l : List Int} (h : LA B w a l) (hg : g < B) (k : w.grownBy w1 (some g)) : LA B w1 a l := by
  rcases h with rfl | ⟨b, o, cur, h1, rfl, hb, hc⟩
  · exact .inl rfl
  · have e := k.block b (lt_hp hb) (fun e => by injection e with e; omega)
    exact .inr ⟨b, o, cur, h1, rfl, e.trans hb, fun j hj => (cell_same e _).trans (hc j hj)⟩
theorem LA.keep {B : Nat} {w w1 : World} {a : Option Addr} {l : List Int} (h : LA B w a l) (k : Below w.heap.size w w1) : LA B w1 a l := by
  rcases h with rfl | ⟨b, o, cur, h1, rfl, hb, hc⟩
  · exact .inl rfl
  · have e := k.block b (lt_hp hb)
    exact .inr ⟨b, o, cur, h1, rfl, e.trans hb, fun j hj => (cell_same e _).trans (hc j hj)⟩
theorem LA.mono {B C : Nat} {w : World} {a : Option Addr} {l : List Int} (h : LA B w a l) (hc : C ≤ B) : LA C w a l := by
  rcases h with rfl | ⟨b, o, cur, h1, r⟩
  · exact .inl rfl
  · exact .inr ⟨b, o, cur, by omega, r⟩
theorem Own.la {B g n cap : Nat} {l : List Int} {w0 wr : World} (h : Own B g n cap l w0 wr) : LA g wr (some ⟨g, 0, none⟩) l := by
  obtain ⟨cur, hc⟩ := h.blk
  exact .inr ⟨g, 0, cur, Nat.le_refl _, rfl, hc, fun j hj => by rw [Nat.zero_add]; exact h.cell j (by rw [h.1] at hj; exact hj)⟩
theorem gx_setCell {X w : World} {g : Nat} (h : X.grownBy w (some g)) (j : Nat) (v : Value) : X.grownBy (w.setCell ⟨g, j, none⟩ v) (some g) :=
  ⟨h.os, h.tape, h.output, by simpa [World.setCell] using h.size, fun i hi hne => (Below.heap_setCell w ⟨g, j, none⟩ v i (by intro e; exact hne (by rw [e]))).trans (h.block i hi hne)⟩
theorem gx_drewN {X w : World} {row : Option Nat} (h : X.grownBy w row) (n : Nat) : X.grownBy (w.drewN n) row := ⟨h.os, h.tape, h.output, h.size, h.block⟩
/-- the number that is told -/
def told (l : List Int) (t : Nat) (b : Int) : Int := if t < l.length then nth l t else b
theorem told_in (l : List Int) (t : Nat) (b : Int) (h : t < l.length) : told l t b = nth l t := if_pos h
theorem told_out (l : List Int) (t : Nat) (b : Int) (h : ¬ t < l.length) : told l t b = b := if_neg h
attribute [irreducible] told
set_option maxRecDepth 100000 in
set_option maxHeartbeats 2000000 in
theorem next0_any (g : Nat) (l : List Int) (a : Option Addr) (c t : Nat) (n b : Int) (hl : l.length ≤ 1000) (ht : t ≤ 1000) (h1 : 1 ≤ n) (h2 : n ≤ 9223372036854775807) (p q : Value) (w : World)
    (hd : w.heap[g]? = some (.cells #[.slice a l.length c, .int .i64 t, p, q] 45 (0, 0))) (hI : Ints w a l) :
    Calls Try.prog 20 #[.pointer (some ⟨g, 0, none⟩), .int .i64 n, .int .i64 b] w fun e w' => e = .returned (.int .i64 (pickOf (told l t b) n)) ∧ w'.heap[g]? = some (.cells #[.slice a l.length c, .int .i64 ((t : Int) + 1), p, q] 45 (0, 0)) ∧ w.grownBy w' (some g) := by
  have c0 := cell_of_row w g 0 _ 45 _ hd
  have c1 := cell_of_row w g 1 _ 45 _ hd
  have f0 : w.frozen? ⟨g, 1, none⟩ = false := by simp [World.frozen?, hd]
  have E := Lib.hid (heap_setCell_same w g 1 _ 45 (.int .i64 ((t : Int) + 1)) hd)
  have G := Lib.hid (gx_setCell (World.grownBy.refl w (some g)) 1 (.int .i64 ((t : Int) + 1)))
  have HI := Lib.hid (fun (h : t < l.length) => hI t h)
  have hwn : IntKind.u64.wrap n = n := by rw [IntKind.wrap_u64]; omega
  have HT1 := Lib.hid (told_in l t b)
  have HT2 := Lib.hid (told_out l t b)
  simp at c0 c1
  clear hd hI
  by_cases hlt : t < l.length
  · obtain ⟨b1, o1, rfl, l1, cc⟩ := HI.out hlt
    rw [HT1.out hlt]
    clear HT1 HT2 HI
    have hX := u64_bd (nth l t)
    have hR := pickOf_bd (nth l t) n h1
    have hE := pickOf_eq (nth l t) n
    generalize nth l t = x at *
    generalize l.length = m at *
    generalize hXX : IntKind.u64.wrap x = X at *
    generalize pickOf x n = R at *
    have t1 : (t : Int) < (m : Int) := by omega
    have t2 : (0 : Int) ≤ (t : Int) := by omega
    have HE := Lib.hid hE
    clear hE
    go_enter Try.func20, Try.ntmps20
    go_wp2
    go_quiet (fail)
    go_wp2
    go_quiet (fail)
    go_wp2
    go_ret
    exact ⟨congrArg (fun z => Ending.returned (.int .i64 z)) (by rw [HE.out]; exact w64 R n hR h2), E.out, gx_setCell (gx_drewN (World.grownBy.refl w _) _) _ _⟩
  · rw [HT2.out hlt]
    clear HT1 HT2 HI
    have hX := u64_bd b
    have hR := pickOf_bd b n h1
    have hE := pickOf_eq b n
    generalize l.length = m at *
    generalize hXX : IntKind.u64.wrap b = X at *
    generalize pickOf b n = R at *
    have HE := Lib.hid hE
    clear hE
    go_enter Try.func20, Try.ntmps20
    go_wp2
    go_quiet (fail)
    go_wp2
    go_ret
    exact ⟨congrArg (fun z => Ending.returned (.int .i64 z)) (by rw [HE.out]; exact w64 R n hR h2), E.out, gx_setCell (gx_drewN (World.grownBy.refl w _) _) _ _⟩
set_option maxRecDepth 100000 in
set_option maxHeartbeats 2000000 in
theorem next2_any (g : Nat) (l : List Int) (a : Option Addr) (c t : Nat) (n b : Int) (hl : l.length ≤ 1000) (ht : t ≤ 1000) (h1 : 1 ≤ n) (h2 : n ≤ 9223372036854775807) (p q : Value) (w : World)
    (hd : w.heap[g]? = some (.cells #[p, q, .slice a l.length c, .int .i64 t] 45 (0, 0))) (hI : Ints w a l) :
    Calls Try.prog 20 #[.pointer (some ⟨g, 2, none⟩), .int .i64 n, .int .i64 b] w fun e w' => e = .returned (.int .i64 (pickOf (told l t b) n)) ∧ w'.heap[g]? = some (.cells #[p, q, .slice a l.length c, .int .i64 ((t : Int) + 1)] 45 (0, 0)) ∧ w.grownBy w' (some g) := by
  have c0 := cell_of_row w g 2 _ 45 _ hd
  have c1 := cell_of_row w g 3 _ 45 _ hd
  have f0 : w.frozen? ⟨g, 3, none⟩ = false := by simp [World.frozen?, hd]
  have E := Lib.hid (heap_setCell_same w g 3 _ 45 (.int .i64 ((t : Int) + 1)) hd)
  have G := Lib.hid (gx_setCell (World.grownBy.refl w (some g)) 3 (.int .i64 ((t : Int) + 1)))
  have HI := Lib.hid (fun (h : t < l.length) => hI t h)
  have hwn : IntKind.u64.wrap n = n := by rw [IntKind.wrap_u64]; omega
  have HT1 := Lib.hid (told_in l t b)
  have HT2 := Lib.hid (told_out l t b)
  simp at c0 c1
  clear hd hI
  by_cases hlt : t < l.length
  · obtain ⟨b1, o1, rfl, l1, cc⟩ := HI.out hlt
    rw [HT1.out hlt]
    clear HT1 HT2 HI
    have hX := u64_bd (nth l t)
    have hR := pickOf_bd (nth l t) n h1
    have hE := pickOf_eq (nth l t) n
    generalize nth l t = x at *
    generalize l.length = m at *
    generalize hXX : IntKind.u64.wrap x = X at *
    generalize pickOf x n = R at *
    have t1 : (t : Int) < (m : Int) := by omega
    have t2 : (0 : Int) ≤ (t : Int) := by omega
    have HE := Lib.hid hE
    clear hE
    go_enter Try.func20, Try.ntmps20
    go_wp2
    go_quiet (fail)
    go_wp2
    go_quiet (fail)
    go_wp2
    go_ret
    exact ⟨congrArg (fun z => Ending.returned (.int .i64 z)) (by rw [HE.out]; exact w64 R n hR h2), E.out, gx_setCell (gx_drewN (World.grownBy.refl w _) _) _ _⟩
  · rw [HT2.out hlt]
    clear HT1 HT2 HI
    have hX := u64_bd b
    have hR := pickOf_bd b n h1
    have hE := pickOf_eq b n
    generalize l.length = m at *
    generalize hXX : IntKind.u64.wrap b = X at *
    generalize pickOf b n = R at *
    have HE := Lib.hid hE
    clear hE
    go_enter Try.func20, Try.ntmps20
    go_wp2
    go_quiet (fail)
    go_wp2
    go_ret
    exact ⟨congrArg (fun z => Ending.returned (.int .i64 z)) (by rw [HE.out]; exact w64 R n hR h2), E.out, gx_setCell (gx_drewN (World.grownBy.refl w _) _) _ _⟩
/-- a tape in memory: its lists lie from B on, a picks and b draws were told -/
def Tp (B g : Nat) (p d : List Int) (a b : Nat) (w : World) : Prop := ∃ pa pc da dc, w.heap[g]? = some (.cells #[.slice pa p.length pc, .int .i64 a, .slice da d.length dc, .int .i64 b] 45 (0, 0)) ∧ LA B w pa p ∧ LA B w da d
theorem Tp.keep {B g : Nat} {p d : List Int} {a b : Nat} {w w1 : World} (h : Tp B g p d a b w) (k : Below w.heap.size w w1) : Tp B g p d a b w1 := by
  obtain ⟨pa, pc, da, dc, h1, h2, h3⟩ := h
  exact ⟨pa, pc, da, dc, (k.block g (lt_hp h1)).trans h1, h2.keep k, h3.keep k⟩
theorem Tp.far {B g q : Nat} {p d : List Int} {a b : Nat} {w w1 : World} (h : Tp B g p d a b w) (hq : q < B) (hne : g ≠ q) (k : w.grownBy w1 (some q)) : Tp B g p d a b w1 := by
  obtain ⟨pa, pc, da, dc, h1, h2, h3⟩ := h
  exact ⟨pa, pc, da, dc, (k.block g (lt_hp h1) (fun e => hne (by injection e))).trans h1, h2.far hq k, h3.far hq k⟩
def TCall (r : Int) (w : World) (g : Nat) (T : World → Prop) (e : Ending) (w' : World) : Prop := e = .returned (.int .i64 r) ∧ T w' ∧ w.grownBy w' (some g)
set_option maxHeartbeats 1000000 in
theorem pick_any (B g : Nat) (p d : List Int) (a b : Nat) (n : Int) (hp : p.length ≤ 1000) (ha : a ≤ 1000) (h1 : 1 ≤ n) (h2 : n ≤ 9223372036854775807) (w : World) (h : Tp B g p d a b w) :
    Calls Try.prog 9 #[.pointer (some ⟨g, 0, none⟩), .int .i64 n] w (TCall (pickOf (told p a a) n) w g (Tp B g p d (a + 1) b)) := by
  obtain ⟨pa, pc, da, dc, hd, l1, l2⟩ := h
  have H := Lib.hid (fun X h3 h4 => next0_any g p pa pc a n (a : Int) hp ha h1 h2 (.slice da d.length dc) (.int .i64 b) X h3 h4)
  have HT : Hid (∀ X, X.heap[g]? = some (.cells #[.slice pa p.length pc, .int .i64 ((a : Int) + 1), .slice da d.length dc, .int .i64 b] 45 (0, 0)) → w.grownBy X (some g) → Tp B g p d (a + 1) b X) := fun X h3 h4 => ⟨pa, pc, da, dc, h3, l1.grown (by decide) hd h4, l2.grown (by decide) hd h4⟩
  have c1 := cell_of_row w g 1 _ 45 _ hd
  simp at c1
  have HD := Lib.hid hd
  have HL := Lib.hid l1.ints
  have HG : Hid (∀ (m : Nat) X, (w.drewN m).grownBy X (some g) → w.grownBy X (some g)) := fun m X h => ⟨h.os, h.tape, h.output, h.size, h.block⟩
  clear hd l1 l2
  generalize pickOf (told p a a) n = R at *
  generalize p.length = m at *
  generalize d.length = m2 at *
  go_enter Try.func9, Try.ntmps9
  go_wp2
  go_still_tail 9, (by kernel_rfl)
  change wpList _ _ _ _ _ w.drew
  go_wp2_with fail
  (with_reducible refine (H.out _ ?_ ?_).mono ?_)
  · exact HD.out
  · exact HL.out
  rintro e x1 ⟨rfl, h3, h4⟩
  have HG2 := Lib.hid (HG.out _ _ (show (w.drewN 1).grownBy _ _ from h4))
  have HT2 := Lib.hid (HT.out _ h3 HG2.out)
  clear h3 h4
  all_goals go_wp2
  all_goals
    go_ret
    exact ⟨rfl, HT2.out, HG2.out⟩
set_option maxHeartbeats 1000000 in
theorem draw_any (B g : Nat) (p d : List Int) (a b : Nat) (n : Int) (hp : d.length ≤ 1000) (ha : b ≤ 1000) (h1 : 1 ≤ n) (h2 : n ≤ 9223372036854775807) (w : World) (h : Tp B g p d a b w) :
    Calls Try.prog 10 #[.pointer (some ⟨g, 0, none⟩), .int .i64 n] w (TCall (pickOf (told d b 0) n) w g (Tp B g p d a (b + 1))) := by
  obtain ⟨pa, pc, da, dc, hd, l1, l2⟩ := h
  have H := Lib.hid (fun X h3 h4 => next2_any g d da dc b n 0 hp ha h1 h2 (.slice pa p.length pc) (.int .i64 a) X h3 h4)
  have HT : Hid (∀ X, X.heap[g]? = some (.cells #[.slice pa p.length pc, .int .i64 a, .slice da d.length dc, .int .i64 ((b : Int) + 1)] 45 (0, 0)) → w.grownBy X (some g) → Tp B g p d a (b + 1) X) := fun X h3 h4 => ⟨pa, pc, da, dc, h3, l1.grown (by decide) hd h4, l2.grown (by decide) hd h4⟩
  have HD := Lib.hid hd
  have HL := Lib.hid l2.ints
  clear hd l1 l2
  generalize pickOf (told d b 0) n = R at *
  generalize p.length = m at *
  generalize d.length = m2 at *
  go_enter Try.func10, Try.ntmps10
  go_wp2_with fail
  (with_reducible refine (H.out _ ?_ ?_).mono ?_)
  · exact HD.out
  · exact HL.out
  rintro e x1 ⟨rfl, h3, h4⟩
  have HG2 := Lib.hid h4
  have HT2 := Lib.hid (HT.out _ h3 HG2.out)
  clear h3 h4
  go_wp2
  go_ret
  exact ⟨rfl, HT2.out, HG2.out⟩
theorem used_any (B g : Nat) (p d : List Int) (a b : Nat) (w : World) (h : Tp B g p d a b w) :
    Calls Try.prog 7 #[.pointer (some ⟨g, 0, none⟩)] w fun e w' => e = .returned (.tuple #[.int .i64 a, .int .i64 b]) ∧ ∃ m, w' = w.drewN m := by
  obtain ⟨pa, pc, da, dc, hd, l1, l2⟩ := h
  have c1 := cell_of_row w g 1 _ 45 _ hd
  have c3 := cell_of_row w g 3 _ 45 _ hd
  simp at c1 c3
  clear hd l1 l2
  go_enter Try.func7, Try.ntmps7
  go_wp2
  go_quiet (fail)
  go_wp2
  go_ret2
  exact ⟨rfl, _, rfl⟩
theorem none_any (w : World) : Calls Try.prog 6 #[] w fun e w' => e = .returned (.pointer none) ∧ w = w' := by
  go_enter Try.func6, Try.ntmps6
  go_wp2
  go_ret
  exact ⟨rfl, rfl⟩
theorem pick_nil (n : Int) (w : World) : Calls Try.prog 9 #[.pointer none, .int .i64 n] w fun e w' => e = .returned (.int .i64 0) ∧ w = w' := by
  go_enter Try.func9, Try.ntmps9
  go_wp2
  go_ret
  exact ⟨rfl, rfl⟩
theorem draw_nil (n : Int) (w : World) : Calls Try.prog 10 #[.pointer none, .int .i64 n] w fun e w' => e = .returned (.int .i64 0) ∧ w = w' := by
  go_enter Try.func10, Try.ntmps10
  go_wp2
  go_ret
  exact ⟨rfl, rfl⟩
theorem used_nil (w : World) : Calls Try.prog 7 #[.pointer none] w fun e w' => e = .returned (.tuple #[.int .i64 0, .int .i64 0]) ∧ w = w' := by
  go_enter Try.func7, Try.ntmps7
  go_wp2
  go_ret2
  exact ⟨rfl, rfl⟩
theorem pick_low (B g : Nat) (p d : List Int) (a b : Nat) (n : Int) (h1 : n < 1) (w : World) :
    Calls Try.prog 9 #[.pointer (some ⟨g, 0, none⟩), .int .i64 n] w fun e w' => e = .returned (.int .i64 0) ∧ w = w' := by
  go_enter Try.func9, Try.ntmps9
  go_wp2
  go_ret
  exact ⟨rfl, rfl⟩
theorem draw_low (B g : Nat) (p d : List Int) (a b : Nat) (n : Int) (h1 : n < 1) (w : World) :
    Calls Try.prog 10 #[.pointer (some ⟨g, 0, none⟩), .int .i64 n] w fun e w' => e = .returned (.int .i64 0) ∧ w = w' := by
  go_enter Try.func10, Try.ntmps10
  go_wp2
  go_ret
  exact ⟨rfl, rfl⟩
theorem clone_nil (w : World) : Calls Try.prog 21 #[.slice none 0 0] w fun e w' => e = .returned (.slice none 0 0) ∧ w = w' := by
  have hnil : ∀ W, (binOp .eql 22 (.slice none 0 0) (.slice none 0 0)).run Try.prog W = .ok (.bool true) W := fun W => Lib.run_eql_slice_nil W _ _ none 0 0 0 0 Try.underlying22
  go_enter Try.func21, Try.ntmps21
  go_wp2
  go_ret
  exact ⟨rfl, rfl⟩
/-- slices.Clone of a list in a block, or of nil -/
def ClOf (l : List Int) (w : World) (e : Ending) (w' : World) : Prop := ∃ a c, e = .returned (.slice a l.length c) ∧ LA w.heap.size w' a l ∧ Below w.heap.size w w'
theorem clone_la (B : Nat) (l : List Int) (a : Option Addr) (c : Nat) (hc : l.length ≤ c ∧ c ≤ 9223372036854775807) (hl : l.length ≤ 1000) (hn : a = none → c = 0 ∧ l = []) (w : World) (h : LA B w a l) (he : ∀ x, a = some x → ∃ b o, x = ⟨b, o, none⟩ ∧ b < w.heap.size) :
    Calls Try.prog 21 #[.slice a l.length c] w (ClOf l w) := by
  cases a with
  | none =>
    obtain ⟨rfl, rfl⟩ := hn rfl
    exact (clone_nil w).mono fun e w' ⟨h1, h2⟩ => by subst h1 h2; exact ⟨none, 0, rfl, .inl rfl, Below.refl _ _⟩
  | some x =>
    obtain ⟨b, o, rfl, hb⟩ := he x rfl
    refine (clone_any l b o c hc.1 (by omega) hc.2 w hb ?_).mono fun e w' ⟨g, cap, h1, h2⟩ => ?_
    · intro j hj
      obtain ⟨b', o', e, _, hc'⟩ := h.ints j hj
      injection e with e
      injection e with e1 e2 e3
      subst e1 e2
      exact hc'
    · subst h1
      exact ⟨_, _, rfl, h2.la.mono h2.2.1, h2.2.2.2⟩
def NewOf (p d : List Int) (w : World) (e : Ending) (w' : World) : Prop := ∃ g, e = .returned (.pointer (some ⟨g, 0, none⟩)) ∧ w.heap.size ≤ g ∧ Tp w.heap.size g p d 0 0 w' ∧ Below w.heap.size w w'
set_option maxHeartbeats 1000000 in
theorem new_any (p d : List Int) (pv dv : Value) (w : World) (h1 : Calls Try.prog 21 #[pv] w (ClOf p w)) (h2 : ∀ X, Below w.heap.size w X → Calls Try.prog 21 #[dv] X (ClOf d X)) :
    Calls Try.prog 11 #[pv, dv] w (NewOf p d w) := by
  have H1 := Lib.hid h1
  have H2 := Lib.hid h2
  clear h1 h2
  have HT : Hid (∀ X Y a c a2 c2, LA w.heap.size X a p → Below w.heap.size w X → LA X.heap.size Y a2 d → Below X.heap.size X Y → NewOf p d w (.returned (.pointer (some ⟨Y.heap.size, 0, none⟩))) (Y.alloc (.cells #[.slice a p.length c, .int .i64 0, .slice a2 d.length c2, .int .i64 0] 45 (0, 0)))) := fun X Y a c a2 c2 l1 b1 l2 b2 =>
    ⟨Y.heap.size, rfl, Nat.le_trans b1.size b2.size, ⟨a, c, a2, c2, heap_alloc_new _ _, (l1.keep b2).keep (bl_al (Below.refl _ _) _), (l2.keep (bl_al (Below.refl _ _) _)).mono b1.size⟩, bl_al (bl_tr b1 b2) _⟩
  go_enter Try.func11, Try.ntmps11
  go_wp2_with fail
  refine H1.out.mono ?_; rintro e X ⟨a, c, rfl, l1, b1⟩
  have H2b := Lib.hid (H2.out X b1)
  have L1 := Lib.hid l1
  have B1 := Lib.hid b1
  clear l1 b1 H1 H2
  go_wp2_with fail
  refine H2b.out.mono ?_; rintro e Y ⟨a2, c2, rfl, l2, b2⟩
  have F := Lib.hid (HT.out X Y a c a2 c2 L1.out B1.out l2 b2)
  clear l2 b2 HT L1 B1 H2b
  go_wp2
  go_ret
  exact F.out
end Go.Proofs.Ytdeflnnbnabbgaa
