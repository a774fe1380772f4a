/-
  What the reference's tape answers.
-/
import Derived.Test.YtdeflnnbnabbgaaTapes
namespace Go.Proofs.Ytdeflnnbnabbgaa
open Go.RowKit
set_option linter.unusedVariables false
/-- the reference's tape in memory -/
def Rt (B g : Nat) (p d : List Int) (a b : Nat) (w : World) : Prop := ∃ pa pc da dc, w.heap[g]? = some (.cells #[.slice pa p.length pc, .slice da d.length dc, .int .i64 a, .int .i64 b] 31 (0, 0)) ∧ LA B w pa p ∧ LA B w da d
theorem Rt.keep {B g : Nat} {p d : List Int} {a b : Nat} {w w1 : World} (h : Rt B g p d a b w) (k : Below w.heap.size w w1) : Rt B g p d a b w1 := by
  obtain ⟨pa, pc, da, dc, h1, h2, h3⟩ := h
  exact ⟨pa, pc, da, dc, (k.block g (lt_hp h1)).trans h1, h2.keep k, h3.keep k⟩
theorem Rt.far {B g q : Nat} {p d : List Int} {a b : Nat} {w w1 : World} (h : Rt B g p d a b w) (hq : q < B) (hne : g ≠ q) (k : w.grownBy w1 (some q)) : Rt B g p d a b w1 := by
  obtain ⟨pa, pc, da, dc, h1, h2, h3⟩ := h
  exact ⟨pa, pc, da, dc, (k.block g (lt_hp h1) (fun e => hne (by injection e))).trans h1, h2.far hq k, h3.far hq k⟩
theorem ne_types {w : World} {g q : Nat} {cs cur : Array Value} {t s : TypeId} (ht : t ≠ s) (h1 : w.heap[g]? = some (.cells cs t (0, 0))) (h2 : w.heap[q]? = some (.cells cur s (0, 0))) : g ≠ q := by
  rintro rfl
  rw [h1] at h2
  simp at h2
  exact absurd h2.2 ht
theorem Rt.tp {B g B2 g2 : Nat} {p d p2 d2 : List Int} {a b a2 b2 : Nat} {w w1 : World} (h : Rt B g p d a b w) (h2 : Tp B2 g2 p2 d2 a2 b2 w) (k : w.grownBy w1 (some g2)) : Rt B g p d a b w1 := by
  obtain ⟨pa, pc, da, dc, h1, l1, l2⟩ := h
  obtain ⟨_, _, _, _, k1, _, _⟩ := h2
  have hne := ne_types (by decide) h1 k1
  exact ⟨pa, pc, da, dc, (k.block g (lt_hp h1) (fun e => hne (by injection e))).trans h1, l1.grown (by decide) k1 k, l2.grown (by decide) k1 k⟩
theorem Tp.rt {B g B2 g2 : Nat} {p d p2 d2 : List Int} {a b a2 b2 : Nat} {w w1 : World} (h : Tp B g p d a b w) (h2 : Rt B2 g2 p2 d2 a2 b2 w) (k : w.grownBy w1 (some g2)) : Tp B g p d a b w1 := by
  obtain ⟨pa, pc, da, dc, h1, l1, l2⟩ := h
  obtain ⟨_, _, _, _, k1, _, _⟩ := h2
  have hne := ne_types (by decide) h1 k1
  exact ⟨pa, pc, da, dc, (k.block g (lt_hp h1) (fun e => hne (by injection e))).trans h1, l1.grown (by decide) k1 k, l2.grown (by decide) k1 k⟩
set_option maxRecDepth 100000 in
set_option maxHeartbeats 4000000 in
theorem rpick_any (B g : Nat) (p d : List Int) (a b : Nat) (n : Int) (hp : p.length ≤ 1000) (ha : a ≤ 1000) (h1 : 1 ≤ n) (h2 : n ≤ 9223372036854775807) (w : World) (h : Rt B g p d a b w) :
    Calls Try.prog 12 #[.pointer (some ⟨g, 0, none⟩), .int .i64 n] w (TCall (pickOf (told p a (a : Int)) n) w g (Rt B g p d (a + 1) b)) := by
  obtain ⟨pa, pc, da, dc, hd, l1, l2⟩ := h
  have c0 := cell_of_row w g 0 _ 31 _ hd
  have c1 := cell_of_row w g 2 _ 31 _ hd
  have f0 : w.frozen? ⟨g, 2, none⟩ = false := by simp [World.frozen?, hd]
  have HT : Hid (∀ m, TCall (pickOf (told p a (a : Int)) n) w g (Rt B g p d (a + 1) b) (.returned (.int .i64 (pickOf (told p a (a : Int)) n))) ((w.drewN m).setCell ⟨g, 2, none⟩ (.int .i64 ((a : Int) + 1)))) := fun m => by
    have E := heap_setCell_same (w.drewN m) g 2 _ 31 (.int .i64 ((a : Int) + 1)) hd
    have G := gx_setCell (gx_drewN (World.grownBy.refl w (some g)) m) 2 (.int .i64 ((a : Int) + 1))
    exact ⟨rfl, ⟨pa, pc, da, dc, E, l1.grown (by decide) hd G, l2.grown (by decide) hd G⟩, G⟩
  have HI := Lib.hid (fun (h : a < p.length) => l1.ints a h)
  have hwn : IntKind.u64.wrap n = n := by rw [IntKind.wrap_u64]; omega
  have HT1 := Lib.hid (told_in p a (a : Int))
  have HT2 := Lib.hid (told_out p a (a : Int))
  simp at c0 c1
  clear hd l1 l2
  by_cases hlt : a < p.length
  · obtain ⟨b1, o1, rfl, l1, cc⟩ := HI.out hlt
    rw [HT1.out hlt] at HT ⊢
    clear HT1 HT2 HI
    have hX := u64_bd (nth p a)
    have hR := pickOf_bd (nth p a) n h1
    have hE := pickOf_eq (nth p a) n
    generalize hx : nth p a = x at *
    generalize hm : p.length = m at *
    generalize hXX : IntKind.u64.wrap x = X at *
    generalize pickOf x n = R at *
    have t1 : (a : Int) < (m : Int) := by omega
    have t2 : (0 : Int) ≤ (a : Int) := by omega
    have HE := Lib.hid hE
    have HX := Lib.hid hx
    have HM := Lib.hid hm
    clear hE hx hm
    go_enter Try.func12, Try.ntmps12
    go_wp2
    go_quiet (fail)
    go_wp2
    go_quiet (fail)
    go_wp2
    go_ret
    refine ⟨congrArg (fun z => Ending.returned (.int .i64 z)) (by rw [HE.out]; exact w64 R n hR h2), ?_⟩
    exact (HT.out _).2
  · rw [HT2.out hlt] at HT ⊢
    clear HT1 HT2 HI
    have hX := u64_bd (a : Int)
    have hR := pickOf_bd (a : Int) n h1
    have hE := pickOf_eq (a : Int) n
    generalize hm : p.length = m at *
    generalize hXX : IntKind.u64.wrap (a : Int) = X at *
    generalize pickOf (a : Int) n = R at *
    have HE := Lib.hid hE
    have HM := Lib.hid hm
    clear hE hm
    go_enter Try.func12, Try.ntmps12
    go_wp2
    go_quiet (fail)
    go_wp2
    go_ret
    refine ⟨congrArg (fun z => Ending.returned (.int .i64 z)) (by rw [HE.out]; exact w64 R n hR h2), ?_⟩
    exact (HT.out _).2
set_option maxRecDepth 100000 in
set_option maxHeartbeats 4000000 in
theorem rdraw_any (B g : Nat) (p d : List Int) (a b : Nat) (n : Int) (hp : d.length ≤ 1000) (ha : b ≤ 1000) (h1 : 1 ≤ n) (h2 : n ≤ 9223372036854775807) (w : World) (h : Rt B g p d a b w) :
    Calls Try.prog 13 #[.pointer (some ⟨g, 0, none⟩), .int .i64 n] w (TCall (pickOf (told d b (0 : Int)) n) w g (Rt B g p d a (b + 1))) := by
  obtain ⟨pa, pc, da, dc, hd, l1, l2⟩ := h
  have c0 := cell_of_row w g 1 _ 31 _ hd
  have c1 := cell_of_row w g 3 _ 31 _ hd
  have f0 : w.frozen? ⟨g, 3, none⟩ = false := by simp [World.frozen?, hd]
  have HT : Hid (∀ m, TCall (pickOf (told d b (0 : Int)) n) w g (Rt B g p d a (b + 1)) (.returned (.int .i64 (pickOf (told d b (0 : Int)) n))) ((w.drewN m).setCell ⟨g, 3, none⟩ (.int .i64 ((b : Int) + 1)))) := fun m => by
    have E := heap_setCell_same (w.drewN m) g 3 _ 31 (.int .i64 ((b : Int) + 1)) hd
    have G := gx_setCell (gx_drewN (World.grownBy.refl w (some g)) m) 3 (.int .i64 ((b : Int) + 1))
    exact ⟨rfl, ⟨pa, pc, da, dc, E, l1.grown (by decide) hd G, l2.grown (by decide) hd G⟩, G⟩
  have HI := Lib.hid (fun (h : b < d.length) => l2.ints b h)
  have hwn : IntKind.u64.wrap n = n := by rw [IntKind.wrap_u64]; omega
  have HT1 := Lib.hid (told_in d b (0 : Int))
  have HT2 := Lib.hid (told_out d b (0 : Int))
  simp at c0 c1
  clear hd l1 l2
  by_cases hlt : b < d.length
  · obtain ⟨b1, o1, rfl, l1, cc⟩ := HI.out hlt
    rw [HT1.out hlt] at HT ⊢
    clear HT1 HT2 HI
    have hX := u64_bd (nth d b)
    have hR := pickOf_bd (nth d b) n h1
    have hE := pickOf_eq (nth d b) n
    generalize hx : nth d b = x at *
    generalize hm : d.length = m at *
    generalize hXX : IntKind.u64.wrap x = X at *
    generalize pickOf x n = R at *
    have t1 : (b : Int) < (m : Int) := by omega
    have t2 : (0 : Int) ≤ (b : Int) := by omega
    have HE := Lib.hid hE
    have HX := Lib.hid hx
    have HM := Lib.hid hm
    clear hE hx hm
    go_enter Try.func13, Try.ntmps13
    go_wp2
    go_quiet (fail)
    go_wp2
    go_quiet (fail)
    go_wp2
    go_ret
    refine ⟨congrArg (fun z => Ending.returned (.int .i64 z)) (by rw [HE.out]; exact w64 R n hR h2), ?_⟩
    exact (HT.out _).2
  · rw [HT2.out hlt] at HT ⊢
    clear HT1 HT2 HI
    have hX := u64_bd (0 : Int)
    have hR := pickOf_bd (0 : Int) n h1
    have hE := pickOf_eq (0 : Int) n
    generalize hm : d.length = m at *
    generalize hXX : IntKind.u64.wrap (0 : Int) = X at *
    generalize pickOf (0 : Int) n = R at *
    have HE := Lib.hid hE
    have HM := Lib.hid hm
    clear hE hm
    go_enter Try.func13, Try.ntmps13
    go_wp2
    go_quiet (fail)
    go_wp2
    go_ret
    refine ⟨congrArg (fun z => Ending.returned (.int .i64 z)) (by rw [HE.out]; exact w64 R n hR h2), ?_⟩
    exact (HT.out _).2
theorem rpick_low (g : Nat) (n : Int) (h1 : n < 1) (w : World) : Calls Try.prog 12 #[.pointer (some ⟨g, 0, none⟩), .int .i64 n] w fun e w' => e = .returned (.int .i64 0) ∧ w = w' := by
  go_enter Try.func12, Try.ntmps12
  go_wp2
  go_ret
  exact ⟨rfl, rfl⟩
theorem rdraw_low (g : Nat) (n : Int) (h1 : n < 1) (w : World) : Calls Try.prog 13 #[.pointer (some ⟨g, 0, none⟩), .int .i64 n] w fun e w' => e = .returned (.int .i64 0) ∧ w = w' := by
  go_enter Try.func13, Try.ntmps13
  go_wp2
  go_ret
  exact ⟨rfl, rfl⟩
end Go.Proofs.Ytdeflnnbnabbgaa
