/-
  tapes() is true.
-/
import Derived.Test.YtdeflnnbnabbgaaTp
namespace Go.Proofs.Ytdeflnnbnabbgaa
open Go.RowKit
set_option linter.unusedVariables false
theorem bl_gr {B g : Nat} {a X Y : World} (h : Below B a X) (k : X.grownBy Y (some g)) (hg : B ≤ g) (hs : B ≤ X.heap.size) : Below B a Y := h.grown k hs (fun j hj => by injection hj with hj; omega)
theorem gr_size {X Y : World} {r : Option Nat} (k : X.grownBy Y r) : X.heap.size ≤ Y.heap.size := k.size
theorem lit_cell (X : World) (l : List Int) (cs : Array Value) (h : cs = (l.map (Value.int .i64)).toArray) (j : Nat) (hj : j < l.length) : (X.alloc (.cells cs 3)).cell? ⟨X.heap.size, 0 + j, none⟩ = some (.int .i64 (nth l j)) := by
  subst h
  rw [Nat.zero_add, cell_of_row _ _ j _ 3 _ (heap_alloc_new X (.cells (l.map (Value.int .i64)).toArray 3 (0, 0)))]
  simp [hj, nth_at l j hj]
theorem tapes_any (w : World) : Calls Try.prog 8 #[] w fun e w' => e = .returned (.bool true) ∧ Below w.heap.size w w' := by
  have HN : Hid (Calls Try.prog 11 #[.slice (some ⟨w.heap.size, 0, none⟩) 2 2, .slice none 0 0] (w.alloc (.cells #[.int .i64 5, .int .i64 1] 3)) (NewOf [5, 1] [] (w.alloc (.cells #[.int .i64 5, .int .i64 1] 3)))) := by
    show Calls _ _ _ _ _
    have hnew := heap_alloc_new w (.cells #[.int .i64 5, .int .i64 1] 3 (0, 0))
    refine new_any [5, 1] [] _ _ _ ?_ (fun X _ => ?_)
    · refine clone_la w.heap.size [5, 1] (some ⟨w.heap.size, 0, none⟩) 2 (by decide) (by decide) (fun h => by cases h) _ (.inr ⟨w.heap.size, 0, _, Nat.le_refl _, rfl, hnew, fun j hj => lit_cell w [5, 1] _ rfl j hj⟩) (fun x hx => ⟨w.heap.size, 0, by injection hx with hx; exact hx.symm, by simp⟩)
    · exact clone_la 0 [] none 0 (by decide) (by decide) (fun _ => ⟨rfl, rfl⟩) X (.inl rfl) (fun x hx => by cases hx)
  have B0 := Lib.hid (bl_al (Below.refl _ w) (.cells #[.int .i64 5, .int .i64 1] 3))
  have P1 : Hid (∀ B g X, Tp B g [5, 1] [] 0 0 X → Calls Try.prog 9 #[.pointer (some ⟨g, 0, none⟩), .int .i64 3] X (TCall 2 X g (Tp B g [5, 1] [] 1 0))) := fun B g X h => by
    have := pick_any B g [5, 1] [] 0 0 3 (by decide) (by decide) (by decide) (by decide) X h
    rwa [show pickOf (told [5, 1] 0 (0 : Nat)) 3 = 2 by decide +kernel] at this
  have P2 : Hid (∀ B g X, Tp B g [5, 1] [] 1 0 X → Calls Try.prog 9 #[.pointer (some ⟨g, 0, none⟩), .int .i64 3] X (TCall 1 X g (Tp B g [5, 1] [] 2 0))) := fun B g X h => by
    have := pick_any B g [5, 1] [] 1 0 3 (by decide) (by decide) (by decide) (by decide) X h
    rwa [show pickOf (told [5, 1] 1 (1 : Nat)) 3 = 1 by decide +kernel] at this
  have P3 : Hid (∀ B g X, Tp B g [5, 1] [] 2 0 X → Calls Try.prog 9 #[.pointer (some ⟨g, 0, none⟩), .int .i64 3] X (TCall 2 X g (Tp B g [5, 1] [] 3 0))) := fun B g X h => by
    have := pick_any B g [5, 1] [] 2 0 3 (by decide) (by decide) (by decide) (by decide) X h
    rwa [show pickOf (told [5, 1] 2 (2 : Nat)) 3 = 2 by decide +kernel] at this
  have P4 : Hid (∀ B g X, Tp B g [5, 1] [] 3 0 X → Calls Try.prog 10 #[.pointer (some ⟨g, 0, none⟩), .int .i64 5] X (TCall 0 X g (Tp B g [5, 1] [] 3 1))) := fun B g X h => by
    have := draw_any B g [5, 1] [] 3 0 5 (by decide) (by decide) (by decide) (by decide) X h
    rwa [show pickOf (told [] 0 0) 5 = 0 by decide +kernel] at this
  have F : Hid (∀ X, Calls Try.prog 17 #[.int .i64 2, .int .i64 1, .int .i64 3, .int .i64 7] X fun E w' => ∃ g, E = .returned (.slice (some ⟨g, 0, none⟩) 7 7) ∧ Own X.heap.size g 7 7 [1, 1, 0, 1, 1, 1, 1] X w') := fun X => by
    have := favor_ok 2 1 3 7 (by decide) (by decide) (by decide) (by decide) (by decide) (by decide) X
    rwa [show FV 2 1 3 7 = [1, 1, 0, 1, 1, 1, 1] by decide +kernel] at this
  have S : Hid (∀ (X : World) g, X.heap.size ≤ X.heap.size → Ints X (some ⟨g, 0, none⟩) [1, 1, 0, 1, 1, 1, 1] → ∀ Y, Y = X.alloc (.cells #[.int .i64 1, .int .i64 1, .int .i64 0, .int .i64 1, .int .i64 1, .int .i64 1, .int .i64 1] 3) → Calls Try.prog 15 #[.slice (some ⟨g, 0, none⟩) 7 7, .slice (some ⟨X.heap.size, 0, none⟩) 7 7] Y fun e w' => e = .returned (.bool true) ∧ Below Y.heap.size Y w') := fun X g _ hI Y hY => by
    subst hY
    have hnew := heap_alloc_new X (.cells #[.int .i64 1, .int .i64 1, .int .i64 0, .int .i64 1, .int .i64 1, .int .i64 1, .int .i64 1] 3 (0, 0))
    have := same_any [1, 1, 0, 1, 1, 1, 1] [1, 1, 0, 1, 1, 1, 1] (by decide) (by decide) (some ⟨g, 0, none⟩) (some ⟨X.heap.size, 0, none⟩) 7 7 _ (hI.keep (bl_al (Below.refl _ X) _)) (fun j hj => ⟨X.heap.size, 0, rfl, by simp, lit_cell X [1, 1, 0, 1, 1, 1, 1] _ rfl j hj⟩)
    exact this
  go_enter Try.func8, Try.ntmps8
  go_wp2_with fail
  refine HN.out.mono ?_; rintro e x1 ⟨g, rfl, hg, ht, hb⟩
  have HG := Lib.hid (show w.heap.size + 1 ≤ g by simpa using hg)
  have T1 := Lib.hid ht
  have B1 := Lib.hid (bl_tr B0.out hb)
  clear ht hb hg HN B0
  generalize (w.alloc (.cells #[.int .i64 5, .int .i64 1] 3)).heap.size = B at *
  go_wp2_with fail
  refine (P1.out B g _ T1.out).mono ?_; rintro e x2 ⟨rfl, ht, hb⟩
  have T2 := Lib.hid ht
  have B2 := Lib.hid (bl_gr B1.out hb (by have := HG.out; omega) B1.out.size)
  clear ht hb T1 B1 P1
  go_wp2_with fail
  refine (P2.out B g _ T2.out).mono ?_; rintro e x3 ⟨rfl, ht, hb⟩
  have T3 := Lib.hid ht
  have B3 := Lib.hid (bl_gr B2.out hb (by have := HG.out; omega) B2.out.size)
  clear ht hb T2 B2 P2
  go_wp2_with fail
  refine (P3.out B g _ T3.out).mono ?_; rintro e x4 ⟨rfl, ht, hb⟩
  have T4 := Lib.hid ht
  have B4 := Lib.hid (bl_gr B3.out hb (by have := HG.out; omega) B3.out.size)
  clear ht hb T3 B3 P3
  go_wp2_with fail
  refine (P4.out B g _ T4.out).mono ?_; rintro e x5 ⟨rfl, ht, hb⟩
  have B5 := Lib.hid (bl_gr B4.out hb (by have := HG.out; omega) B4.out.size)
  clear ht hb T4 B4 P4
  go_wp2_with fail
  refine (F.out _).mono ?_; rintro e x6 ⟨g2, rfl, ho⟩
  have I6 := Lib.hid ho.ints
  have B6 := Lib.hid (bl_tr B5.out ho.2.2.2)
  clear ho B5 F
  go_wp2_with fail
  refine (S.out _ g2 (Nat.le_refl _) I6.out _ rfl).mono ?_; rintro e x7 ⟨rfl, hb⟩
  have B7 := Lib.hid (bl_tr (bl_al B6.out _) hb)
  clear hb B6 S I6
  go_wp2
  go_ret
  exact ⟨rfl, B7.out⟩
end Go.Proofs.Ytdeflnnbnabbgaa
