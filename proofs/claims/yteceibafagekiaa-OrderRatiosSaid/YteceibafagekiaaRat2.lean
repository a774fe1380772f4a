/-
  What order.ByRatio answers of short lists of small numbers: the sort.
-/
import Derived.Test.YteceibafagekiaaRat
namespace Go.Proofs.Yteceibafagekiaa
open Go.RowKit
set_option linter.unusedVariables false

theorem upTo_rng (n : Nat) : Rng n (upTo n) := fun j hj => by rw [upTo_nth n j hj]; omega
set_option maxHeartbeats 1000000 in
theorem sorted_small (c : Int → Int → Int) (hcb : ∀ x y, -1 ≤ c x y ∧ c x y ≤ 1) (n : Nat) (hn : n < 20) (p1 p2 : Value) (w : World) (hc : Cmp26 c n p1 p2 w.heap.size w) :
    Calls Try.prog 25 #[.int .i64 n, .func (.func 26) #[] #[p1, p2]] w fun e w' => ∃ g, e = .returned (.slice (some ⟨g, 0, none⟩) n n) ∧ Own w.heap.size g n n (insOut c 0 (n - 1) 1 (upTo n)) w w' := by
  have HR := Lib.hid (rising_any n (by omega) w)
  have HI := Lib.hid (fun (g : Nat) (W : World) (ho : Own w.heap.size g n n (upTo n) w W) => ins26_any c hcb w.heap.size g n n p1 p2 w hc (by omega) (Nat.le_refl _) (by omega) 0 n (by omega) (Nat.le_refl _) (upTo n) (upTo_rng n) W ho)
  have HS : Hid (∀ (g : Nat) (W : World), Own w.heap.size g n n (upTo n) w W → Calls Try.prog 46 #[.slice (some ⟨g, 0, none⟩) n n, .int .i64 n, .func (.func 26) #[] #[p1, p2]] W fun e w' => e = .returned (.tuple #[]) ∧ Own w.heap.size g n n (insOut c 0 (n - 1) 1 (upTo n)) w w') := by
    intro g W ho
    have HIg := Lib.hid (HI.out g W ho)
    have n1 : ¬ (20 : Int) ≤ (n : Int) := by omega
    have n2 : ¬ (20 : Int) < (n : Int) := by omega
    clear HI HR ho hc hcb
    generalize insOut c 0 (n - (0 + 1)) (0 + 1) (upTo n) = r at *
    have HIg2 : Hid (Calls Try.prog 54 #[.slice (some ⟨g, 0, none⟩) n n, .int .i64 0, .int .i64 n, .func (.func 26) #[] #[p1, p2]] W fun e w' => e = .returned (.tuple #[]) ∧ Own w.heap.size g n n r w w') := HIg.out
    clear HIg
    go_enter Try.func46, Try.ntmps46
    go_wp2
    go_loop [7, 8] (fun a b => a = .int .i64 0 ∧ b = .int .i64 20) (fun a b => 0)
    case atStart => exact ⟨rfl, rfl⟩
    case round =>
      obtain ⟨rfl, rfl⟩ := hrel
      go_wp2_with fail
      refine HIg2.out.mono ?_; rintro e w1 ⟨rfl, ho1⟩
      have HO1 := Lib.hid ho1
      clear ho1
      go_wp2
      go_loop [6] (fun a => a = .int .i64 20) (fun a => 0)
      case atStart => rfl
      case round =>
        subst hrel
        go_wp2
        go_end0
        exact ⟨rfl, HO1.out⟩
  clear HI hc hcb
  go_enter Try.func25, Try.ntmps25
  go_wp2_with fail
  refine HR.out.mono ?_; rintro e w1 ⟨g, rfl, ho⟩
  have HO := Lib.hid (HS.out g w1 ho)
  clear ho HS HR
  have HT : Hid (Calls Try.prog 38 #[.slice (some ⟨g, 0, none⟩) n n, .func (.func 26) #[] #[p1, p2]] w1 fun e w' => e = .returned (.tuple #[]) ∧ Own w.heap.size g n n (insOut c 0 (n - 1) 1 (upTo n)) w w') := by
    show Calls _ _ _ _ _
    generalize insOut c 0 (n - 1) 1 (upTo n) = r at *
    go_enter Try.func38, Try.ntmps38
    go_wp2_with fail
    refine HO.out.mono ?_; rintro e w2 ⟨rfl, ho2⟩
    have HO2 := Lib.hid ho2
    clear ho2
    go_wp2
    go_end0
    exact ⟨rfl, HO2.out⟩
  clear HO
  go_wp2_with fail
  refine HT.out.mono ?_; rintro e w2 ⟨rfl, ho2⟩
  have HO2 := Lib.hid ho2
  clear ho2
  go_wp2
  go_ret
  exact ⟨g, rfl, HO2.out⟩
def Small (l : List Int) : Prop := ∀ j, j < l.length → 0 ≤ nth l j ∧ nth l j ≤ 1000
def RatP (v w : List Int) (W : World) (e : Ending) (W' : World) : Prop := ∃ g, e = .returned (.tuple #[.slice (some ⟨g, 0, none⟩) v.length v.length, .int .i64 0]) ∧ Below W.heap.size W W' ∧ Ints W' (some ⟨g, 0, none⟩) (insOut (crat v w) 0 (v.length - 1) 1 (upTo v.length)) ∧ (insOut (crat v w) 0 (v.length - 1) 1 (upTo v.length)).length = v.length
set_option maxHeartbeats 2000000 in
theorem ratio_small (v w : List Int) (hl : w.length = v.length) (hn : v.length < 20) (sv : Small v) (sw : Small w) (wa va : Option Addr) (wc vc : Nat) (W : World) (h1 : Ints W wa w) (h2 : Ints W va v) :
    Calls Try.prog 9 #[.slice va v.length vc, .slice wa w.length wc] W (RatP v w W) := by
  have N1 := Lib.hid (fun X (hb : Below W.heap.size W X) => noneg_any v (fun j hj => (sv j hj).1) va vc X (h2.keep hb) (by omega))
  have N2 := Lib.hid (fun X (hb : Below W.heap.size W X) => noneg_any w (fun j hj => (sw j hj).1) wa wc X (h1.keep hb) (by omega))
  have B0 := bl_al (bl_al (Below.refl W.heap.size W) (.cells #[.slice va v.length vc] 22)) (.cells #[.slice wa w.length wc] 22)
  have q1 : ((W.alloc (.cells #[.slice va v.length vc] 22)).alloc (.cells #[.slice wa w.length wc] 22)).heap[W.heap.size]? = some (.cells #[.slice va v.length vc] 22 (0, 0)) := heap_alloc2_old W _ _
  have q2 : ((W.alloc (.cells #[.slice va v.length vc] 22)).alloc (.cells #[.slice wa w.length wc] 22)).heap[W.heap.size + 1]? = some (.cells #[.slice wa w.length wc] 22 (0, 0)) := heap_alloc2_new W _ _
  have HS := Lib.hid (fun (X : World) (hX : Below W.heap.size W X) (p1 : X.heap[W.heap.size]? = some (.cells #[.slice va v.length vc] 22 (0, 0))) (p2 : X.heap[W.heap.size + 1]? = some (.cells #[.slice wa w.length wc] 22 (0, 0))) =>
    sorted_small (crat v w) (crat_bd v w) v.length hn (.pointer (some ⟨W.heap.size + 1, 0, none⟩)) (.pointer (some ⟨W.heap.size, 0, none⟩)) X (fun x y Y x0 x1 y0 y1 hY =>
      clos26_any v w hl (by omega) (W.heap.size + 1) W.heap.size wa va wc vc Y (cell_of_row _ _ 0 _ _ _ ((hY.block _ (lt_hp p2)).trans p2)) (cell_of_row _ _ 0 _ _ _ ((hY.block _ (lt_hp p1)).trans p1)) (Nat.lt_of_lt_of_le (lt_hp p2) hY.size) (Nat.lt_of_lt_of_le (lt_hp p1) hY.size)
        ((h1.keep hX).keep hY) ((h2.keep hX).keep hY) x y x0 x1 y0 y1 (fun _ Z => cross_small _ _ _ _ (sv _ (by omega)) (sw _ (by omega)) (sv _ (by omega)) (sw _ (by omega)) Z)))
  have Q1 := Lib.hid q1
  have Q2 := Lib.hid q2
  have HB0 := Lib.hid B0
  have HRes := Lib.hid (show ∀ (B g : Nat) (X Y : World) (e : Ending), Below W.heap.size W Y → e = .returned (.tuple #[.slice (some ⟨g, 0, none⟩) v.length v.length, .int .i64 0]) → Own B g v.length v.length (insOut (crat v w) 0 (v.length - 1) 1 (upTo v.length)) X Y → RatP v w W e Y from fun B g X Y e hb he ho => ⟨g, he, hb, ho.ints, ho.1⟩)
  clear h1 h2 q1 q2 B0 sv sw
  rw [hl] at *
  generalize insOut (crat v w) 0 (v.length - 1) 1 (upTo v.length) = r at *
  generalize v.length = n at *
  have n1 : ¬ (64 : Int) < (n : Int) := by omega
  go_enter Try.func9, Try.ntmps9
  go_wp2_with fail
  generalize ((W.alloc (.cells #[.slice va n vc] 22)).alloc (.cells #[.slice wa n wc] 22)) = X at *
  refine (N1.out X HB0.out).mono ?_; rintro e w1 ⟨rfl, rfl⟩
  have c1 := cell_of_row _ _ 0 _ _ _ Q1.out
  have c2 := cell_of_row _ _ 0 _ _ _ Q2.out
  go_wp2_with fail
  refine (N2.out X HB0.out).mono ?_; rintro e w1 ⟨rfl, rfl⟩
  go_wp2_with fail
  refine (HS.out X HB0.out Q1.out Q2.out).mono ?_; rintro e w2 ⟨g, rfl, ho⟩
  have HO := Lib.hid ho
  clear ho
  go_wp2
  go_ret2
  exact HRes.out _ g X _ _ (HB0.out.trans (HO.out.2.2.2.mono HB0.out.size)) rfl HO.out
end Go.Proofs.Yteceibafagekiaa
