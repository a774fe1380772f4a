/-
  What order.ByRatio answers of every two lists.
-/
import Derived.Test.YteoionlnnjcggaaOdRatM
import Derived.Test.YteoionlnnjcggaaOdSort
namespace Go.Proofs.Yteoionlnnjcggaa.od
open Go.RowKit
set_option linter.unusedVariables false
theorem isneg_any (l : List Int) (h : ¬ NoNeg l) (a : Option Addr) (c : Nat) (w : World) (hI : Ints w a l) (hl : l.length ≤ 1000) :
    Calls Try.prog 39 #[.slice a l.length c] w fun e w' => e = .returned (.bool true) ∧ w = w' := by
  have H := Lib.hid (index_any l a c w hI hl)
  obtain ⟨N, hN⟩ : ∃ N : Prop, N = NoNeg l := ⟨_, rfl⟩
  unfold Idx at H
  rw [← hN] at H h
  have HN := Lib.hid h
  clear hI hl h hN
  generalize l.length = m at *
  have H2 : Hid (Calls Try.prog 47 #[.slice a m c, .func (.func 48) #[] #[]] w fun e w' => e = .returned (.bool true) ∧ w = w') := by
    show Calls _ _ _ _ _
    go_enter Try.func47, Try.ntmps47
    go_wp2_with fail
    refine H.out.mono ?_; rintro e w1 ⟨n, rfl, rfl, hn⟩
    have h1 : 0 ≤ n := hn.2 HN.out
    clear hn
    go_wp2
    go_ret
    exact ⟨by simp, rfl⟩
  clear H HN
  go_enter Try.func39, Try.ntmps39
  go_wp2_with fail
  refine H2.out.mono ?_; rintro e w1 ⟨rfl, rfl⟩
  go_wp2
  go_ret
  exact ⟨rfl, rfl⟩
/-- numbers of 64 bits -/
def I64 (x : Int) : Prop := -9223372036854775808 ≤ x ∧ x ≤ 9223372036854775807
def I64s (l : List Int) : Prop := ∀ j, I64 (nth l j)
/-- what Cross answers -/
def CrossP : Prop := ∀ (a b c d : Int), I64 a → I64 b → I64 c → I64 d → ∀ X, Calls Try.prog 43 #[.int .i64 a, .int .i64 b, .int .i64 c, .int .i64 d] X fun e w' => e = .returned (.int .i64 (cmpv (a * b) (c * d))) ∧ Below X.heap.size X w'
theorem own_mono {B C : Nat} {v : Value} {n : Nat} {xs : List Value} {w : World} (hc : C ≤ B) (h : w.ownsRow B 3 1 v n xs) : w.ownsRow C 3 1 v n xs := by
  refine ⟨h.1, ?_⟩
  rcases h.2 with hn | ⟨g, cap, cur, e, hg, r⟩
  · exact .inl hn
  · exact .inr ⟨g, cap, cur, e, Nat.le_trans hc hg, r⟩
def ratOk (v w : List Int) : Prop := v.length = w.length ∧ v.length ≤ 64 ∧ NoNeg v ∧ NoNeg w
def RatQ (v w : List Int) (W : World) (e : Ending) (W' : World) : Prop :=
  (ratOk v w ∧ ∃ (g cap : Nat) (T : List Int), e = .returned (.tuple #[.slice (some ⟨g, 0, none⟩) v.length cap, .int .i64 0]) ∧ IsRk (ltR v w) v.length T ∧ OnRk (ltR v w) v.length T ∧ Ints W' (some ⟨g, 0, none⟩) T ∧ Below W.heap.size W W' ∧ W'.ownsRow W.heap.size 3 1 (.slice (some ⟨g, 0, none⟩) v.length cap) v.length (T.map (Value.int .i64))) ∨
  (¬ ratOk v w ∧ e = .returned (.tuple #[.slice none 0 0, .int .i64 1]) ∧ Below W.heap.size W W')
set_option maxHeartbeats 4000000 in
theorem ratio_any (hX : CrossP) (v w : List Int) (hn : v.length ≤ 1000) (hm : w.length ≤ 1000) (bv : I64s v) (bw : I64s w) (wa va : Option Addr) (wc vc : Nat) (W : World) (h1 : Ints W wa w) (h2 : Ints W va v) :
    Calls Try.prog 29 #[.slice va v.length vc, .slice wa w.length wc] W (RatQ v w W) := by
  have B0 := bl_al (bl_al (Below.refl W.heap.size W) (.cells #[.slice va v.length vc] 22)) (.cells #[.slice wa w.length wc] 22)
  have HB0 := Lib.hid B0
  have HBad := Lib.hid (show ∀ (h : ¬ ratOk v w) (e : Ending) (Y : World), e = .returned (.tuple #[.slice none 0 0, .int .i64 1]) → Below W.heap.size W Y → RatQ v w W e Y from fun h e Y he hb => Or.inr ⟨h, he, hb⟩)
  by_cases c1 : v.length = w.length
  · by_cases c2 : v.length ≤ 64
    · by_cases c3 : NoNeg v
      · have N1 := Lib.hid (fun X (hb : Below W.heap.size W X) => noneg_any v c3 va vc X (h2.keep hb) (by omega))
        by_cases c4 : NoNeg w
        · have N2 := Lib.hid (fun X (hb : Below W.heap.size W X) => noneg_any w c4 wa wc X (h1.keep hb) (by omega))
          have q1 : ((W.alloc (.cells #[.slice va v.length vc] 22)).alloc (.cells #[.slice wa w.length wc] 22)).heap[W.heap.size]? = some (.cells #[.slice va v.length vc] 22 (0, 0)) := heap_alloc2_old W _ _
          have q2 : ((W.alloc (.cells #[.slice va v.length vc] 22)).alloc (.cells #[.slice wa w.length wc] 22)).heap[W.heap.size + 1]? = some (.cells #[.slice wa w.length wc] 22 (0, 0)) := heap_alloc2_new W _ _
          have hw0 : ∀ j, j < v.length → 0 ≤ nth w j := fun j hj => c4 j (by omega)
          have HS := Lib.hid (fun (X : World) (hX' : Below W.heap.size W X) (p1 : X.heap[W.heap.size]? = some (.cells #[.slice va v.length vc] 22 (0, 0))) (p2 : X.heap[W.heap.size + 1]? = some (.cells #[.slice wa w.length wc] 22 (0, 0))) =>
            sorted_any (crat v w) (crat_bd v w) v.length hn (ltR v w) (ltR_ord _ v w hw0) (fun x y h hy => crat_lt hw0 x y h hy) (.pointer (some ⟨W.heap.size + 1, 0, none⟩)) (.pointer (some ⟨W.heap.size, 0, none⟩)) X (fun x y Y x0 x1 y0 y1 hY =>
              clos26_any v w c1.symm (by omega) (W.heap.size + 1) W.heap.size wa va wc vc Y (cell_of_row _ _ 0 _ _ _ ((hY.block _ (lt_hp p2)).trans p2)) (cell_of_row _ _ 0 _ _ _ ((hY.block _ (lt_hp p1)).trans p1)) (Nat.lt_of_lt_of_le (lt_hp p2) hY.size) (Nat.lt_of_lt_of_le (lt_hp p1) hY.size)
                ((h1.keep hX').keep hY) ((h2.keep hX').keep hY) x y x0 x1 y0 y1 (fun _ Z => hX _ _ _ _ (bv _) (bw _) (bv _) (bw _) Z)))
          have Q1 := Lib.hid q1
          have Q2 := Lib.hid q2
          have HRes := Lib.hid (show ∀ (B g : Nat) (T : List Int) (X Y : World) (e : Ending), W.heap.size ≤ B → Below W.heap.size W Y → e = .returned (.tuple #[.slice (some ⟨g, 0, none⟩) v.length v.length, .int .i64 0]) → IsRk (ltR v w) v.length T → OnRk (ltR v w) v.length T → Own B g v.length v.length T X Y → RatQ v w W e Y from
            fun B g T X Y e hB hb he t1 t2 ho => Or.inl ⟨⟨c1, c2, c3, c4⟩, g, v.length, T, he, t1, t2, ho.ints, hb, own_mono hB ho.2.2.1⟩)
          clear h1 h2 q1 q2 B0 bv bw hw0 c3 c4 HBad hX
          have hl : w.length = v.length := c1.symm
          clear c1
          generalize w.length = m at *
          subst hl
          generalize v.length = n at *
          have n1 : ¬ (64 : Int) < (n : Int) := by omega
          go_enter Try.func29, Try.ntmps29
          go_wp2_with fail
          generalize ((W.alloc (.cells #[.slice va n vc] 22)).alloc (.cells #[.slice wa n wc] 22)) = X at *
          refine (N1.out X HB0.out).mono ?_; rintro e w1 ⟨rfl, rfl⟩
          have c1 := cell_of_row _ _ 0 _ _ _ Q1.out
          have c2 := cell_of_row _ _ 0 _ _ _ Q2.out
          go_wp2_with fail
          refine (N2.out X HB0.out).mono ?_; rintro e w1 ⟨rfl, rfl⟩
          go_wp2_with fail
          refine (HS.out X HB0.out Q1.out Q2.out).mono ?_; rintro e w2 ⟨g, T, rfl, t1, t2, ho⟩
          have HO := Lib.hid ho
          have H1 := Lib.hid t1
          have H2 := Lib.hid t2
          clear ho t1 t2
          go_wp2
          go_ret2
          exact HRes.out _ g T X _ _ HB0.out.size (HB0.out.trans (HO.out.2.2.2.mono HB0.out.size)) rfl H1.out H2.out HO.out
        · have N2 := Lib.hid (fun X (hb : Below W.heap.size W X) => isneg_any w c4 wa wc X (h1.keep hb) (by omega))
          have HBd := Lib.hid (HBad.out (fun h => c4 h.2.2.2))
          have q1 : ((W.alloc (.cells #[.slice va v.length vc] 22)).alloc (.cells #[.slice wa w.length wc] 22)).heap[W.heap.size]? = some (.cells #[.slice va v.length vc] 22 (0, 0)) := heap_alloc2_old W _ _
          have q2 : ((W.alloc (.cells #[.slice va v.length vc] 22)).alloc (.cells #[.slice wa w.length wc] 22)).heap[W.heap.size + 1]? = some (.cells #[.slice wa w.length wc] 22 (0, 0)) := heap_alloc2_new W _ _
          have Q1 := Lib.hid q1
          have Q2 := Lib.hid q2
          clear h1 h2 q1 q2 B0 bv bw c3 c4 HBad hX
          have hl : w.length = v.length := c1.symm
          clear c1
          generalize w.length = m at *
          subst hl
          generalize v.length = n at *
          have n1 : ¬ (64 : Int) < (n : Int) := by omega
          go_enter Try.func29, Try.ntmps29
          go_wp2_with fail
          generalize ((W.alloc (.cells #[.slice va n vc] 22)).alloc (.cells #[.slice wa n wc] 22)) = X at *
          refine (N1.out X HB0.out).mono ?_; rintro e w1 ⟨rfl, rfl⟩
          have c1 := cell_of_row _ _ 0 _ _ _ Q1.out
          have c2 := cell_of_row _ _ 0 _ _ _ Q2.out
          go_wp2_with fail
          refine (N2.out X HB0.out).mono ?_; rintro e w1 ⟨rfl, rfl⟩
          go_wp2
          go_ret2
          exact HBd.out _ _ rfl HB0.out
      · have N1 := Lib.hid (fun X (hb : Below W.heap.size W X) => isneg_any v c3 va vc X (h2.keep hb) (by omega))
        have HBd := Lib.hid (HBad.out (fun h => c3 h.2.2.1))
        clear h1 h2 B0 bv bw c3 HBad hX
        have hl : w.length = v.length := c1.symm
        clear c1
        generalize w.length = m at *
        subst hl
        generalize v.length = n at *
        have n1 : ¬ (64 : Int) < (n : Int) := by omega
        go_enter Try.func29, Try.ntmps29
        go_wp2_with fail
        generalize ((W.alloc (.cells #[.slice va n vc] 22)).alloc (.cells #[.slice wa n wc] 22)) = X at *
        refine (N1.out X HB0.out).mono ?_; rintro e w1 ⟨rfl, rfl⟩
        go_wp2
        go_ret2
        exact HBd.out _ _ rfl HB0.out
    · have HBd := Lib.hid (HBad.out (fun h => c2 h.2.1))
      clear h1 h2 B0 bv bw HBad hX
      have hl : w.length = v.length := c1.symm
      clear c1
      generalize w.length = m at *
      subst hl
      generalize v.length = n at *
      have n1 : (64 : Int) < (n : Int) := by omega
      go_enter Try.func29, Try.ntmps29
      go_wp2
      go_ret2
      exact HBd.out _ _ rfl HB0.out
  · have HBd := Lib.hid (HBad.out (fun h => c1 h.1))
    clear h1 h2 B0 bv bw HBad hX
    generalize v.length = n at *
    generalize w.length = m at *
    have n1 : ((n : Int) == (m : Int)) = false := by simp; omega
    have n2 : ((n : Int) != (m : Int)) = true := by simp; omega
    go_enter Try.func29, Try.ntmps29
    go_wp2
    go_ret2
    exact HBd.out _ _ rfl HB0.out
end Go.Proofs.Yteoionlnnjcggaa.od
