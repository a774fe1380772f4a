/-
  The walk of kurganlaw09.OrderRatios.
-/
import Derived.Test.YteceibafagekiaaRRat2
import Derived.Test.YteceibafagekiaaArFar2
import Derived.Test.YteceibafagekiaaOrds
import Derived.Test.YteceibafagekiaaCut
import Derived.Test.YteceibafagekiaaOpen
namespace Go.Proofs.Yteceibafagekiaa
open Go.ChangeShapes Go.WideShapes Go.RowKit
set_option linter.unusedVariables false
theorem cross_all : CrossP := fun a b c d ha hb hc hd X => by
  have h := ar.cross_any a b c d ha.1 ha.2 hb.1 hb.2 hc.1 hc.2 hd.1 hd.2 X
  rw [cmpv_two] at h
  exact h
/-- a list that came in, with what its numbers may be -/
def ArgW (K : Nat) (W : World) (a : Option Addr) (n c : Nat) (l : List Int) : Prop := Arg K W a n c l ∧ I64s l
theorem i64s_of {l : List Int} (h : ∀ x ∈ l, (Lit.int .i64 x).wf = true) : I64s l := fun j => by
  by_cases hj : j < l.length
  · have := h (l[j]) (List.getElem_mem hj)
    rw [nth_at l j hj]
    obtain ⟨h1, h2⟩ := bounds_i64 this
    exact ⟨h1, h2⟩
  · unfold I64 nth
    rw [List.getElem?_eq_none (by omega)]
    simp
theorem open_argW (K : Nat) {H : Type} {enc : TypeId × Value → H} {W : World} {n : Nat} {v : Value} {y : DataW H × List MemPlace} (h : DataW.trod enc Try.prog W 0 (fun _ => true) true n 22 [v] = some y) :
    ∃ (a : Option Addr) (m c : Nat) (l : List Int), v = .slice a m c ∧ ArgW K W a m c l := by
  rcases open_ints Try.underlying22 Try.underlying3 (by kernel_rfl) h with ⟨hcs, _⟩ | ⟨x, m, c, zs, hcs, _, hl, hm, hz, _, hcell, hwf⟩
  · have e : v = .slice none 0 0 := by simpa using hcs
    exact ⟨_, _, _, _, e, arg_of K (zs := []) rfl (Nat.le_refl _) (by unfold maxLen; omega) (fun _ => rfl) (fun a' h => by cases h), i64s_of (fun x hx => by simp at hx)⟩
  · have e : v = .slice (some x) m c := by simpa using hcs
    simp only [if_true] at hz
    exact ⟨_, _, _, _, e, arg_of K hz hl hm (fun h => by cases h) (fun a' e j hj => by cases e; exact hcell j (by omega)), i64s_of (fun y hy => hwf y (List.mem_of_mem_take hy))⟩
theorem Own.arg {B g n cap : Nat} {l : List Int} {w0 wr : World} (h : Own B g n cap l w0 wr) (K : Nat) (hK : n ≤ K) : Arg K wr (some ⟨g, 0, none⟩) n cap l := by
  obtain ⟨c1, c2⟩ := h.cap
  obtain ⟨cur, hb⟩ := h.blk
  exact Or.inr (Or.inr ⟨g, 0, rfl, c1, c2, lt_hp hb, fun j hj => by rw [Nat.zero_add]; exact h.cell j (by rw [← h.1]; exact hj), Or.inl ⟨hK, h.1⟩⟩)
theorem cut70 (l : List Int) (a : Option Addr) (n c : Nat) (w : World) (h : Arg 70 w a n c l) :
    Calls Try.prog 8 #[.slice a n c, .int .i64 70] w fun e w' => ∃ g cap, e = .returned (.slice (some ⟨g, 0, none⟩) l.length cap) ∧ Ints w' (some ⟨g, 0, none⟩) l ∧ Arg 70 w' (some ⟨g, 0, none⟩) l.length cap l ∧ Below w.heap.size w w' :=
  (cut_any 70 (by decide) l a n c w h).mono fun e w' ⟨g, cap, he, ho⟩ => ⟨g, cap, he, ho.ints, ho.arg 70 h.len, ho.2.2.2⟩
theorem same_selfR (l : List Int) (hn : l.length ≤ 1000) (xa ya : Option Addr) (xc yc : Nat) (w : World) (h1 : Ints w xa l) (h2 : Ints w ya l) :
    Calls Try.prog 12 #[.slice xa l.length xc, .slice ya l.length yc] w fun e w' => e = .returned (.bool true) ∧ Below w.heap.size w w' := by
  have h := same_any l l hn hn xa ya xc yc w h1 h2
  have e : decide (l = l) = true := by simp
  rw [e] at h
  exact h
theorem same_nil (xc yc : Nat) (w : World) : Calls Try.prog 12 #[.slice none 0 xc, .slice none 0 yc] w fun e w' => e = .returned (.bool true) ∧ Below w.heap.size w w' :=
  same_selfR [] (by simp) none none xc yc w (fun j hj => absurd hj (by simp)) (fun j hj => absurd hj (by simp))
/-- what both answer, told in one shape -/
def RatR (v w : List Int) (k : Nat) (er : Int) (S : List Int → Prop) (W : World) (e : Ending) (W' : World) : Prop :=
  ∃ (a : Option Addr) (cap : Nat) (T : List Int), e = .returned (.tuple #[.slice a k cap, .int .i64 er]) ∧ S T ∧ Ints W' a T ∧ Below W.heap.size W W'
set_option maxRecDepth 100000 in
set_option maxHeartbeats 8000000 in
theorem orderRatios_core (v w : List Int) (va wa : Option Addr) (vn vc wn wc : Nat) (W : World) (h1 : Arg 70 W va vn vc v) (h2 : Arg 70 W wa wn wc w)
    (k : Nat) (er : Int) (S S2 : List Int → Prop)
    (HP : ∀ X (a b : Option Addr) (c d : Nat), Ints X a v → Ints X b w → Calls Try.prog 9 #[.slice a v.length c, .slice b w.length d] X (RatR v w k er S X))
    (HR : ∀ X (a b : Option Addr) (c d : Nat), Ints X a v → Ints X b w → Calls Try.prog 10 #[.slice a v.length c, .slice b w.length d] X (RatR v w k er S2 X))
    (HS : ∀ (T U : List Int), S T → S2 U → ∀ X (a b : Option Addr) (c d : Nat), Ints X a T → Ints X b U → Calls Try.prog 12 #[.slice a k c, .slice b k d] X fun e w' => e = .returned (.bool true) ∧ Below X.heap.size X w') :
    Calls Try.prog 3 #[.slice va vn vc, .slice wa wn wc] W fun e w' => e = .returned (.bool true) ∧ Below W.heap.size W w' := by
  have lv := h1.len
  have lw := h2.len
  have HC1 := Lib.hid (cut70 v va vn vc W h1)
  have HC2 := Lib.hid (fun X (hb : Below W.heap.size W X) => cut70 w wa wn wc X (h2.keep hb))
  have HC3 := Lib.hid (fun X (a : Option Addr) (n c : Nat) (h : Arg 70 X a n c v) => cut70 v a n c X h)
  have HC4 := Lib.hid (fun X (a : Option Addr) (n c : Nat) (h : Arg 70 X a n c w) => cut70 w a n c X h)
  have HOr := Lib.hid (fun X => orders_any X)
  have HSv := Lib.hid (fun X (a b : Option Addr) (c d : Nat) (q1 : Ints X a v) (q2 : Ints X b v) => same_selfR v (by omega) a b c d X q1 q2)
  have HSw := Lib.hid (fun X (a b : Option Addr) (c d : Nat) (q1 : Ints X a w) (q2 : Ints X b w) => same_selfR w (by omega) a b c d X q1 q2)
  have HPh := Lib.hid HP; have HRh := Lib.hid HR; have HSh := Lib.hid HS
  have hee : (er == er) = true := by simp
  unfold RatR at HPh HRh
  clear h1 h2 HP HR HS
  generalize v.length = n at *
  generalize w.length = m at *
  go_enter Try.func3, Try.ntmps3
  go_wp2_with fail
  refine HC1.out.mono ?_; rintro e w1 ⟨g1, p1, rfl, t1, t2, b1⟩
  have I1 := Lib.hid t1; have A1 := Lib.hid t2; have B1 := Lib.hid b1
  clear t1 t2 b1 HC1
  go_wp2_with fail
  refine (HC2.out w1 B1.out).mono ?_; rintro e w2 ⟨g2, p2, rfl, t1, t2, b1⟩
  have I2 := Lib.hid t1; have A2 := Lib.hid t2; have I1 := Lib.hid (I1.out.keep b1); have A1 := Lib.hid (A1.out.keep b1); have B2 := Lib.hid (bl_tr B1.out b1)
  clear t1 t2 b1 HC2 B1
  go_wp2_with fail
  refine (HC3.out w2 _ _ _ A1.out).mono ?_; rintro e w3 ⟨g3, p3, rfl, t1, t2, b1⟩
  have I3 := Lib.hid t1; have I1 := Lib.hid (I1.out.keep b1); have I2 := Lib.hid (I2.out.keep b1); have A2 := Lib.hid (A2.out.keep b1); have B3 := Lib.hid (bl_tr B2.out b1)
  clear t1 t2 b1 HC3 B2
  go_wp2_with fail
  refine (HC4.out w3 _ _ _ A2.out).mono ?_; rintro e w4 ⟨g4, p4, rfl, t1, t2, b1⟩
  have I4 := Lib.hid t1; have I1 := Lib.hid (I1.out.keep b1); have I2 := Lib.hid (I2.out.keep b1); have I3 := Lib.hid (I3.out.keep b1); have B4 := Lib.hid (bl_tr B3.out b1)
  clear t1 t2 b1 HC4 B3 A1 A2
  go_wp2_with fail
  refine (HPh.out w4 _ _ _ _ I1.out I2.out).mono ?_; rintro e w5 ⟨a5, p5, T, rfl, s5, t5, b1⟩
  have S5 := Lib.hid s5; have I5 := Lib.hid t5; have I1 := Lib.hid (I1.out.keep b1); have I2 := Lib.hid (I2.out.keep b1); have I3 := Lib.hid (I3.out.keep b1); have I4 := Lib.hid (I4.out.keep b1); have B5 := Lib.hid (bl_tr B4.out b1)
  clear s5 t5 b1 HPh B4
  go_wp2_with fail
  refine (HRh.out w5 _ _ _ _ I3.out I4.out).mono ?_; rintro e w6 ⟨a6, p6, U, rfl, s6, t6, b1⟩
  have S6 := Lib.hid s6; have I6 := Lib.hid t6; have I1 := Lib.hid (I1.out.keep b1); have I2 := Lib.hid (I2.out.keep b1); have I3 := Lib.hid (I3.out.keep b1); have I4 := Lib.hid (I4.out.keep b1); have I5 := Lib.hid (I5.out.keep b1); have B6 := Lib.hid (bl_tr B5.out b1)
  clear s6 t6 b1 HRh B5
  go_wp2_with fail
  refine (HOr.out w6).mono ?_; rintro e w7 ⟨rfl, b1⟩
  have I1 := Lib.hid (I1.out.keep b1); have I2 := Lib.hid (I2.out.keep b1); have I3 := Lib.hid (I3.out.keep b1); have I4 := Lib.hid (I4.out.keep b1); have I5 := Lib.hid (I5.out.keep b1); have I6 := Lib.hid (I6.out.keep b1); have B7 := Lib.hid (bl_tr B6.out b1)
  clear b1 HOr B6
  go_wp2_with fail
  refine (HSh.out T U S5.out S6.out w7 _ _ _ _ I5.out I6.out).mono ?_; rintro e w8 ⟨rfl, b1⟩
  have I1 := Lib.hid (I1.out.keep b1); have I2 := Lib.hid (I2.out.keep b1); have I3 := Lib.hid (I3.out.keep b1); have I4 := Lib.hid (I4.out.keep b1); have B8 := Lib.hid (bl_tr B7.out b1)
  clear b1 HSh B7
  go_wp2_with fail
  refine (HSv.out w8 _ _ _ _ I1.out I3.out).mono ?_; rintro e w9 ⟨rfl, b1⟩
  have I2 := Lib.hid (I2.out.keep b1); have I4 := Lib.hid (I4.out.keep b1); have B9 := Lib.hid (bl_tr B8.out b1)
  clear b1 HSv B8
  go_wp2_with fail
  refine (HSw.out w9 _ _ _ _ I2.out I4.out).mono ?_; rintro e w10 ⟨rfl, b1⟩
  have B10 := Lib.hid (bl_tr B9.out b1)
  clear b1 HSw B9
  go_wp2
  go_ret
  exact ⟨rfl, B10.out⟩
theorem orderRatios_walk (v : List Int) (va : Option Addr) (vn vc : Nat) (w : List Int) (wa : Option Addr) (wn wc : Nat) (W : World) (h1 : ArgW 70 W va vn vc v) (h2 : ArgW 70 W wa wn wc w) :
    Calls Try.prog 3 #[.slice va vn vc, .slice wa wn wc] W fun e w' => e = .returned (.bool true) ∧ Below W.heap.size W w' := by
  obtain ⟨h1, bv⟩ := h1
  obtain ⟨h2, bw⟩ := h2
  have lv := h1.len
  have lw := h2.len
  by_cases ho : ratOk v w
  · refine orderRatios_core v w va wa vn vc wn wc W h1 h2 v.length 0 (fun T => IsRk (ltR v w) v.length T ∧ OnRk (ltR v w) v.length T) (fun T => IsRk (ltR v w) v.length T) (fun X a b c d q1 q2 => ?_) (fun X a b c d q1 q2 => ?_) (fun T U hT hU X a b c d q1 q2 => ?_)
    · refine (ratio_any cross_all v w (by omega) (by omega) bv bw b a d c X q2 q1).mono ?_
      rintro e w' (⟨_, g, cap, T, he, t1, t2, t3, t4⟩ | ⟨h, _⟩)
      · exact ⟨_, _, T, he, ⟨t1, t2⟩, t3, t4⟩
      · exact absurd ho h
    · refine (rrat_ok v w ho bv bw a b c d X q1 q2).mono ?_
      rintro e w' ⟨g, Z, he, t1, t2, t3⟩
      exact ⟨_, _, Z, he, t1, t2, t3⟩
    · obtain rfl := isRk_one hT.1 hT.2 hU
      have := same_selfR U (by rw [hU.1]; omega) a b c d X q1 q2
      rw [hU.1] at this
      exact this
  · refine orderRatios_core v w va wa vn vc wn wc W h1 h2 0 1 (fun T => T = []) (fun T => T = []) (fun X a b c d q1 q2 => ?_) (fun X a b c d q1 q2 => ?_) (fun T U hT hU X a b c d q1 q2 => ?_)
    · refine (ratio_any cross_all v w (by omega) (by omega) bv bw b a d c X q2 q1).mono ?_
      rintro e w' (⟨h, _⟩ | ⟨h, he, t4⟩)
      · exact absurd h ho
      · exact ⟨none, 0, [], he, rfl, fun j hj => absurd hj (by simp), t4⟩
    · refine (rrat_no v w (by omega) (by omega) ho a b c d X q1 q2).mono ?_
      rintro e w' ⟨he, t⟩
      exact ⟨none, 0, [], he, rfl, fun j hj => absurd hj (by simp), t⟩
    · have h := same_any [] [] (by simp) (by simp) a b c d X (fun j hj => absurd hj (by simp)) (fun j hj => absurd hj (by simp))
      simpa using h
end Go.Proofs.Yteceibafagekiaa
