/-
  What the reference's Cost answers.
-/
import Derived.Test.YtfpffggeehmedaaPerm
import Derived.Test.YtfpffggeehmedaaPlainsW
namespace Go.Proofs.Ytfpffggeehmedaa
open Go.RowKit
set_option linter.unusedVariables false

def refw (cl : List (List Int)) (x : List Int) (j : Nat) : Int := ent cl (nth x j) (nth x ((j + 1) % x.length))
theorem refw_sum (cl : List (List Int)) (x : List Int) (h0 : 0 < x.length) : ps (refw cl x) x.length = ps (wayc cl x) x.length := by
  rw [← ps_rot (refw cl x) x.length h0]
  refine ps_congr _ _ x.length (fun j hj => ?_) x.length (Nat.le_refl _)
  unfold refw wayc hereAt
  by_cases h : j = 0
  · subst h
    rw [if_pos rfl, if_pos rfl]
    have e : (x.length - 1 + 1) % x.length = 0 := by
      rw [Nat.sub_add_cancel (by omega)]; exact Nat.mod_self _
    rw [e]
  · rw [if_neg h, if_neg h]
    have e : (j - 1 + 1) % x.length = j := by
      rw [Nat.sub_add_cancel (by omega)]; exact Nat.mod_eq_of_lt hj
    rw [e]
theorem bad_nth : ∀ (x : List Int), anyBad x = false → ∀ j, j < x.length → nth x j = 0 ∨ nth x j = 1
  | [], _, j, hj => absurd hj (by simp)
  | y :: l, h, j, hj => by
    have e := bad_at (l := y :: l) (k := 0) (by simp)
    simp only [List.drop_zero, List.getElem?_cons_zero, Option.getD_some, List.drop_succ_cons] at e
    rw [h] at e
    have e' := e.symm
    simp only [Bool.or_eq_false_iff] at e'
    cases j with
    | zero =>
      have : nth (y :: l) 0 = y := by unfold nth; rfl
      rw [this]
      have := e'.1
      simp at this
      by_cases hy : y = 0
      · exact Or.inl hy
      · exact Or.inr (this hy)
    | succ j =>
      have := bad_nth l e'.2 j (by simpa using hj)
      have e2 : nth (y :: l) (j + 1) = nth l j := by unfold nth; rfl
      rw [e2]; exact this
set_option maxRecDepth 100000 in
set_option maxHeartbeats 2000000 in
theorem refCost_bad (K N C : Int) (wl vl : List Int) (cl : List (List Int)) (hc : chk K N C wl vl cl ≠ 0) (x : List Int) (wa va ca xa : Option Addr) (wc vc cc xc : Nat) (w : World) (h : Prob w wl vl cl wa va ca) :
    Calls Try.prog 10 #[.agg #[.int .i64 K, .int .i64 N, .int .i64 C, .slice wa wl.length wc, .slice va vl.length vc, .slice ca cl.length cc], .slice xa x.length xc] w
      fun e w' => e = .returned (.tuple #[.int .i64 0, .int .i64 (chk K N C wl vl cl)]) ∧ Below w.heap.size w w' := by
  have bA : Below w.heap.size w (w.alloc (.cells #[.int .i64 K, .int .i64 N, .int .i64 C, .slice wa wl.length wc, .slice va vl.length vc, .slice ca cl.length cc] 25)) := bl_al (Below.refl _ _) _
  have HK := Lib.hid (ref_any K N C wl vl cl wa va ca wc vc cc _ (h.keep bA))
  have BA := Lib.hid bA
  clear h bA
  generalize chk K N C wl vl cl = ck at *
  have hc' : (ck == 0) = false := by simp [hc]
  generalize wl.length = wn at *
  generalize vl.length = vn at *
  generalize cl.length = cn at *
  generalize x.length = xn at *
  go_enter Try.func10, Try.ntmps10
  go_wp2_with fail
  refine HK.out.mono ?_; rintro e w1 ⟨rfl, hb1⟩
  go_wp2
  go_ret2
  exact ⟨rfl, bl_tr BA.out hb1⟩
set_option maxRecDepth 100000 in
set_option maxHeartbeats 2000000 in
theorem refCost_items (N C : Int) (wl vl : List Int) (cl : List (List Int)) (hc : chk 1 N C wl vl cl = 0) (x : List Int) (ho : okx 1 N x) (wa va ca xa : Option Addr) (wc vc cc xc : Nat) (w : World) (h : Prob w wl vl cl wa va ca) (hI : Ints w xa x) :
    Calls Try.prog 10 #[.agg #[.int .i64 1, .int .i64 N, .int .i64 C, .slice wa wl.length wc, .slice va vl.length vc, .slice ca cl.length cc], .slice xa x.length xc] w
      fun e w' => e = .returned (.tuple #[.int .i64 (itemsR C wl vl x).1, .int .i64 (itemsR C wl vl x).2]) ∧ Below w.heap.size w w' := by
  have bA : Below w.heap.size w (w.alloc (.cells #[.int .i64 1, .int .i64 N, .int .i64 C, .slice wa wl.length wc, .slice va vl.length vc, .slice ca cl.length cc] 25)) := bl_al (Below.refl _ _) _
  have HK := Lib.hid (ref_any 1 N C wl vl cl wa va ca wc vc cc _ (h.keep bA))
  have Q := Lib.hid (heap_alloc_new w (.cells #[.int .i64 1, .int .i64 N, .int .i64 C, .slice wa wl.length wc, .slice va vl.length vc, .slice ca cl.length cc] 25))
  have BA := Lib.hid bA
  obtain ⟨z0, z⟩ := chk_zero hc
  rcases z with ⟨_, z1, z2, z3, z4, z5, z6⟩ | ⟨z1, _⟩
  rotate_left
  · omega
  have hl := ho.1
  have hx01 : anyBad x = false := by rcases ho.2 with q | q; exact q.2; exact absurd rfl q.1
  rw [hc] at HK
  have hw : wl.length = x.length := by omega
  have hv : vl.length = x.length := by omega
  have hn : x.length ≤ 64 := by omega
  have ok : ∀ j, j < x.length → (0 ≤ nth wl j ∧ nth wl j ≤ 2147483647) ∧ (0 ≤ nth vl j ∧ nth vl j ≤ 2147483647) := fun j hj => items_ok wl vl (by omega) z6 j (by omega)
  have o1 : ∀ j, j < x.length → 0 ≤ wgt x wl j ∧ wgt x wl j ≤ 2147483647 := fun j hj => by have := ok j hj; unfold wgt; split <;> omega
  have o2 : ∀ j, j < x.length → 0 ≤ lft x vl j ∧ lft x vl j ≤ 2147483647 := fun j hj => by have := ok j hj; unfold lft; split <;> omega
  have P1 := Lib.hid (ps_next _ _ o1 hn)
  have P2 := Lib.hid (ps_next _ _ o2 hn)
  have H1 := Lib.hid (fun W (hb : Below w.heap.size w W) j (hj : j < x.length) => ints_nth (h.keep hb).1 (j := j) (by omega))
  have H2 := Lib.hid (fun W (hb : Below w.heap.size w W) j (hj : j < x.length) => ints_nth (h.keep hb).2.1 (j := j) (by omega))
  have H3 := Lib.hid (fun W (hb : Below w.heap.size w W) j (hj : j < x.length) => ints_nth (hI.keep hb) (j := j) (by omega))
  have HR := Lib.hid (show itemsR C wl vl x = if C < ps (wgt x wl) x.length then (0, 9) else (ps (lft x vl) x.length, 0) from rfl)
  have HW := Lib.hid (show ∀ j, wgt x wl j = if nth x j = 1 then nth wl j else 0 from fun j => rfl)
  have HV := Lib.hid (show ∀ j, lft x vl j = if nth x j = 1 then 0 else nth vl j from fun j => rfl)
  have HZ := Lib.hid (show ∀ j, j < x.length → nth x j = 0 ∨ nth x j = 1 from fun j hj => bad_nth x hx01 j hj)
  clear o1 o2 ok h hI bA hc ho z0 z1 z2 z3 z6 hx01
  subst hl
  rw [hw, hv, z4] at *
  clear hw hv z4
  generalize hR : itemsR C wl vl x = R at *
  clear hR
  generalize wgt x wl = f at *
  generalize lft x vl = g at *
  generalize hm : x.length = n at *
  clear hm
  go_enter Try.func10, Try.ntmps10
  go_wp2_with fail
  refine HK.out.mono ?_; rintro e w1 ⟨rfl, hb1⟩
  obtain ⟨c0, c1, c2, c3, c4, c5⟩ := box6_keep hb1 Q.out
  have B1 := Lib.hid (bl_tr BA.out hb1)
  clear hb1
  go_wp2
  go_loop [9, 10, 11] (fun a b i => ∃ k : Nat, k ≤ n ∧ a = .int .i64 (ps f k) ∧ b = .int .i64 (ps g k) ∧ i = .int .i64 k) (fun _ _ i => n - (intOf i).toNat)
  case atStart => exact ⟨0, by omega, by rw [ps_zero], by rw [ps_zero], rfl⟩
  case round =>
    obtain ⟨k, hk, rfl, rfl, rfl⟩ := hrel
    by_cases hlt : k < n
    · obtain ⟨b1, of1, rfl, hb1, hc1⟩ := H1.out w1 B1.out k hlt
      obtain ⟨b2, of2, rfl, hb2, hc2⟩ := H2.out w1 B1.out k hlt
      obtain ⟨b3, of3, rfl, hb3, hc3⟩ := H3.out w1 B1.out k hlt
      obtain ⟨p1, p2, p3⟩ := P1.out k hlt
      obtain ⟨q1, q2, q3⟩ := P2.out k hlt
      have HWk := HW.out k
      have HVk := HV.out k
      rcases HZ.out k hlt with ht | ht
      · rw [if_neg (by omega)] at HWk HVk
        rw [HWk, Int.add_zero] at p3
        rw [HVk] at q3
        rw [ht] at hc3
        generalize nth wl k = u at *
        generalize nth vl k = v at *
        have P3 := Lib.hid p3
        have Q3 := Lib.hid q3
        have r1 : 0 ≤ ps g k + v := by omega
        have r2 : ps g k + v ≤ 137438953408 := by omega
        clear p3 q3 HWk HVk ht
        go_wp2
        go_round
        case rel => exact ⟨k + 1, by omega, by rw [P3.out], by rw [Q3.out], by go_num⟩
        case measure => simp [intOf]; omega
      · rw [if_pos ht] at HWk HVk
        rw [HWk] at p3
        rw [HVk, Int.add_zero] at q3
        rw [ht] at hc3
        generalize nth wl k = u at *
        generalize nth vl k = v at *
        have P3 := Lib.hid p3
        have Q3 := Lib.hid q3
        have r1 : 0 ≤ ps f k + u := by omega
        have r2 : ps f k + u ≤ 137438953408 := by omega
        clear p3 q3 HWk HVk ht
        go_wp2
        go_round
        case rel => exact ⟨k + 1, by omega, by rw [P3.out], by rw [Q3.out], by go_num⟩
        case measure => simp [intOf]; omega
    · obtain rfl : n = k := by omega
      have hr := HR.out
      by_cases hc : C < ps f n
      · rw [if_pos hc] at hr
        subst hr
        go_wp2
        go_ret2
        exact ⟨rfl, B1.out⟩
      · rw [if_neg hc] at hr
        subst hr
        go_wp2
        go_ret2
        exact ⟨rfl, B1.out⟩
end Go.Proofs.Ytfpffggeehmedaa
