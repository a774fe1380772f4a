import Derived.Test.YtaobaiifbmhegaaPerm
import Derived.Test.YtaobaiifbmhegaaPlainsW
import Derived.Deep.QuietTactic
import Derived.BigQuiet

/-
  What the reference's Cost answers.
-/
namespace Go.Proofs.Ytaobaiifbmhegaa
open Go.RowKit
set_option linter.unusedVariables false

def refw (cl : List (List Int)) (x : List Int) (j : Nat) : Int := ent cl (nth x j) (nth x ((j + 1) % x.length))
theorem refw_sum (cl : List (List Int)) (x : List Int) (h0 : 0 < x.length) : ps (refw cl x) x.length = ps (wayc cl x) x.length := by
  rw [← ps_rot (refw cl x) x.length h0]
  refine ps_congr _ _ x.length (fun j hj => ?_) x.length (Nat.le_refl _)
  unfold refw wayc hereAt
  by_cases h : j = 0
  · subst h
    rw [if_pos rfl, if_pos rfl]
    have e : (x.length - 1 + 1) % x.length = 0 := by
      rw [Nat.sub_add_cancel (by omega)]; exact Nat.mod_self _
    rw [e]
  · rw [if_neg h, if_neg h]
    have e : (j - 1 + 1) % x.length = j := by
      rw [Nat.sub_add_cancel (by omega)]; exact Nat.mod_eq_of_lt hj
    rw [e]
theorem bad_nth : ∀ (x : List Int), anyBad x = false → ∀ j, j < x.length → nth x j = 0 ∨ nth x j = 1
  | [], _, j, hj => absurd hj (by simp)
  | y :: l, h, j, hj => by
    have e := bad_at (l := y :: l) (k := 0) (by simp)
    simp only [List.drop_zero, List.getElem?_cons_zero, Option.getD_some, List.drop_succ_cons] at e
    rw [h] at e
    have e' := e.symm
    simp only [Bool.or_eq_false_iff] at e'
    cases j with
    | zero =>
      have : nth (y :: l) 0 = y := by unfold nth; rfl
      rw [this]
      have := e'.1
      simp at this
      by_cases hy : y = 0
      · exact Or.inl hy
      · exact Or.inr (this hy)
    | succ j =>
      have := bad_nth l e'.2 j (by simpa using hj)
      have e2 : nth (y :: l) (j + 1) = nth l j := by unfold nth; rfl
      rw [e2]; exact this
set_option maxRecDepth 100000 in
set_option maxHeartbeats 2000000 in
theorem refCost_bad (K N C : Int) (wl vl : List Int) (cl : List (List Int)) (hc : chk K N C wl vl cl ≠ 0) (x : List Int) (wa va ca xa : Option Addr) (wc vc cc xc : Nat) (w : World) (h : Prob w wl vl cl wa va ca) :
    Calls Try.prog 14 #[.agg #[.int .i64 K, .int .i64 N, .int .i64 C, .slice wa wl.length wc, .slice va vl.length vc, .slice ca cl.length cc], .slice xa x.length xc] w
      fun e w' => e = .returned (.tuple #[.int .i64 0, .int .i64 (chk K N C wl vl cl)]) ∧ Below w.heap.size w w' := by
  have bA : Below w.heap.size w (w.alloc (.cells #[.int .i64 K, .int .i64 N, .int .i64 C, .slice wa wl.length wc, .slice va vl.length vc, .slice ca cl.length cc] 25)) := bl_al (Below.refl _ _) _
  have HK := Lib.hid (ref_any K N C wl vl cl wa va ca wc vc cc _ (h.keep bA))
  have BA := Lib.hid bA
  clear h bA
  generalize chk K N C wl vl cl = ck at *
  have hc' : (ck == 0) = false := by simp [hc]
  generalize wl.length = wn at *
  generalize vl.length = vn at *
  generalize cl.length = cn at *
  generalize x.length = xn at *
  go_enter Try.func14, Try.ntmps14
  go_wp2_with fail
  refine HK.out.mono ?_; rintro e w1 ⟨rfl, hb1⟩
  go_wp2
  go_ret2
  exact ⟨rfl, bl_tr BA.out hb1⟩
set_option maxRecDepth 100000 in
set_option maxHeartbeats 2000000 in
theorem refCost_items (N C : Int) (wl vl : List Int) (cl : List (List Int)) (hc : chk 1 N C wl vl cl = 0) (x : List Int) (ho : okx 1 N x) (wa va ca xa : Option Addr) (wc vc cc xc : Nat) (w : World) (h : Prob w wl vl cl wa va ca) (hI : Ints w xa x) :
    Calls Try.prog 14 #[.agg #[.int .i64 1, .int .i64 N, .int .i64 C, .slice wa wl.length wc, .slice va vl.length vc, .slice ca cl.length cc], .slice xa x.length xc] w
      fun e w' => e = .returned (.tuple #[.int .i64 (itemsR C wl vl x).1, .int .i64 (itemsR C wl vl x).2]) ∧ Below w.heap.size w w' := by
  have bA : Below w.heap.size w (w.alloc (.cells #[.int .i64 1, .int .i64 N, .int .i64 C, .slice wa wl.length wc, .slice va vl.length vc, .slice ca cl.length cc] 25)) := bl_al (Below.refl _ _) _
  have HK := Lib.hid (ref_any 1 N C wl vl cl wa va ca wc vc cc _ (h.keep bA))
  have Q := Lib.hid (heap_alloc_new w (.cells #[.int .i64 1, .int .i64 N, .int .i64 C, .slice wa wl.length wc, .slice va vl.length vc, .slice ca cl.length cc] 25))
  have BA := Lib.hid bA
  obtain ⟨z0, z⟩ := chk_zero hc
  rcases z with ⟨_, z1, z2, z3, z4, z5, z6⟩ | ⟨z1, _⟩
  rotate_left
  · omega
  have hl := ho.1
  have hx01 : anyBad x = false := by rcases ho.2 with q | q; exact q.2; exact absurd rfl q.1
  rw [hc] at HK
  have hw : wl.length = x.length := by omega
  have hv : vl.length = x.length := by omega
  have hn : x.length ≤ 64 := by omega
  have ok : ∀ j, j < x.length → (0 ≤ nth wl j ∧ nth wl j ≤ 2147483647) ∧ (0 ≤ nth vl j ∧ nth vl j ≤ 2147483647) := fun j hj => items_ok wl vl (by omega) z6 j (by omega)
  have o1 : ∀ j, j < x.length → 0 ≤ wgt x wl j ∧ wgt x wl j ≤ 2147483647 := fun j hj => by have := ok j hj; unfold wgt; split <;> omega
  have o2 : ∀ j, j < x.length → 0 ≤ lft x vl j ∧ lft x vl j ≤ 2147483647 := fun j hj => by have := ok j hj; unfold lft; split <;> omega
  have P1 := Lib.hid (ps_next _ _ o1 hn)
  have P2 := Lib.hid (ps_next _ _ o2 hn)
  have H1 := Lib.hid (fun W (hb : Below w.heap.size w W) j (hj : j < x.length) => ints_nth (h.keep hb).1 (j := j) (by omega))
  have H2 := Lib.hid (fun W (hb : Below w.heap.size w W) j (hj : j < x.length) => ints_nth (h.keep hb).2.1 (j := j) (by omega))
  have H3 := Lib.hid (fun W (hb : Below w.heap.size w W) j (hj : j < x.length) => ints_nth (hI.keep hb) (j := j) (by omega))
  have HR := Lib.hid (show itemsR C wl vl x = if C < ps (wgt x wl) x.length then (0, 9) else (ps (lft x vl) x.length, 0) from rfl)
  have HW := Lib.hid (show ∀ j, wgt x wl j = if nth x j = 1 then nth wl j else 0 from fun j => rfl)
  have HV := Lib.hid (show ∀ j, lft x vl j = if nth x j = 1 then 0 else nth vl j from fun j => rfl)
  have HZ := Lib.hid (show ∀ j, j < x.length → nth x j = 0 ∨ nth x j = 1 from fun j hj => bad_nth x hx01 j hj)
  clear o1 o2 ok h hI bA hc ho z0 z1 z2 z3 z6 hx01
  subst hl
  rw [hw, hv, z4] at *
  clear hw hv z4
  generalize hR : itemsR C wl vl x = R at *
  clear hR
  generalize wgt x wl = f at *
  generalize lft x vl = g at *
  generalize hm : x.length = n at *
  clear hm
  go_enter Try.func14, Try.ntmps14
  go_wp2_with fail
  refine HK.out.mono ?_; rintro e w1 ⟨rfl, hb1⟩
  obtain ⟨c0, c1, c2, c3, c4, c5⟩ := box6_keep hb1 Q.out
  have B1 := Lib.hid (bl_tr BA.out hb1)
  clear hb1
  go_wp2
  go_loop [9, 10, 11] (fun a b i => ∃ k : Nat, k ≤ n ∧ a = .int .i64 (ps f k) ∧ b = .int .i64 (ps g k) ∧ i = .int .i64 k) (fun _ _ i => n - (intOf i).toNat)
  case atStart => exact ⟨0, by omega, by rw [ps_zero], by rw [ps_zero], rfl⟩
  case round =>
    obtain ⟨k, hk, rfl, rfl, rfl⟩ := hrel
    by_cases hlt : k < n
    · obtain ⟨b1, of1, rfl, hb1, hc1⟩ := H1.out w1 B1.out k hlt
      obtain ⟨b2, of2, rfl, hb2, hc2⟩ := H2.out w1 B1.out k hlt
      obtain ⟨b3, of3, rfl, hb3, hc3⟩ := H3.out w1 B1.out k hlt
      obtain ⟨p1, p2, p3⟩ := P1.out k hlt
      obtain ⟨q1, q2, q3⟩ := P2.out k hlt
      have HWk := HW.out k
      have HVk := HV.out k
      rcases HZ.out k hlt with ht | ht
      · rw [if_neg (by omega)] at HWk HVk
        rw [HWk, Int.add_zero] at p3
        rw [HVk] at q3
        rw [ht] at hc3
        generalize nth wl k = u at *
        generalize nth vl k = v at *
        have P3 := Lib.hid p3
        have Q3 := Lib.hid q3
        have r1 : 0 ≤ ps g k + v := by omega
        have r2 : ps g k + v ≤ 137438953408 := by omega
        clear p3 q3 HWk HVk ht
        go_wp2
        go_round
        case rel => exact ⟨k + 1, by omega, by rw [P3.out], by rw [Q3.out], by go_num⟩
        case measure => simp [intOf]; omega
      · rw [if_pos ht] at HWk HVk
        rw [HWk] at p3
        rw [HVk, Int.add_zero] at q3
        rw [ht] at hc3
        generalize nth wl k = u at *
        generalize nth vl k = v at *
        have P3 := Lib.hid p3
        have Q3 := Lib.hid q3
        have r1 : 0 ≤ ps f k + u := by omega
        have r2 : ps f k + u ≤ 137438953408 := by omega
        clear p3 q3 HWk HVk ht
        go_wp2
        go_round
        case rel => exact ⟨k + 1, by omega, by rw [P3.out], by rw [Q3.out], by go_num⟩
        case measure => simp [intOf]; omega
    · obtain rfl : n = k := by omega
      have hr := HR.out
      by_cases hc : C < ps f n
      · rw [if_pos hc] at hr
        subst hr
        go_wp2
        go_ret2
        exact ⟨rfl, B1.out⟩
      · rw [if_neg hc] at hr
        subst hr
        go_wp2
        go_ret2
        exact ⟨rfl, B1.out⟩
end Go.Proofs.Ytaobaiifbmhegaa

/-
  What the reference's Cost answers: the other ways.
-/
namespace Go.Proofs.Ytaobaiifbmhegaa
open Go.RowKit
set_option linter.unusedVariables false

theorem bad_some (x : List Int) (h : anyBad x = true) : ¬ ∀ j, j < x.length → nth x j = 0 ∨ nth x j = 1 := fun hz => by
  have : anyBad x = false := by
    clear h
    induction x with
    | nil => exact bad_end (l := []) (k := 0) (Nat.le_refl _)
    | cons y l ih =>
      have e := bad_at (l := y :: l) (k := 0) (by simp)
      simp only [List.drop_zero, List.getElem?_cons_zero, Option.getD_some, List.drop_succ_cons] at e
      have r := ih (fun j hj => by
        have := hz (j + 1) (by simpa using hj)
        have e2 : nth (y :: l) (j + 1) = nth l j := by unfold nth; rfl
        rwa [e2] at this)
      have h0 := hz 0 (by simp)
      have e0 : nth (y :: l) 0 = y := by unfold nth; rfl
      rw [e0] at h0
      rw [e, r]
      rcases h0 with rfl | rfl <;> rfl
  rw [this] at h; cases h
set_option maxRecDepth 100000 in
set_option maxHeartbeats 2000000 in
theorem refCost_ibad (N C : Int) (wl vl : List Int) (cl : List (List Int)) (hc : chk 1 N C wl vl cl = 0) (x : List Int) (ho : ¬ okx 1 N x) (wa va ca xa : Option Addr) (wc vc cc xc : Nat) (w : World) (h : Prob w wl vl cl wa va ca) (hI : Ints w xa x) (hxl : x.length ≤ 1000) :
    Calls Try.prog 14 #[.agg #[.int .i64 1, .int .i64 N, .int .i64 C, .slice wa wl.length wc, .slice va vl.length vc, .slice ca cl.length cc], .slice xa x.length xc] w
      fun e w' => e = .returned (.tuple #[.int .i64 0, .int .i64 1]) ∧ Below w.heap.size w w' := by
  have bA : Below w.heap.size w (w.alloc (.cells #[.int .i64 1, .int .i64 N, .int .i64 C, .slice wa wl.length wc, .slice va vl.length vc, .slice ca cl.length cc] 25)) := bl_al (Below.refl _ _) _
  have HK := Lib.hid (ref_any 1 N C wl vl cl wa va ca wc vc cc _ (h.keep bA))
  have Q := Lib.hid (heap_alloc_new w (.cells #[.int .i64 1, .int .i64 N, .int .i64 C, .slice wa wl.length wc, .slice va vl.length vc, .slice ca cl.length cc] 25))
  have BA := Lib.hid bA
  obtain ⟨z0, z⟩ := chk_zero hc
  rcases z with ⟨_, z1, z2, z3, z4, z5, z6⟩ | ⟨z1, _⟩
  rotate_left
  · omega
  rw [hc] at HK
  by_cases hl : (x.length : Int) = N
  · have hb : anyBad x = true := by
      cases hh : anyBad x
      · exact absurd ⟨hl, Or.inl ⟨rfl, hh⟩⟩ ho
      · rfl
    have HZ := Lib.hid (bad_some x hb)
    have hw : wl.length = x.length := by omega
    have hv : vl.length = x.length := by omega
    have H1 := Lib.hid (fun W (hb : Below w.heap.size w W) j (hj : j < x.length) => ints_nth (h.keep hb).1 (j := j) (by omega))
    have H2 := Lib.hid (fun W (hb : Below w.heap.size w W) j (hj : j < x.length) => ints_nth (h.keep hb).2.1 (j := j) (by omega))
    have H3 := Lib.hid (fun W (hb : Below w.heap.size w W) j (hj : j < x.length) => ints_nth (hI.keep hb) (j := j) (by omega))
    clear hb ho h hI bA hc z0 z1 z2 z3 z5 z6
    subst hl
    rw [hw, hv, z4] at *
    clear hw hv z4
    generalize x.length = n at *
    go_enter Try.func14, Try.ntmps14
    go_wp2_with fail
    refine HK.out.mono ?_; rintro e w1 ⟨rfl, hb1⟩
    obtain ⟨c0, c1, c2, c3, c4, c5⟩ := box6_keep hb1 Q.out
    have B1 := Lib.hid (bl_tr BA.out hb1)
    clear hb1
    go_wp2
    go_loop [9, 10, 11] (fun a b i => ∃ (k : Nat) (A B : Int), k ≤ n ∧ a = .int .i64 A ∧ b = .int .i64 B ∧ i = .int .i64 k ∧ Hid (∀ j, j < k → nth x j = 0 ∨ nth x j = 1)) (fun _ _ i => n - (intOf i).toNat)
    case atStart => exact ⟨0, 0, 0, by omega, rfl, rfl, rfl, fun j hj => absurd hj (by omega)⟩
    case round =>
      obtain ⟨k, A, B, hk, rfl, rfl, rfl, HG⟩ := hrel
      by_cases hlt : k < n
      · obtain ⟨b1, of1, rfl, hb1, hc1⟩ := H1.out w1 B1.out k hlt
        obtain ⟨b2, of2, rfl, hb2, hc2⟩ := H2.out w1 B1.out k hlt
        obtain ⟨b3, of3, rfl, hb3, hc3⟩ := H3.out w1 B1.out k hlt
        by_cases ht : nth x k = 0
        · have HG2 : Hid (∀ j, j < k + 1 → nth x j = 0 ∨ nth x j = 1) := fun j hj => by
            rcases Nat.lt_or_ge j k with q | q
            · exact HG.out j q
            · obtain rfl : j = k := by omega
              exact Or.inl ht
          rw [ht] at hc3
          generalize nth wl k = u at *
          generalize nth vl k = v at *
          clear ht
          go_wp2
          go_round
          case rel => exact ⟨k + 1, _, _, by omega, rfl, rfl, by go_num, HG2⟩
          case measure => simp [intOf]; omega
        · by_cases ht1 : nth x k = 1
          · have HG2 : Hid (∀ j, j < k + 1 → nth x j = 0 ∨ nth x j = 1) := fun j hj => by
              rcases Nat.lt_or_ge j k with q | q
              · exact HG.out j q
              · obtain rfl : j = k := by omega
                exact Or.inr ht1
            rw [ht1] at hc3
            generalize nth wl k = u at *
            generalize nth vl k = v at *
            clear ht ht1
            go_wp2
            go_round
            case rel => exact ⟨k + 1, _, _, by omega, rfl, rfl, by go_num, HG2⟩
            case measure => simp [intOf]; omega
          · generalize nth x k = t at *
            have e0 : (t != 0) = true := by simpa using ht
            have e1 : (t != 1) = true := by simpa using ht1
            clear ht ht1
            go_wp2
            go_ret2
            exact ⟨rfl, B1.out⟩
      · obtain rfl : n = k := by omega
        exact absurd HG.out HZ.out
  · clear h hI bA ho hc z0 z1 z2 z3 z5 z6
    clear z4
    generalize cl.length = cn at *
    generalize wl.length = wn at *
    generalize vl.length = vn at *
    generalize x.length = xn at *
    go_enter Try.func14, Try.ntmps14
    go_wp2_with fail
    refine HK.out.mono ?_; rintro e w1 ⟨rfl, hb1⟩
    obtain ⟨c0, c1, c2, c3, c4, c5⟩ := box6_keep hb1 Q.out
    have B1 := Lib.hid (bl_tr BA.out hb1)
    clear hb1
    go_wp2
    go_ret2
    exact ⟨rfl, B1.out⟩
open Classical in
set_option maxRecDepth 100000 in
set_option maxHeartbeats 2000000 in
theorem refCost_obad (K N C : Int) (hK : K ≠ 1) (wl vl : List Int) (cl : List (List Int)) (hc : chk K N C wl vl cl = 0) (x : List Int) (ho : ¬ okx K N x) (wa va ca xa : Option Addr) (wc vc cc xc : Nat) (w : World) (h : Prob w wl vl cl wa va ca) (hI : Ints w xa x) (hxl : x.length ≤ 1000) :
    Calls Try.prog 14 #[.agg #[.int .i64 K, .int .i64 N, .int .i64 C, .slice wa wl.length wc, .slice va vl.length vc, .slice ca cl.length cc], .slice xa x.length xc] w
      fun e w' => e = .returned (.tuple #[.int .i64 0, .int .i64 1]) ∧ Below w.heap.size w w' := by
  have bA : Below w.heap.size w (w.alloc (.cells #[.int .i64 K, .int .i64 N, .int .i64 C, .slice wa wl.length wc, .slice va vl.length vc, .slice ca cl.length cc] 25)) := bl_al (Below.refl _ _) _
  have HK := Lib.hid (ref_any K N C wl vl cl wa va ca wc vc cc _ (h.keep bA))
  have Q := Lib.hid (heap_alloc_new w (.cells #[.int .i64 K, .int .i64 N, .int .i64 C, .slice wa wl.length wc, .slice va vl.length vc, .slice ca cl.length cc] 25))
  have BA := Lib.hid bA
  have HPm := Lib.hid (fun W (hb : Below w.heap.size w W) => perm_any x N (chk_zero hc).1 hxl xa xc W (hI.keep hb))
  have hz := (chk_zero hc).1
  rw [hc] at HK
  have hK1 : (K == 1) = false := by simpa using hK
  have hK2 : (K != 1) = true := by simpa using hK
  by_cases hp : (x.length : Int) = N ∧ permP x N.toNat
  · have h3 : K = 3 ∧ ¬ nth x 0 = 0 := by
      refine Classical.byContradiction fun hn => ho ⟨hp.1, Or.inr ⟨hK, fun h3 => ?_, hp.2⟩⟩
      have := Classical.byContradiction fun hne => hn ⟨h3, hne⟩
      unfold nth at this
      exact this
    obtain ⟨rfl, h3⟩ := h3
    have HPm2 : Hid (∀ W, Below w.heap.size w W → Calls Try.prog 37 #[.slice xa x.length xc, .int .i64 N] W fun e w' => e = .returned (.bool true) ∧ W = w') := fun W hb => by have := HPm.out W hb; simp only [hp, and_self, decide_true] at this; exact this
    have H3 := Lib.hid (fun W (hb : Below w.heap.size w W) => ints_nth (hI.keep hb) (j := 0) (by omega))
    have hx0 : 0 < x.length := by omega
    clear h hI bA ho HPm hp hK hc
    generalize nth x 0 = y at *
    have e0 : (y != 0) = true := by simpa using h3
    clear h3
    generalize wl.length = wn at *
    generalize vl.length = vn at *
    generalize cl.length = cn at *
    generalize x.length = xn at *
    go_enter Try.func14, Try.ntmps14
    go_wp2_with fail
    refine HK.out.mono ?_; rintro e w1 ⟨rfl, hb1⟩
    obtain ⟨c0, c1, c2, c3, c4, c5⟩ := box6_keep hb1 Q.out
    have B1 := Lib.hid (bl_tr BA.out hb1)
    clear hb1
    obtain ⟨b3, of3, rfl, hb3, hc3⟩ := H3.out w1 B1.out
    rw [Nat.add_zero] at hc3
    go_wp2_with fail
    refine (HPm2.out w1 B1.out).mono ?_; rintro e w2 ⟨rfl, rfl⟩
    go_wp2
    go_ret2
    exact ⟨rfl, B1.out⟩
  · have HPm2 : Hid (∀ W, Below w.heap.size w W → Calls Try.prog 37 #[.slice xa x.length xc, .int .i64 N] W fun e w' => e = .returned (.bool false) ∧ W = w') := fun W hb => by have := HPm.out W hb; simp only [hp, decide_false] at this; exact this
    clear h hI bA ho HPm hp hK hc
    generalize wl.length = wn at *
    generalize vl.length = vn at *
    generalize cl.length = cn at *
    generalize x.length = xn at *
    go_enter Try.func14, Try.ntmps14
    go_wp2_with fail
    refine HK.out.mono ?_; rintro e w1 ⟨rfl, hb1⟩
    obtain ⟨c0, c1, c2, c3, c4, c5⟩ := box6_keep hb1 Q.out
    have B1 := Lib.hid (bl_tr BA.out hb1)
    clear hb1
    go_wp2_with fail
    refine (HPm2.out w1 B1.out).mono ?_; rintro e w2 ⟨rfl, rfl⟩
    go_wp2
    go_ret2
    exact ⟨rfl, B1.out⟩
end Go.Proofs.Ytaobaiifbmhegaa

/-
  What the reference's Cost answers of rows and ways.
-/
namespace Go.Proofs.Ytaobaiifbmhegaa
open Go.RowKit
set_option linter.unusedVariables false

open Classical in
set_option maxRecDepth 100000 in
set_option maxHeartbeats 2000000 in
theorem refCost_rows (N C : Int) (wl vl : List Int) (cl : List (List Int)) (hc : chk 2 N C wl vl cl = 0) (x : List Int) (ho : okx 2 N x) (wa va ca xa : Option Addr) (wc vc cc xc : Nat) (w : World) (h : Prob w wl vl cl wa va ca) (hI : Ints w xa x) :
    Calls Try.prog 14 #[.agg #[.int .i64 2, .int .i64 N, .int .i64 C, .slice wa wl.length wc, .slice va vl.length vc, .slice ca cl.length cc], .slice xa x.length xc] w
      fun e w' => e = .returned (.tuple #[.int .i64 (ps (rowc cl x) x.length), .int .i64 0]) ∧ Below w.heap.size w w' := by
  obtain ⟨z1, z2, z3, z4, z5, z6⟩ := chk_rows (by decide) hc ho
  have bA : Below w.heap.size w (w.alloc (.cells #[.int .i64 2, .int .i64 N, .int .i64 C, .slice wa wl.length wc, .slice va vl.length vc, .slice ca cl.length cc] 25)) := bl_al (Below.refl _ _) _
  have HK := Lib.hid (ref_any 2 N C wl vl cl wa va ca wc vc cc _ (h.keep bA))
  have Q := Lib.hid (heap_alloc_new w (.cells #[.int .i64 2, .int .i64 N, .int .i64 C, .slice wa wl.length wc, .slice va vl.length vc, .slice ca cl.length cc] 25))
  have BA := Lib.hid bA
  have HPm := Lib.hid (fun W (hb : Below w.heap.size w W) => perm_any x N (chk_zero hc).1 (by omega) xa xc W (hI.keep hb))
  have hp : (x.length : Int) = N ∧ permP x N.toNat := ⟨ho.1, by rcases ho.2 with q | q; exact absurd q.1 (by decide); exact q.2.2⟩
  have HPm2 : Hid (∀ W, Below w.heap.size w W → Calls Try.prog 37 #[.slice xa x.length xc, .int .i64 N] W fun e w' => e = .returned (.bool true) ∧ W = w') := fun W hb => by have := HPm.out W hb; simp only [hp, and_self, decide_true] at this; exact this
  have P1 := Lib.hid (ps_next (rowc cl x) x.length (fun j hj => ent_ok z4 z6 _ _ (by omega) (by have := z5 j hj; omega)) z3)
  have H1 := Lib.hid (fun W (hb : Below w.heap.size w W) j (hj : j < x.length) => rws_nth (h.keep hb).2.2.1 z4 (a := (j : Int)) (b := nth x j) (by omega) (by have := z5 j hj; omega))
  have H3 := Lib.hid (fun W (hb : Below w.heap.size w W) j (hj : j < x.length) => ints_nth (hI.keep hb) (j := j) hj)
  have HR := Lib.hid z5
  have HW := Lib.hid (show ∀ j, rowc cl x j = ent cl j (nth x j) from fun j => rfl)
  have hN := Lib.hid ho.1
  rw [hc] at HK
  clear h hI bA ho HPm hp hc z4 z5 z6
  generalize rowc cl x = f at *
  generalize wl.length = wn at *
  generalize vl.length = vn at *
  generalize hcn : cl.length = cn at *
  clear hcn
  subst z1
  generalize x.length = n at *
  obtain rfl : N = n := hN.out.symm
  go_enter Try.func14, Try.ntmps14
  go_wp2_with fail
  refine HK.out.mono ?_; rintro e w1 ⟨rfl, hb1⟩
  obtain ⟨c0, c1, c2, c3, c4, c5⟩ := box6_keep hb1 Q.out
  have B1 := Lib.hid (bl_tr BA.out hb1)
  clear hb1
  go_wp2_with fail
  refine (HPm2.out w1 B1.out).mono ?_; rintro e w2 ⟨rfl, rfl⟩
  go_wp2
  go_loopw [7, 8] (fun a i wr => ∃ k : Nat, k ≤ n ∧ a = .int .i64 (ps f k) ∧ i = .int .i64 k ∧ ∃ m, wr = w1.drewN m) (fun _ i _ => n - (intOf i).toNat)
  case atStart => exact ⟨0, by omega, by rw [ps_zero], rfl, 0, rfl⟩
  case round =>
    obtain ⟨k, hk, rfl, rfl, m, rfl⟩ := hrel
    by_cases hlt : k < n
    · obtain ⟨b1, of1, b2, of2, cj, rfl, hb1, hc1, hb2, hc2⟩ := H1.out w1 B1.out k hlt
      obtain ⟨b3, of3, rfl, hb3, hc3⟩ := H3.out w1 B1.out k hlt
      obtain ⟨p1, p2, p3⟩ := P1.out k hlt
      obtain ⟨t1, t2⟩ := HR.out k hlt
      have HWk := HW.out k
      rw [HWk] at p3
      simp only [Int.toNat_natCast] at hc1
      generalize hu : ent cl k (nth x k) = u at *
      generalize nth x k = t at *
      have P3 := Lib.hid p3
      have r1 : 0 ≤ ps f k + u := by omega
      have r2 : ps f k + u ≤ 137438953408 := by omega
      have r3 : (0 : Int) ≤ (k : Int) := by omega
      have r4 : (k : Int) < (n : Int) := by omega
      have hw1 : IntKind.i64.wrap (ps f k + u) = ps f k + u := IntWalk.i64_in _ (by omega)
      clear p3 HWk hu
      go_wp2
      go_quiet (fail)
      go_wp2
      go_roundw
      case rel => exact ⟨k + 1, by omega, by rw [P3.out], by go_num, _, rfl⟩
      case measure => simp [intOf]; omega
    · obtain rfl : n = k := by omega
      go_wp2
      go_ret2
      exact ⟨rfl, bl_dn B1.out _⟩
open Classical in
set_option maxRecDepth 100000 in
set_option maxHeartbeats 2000000 in
theorem refCost_ways (N C : Int) (wl vl : List Int) (cl : List (List Int)) (hc : chk 3 N C wl vl cl = 0) (x : List Int) (ho : okx 3 N x) (wa va ca xa : Option Addr) (wc vc cc xc : Nat) (w : World) (h : Prob w wl vl cl wa va ca) (hI : Ints w xa x) :
    Calls Try.prog 14 #[.agg #[.int .i64 3, .int .i64 N, .int .i64 C, .slice wa wl.length wc, .slice va vl.length vc, .slice ca cl.length cc], .slice xa x.length xc] w
      fun e w' => e = .returned (.tuple #[.int .i64 (ps (wayc cl x) x.length), .int .i64 0]) ∧ Below w.heap.size w w' := by
  obtain ⟨z1, z2, z3, z4, z5, z6⟩ := chk_rows (by decide) hc ho
  have bA : Below w.heap.size w (w.alloc (.cells #[.int .i64 3, .int .i64 N, .int .i64 C, .slice wa wl.length wc, .slice va vl.length vc, .slice ca cl.length cc] 25)) := bl_al (Below.refl _ _) _
  have HK := Lib.hid (ref_any 3 N C wl vl cl wa va ca wc vc cc _ (h.keep bA))
  have Q := Lib.hid (heap_alloc_new w (.cells #[.int .i64 3, .int .i64 N, .int .i64 C, .slice wa wl.length wc, .slice va vl.length vc, .slice ca cl.length cc] 25))
  have BA := Lib.hid bA
  have HPm := Lib.hid (fun W (hb : Below w.heap.size w W) => perm_any x N (chk_zero hc).1 (by omega) xa xc W (hI.keep hb))
  have hp : (x.length : Int) = N ∧ permP x N.toNat := ⟨ho.1, by rcases ho.2 with q | q; exact absurd q.1 (by decide); exact q.2.2⟩
  have h00 : nth x 0 = 0 := by rcases ho.2 with q | q; exact absurd q.1 (by decide); have := q.2.1 rfl; unfold nth; exact this
  have HPm2 : Hid (∀ W, Below w.heap.size w W → Calls Try.prog 37 #[.slice xa x.length xc, .int .i64 N] W fun e w' => e = .returned (.bool true) ∧ W = w') := fun W hb => by have := HPm.out W hb; simp only [hp, and_self, decide_true] at this; exact this
  have hmod : ∀ j, j < x.length → (j + 1) % x.length < x.length := fun j hj => Nat.mod_lt _ z2
  rw [← refw_sum cl x z2]
  have P1 := Lib.hid (ps_next (refw cl x) x.length (fun j hj => ent_ok z4 z6 _ _ (by have := z5 j hj; omega) (by have := z5 _ (hmod j hj); omega)) z3)
  have H1 := Lib.hid (fun W (hb : Below w.heap.size w W) j (hj : j < x.length) => rws_nth (h.keep hb).2.2.1 z4 (a := nth x j) (b := nth x ((j + 1) % x.length)) (by have := z5 j hj; omega) (by have := z5 _ (hmod j hj); omega))
  have H3 := Lib.hid (fun W (hb : Below w.heap.size w W) j (hj : j < x.length) => ints_nth (hI.keep hb) (j := j) hj)
  have HR := Lib.hid z5
  have HMd := Lib.hid hmod
  have HMt := Lib.hid (show ∀ j : Nat, ((j : Int) + 1).tmod (x.length : Int) = (((j + 1) % x.length : Nat) : Int) from fun j => by
    rw [Int.tmod_eq_emod_of_nonneg (by omega)]; simp)
  have HW := Lib.hid (show ∀ j, refw cl x j = ent cl (nth x j) (nth x ((j + 1) % x.length)) from fun j => rfl)
  have hN := Lib.hid ho.1
  rw [hc] at HK
  clear h hI bA ho HPm hp hc z4 z5 z6 hmod
  generalize refw cl x = f at *
  generalize wl.length = wn at *
  generalize vl.length = vn at *
  generalize hcn : cl.length = cn at *
  clear hcn
  subst z1
  generalize x.length = n at *
  obtain rfl : N = n := hN.out.symm
  have H00 := Lib.hid h00
  clear h00
  go_enter Try.func14, Try.ntmps14
  go_wp2_with fail
  refine HK.out.mono ?_; rintro e w1 ⟨rfl, hb1⟩
  obtain ⟨c0, c1, c2, c3, c4, c5⟩ := box6_keep hb1 Q.out
  have B1 := Lib.hid (bl_tr BA.out hb1)
  clear hb1
  obtain ⟨b9, of9, rfl, hb9, hc9⟩ := H3.out w1 B1.out 0 z2
  rw [Nat.add_zero, H00.out] at hc9
  have h0' : (0 : Int) < n := by omega
  go_wp2_with fail
  refine (HPm2.out w1 B1.out).mono ?_; rintro e w2 ⟨rfl, rfl⟩
  go_wp2
  clear hc9
  go_loopw [7, 8] (fun a i wr => ∃ k : Nat, k ≤ n ∧ a = .int .i64 (ps f k) ∧ i = .int .i64 k ∧ ∃ m, wr = w1.drewN m) (fun _ i _ => n - (intOf i).toNat)
  case atStart => exact ⟨0, by omega, by rw [ps_zero], rfl, 0, rfl⟩
  case round =>
    obtain ⟨k, hk, rfl, rfl, m, rfl⟩ := hrel
    by_cases hlt : k < n
    · obtain ⟨b1, of1, b2, of2, cj, rfl, hb1, hc1, hb2, hc2⟩ := H1.out w1 B1.out k hlt
      obtain ⟨b3, of3, eq3, hb3, hc3⟩ := H3.out w1 B1.out k hlt
      simp only [Option.some.injEq, Addr.mk.injEq, and_true] at eq3
      obtain ⟨rfl, rfl⟩ := eq3
      obtain ⟨b4, of4, eq4, hb4, hc4⟩ := H3.out w1 B1.out ((k + 1) % n) (HMd.out k hlt)
      simp only [Option.some.injEq, Addr.mk.injEq, and_true] at eq4
      obtain ⟨rfl, rfl⟩ := eq4
      obtain ⟨p1, p2, p3⟩ := P1.out k hlt
      obtain ⟨t1, t2⟩ := HR.out k hlt
      obtain ⟨t3, t4⟩ := HR.out _ (HMd.out k hlt)
      have HWk := HW.out k
      have hmt := HMt.out k
      have hmd := HMd.out k hlt
      rw [HWk] at p3
      generalize (k + 1) % n = r at *
      generalize hu : ent cl (nth x k) (nth x r) = u at *
      generalize nth x k = t at *
      generalize nth x r = s at *
      have P3 := Lib.hid p3
      have r1 : 0 ≤ ps f k + u := by omega
      have r2 : ps f k + u ≤ 137438953408 := by omega
      have r3 : (0 : Int) ≤ (k : Int) := by omega
      have r4 : (k : Int) < (n : Int) := by omega
      have r5 : (0 : Int) ≤ (r : Int) := by omega
      have r6 : (r : Int) < (n : Int) := by omega
      have r7 : ¬ (n : Int) = 0 := by omega
      have hw1 : IntKind.i64.wrap (ps f k + u) = ps f k + u := IntWalk.i64_in _ (by omega)
      have hw2 : IntKind.i64.wrap ((k : Int) + 1) = (k : Int) + 1 := IntWalk.i64_in _ (by omega)
      have hw3 : IntKind.i64.wrap (r : Int) = (r : Int) := IntWalk.i64_in _ (by omega)
      clear p3 HWk hu
      go_wp2
      go_quiet (fail)
      clear hmt hw1 hw2 hw3
      go_wp2
      go_roundw
      case rel => exact ⟨k + 1, by omega, by rw [P3.out], by go_num, _, rfl⟩
      case measure => simp [intOf]; omega
    · obtain rfl : n = k := by omega
      go_wp2
      go_ret2
      exact ⟨rfl, bl_dn B1.out _⟩
theorem refCost_any (K N C : Int) (wl vl : List Int) (cl : List (List Int)) (x : List Int) (wa va ca xa : Option Addr) (wc vc cc xc : Nat) (w : World) (h : Prob w wl vl cl wa va ca) (hI : Ints w xa x) (hl : x.length ≤ 1000) :
    Calls Try.prog 14 #[.agg #[.int .i64 K, .int .i64 N, .int .i64 C, .slice wa wl.length wc, .slice va vl.length vc, .slice ca cl.length cc], .slice xa x.length xc] w
      fun e w' => e = .returned (.tuple #[.int .i64 (costR K N C wl vl cl x).1, .int .i64 (costR K N C wl vl cl x).2]) ∧ Below w.heap.size w w' := by
  by_cases hc : chk K N C wl vl cl = 0
  · by_cases ho : okx K N x
    · rcases (show K = 1 ∨ K = 2 ∨ K = 3 by rcases (chk_zero hc).2 with z | z <;> omega) with rfl | rfl | rfl
      · rw [cost_items hc ho]; exact refCost_items N C wl vl cl hc x ho wa va ca xa wc vc cc xc w h hI
      · rw [cost_rows hc ho]; exact refCost_rows N C wl vl cl hc x ho wa va ca xa wc vc cc xc w h hI
      · rw [cost_ways hc ho]; exact refCost_ways N C wl vl cl hc x ho wa va ca xa wc vc cc xc w h hI
    · rw [cost_arg hc ho]
      by_cases hK : K = 1
      · subst hK; exact refCost_ibad N C wl vl cl hc x ho wa va ca xa wc vc cc xc w h hI hl
      · exact refCost_obad K N C hK wl vl cl hc x ho wa va ca xa wc vc cc xc w h hI hl
  · rw [cost_bad hc]; exact refCost_bad K N C wl vl cl hc x wa va ca xa wc vc cc xc w h
end Go.Proofs.Ytaobaiifbmhegaa
