/-
  What value.itemsCost, rowsCost and waysCost answer of a valid problem.
-/
import Derived.Test.YtaobaiifbmhegaaSum
import Derived.Test.YtaobaiifbmhegaaVaOne
import Derived.Test.YtaobaiifbmhegaaRefC
import Derived.Deep.QuietTactic
import Derived.BigQuiet
namespace Go.Proofs.Ytaobaiifbmhegaa
open Go.RowKit
set_option linter.unusedVariables false

theorem ps_next (f : Nat → Int) (n : Nat) (h : ∀ j, j < n → 0 ≤ f j ∧ f j ≤ 2147483647) (hn : n ≤ 64) (k : Nat) (hk : k < n) : (0 ≤ ps f k ∧ ps f k ≤ 137438953408) ∧ (0 ≤ ps f (k + 1) ∧ ps f (k + 1) ≤ 137438953408) ∧ ps f (k + 1) = ps f k + f k := by
  have a := ps_bd f n h k (by omega)
  have b := ps_bd f n h (k + 1) (by omega)
  refine ⟨by omega, by omega, by rw [ps_succ]⟩
/-- the answer for items -/
def itemsR (C : Int) (wl vl x : List Int) : Int × Int := if C < ps (wgt x wl) x.length then (0, 9) else (ps (lft x vl) x.length, 0)
theorem ints_nth {W : World} {a : Option Addr} {l : List Int} (h : Ints W a l) {j : Nat} (hj : j < l.length) : ∃ b o, a = some ⟨b, o, none⟩ ∧ b < W.heap.size ∧ W.cell? ⟨b, o + j, none⟩ = some (.int .i64 (nth l j)) := by
  unfold nth; exact h j hj
set_option maxHeartbeats 2000000 in
theorem itemsCost_any (K N C : Int) (wl vl x : List Int) (hw : wl.length = x.length) (hv : vl.length = x.length) (hn : x.length ≤ 64) (ok : ∀ j, j < x.length → (0 ≤ nth wl j ∧ nth wl j ≤ 2147483647) ∧ (0 ≤ nth vl j ∧ nth vl j ≤ 2147483647))
    (wa va ca xa : Option Addr) (wc vc cn cc xc : Nat) (w : World) (h1 : Ints w wa wl) (h2 : Ints w va vl) (h3 : Ints w xa x) :
    Calls Try.prog 48 #[.agg #[.int .i64 K, .int .i64 N, .int .i64 C, .slice wa wl.length wc, .slice va vl.length vc, .slice ca cn cc], .slice xa x.length xc] w
      fun e w' => e = .returned (.tuple #[.int .i64 (itemsR C wl vl x).1, .int .i64 (itemsR C wl vl x).2]) ∧ Below w.heap.size w w' := by
  have o1 : ∀ j, j < x.length → 0 ≤ wgt x wl j ∧ wgt x wl j ≤ 2147483647 := fun j hj => by have := ok j hj; unfold wgt; split <;> omega
  have o2 : ∀ j, j < x.length → 0 ≤ lft x vl j ∧ lft x vl j ≤ 2147483647 := fun j hj => by have := ok j hj; unfold lft; split <;> omega
  have P1 := Lib.hid (ps_next _ _ o1 hn)
  have P2 := Lib.hid (ps_next _ _ o2 hn)
  have H1 := Lib.hid (fun j (hj : j < x.length) => ints_nth h1 (j := j) (by omega))
  have H2 := Lib.hid (fun j (hj : j < x.length) => ints_nth h2 (j := j) (by omega))
  have H3 := Lib.hid (fun j (hj : j < x.length) => ints_nth h3 (j := j) (by omega))
  have HR := Lib.hid (show itemsR C wl vl x = if C < ps (wgt x wl) x.length then (0, 9) else (ps (lft x vl) x.length, 0) from rfl)
  have HW := Lib.hid (show ∀ j, wgt x wl j = if nth x j = 1 then nth wl j else 0 from fun j => rfl)
  have HV := Lib.hid (show ∀ j, lft x vl j = if nth x j = 1 then 0 else nth vl j from fun j => rfl)
  clear o1 o2 ok h1 h2 h3
  rw [hw, hv]
  clear hw hv
  generalize hR : itemsR C wl vl x = R at *
  clear hR
  generalize wgt x wl = f at *
  generalize lft x vl = g at *
  generalize hm : x.length = n at *
  clear hm
  go_enter Try.func48, Try.ntmps48
  go_wp2
  go_loop [6, 7, 12] (fun a b i => ∃ k : Nat, k ≤ n ∧ a = .int .i64 (ps f k) ∧ b = .int .i64 (ps g k) ∧ i = .int .i64 k) (fun _ _ i => n - (intOf i).toNat)
  case atStart => exact ⟨0, by omega, by rw [ps_zero], by rw [ps_zero], rfl⟩
  case round =>
    obtain ⟨k, hk, rfl, rfl, rfl⟩ := hrel
    by_cases hlt : k < n
    · obtain ⟨b1, of1, rfl, hb1, hc1⟩ := H1.out k hlt
      obtain ⟨b2, of2, rfl, hb2, hc2⟩ := H2.out k hlt
      obtain ⟨b3, of3, rfl, hb3, hc3⟩ := H3.out k hlt
      obtain ⟨p1, p2, p3⟩ := P1.out k hlt
      obtain ⟨q1, q2, q3⟩ := P2.out k hlt
      have HWk := HW.out k
      have HVk := HV.out k
      by_cases ht : nth x k = 1
      · rw [if_pos ht] at HWk HVk
        rw [HWk] at p3
        rw [HVk, Int.add_zero] at q3
        generalize nth x k = t at *
        subst ht
        generalize nth wl k = u at *
        generalize nth vl k = v at *
        have P3 := Lib.hid p3
        have Q3 := Lib.hid q3
        have r1 : 0 ≤ ps f k + u := by omega
        have r2 : ps f k + u ≤ 137438953408 := by omega
        clear p3 q3 HWk HVk
        go_wp2
        go_round
        case rel => exact ⟨k + 1, by omega, by rw [P3.out], by rw [Q3.out], by go_num⟩
        case measure => simp [intOf]; omega
      · rw [if_neg ht] at HWk HVk
        rw [HWk, Int.add_zero] at p3
        rw [HVk] at q3
        generalize nth x k = t at *
        have ht' : (t == 1) = false := by simp [ht]
        generalize nth wl k = u at *
        generalize nth vl k = v at *
        have P3 := Lib.hid p3
        have Q3 := Lib.hid q3
        have r1 : 0 ≤ ps g k + v := by omega
        have r2 : ps g k + v ≤ 137438953408 := by omega
        clear p3 q3 HWk HVk
        go_wp2
        go_round
        case rel => exact ⟨k + 1, by omega, by rw [P3.out], by rw [Q3.out], by go_num⟩
        case measure => simp [intOf]; omega
    · obtain rfl : n = k := by omega
      have hr := HR.out
      by_cases hc : C < ps f n
      · rw [if_pos hc] at hr
        subst hr
        go_wp2
        go_ret2
        exact ⟨rfl, bl_al (Below.refl _ _) _⟩
      · rw [if_neg hc] at hr
        subst hr
        have hc' : ¬ C < ps f n := hc
        go_wp2
        go_ret2
        exact ⟨rfl, bl_al (Below.refl _ _) _⟩
theorem rws_nth {W : World} {ca : Option Addr} {cl : List (List Int)} (h : Rws W ca cl) (hp : rowsP cl) {a b : Int} (ha : 0 ≤ a ∧ a < cl.length) (hb : 0 ≤ b ∧ b < cl.length) :
    ∃ b1 o1 b2 o2 cj, ca = some ⟨b1, o1, none⟩ ∧ b1 < W.heap.size ∧ W.cell? ⟨b1, o1 + a.toNat, none⟩ = some (.slice (some ⟨b2, o2, none⟩) cl.length cj) ∧ b2 < W.heap.size ∧ W.cell? ⟨b2, o2 + b.toNat, none⟩ = some (.int .i64 (ent cl a b)) := by
  obtain ⟨b1, o1, aj, cj, e1, l1, c1, i1, _⟩ := h a.toNat (by omega)
  have hl := hp a.toNat (by omega)
  obtain ⟨b2, o2, e2, l2, c2⟩ := ints_nth i1 (j := b.toNat) (by omega)
  subst e2
  rw [hl] at c1
  refine ⟨b1, o1, b2, o2, cj, e1, l1, c1, l2, ?_⟩
  rw [c2]
  unfold ent
  rfl
set_option maxHeartbeats 2000000 in
theorem rowsCost_any (K N C : Int) (cl : List (List Int)) (x : List Int) (hx : cl.length = x.length) (hn : x.length ≤ 64) (hp : rowsP cl) (hr : ∀ j, j < x.length → 0 ≤ nth x j ∧ nth x j < x.length) (ok : ∀ j, j < x.length → 0 ≤ rowc cl x j ∧ rowc cl x j ≤ 2147483647)
    (wa va ca xa : Option Addr) (wn vn wc vc cc xc : Nat) (w : World) (h1 : Rws w ca cl) (h3 : Ints w xa x) :
    Calls Try.prog 49 #[.agg #[.int .i64 K, .int .i64 N, .int .i64 C, .slice wa wn wc, .slice va vn vc, .slice ca cl.length cc], .slice xa x.length xc] w
      fun e w' => e = .returned (.int .i64 (ps (rowc cl x) x.length)) ∧ Below w.heap.size w w' := by
  have P1 := Lib.hid (ps_next _ _ ok hn)
  have H1 := Lib.hid (fun j (hj : j < x.length) => rws_nth h1 hp (a := (j : Int)) (b := nth x j) (by omega) (by have := hr j hj; omega))
  have H3 := Lib.hid (fun j (hj : j < x.length) => ints_nth h3 (j := j) (by omega))
  have HR := Lib.hid hr
  have HW := Lib.hid (show ∀ j, rowc cl x j = ent cl j (nth x j) from fun j => rfl)
  clear ok h1 h3 hr
  rw [hx] at *
  clear hx
  generalize rowc cl x = f at *
  generalize hm : x.length = n at *
  clear hm
  go_enter Try.func49, Try.ntmps49
  go_wp2
  go_loop [5, 10] (fun a i => ∃ k : Nat, k ≤ n ∧ a = .int .i64 (ps f k) ∧ i = .int .i64 k) (fun _ i => n - (intOf i).toNat)
  case atStart => exact ⟨0, by omega, by rw [ps_zero], rfl⟩
  case round =>
    obtain ⟨k, hk, rfl, rfl⟩ := hrel
    by_cases hlt : k < n
    · obtain ⟨b1, of1, b2, of2, cj, rfl, hb1, hc1, hb2, hc2⟩ := H1.out k hlt
      obtain ⟨b3, of3, rfl, hb3, hc3⟩ := H3.out k hlt
      obtain ⟨p1, p2, p3⟩ := P1.out k hlt
      obtain ⟨t1, t2⟩ := HR.out k hlt
      have HWk := HW.out k
      rw [HWk] at p3
      simp only [Int.toNat_natCast] at hc1
      generalize hu : ent cl k (nth x k) = u at *
      generalize nth x k = t at *
      have P3 := Lib.hid p3
      have r1 : 0 ≤ ps f k + u := by omega
      have r2 : ps f k + u ≤ 137438953408 := by omega
      clear p3 HWk hu
      go_wp2
      go_round
      case rel => exact ⟨k + 1, by omega, by rw [P3.out], by go_num⟩
      case measure => simp [intOf]; omega
    · obtain rfl : n = k := by omega
      go_wp2
      go_ret
      exact ⟨rfl, bl_al (Below.refl _ _) _⟩
set_option maxHeartbeats 2000000 in
theorem waysCost_any (K N C : Int) (cl : List (List Int)) (x : List Int) (hx : cl.length = x.length) (h0 : 0 < x.length) (hn : x.length ≤ 64) (hp : rowsP cl) (hr : ∀ j, j < x.length → 0 ≤ nth x j ∧ nth x j < x.length) (ok : ∀ j, j < x.length → 0 ≤ wayc cl x j ∧ wayc cl x j ≤ 2147483647)
    (wa va ca xa : Option Addr) (wn vn wc vc cc xc : Nat) (w : World) (h1 : Rws w ca cl) (h3 : Ints w xa x) :
    Calls Try.prog 50 #[.agg #[.int .i64 K, .int .i64 N, .int .i64 C, .slice wa wn wc, .slice va vn vc, .slice ca cl.length cc], .slice xa x.length xc] w
      fun e w' => e = .returned (.int .i64 (ps (wayc cl x) x.length)) ∧ Below w.heap.size w w' := by
  have hh : ∀ j, j < x.length → 0 ≤ hereAt x j ∧ hereAt x j < x.length := fun j hj => by
    unfold hereAt
    split
    · exact hr _ (by omega)
    · exact hr _ (by omega)
  have P1 := Lib.hid (ps_next _ _ ok hn)
  have H1 := Lib.hid (fun j (hj : j < x.length) => rws_nth h1 hp (a := hereAt x j) (b := nth x j) (by have := hh j hj; omega) (by have := hr j hj; omega))
  have H3 := Lib.hid (fun j (hj : j < x.length) => ints_nth h3 (j := j) (by omega))
  have HR := Lib.hid hr
  have HH := Lib.hid hh
  have HW := Lib.hid (show ∀ j, wayc cl x j = ent cl (hereAt x j) (nth x j) from fun j => rfl)
  have G0 := Lib.hid (show hereAt x 0 = nth x (x.length - 1) from rfl)
  have GS := Lib.hid (show ∀ j, hereAt x (j + 1) = nth x j from fun j => rfl)
  clear ok h1 h3 hr hh
  rw [hx] at *
  clear hx
  generalize wayc cl x = f at *
  generalize hm : x.length = n at *
  clear hm
  obtain ⟨b9, of9, rfl, hb9, hc9⟩ := H3.out (n - 1) (by omega)
  have e1 : ((n : Int) - 1).toNat = n - 1 := by omega
  have e2 : 0 ≤ (n : Int) - 1 := by omega
  have e3 : (n : Int) - 1 < n := by omega
  have e4 : IntKind.i64.wrap ((n : Int) - 1) = (n : Int) - 1 := IntWalk.i64_in _ (by omega)
  rw [← G0.out] at hc9
  go_enter Try.func50, Try.ntmps50
  go_wp2
  go_quiet (fail)
  go_wp2
  clear e1 e2 e3 e4 hc9
  go_loop [5, 6, 17] (fun a h i => ∃ k : Nat, k ≤ n ∧ a = .int .i64 (ps f k) ∧ h = .int .i64 (hereAt x k) ∧ i = .int .i64 k) (fun _ _ i => n - (intOf i).toNat)
  case atStart => exact ⟨0, by omega, by rw [ps_zero], rfl, rfl⟩
  case round =>
    obtain ⟨k, hk, rfl, rfl, rfl⟩ := hrel
    by_cases hlt : k < n
    · obtain ⟨b1, of1, b2, of2, cj, rfl, hb1, hc1, hb2, hc2⟩ := H1.out k hlt
      obtain ⟨b3, of3, eq3, hb3, hc3⟩ := H3.out k hlt
      simp only [Option.some.injEq, Addr.mk.injEq, and_true] at eq3
      obtain ⟨rfl, rfl⟩ := eq3
      obtain ⟨p1, p2, p3⟩ := P1.out k hlt
      obtain ⟨t1, t2⟩ := HR.out k hlt
      obtain ⟨t3, t4⟩ := HH.out k hlt
      have HWk := HW.out k
      have GK := GS.out k
      rw [HWk] at p3
      generalize hu : ent cl (hereAt x k) (nth x k) = u at *
      generalize hereAt x k = h at *
      have GKh := Lib.hid GK
      generalize nth x k = t at *
      have P3 := Lib.hid p3
      have r1 : 0 ≤ ps f k + u := by omega
      have r2 : ps f k + u ≤ 137438953408 := by omega
      clear p3 HWk hu GK
      go_wp2
      go_round
      case rel => exact ⟨k + 1, by omega, by rw [P3.out], by rw [GKh.out], by go_num⟩
      case measure => simp [intOf]; omega
    · obtain rfl : n = k := by omega
      go_wp2
      go_ret
      exact ⟨rfl, bl_dn (bl_al (Below.refl _ _) _) _⟩
end Go.Proofs.Ytaobaiifbmhegaa
