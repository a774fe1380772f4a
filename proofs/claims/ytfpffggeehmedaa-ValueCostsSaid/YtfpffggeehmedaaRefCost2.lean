/-
  What the reference's Cost answers: the other ways.
-/
import Derived.Test.YtfpffggeehmedaaRefCost
namespace Go.Proofs.Ytfpffggeehmedaa
open Go.RowKit
set_option linter.unusedVariables false

theorem bad_some (x : List Int) (h : anyBad x = true) : ¬ ∀ j, j < x.length → nth x j = 0 ∨ nth x j = 1 := fun hz => by
  have : anyBad x = false := by
    clear h
    induction x with
    | nil => exact bad_end (l := []) (k := 0) (Nat.le_refl _)
    | cons y l ih =>
      have e := bad_at (l := y :: l) (k := 0) (by simp)
      simp only [List.drop_zero, List.getElem?_cons_zero, Option.getD_some, List.drop_succ_cons] at e
      have r := ih (fun j hj => by
        have := hz (j + 1) (by simpa using hj)
        have e2 : nth (y :: l) (j + 1) = nth l j := by unfold nth; rfl
        rwa [e2] at this)
      have h0 := hz 0 (by simp)
      have e0 : nth (y :: l) 0 = y := by unfold nth; rfl
      rw [e0] at h0
      rw [e, r]
      rcases h0 with rfl | rfl <;> rfl
  rw [this] at h; cases h
set_option maxRecDepth 100000 in
set_option maxHeartbeats 2000000 in
theorem refCost_ibad (N C : Int) (wl vl : List Int) (cl : List (List Int)) (hc : chk 1 N C wl vl cl = 0) (x : List Int) (ho : ¬ okx 1 N x) (wa va ca xa : Option Addr) (wc vc cc xc : Nat) (w : World) (h : Prob w wl vl cl wa va ca) (hI : Ints w xa x) (hxl : x.length ≤ 1000) :
    Calls Try.prog 10 #[.agg #[.int .i64 1, .int .i64 N, .int .i64 C, .slice wa wl.length wc, .slice va vl.length vc, .slice ca cl.length cc], .slice xa x.length xc] w
      fun e w' => e = .returned (.tuple #[.int .i64 0, .int .i64 1]) ∧ Below w.heap.size w w' := by
  have bA : Below w.heap.size w (w.alloc (.cells #[.int .i64 1, .int .i64 N, .int .i64 C, .slice wa wl.length wc, .slice va vl.length vc, .slice ca cl.length cc] 25)) := bl_al (Below.refl _ _) _
  have HK := Lib.hid (ref_any 1 N C wl vl cl wa va ca wc vc cc _ (h.keep bA))
  have Q := Lib.hid (heap_alloc_new w (.cells #[.int .i64 1, .int .i64 N, .int .i64 C, .slice wa wl.length wc, .slice va vl.length vc, .slice ca cl.length cc] 25))
  have BA := Lib.hid bA
  obtain ⟨z0, z⟩ := chk_zero hc
  rcases z with ⟨_, z1, z2, z3, z4, z5, z6⟩ | ⟨z1, _⟩
  rotate_left
  · omega
  rw [hc] at HK
  by_cases hl : (x.length : Int) = N
  · have hb : anyBad x = true := by
      cases hh : anyBad x
      · exact absurd ⟨hl, Or.inl ⟨rfl, hh⟩⟩ ho
      · rfl
    have HZ := Lib.hid (bad_some x hb)
    have hw : wl.length = x.length := by omega
    have hv : vl.length = x.length := by omega
    have H1 := Lib.hid (fun W (hb : Below w.heap.size w W) j (hj : j < x.length) => ints_nth (h.keep hb).1 (j := j) (by omega))
    have H2 := Lib.hid (fun W (hb : Below w.heap.size w W) j (hj : j < x.length) => ints_nth (h.keep hb).2.1 (j := j) (by omega))
    have H3 := Lib.hid (fun W (hb : Below w.heap.size w W) j (hj : j < x.length) => ints_nth (hI.keep hb) (j := j) (by omega))
    clear hb ho h hI bA hc z0 z1 z2 z3 z5 z6
    subst hl
    rw [hw, hv, z4] at *
    clear hw hv z4
    generalize x.length = n at *
    go_enter Try.func10, Try.ntmps10
    go_wp2_with fail
    refine HK.out.mono ?_; rintro e w1 ⟨rfl, hb1⟩
    obtain ⟨c0, c1, c2, c3, c4, c5⟩ := box6_keep hb1 Q.out
    have B1 := Lib.hid (bl_tr BA.out hb1)
    clear hb1
    go_wp2
    go_loop [9, 10, 11] (fun a b i => ∃ (k : Nat) (A B : Int), k ≤ n ∧ a = .int .i64 A ∧ b = .int .i64 B ∧ i = .int .i64 k ∧ Hid (∀ j, j < k → nth x j = 0 ∨ nth x j = 1)) (fun _ _ i => n - (intOf i).toNat)
    case atStart => exact ⟨0, 0, 0, by omega, rfl, rfl, rfl, fun j hj => absurd hj (by omega)⟩
    case round =>
      obtain ⟨k, A, B, hk, rfl, rfl, rfl, HG⟩ := hrel
      by_cases hlt : k < n
      · obtain ⟨b1, of1, rfl, hb1, hc1⟩ := H1.out w1 B1.out k hlt
        obtain ⟨b2, of2, rfl, hb2, hc2⟩ := H2.out w1 B1.out k hlt
        obtain ⟨b3, of3, rfl, hb3, hc3⟩ := H3.out w1 B1.out k hlt
        by_cases ht : nth x k = 0
        · have HG2 : Hid (∀ j, j < k + 1 → nth x j = 0 ∨ nth x j = 1) := fun j hj => by
            rcases Nat.lt_or_ge j k with q | q
            · exact HG.out j q
            · obtain rfl : j = k := by omega
              exact Or.inl ht
          rw [ht] at hc3
          generalize nth wl k = u at *
          generalize nth vl k = v at *
          clear ht
          go_wp2
          go_round
          case rel => exact ⟨k + 1, _, _, by omega, rfl, rfl, by go_num, HG2⟩
          case measure => simp [intOf]; omega
        · by_cases ht1 : nth x k = 1
          · have HG2 : Hid (∀ j, j < k + 1 → nth x j = 0 ∨ nth x j = 1) := fun j hj => by
              rcases Nat.lt_or_ge j k with q | q
              · exact HG.out j q
              · obtain rfl : j = k := by omega
                exact Or.inr ht1
            rw [ht1] at hc3
            generalize nth wl k = u at *
            generalize nth vl k = v at *
            clear ht ht1
            go_wp2
            go_round
            case rel => exact ⟨k + 1, _, _, by omega, rfl, rfl, by go_num, HG2⟩
            case measure => simp [intOf]; omega
          · generalize nth x k = t at *
            have e0 : (t != 0) = true := by simpa using ht
            have e1 : (t != 1) = true := by simpa using ht1
            clear ht ht1
            go_wp2
            go_ret2
            exact ⟨rfl, B1.out⟩
      · obtain rfl : n = k := by omega
        exact absurd HG.out HZ.out
  · clear h hI bA ho hc z0 z1 z2 z3 z5 z6
    clear z4
    generalize cl.length = cn at *
    generalize wl.length = wn at *
    generalize vl.length = vn at *
    generalize x.length = xn at *
    go_enter Try.func10, Try.ntmps10
    go_wp2_with fail
    refine HK.out.mono ?_; rintro e w1 ⟨rfl, hb1⟩
    obtain ⟨c0, c1, c2, c3, c4, c5⟩ := box6_keep hb1 Q.out
    have B1 := Lib.hid (bl_tr BA.out hb1)
    clear hb1
    go_wp2
    go_ret2
    exact ⟨rfl, B1.out⟩
open Classical in
set_option maxRecDepth 100000 in
set_option maxHeartbeats 2000000 in
theorem refCost_obad (K N C : Int) (hK : K ≠ 1) (wl vl : List Int) (cl : List (List Int)) (hc : chk K N C wl vl cl = 0) (x : List Int) (ho : ¬ okx K N x) (wa va ca xa : Option Addr) (wc vc cc xc : Nat) (w : World) (h : Prob w wl vl cl wa va ca) (hI : Ints w xa x) (hxl : x.length ≤ 1000) :
    Calls Try.prog 10 #[.agg #[.int .i64 K, .int .i64 N, .int .i64 C, .slice wa wl.length wc, .slice va vl.length vc, .slice ca cl.length cc], .slice xa x.length xc] w
      fun e w' => e = .returned (.tuple #[.int .i64 0, .int .i64 1]) ∧ Below w.heap.size w w' := by
  have bA : Below w.heap.size w (w.alloc (.cells #[.int .i64 K, .int .i64 N, .int .i64 C, .slice wa wl.length wc, .slice va vl.length vc, .slice ca cl.length cc] 25)) := bl_al (Below.refl _ _) _
  have HK := Lib.hid (ref_any K N C wl vl cl wa va ca wc vc cc _ (h.keep bA))
  have Q := Lib.hid (heap_alloc_new w (.cells #[.int .i64 K, .int .i64 N, .int .i64 C, .slice wa wl.length wc, .slice va vl.length vc, .slice ca cl.length cc] 25))
  have BA := Lib.hid bA
  have HPm := Lib.hid (fun W (hb : Below w.heap.size w W) => perm_any x N (chk_zero hc).1 hxl xa xc W (hI.keep hb))
  have hz := (chk_zero hc).1
  rw [hc] at HK
  have hK1 : (K == 1) = false := by simpa using hK
  have hK2 : (K != 1) = true := by simpa using hK
  by_cases hp : (x.length : Int) = N ∧ permP x N.toNat
  · have h3 : K = 3 ∧ ¬ nth x 0 = 0 := by
      refine Classical.byContradiction fun hn => ho ⟨hp.1, Or.inr ⟨hK, fun h3 => ?_, hp.2⟩⟩
      have := Classical.byContradiction fun hne => hn ⟨h3, hne⟩
      unfold nth at this
      exact this
    obtain ⟨rfl, h3⟩ := h3
    have HPm2 : Hid (∀ W, Below w.heap.size w W → Calls Try.prog 24 #[.slice xa x.length xc, .int .i64 N] W fun e w' => e = .returned (.bool true) ∧ W = w') := fun W hb => by have := HPm.out W hb; simp only [hp, and_self, decide_true] at this; exact this
    have H3 := Lib.hid (fun W (hb : Below w.heap.size w W) => ints_nth (hI.keep hb) (j := 0) (by omega))
    have hx0 : 0 < x.length := by omega
    clear h hI bA ho HPm hp hK hc
    generalize nth x 0 = y at *
    have e0 : (y != 0) = true := by simpa using h3
    clear h3
    generalize wl.length = wn at *
    generalize vl.length = vn at *
    generalize cl.length = cn at *
    generalize x.length = xn at *
    go_enter Try.func10, Try.ntmps10
    go_wp2_with fail
    refine HK.out.mono ?_; rintro e w1 ⟨rfl, hb1⟩
    obtain ⟨c0, c1, c2, c3, c4, c5⟩ := box6_keep hb1 Q.out
    have B1 := Lib.hid (bl_tr BA.out hb1)
    clear hb1
    obtain ⟨b3, of3, rfl, hb3, hc3⟩ := H3.out w1 B1.out
    rw [Nat.add_zero] at hc3
    go_wp2_with fail
    refine (HPm2.out w1 B1.out).mono ?_; rintro e w2 ⟨rfl, rfl⟩
    go_wp2
    go_ret2
    exact ⟨rfl, B1.out⟩
  · have HPm2 : Hid (∀ W, Below w.heap.size w W → Calls Try.prog 24 #[.slice xa x.length xc, .int .i64 N] W fun e w' => e = .returned (.bool false) ∧ W = w') := fun W hb => by have := HPm.out W hb; simp only [hp, decide_false] at this; exact this
    clear h hI bA ho HPm hp hK hc
    generalize wl.length = wn at *
    generalize vl.length = vn at *
    generalize cl.length = cn at *
    generalize x.length = xn at *
    go_enter Try.func10, Try.ntmps10
    go_wp2_with fail
    refine HK.out.mono ?_; rintro e w1 ⟨rfl, hb1⟩
    obtain ⟨c0, c1, c2, c3, c4, c5⟩ := box6_keep hb1 Q.out
    have B1 := Lib.hid (bl_tr BA.out hb1)
    clear hb1
    go_wp2_with fail
    refine (HPm2.out w1 B1.out).mono ?_; rintro e w2 ⟨rfl, rfl⟩
    go_wp2
    go_ret2
    exact ⟨rfl, B1.out⟩
end Go.Proofs.Ytfpffggeehmedaa
