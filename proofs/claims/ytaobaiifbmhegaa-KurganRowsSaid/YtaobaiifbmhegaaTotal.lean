/-
  What slices.Max, value.Total, Of, Value and Plain answer.
-/
import Derived.Test.YtaobaiifbmhegaaCost
namespace Go.Proofs.Ytaobaiifbmhegaa
open Go.RowKit
set_option linter.unusedVariables false

def mxp (l : List Int) : Nat → Int
  | 0 => nth l 0
  | k + 1 => max (mxp l k) (nth l (k + 1))
theorem mxp_zero (l : List Int) : mxp l 0 = nth l 0 := rfl
theorem mxp_succ (l : List Int) (k : Nat) : mxp l (k + 1) = max (mxp l k) (nth l (k + 1)) := rfl
theorem mxp_bd (l : List Int) (n : Nat) (h : ∀ j, j < n → 0 ≤ nth l j ∧ nth l j ≤ 2147483647) : ∀ k, k < n → 0 ≤ mxp l k ∧ mxp l k ≤ 2147483647
  | 0, hk => by rw [mxp_zero]; exact h 0 hk
  | k + 1, hk => by
    have := mxp_bd l n h k (by omega)
    have := h (k + 1) hk
    rw [mxp_succ]; omega
attribute [irreducible] mxp
set_option maxHeartbeats 1000000 in
theorem max_any (l : List Int) (a : Option Addr) (c : Nat) (w : World) (hI : Ints w a l) (h0 : 0 < l.length) (hl : l.length ≤ 1000) :
    Calls Try.prog 51 #[.slice a l.length c] w fun e w' => e = .returned (.int .i64 (mxp l (l.length - 1))) ∧ w = w' := by
  have H3 := Lib.hid (fun j (hj : j < l.length) => ints_nth hI (j := j) hj)
  have HS := Lib.hid (mxp_succ l)
  have H0 := Lib.hid (mxp_zero l)
  clear hI
  generalize hm : l.length = n at *
  clear hm
  obtain ⟨b, of, rfl, hb, hc⟩ := H3.out 0 h0
  rw [Nat.add_zero, ← H0.out] at hc
  have h1 : ¬ (n : Int) < 1 := by omega
  go_enter Try.func51, Try.ntmps51
  go_wp2
  clear hc
  go_loop [3, 4] (fun m i => ∃ k : Nat, k + 1 ≤ n ∧ m = .int .i64 (mxp l k) ∧ i = .int .i64 ((k + 1 : Nat) : Int)) (fun _ i => n - (intOf i).toNat)
  case atStart => exact ⟨0, by omega, rfl, rfl⟩
  case round =>
    obtain ⟨k, hk, rfl, rfl⟩ := hrel
    by_cases hlt : k + 1 < n
    · obtain ⟨b3, of3, eq3, hb3, hc3⟩ := H3.out (k + 1) hlt
      simp only [Option.some.injEq, Addr.mk.injEq, and_true] at eq3
      obtain ⟨rfl, rfl⟩ := eq3
      have MX := Lib.hid (HS.out k)
      generalize nth l (k + 1) = u at *
      go_wp2
      all_goals
        go_round
        case rel => exact ⟨k + 1, by omega, by rw [MX.out]; congr 1; omega, by go_num⟩
        case measure => simp [intOf]; omega
    · obtain rfl : n = k + 1 := by omega
      go_wp2
      go_ret
      exact ⟨rfl, rfl⟩
def rowm (cl : List (List Int)) (j : Nat) : Int := mxp (cl[j]?.getD []) (cl.length - 1)
open Classical in
/-- a number that no answer's cost is above -/
noncomputable def totalR (K N C : Int) (wl vl : List Int) (cl : List (List Int)) : Int := if chk K N C wl vl cl ≠ 0 then 0 else ps (nth vl) vl.length + ps (rowm cl) cl.length
theorem total_bad {K N C : Int} {wl vl : List Int} {cl : List (List Int)} (h : chk K N C wl vl cl ≠ 0) : totalR K N C wl vl cl = 0 := by unfold totalR; rw [if_pos h]
theorem total_ok {K N C : Int} {wl vl : List Int} {cl : List (List Int)} (h : chk K N C wl vl cl = 0) : totalR K N C wl vl cl = ps (nth vl) vl.length + ps (rowm cl) cl.length := by unfold totalR; rw [if_neg (by simp [h])]
attribute [irreducible] totalR
theorem mul_le (n : Nat) (h : n ≤ 64) : (2147483647 : Int) * n ≤ 137438953408 := by omega
/-- of a valid problem the numbers that Total adds are bounded -/
theorem chk_tot {K N C : Int} {wl vl : List Int} {cl : List (List Int)} (hc : chk K N C wl vl cl = 0) :
    vl.length ≤ 64 ∧ cl.length ≤ 64 ∧ (∀ j, j < vl.length → 0 ≤ nth vl j ∧ nth vl j ≤ 2147483647) ∧ (∀ j, j < cl.length → 0 ≤ rowm cl j ∧ rowm cl j ≤ 2147483647) ∧ (∀ j, j < cl.length → (cl[j]?.getD []).length = cl.length) := by
  obtain ⟨z0, z⟩ := chk_zero hc
  rcases z with ⟨_, z1, z2, z3, z4, z5, z6⟩ | ⟨z1, z2, z3, z4, z5, z6, z7, z8⟩
  · exact ⟨by omega, by omega, fun j hj => (items_ok wl vl (by omega) z6 j (by omega)).2, fun j hj => by omega, fun j hj => by omega⟩
  · refine ⟨by omega, by omega, fun j hj => by omega, fun j hj => ?_, z7⟩
    have hr := cost_ok K cl 0 z8 j hj
    have hl := z7 j hj
    unfold rowm
    exact mxp_bd _ _ (fun i hi => (row_ok K _ _ 0 hr i (by omega)).1) _ (by omega : cl.length - 1 < cl.length)
set_option maxHeartbeats 2000000 in
theorem total_any (K N C : Int) (wl vl : List Int) (cl : List (List Int)) (wa va ca : Option Addr) (wc vc cc : Nat) (w : World) (h : Prob w wl vl cl wa va ca) :
    Calls Try.prog 27 #[.agg #[.int .i64 K, .int .i64 N, .int .i64 C, .slice wa wl.length wc, .slice va vl.length vc, .slice ca cl.length cc]] w
      fun e w' => e = .returned (.int .i64 (totalR K N C wl vl cl)) ∧ Below w.heap.size w w' := by
  have bA : Below w.heap.size w (w.alloc (.cells #[.int .i64 K, .int .i64 N, .int .i64 C, .slice wa wl.length wc, .slice va vl.length vc, .slice ca cl.length cc] 25)) := bl_al (Below.refl _ _) _
  have HK := Lib.hid (check_prob K N C (wc := wc) (vc := vc) (cc := cc) (h.keep bA))
  have Q := Lib.hid (heap_alloc_new w (.cells #[.int .i64 K, .int .i64 N, .int .i64 C, .slice wa wl.length wc, .slice va vl.length vc, .slice ca cl.length cc] 25))
  have BA := Lib.hid bA
  by_cases hc : chk K N C wl vl cl = 0
  · obtain ⟨z1, z2, z3, z4, z5⟩ := chk_tot hc
    rw [total_ok hc]
    rw [hc] at HK
    have HP := Lib.hid (fun W (hb : Below w.heap.size w W) => h.keep hb)
    have P1 := Lib.hid (ps_next _ _ z3 z1)
    have P2 := Lib.hid (ps_next _ _ z4 z2)
    have PT := Lib.hid (⟨by have := ps_bd _ _ z3 vl.length (Nat.le_refl _); have := mul_le _ z1; omega, by have := mul_le _ z1; have := ps_bd _ _ z3 vl.length (Nat.le_refl _); omega⟩ : 0 ≤ ps (nth vl) vl.length ∧ ps (nth vl) vl.length ≤ 137438953408)
    have HV := Lib.hid (fun W (hb : Below w.heap.size w W) j (hj : j < vl.length) => ints_nth (h.keep hb).2.1 (j := j) hj)
    have HR := Lib.hid (fun W (hb : Below w.heap.size w W) j (hj : j < cl.length) => (h.keep hb).2.2.1 j hj)
    have HM := Lib.hid (show ∀ j, rowm cl j = mxp (cl[j]?.getD []) (cl.length - 1) from fun j => rfl)
    have HL := Lib.hid z5
    clear bA h hc z3 z4 z5
    generalize rowm cl = g at *
    generalize hvn : vl.length = vn at *
    generalize hcn : cl.length = cn at *
    clear hvn hcn
    generalize wl.length = wn at *
    generalize nth vl = f at *
    go_enter Try.func27, Try.ntmps27
    go_wp2_with fail
    refine HK.out.mono ?_; rintro e w1 ⟨rfl, hb1⟩
    obtain ⟨c0, c1, c2, c3, c4, c5⟩ := box6_keep hb1 Q.out
    have B1 := Lib.hid (bl_tr BA.out hb1)
    clear hb1
    go_wp2
    go_loop [3, 14] (fun a i => ∃ k : Nat, k ≤ vn ∧ a = .int .i64 (ps f k) ∧ i = .int .i64 k) (fun _ i => vn - (intOf i).toNat)
    case atStart => exact ⟨0, by omega, by rw [ps_zero], rfl⟩
    case round =>
      obtain ⟨k, hk, rfl, rfl⟩ := hrel
      by_cases hlt : k < vn
      · obtain ⟨b2, of2, rfl, hb2, hc2⟩ := HV.out _ B1.out k hlt
        obtain ⟨p1, p2, p3⟩ := P1.out k hlt
        generalize f k = u at *
        have P3 := Lib.hid p3
        have r1 : 0 ≤ ps f k + u := by omega
        have r2 : ps f k + u ≤ 137438953408 := by omega
        clear p3
        go_wp2
        go_round
        case rel => exact ⟨k + 1, by omega, by rw [P3.out], by go_num⟩
        case measure => simp [intOf]; omega
      · obtain rfl : vn = k := by omega
        obtain ⟨t1, t2⟩ := PT.out
        generalize hS : ps f vn = S at *
        have HSv := Lib.hid hS
        clear hS
        go_wp2
        go_loop [3, 25] (fun a i => ∃ k : Nat, k ≤ cn ∧ a = .int .i64 (S + ps g k) ∧ i = .int .i64 k) (fun _ i => cn - (intOf i).toNat)
        case atStart => exact ⟨0, by omega, by rw [ps_zero, Int.add_zero], rfl⟩
        case round =>
          obtain ⟨k, hk, rfl, rfl⟩ := hrel
          by_cases hlt2 : k < cn
          · obtain ⟨b2, of2, aj, cj, rfl, hb2, hc2, hi2, _⟩ := HR.out _ B1.out k hlt2
            obtain ⟨p1, p2, p3⟩ := P2.out k hlt2
            have hl := HL.out k hlt2
            have hm := HM.out k
            generalize cl[k]?.getD [] = row at *
            have HX := Lib.hid (max_any row aj cj w1 hi2 (by omega) (by omega))
            rw [hl, ← hm] at HX
            rw [hl] at hc2
            generalize g k = u at *
            have P3 := Lib.hid p3
            have r1 : 0 ≤ S + ps g k + u := by omega
            have r2 : S + ps g k + u ≤ 274877906816 := by omega
            have r3 : 0 ≤ S + ps g k := by omega
            have r4 : S + ps g k ≤ 274877906816 := by omega
            clear p3 hi2 hl hm
            go_wp2_with fail
            refine HX.out.mono ?_; rintro e w2 ⟨rfl, rfl⟩
            go_wp2
            go_round
            case rel => exact ⟨k + 1, by omega, by rw [P3.out, Int.add_assoc], by go_num⟩
            case measure => simp [intOf]; omega
          · obtain rfl : cn = k := by omega
            go_wp2
            go_ret
            exact ⟨by rw [HSv.out]; rfl, B1.out⟩
  · rw [total_bad hc]
    clear h bA
    generalize chk K N C wl vl cl = ck at *
    have hc' : (ck == 0) = false := by simp [hc]
    generalize wl.length = wn at *
    generalize vl.length = vn at *
    generalize cl.length = cn at *
    go_enter Try.func27, Try.ntmps27
    go_wp2_with fail
    refine HK.out.mono ?_; rintro e w1 ⟨rfl, hb1⟩
    go_wp2
    go_ret
    exact ⟨rfl, bl_tr BA.out hb1⟩
/-- the value of a cost -/
noncomputable def ofR (K N C : Int) (wl vl : List Int) (cl : List (List Int)) (c : Int) : Int := if K = 1 then totalR K N C wl vl cl - c else c
theorem of_item {N C : Int} {wl vl : List Int} {cl : List (List Int)} (c : Int) : ofR 1 N C wl vl cl c = totalR 1 N C wl vl cl - c := by unfold ofR; rw [if_pos rfl]
theorem of_other {K N C : Int} {wl vl : List Int} {cl : List (List Int)} (c : Int) (h : K ≠ 1) : ofR K N C wl vl cl c = c := by unfold ofR; rw [if_neg h]
attribute [irreducible] ofR
theorem total_bd (K N C : Int) (wl vl : List Int) (cl : List (List Int)) : 0 ≤ totalR K N C wl vl cl ∧ totalR K N C wl vl cl ≤ 274877906816 := by
  by_cases hc : chk K N C wl vl cl = 0
  · obtain ⟨z1, z2, z3, z4, z5⟩ := chk_tot hc
    rw [total_ok hc]
    have a := ps_bd _ _ z3 vl.length (Nat.le_refl _)
    have b := ps_bd _ _ z4 cl.length (Nat.le_refl _)
    have := mul_le _ z1
    have := mul_le _ z2
    omega
  · rw [total_bad hc]; omega
theorem of_any' (K N C c : Int) (hc : 0 ≤ c ∧ c ≤ 274877906816) (wl vl : List Int) (cl : List (List Int)) (wa va ca : Option Addr) (wc vc cc : Nat) (w : World) (h : Prob w wl vl cl wa va ca) :
    Calls Try.prog 28 #[.agg #[.int .i64 K, .int .i64 N, .int .i64 C, .slice wa wl.length wc, .slice va vl.length vc, .slice ca cl.length cc], .int .i64 c] w
      fun e w' => e = .returned (.int .i64 (ofR K N C wl vl cl c)) ∧ Below w.heap.size w w' := by
  have bA : Below w.heap.size w (w.alloc (.cells #[.int .i64 K, .int .i64 N, .int .i64 C, .slice wa wl.length wc, .slice va vl.length vc, .slice ca cl.length cc] 25)) := bl_al (Below.refl _ _) _
  have BA := Lib.hid bA
  obtain ⟨c1, c2⟩ := hc
  by_cases hK : K = 1
  · subst hK
    have HT := Lib.hid (total_any 1 N C wl vl cl wa va ca wc vc cc _ (h.keep bA))
    obtain ⟨t1, t2⟩ := total_bd 1 N C wl vl cl
    rw [of_item]
    clear h bA
    generalize totalR 1 N C wl vl cl = t at *
    generalize wl.length = wn at *
    generalize vl.length = vn at *
    generalize cl.length = cn at *
    have r1 : -274877906816 ≤ t - c := by omega
    have r2 : t - c ≤ 274877906816 := by omega
    go_enter Try.func28, Try.ntmps28
    go_wp2_with fail
    refine HT.out.mono ?_; rintro e w1 ⟨rfl, hb1⟩
    go_wp2
    go_ret
    exact ⟨rfl, bl_tr BA.out hb1⟩
  · rw [of_other c hK]
    clear h bA
    generalize wl.length = wn at *
    generalize vl.length = vn at *
    generalize cl.length = cn at *
    go_enter Try.func28, Try.ntmps28
    go_wp2
    go_ret
    exact ⟨rfl, BA.out⟩
end Go.Proofs.Ytaobaiifbmhegaa
