/-
  What the reference's Total and Of answer.
-/
import Derived.Test.YtfpffggeehmedaaRefCost3
namespace Go.Proofs.Ytfpffggeehmedaa
open Go.RowKit
set_option linter.unusedVariables false

def rmx (l : List Int) : Nat → Int
  | 0 => 0
  | k + 1 => max (rmx l k) (nth l k)
theorem rmx_zero (l : List Int) : rmx l 0 = 0 := rfl
theorem rmx_succ (l : List Int) (k : Nat) : rmx l (k + 1) = max (rmx l k) (nth l k) := rfl
theorem rmx_mxp (l : List Int) (n : Nat) (h : ∀ j, j < n → 0 ≤ nth l j) : ∀ k, k < n → rmx l (k + 1) = mxp l k
  | 0, hk => by rw [rmx_succ, rmx_zero, mxp_zero]; have := h 0 hk; omega
  | k + 1, hk => by rw [rmx_succ, rmx_mxp l n h k (by omega), mxp_succ]
attribute [irreducible] rmx
/-- the numbers of the rows -/
theorem row_nn {K N C : Int} {wl vl : List Int} {cl : List (List Int)} (hc : chk K N C wl vl cl = 0) (hK : K ≠ 1) (k : Nat) (hk : k < cl.length) : (∀ j, j < cl.length → 0 ≤ nth (cl[k]?.getD []) j) ∧ rmx (cl[k]?.getD []) cl.length = rowm cl k := by
  obtain ⟨z0, z⟩ := chk_zero hc
  rcases z with ⟨z1, _⟩ | ⟨z1, z2, z3, z4, z5, z6, z7, z8⟩
  · exact absurd z1 hK
  · have hr := cost_ok K cl 0 z8 k hk
    have hl := z7 k hk
    have hn : ∀ j, j < cl.length → 0 ≤ nth (cl[k]?.getD []) j := fun j hj => (row_ok K _ _ 0 hr j (by omega)).1.1
    refine ⟨hn, ?_⟩
    have := rmx_mxp _ cl.length hn (cl.length - 1) (by omega)
    rw [Nat.sub_add_cancel (by omega)] at this
    rw [this]; rfl
set_option maxRecDepth 100000 in
set_option maxHeartbeats 2000000 in
theorem rtotal_items (N C : Int) (wl vl : List Int) (cl : List (List Int)) (hc : chk 1 N C wl vl cl = 0) (wa va ca : Option Addr) (wc vc cc : Nat) (w : World) (h : Prob w wl vl cl wa va ca) :
    Calls Try.prog 14 #[.agg #[.int .i64 1, .int .i64 N, .int .i64 C, .slice wa wl.length wc, .slice va vl.length vc, .slice ca cl.length cc]] w
      fun e w' => e = .returned (.int .i64 (ps (nth vl) vl.length)) ∧ Below w.heap.size w w' := by
  have bA : Below w.heap.size w (w.alloc (.cells #[.int .i64 1, .int .i64 N, .int .i64 C, .slice wa wl.length wc, .slice va vl.length vc, .slice ca cl.length cc] 25)) := bl_al (Below.refl _ _) _
  have HK := Lib.hid (ref_any 1 N C wl vl cl wa va ca wc vc cc _ (h.keep bA))
  have Q := Lib.hid (heap_alloc_new w (.cells #[.int .i64 1, .int .i64 N, .int .i64 C, .slice wa wl.length wc, .slice va vl.length vc, .slice ca cl.length cc] 25))
  have BA := Lib.hid bA
  obtain ⟨z0, z⟩ := chk_zero hc
  obtain ⟨t1, t2, t3, t4, t5⟩ := chk_tot hc
  rcases z with ⟨_, z1, z2, z3, z4, z5, z6⟩ | ⟨z1, _⟩
  rotate_left
  · omega
  rw [hc] at HK
  have P1 := Lib.hid (ps_next _ _ t3 t1)
  have HV := Lib.hid (fun W (hb : Below w.heap.size w W) j (hj : j < vl.length) => ints_nth (h.keep hb).2.1 (j := j) hj)
  clear h bA hc t2 t3 t4 t5 z0 z1 z2 z4 z5 z6
  subst z3
  generalize wl.length = wn at *
  generalize vl.length = n at *
  generalize cl.length = cn at *
  generalize nth vl = f at *
  go_enter Try.func14, Try.ntmps14
  go_wp2_with fail
  refine HK.out.mono ?_; rintro e w1 ⟨rfl, hb1⟩
  obtain ⟨c0, c1, c2, c3, c4, c5⟩ := box6_keep hb1 Q.out
  have B1 := Lib.hid (bl_tr BA.out hb1)
  clear hb1
  go_wp2
  go_loop [3, 4] (fun a i => ∃ k : Nat, k ≤ n ∧ a = .int .i64 (ps f k) ∧ i = .int .i64 k) (fun _ i => n - (intOf i).toNat)
  case atStart => exact ⟨0, by omega, by rw [ps_zero], rfl⟩
  case round =>
    obtain ⟨k, hk, rfl, rfl⟩ := hrel
    by_cases hlt : k < n
    · obtain ⟨b2, of2, rfl, hb2, hc2⟩ := HV.out _ B1.out k hlt
      obtain ⟨p1, p2, p3⟩ := P1.out k hlt
      generalize f k = u at *
      have P3 := Lib.hid p3
      have r1 : 0 ≤ ps f k + u := by omega
      have r2 : ps f k + u ≤ 137438953408 := by omega
      clear p3
      go_wp2
      go_round
      case rel => exact ⟨k + 1, by omega, by rw [P3.out], by go_num⟩
      case measure => simp [intOf]; omega
    · obtain rfl : n = k := by omega
      go_wp2
      go_ret
      exact ⟨rfl, B1.out⟩
set_option maxRecDepth 100000 in
set_option maxHeartbeats 2000000 in
theorem rtotal_rows (K N C : Int) (hK : K ≠ 1) (wl vl : List Int) (cl : List (List Int)) (hc : chk K N C wl vl cl = 0) (wa va ca : Option Addr) (wc vc cc : Nat) (w : World) (h : Prob w wl vl cl wa va ca) :
    Calls Try.prog 14 #[.agg #[.int .i64 K, .int .i64 N, .int .i64 C, .slice wa wl.length wc, .slice va vl.length vc, .slice ca cl.length cc]] w
      fun e w' => e = .returned (.int .i64 (ps (rowm cl) cl.length)) ∧ Below w.heap.size w w' := by
  have bA : Below w.heap.size w (w.alloc (.cells #[.int .i64 K, .int .i64 N, .int .i64 C, .slice wa wl.length wc, .slice va vl.length vc, .slice ca cl.length cc] 25)) := bl_al (Below.refl _ _) _
  have HK := Lib.hid (ref_any K N C wl vl cl wa va ca wc vc cc _ (h.keep bA))
  have Q := Lib.hid (heap_alloc_new w (.cells #[.int .i64 K, .int .i64 N, .int .i64 C, .slice wa wl.length wc, .slice va vl.length vc, .slice ca cl.length cc] 25))
  have BA := Lib.hid bA
  have HN := Lib.hid (fun k (hk : k < cl.length) => (row_nn hc hK k hk).2)
  obtain ⟨z0, z⟩ := chk_zero hc
  obtain ⟨t1, t2, t3, t4, t5⟩ := chk_tot hc
  rcases z with ⟨z1, _⟩ | ⟨z1, z2, z3, z4, z5, z6, z7, z8⟩
  · omega
  rw [hc] at HK
  have P1 := Lib.hid (ps_next _ _ t4 t2)
  have HV := Lib.hid (fun W (hb : Below w.heap.size w W) a b (ha : a < cl.length) (hb' : b < cl.length) => rws_nth (h.keep hb).2.2.1 z7 (a := ((a : Nat) : Int)) (b := ((b : Nat) : Int)) (by omega) (by omega))
  have HE := Lib.hid (show ∀ a b : Nat, ent cl a b = nth (cl[a]?.getD []) b from fun a b => by unfold ent; simp)
  have hK1 : (K == 1) = false := by simpa using hK
  clear h bA hc t1 t3 t4 t5 z0 z1 z2 z4 z5 z6 z7 z8 hK
  subst z3
  generalize wl.length = wn at *
  generalize vl.length = vn at *
  generalize hcn : cl.length = n at *
  clear hcn
  generalize rowm cl = f at *
  go_enter Try.func14, Try.ntmps14
  go_wp2_with fail
  refine HK.out.mono ?_; rintro e w1 ⟨rfl, hb1⟩
  obtain ⟨c0, c1, c2, c3, c4, c5⟩ := box6_keep hb1 Q.out
  have B1 := Lib.hid (bl_tr BA.out hb1)
  clear hb1
  go_wp2
  go_loop [3, 4] (fun a i => ∃ k : Nat, k ≤ n ∧ a = .int .i64 (ps f k) ∧ i = .int .i64 k) (fun _ i => n - (intOf i).toNat)
  case atStart => exact ⟨0, by omega, by rw [ps_zero], rfl⟩
  case round =>
    obtain ⟨k, hk, rfl, rfl⟩ := hrel
    by_cases hlt : k < n
    · obtain ⟨p1, p2, p3⟩ := P1.out k hlt
      have hn := Lib.hid (HN.out k hlt)
      have HRow := Lib.hid (fun b (hb : b < n) => HV.out w1 B1.out k b hlt hb)
      have HEk := Lib.hid (HE.out k)
      have R0 := Lib.hid (rmx_zero (cl[k]?.getD []))
      have RS := Lib.hid (rmx_succ (cl[k]?.getD []))
      generalize cl[k]?.getD [] = row at *
      generalize f k = u at *
      have P3 := Lib.hid p3
      have r1 : 0 ≤ ps f k + u := by omega
      have r2 : ps f k + u ≤ 137438953408 := by omega
      clear p3
      go_wp2
      go_loop [5, 6] (fun m c => ∃ j : Nat, j ≤ n ∧ m = .int .i64 (rmx row j) ∧ c = .int .i64 j) (fun _ i => n - (intOf i).toNat)
      case atStart => exact ⟨0, by omega, by rw [R0.out], rfl⟩
      case round =>
        obtain ⟨j, hj, rfl, rfl⟩ := hrel
        by_cases hltj : j < n
        · obtain ⟨b1, of1, b2, of2, cj, rfl, hb1, hc1, hb2, hc2⟩ := HRow.out j hltj
          rw [HEk.out j] at hc2
          simp only [Int.toNat_natCast] at hc1 hc2
          have MX := Lib.hid (RS.out j)
          generalize nth row j = v at *
          go_wp2
          all_goals
            go_round
            case rel => exact ⟨j + 1, by omega, by rw [MX.out]; congr 1; omega, by go_num⟩
            case measure => simp [intOf]; omega
        · obtain rfl : n = j := by omega
          rw [hn.out]
          go_wp2
          go_round
          case rel => exact ⟨k + 1, by omega, by rw [P3.out], by go_num⟩
          case measure => simp [intOf]; omega
    · obtain rfl : n = k := by omega
      go_wp2
      go_ret
      exact ⟨rfl, B1.out⟩
theorem rtotal_bad (K N C : Int) (wl vl : List Int) (cl : List (List Int)) (hc : chk K N C wl vl cl ≠ 0) (wa va ca : Option Addr) (wc vc cc : Nat) (w : World) (h : Prob w wl vl cl wa va ca) :
    Calls Try.prog 14 #[.agg #[.int .i64 K, .int .i64 N, .int .i64 C, .slice wa wl.length wc, .slice va vl.length vc, .slice ca cl.length cc]] w
      fun e w' => e = .returned (.int .i64 0) ∧ Below w.heap.size w w' := by
  have bA : Below w.heap.size w (w.alloc (.cells #[.int .i64 K, .int .i64 N, .int .i64 C, .slice wa wl.length wc, .slice va vl.length vc, .slice ca cl.length cc] 25)) := bl_al (Below.refl _ _) _
  have HK := Lib.hid (ref_any K N C wl vl cl wa va ca wc vc cc _ (h.keep bA))
  have BA := Lib.hid bA
  clear h bA
  generalize chk K N C wl vl cl = ck at *
  have hc' : (ck == 0) = false := by simp [hc]
  generalize wl.length = wn at *
  generalize vl.length = vn at *
  generalize cl.length = cn at *
  go_enter Try.func14, Try.ntmps14
  go_wp2_with fail
  refine HK.out.mono ?_; rintro e w1 ⟨rfl, hb1⟩
  go_wp2
  go_ret
  exact ⟨rfl, bl_tr BA.out hb1⟩
theorem rtotal_any (K N C : Int) (wl vl : List Int) (cl : List (List Int)) (wa va ca : Option Addr) (wc vc cc : Nat) (w : World) (h : Prob w wl vl cl wa va ca) :
    Calls Try.prog 14 #[.agg #[.int .i64 K, .int .i64 N, .int .i64 C, .slice wa wl.length wc, .slice va vl.length vc, .slice ca cl.length cc]] w
      fun e w' => e = .returned (.int .i64 (totalR K N C wl vl cl)) ∧ Below w.heap.size w w' := by
  by_cases hc : chk K N C wl vl cl = 0
  · rw [total_ok hc]
    rcases (chk_zero hc).2 with z | z
    · obtain ⟨rfl, z⟩ := z
      rw [z.2.2.2.1, ps_zero, Int.add_zero, ← z.2.2.2.1]
      exact rtotal_items N C wl vl cl hc wa va ca wc vc cc w h
    · rw [z.2.2.2.2.2.1, ps_zero, Int.zero_add, ← z.2.2.2.2.2.1]
      exact rtotal_rows K N C (by omega) wl vl cl hc wa va ca wc vc cc w h
  · rw [total_bad hc]; exact rtotal_bad K N C wl vl cl hc wa va ca wc vc cc w h
theorem rof_any (K N C c : Int) (hc : 0 ≤ c ∧ c ≤ 274877906816) (wl vl : List Int) (cl : List (List Int)) (wa va ca : Option Addr) (wc vc cc : Nat) (w : World) (h : Prob w wl vl cl wa va ca) :
    Calls Try.prog 11 #[.agg #[.int .i64 K, .int .i64 N, .int .i64 C, .slice wa wl.length wc, .slice va vl.length vc, .slice ca cl.length cc], .int .i64 c] w
      fun e w' => e = .returned (.int .i64 (ofR K N C wl vl cl c)) ∧ Below w.heap.size w w' := by
  have bA : Below w.heap.size w (w.alloc (.cells #[.int .i64 K, .int .i64 N, .int .i64 C, .slice wa wl.length wc, .slice va vl.length vc, .slice ca cl.length cc] 25)) := bl_al (Below.refl _ _) _
  have BA := Lib.hid bA
  obtain ⟨c1, c2⟩ := hc
  by_cases hK : K = 1
  · subst hK
    have HT := Lib.hid (rtotal_any 1 N C wl vl cl wa va ca wc vc cc _ (h.keep bA))
    obtain ⟨t1, t2⟩ := total_bd 1 N C wl vl cl
    rw [of_item]
    clear h bA
    generalize totalR 1 N C wl vl cl = t at *
    generalize wl.length = wn at *
    generalize vl.length = vn at *
    generalize cl.length = cn at *
    have r1 : -274877906816 ≤ t - c := by omega
    have r2 : t - c ≤ 274877906816 := by omega
    go_enter Try.func11, Try.ntmps11
    go_wp2_with fail
    refine HT.out.mono ?_; rintro e w1 ⟨rfl, hb1⟩
    go_wp2
    go_ret
    exact ⟨rfl, bl_tr BA.out hb1⟩
  · rw [of_other c hK]
    clear h bA
    generalize wl.length = wn at *
    generalize vl.length = vn at *
    generalize cl.length = cn at *
    go_enter Try.func11, Try.ntmps11
    go_wp2
    go_ret
    exact ⟨rfl, BA.out⟩
end Go.Proofs.Ytfpffggeehmedaa
