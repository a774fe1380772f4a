/-
  What the reference's Cost answers of rows and ways.
-/
import Derived.Test.YtfpffggeehmedaaRefCost2
import Derived.Deep.QuietTactic
import Derived.BigQuiet
namespace Go.Proofs.Ytfpffggeehmedaa
open Go.RowKit
set_option linter.unusedVariables false

open Classical in
set_option maxRecDepth 100000 in
set_option maxHeartbeats 2000000 in
theorem refCost_rows (N C : Int) (wl vl : List Int) (cl : List (List Int)) (hc : chk 2 N C wl vl cl = 0) (x : List Int) (ho : okx 2 N x) (wa va ca xa : Option Addr) (wc vc cc xc : Nat) (w : World) (h : Prob w wl vl cl wa va ca) (hI : Ints w xa x) :
    Calls Try.prog 10 #[.agg #[.int .i64 2, .int .i64 N, .int .i64 C, .slice wa wl.length wc, .slice va vl.length vc, .slice ca cl.length cc], .slice xa x.length xc] w
      fun e w' => e = .returned (.tuple #[.int .i64 (ps (rowc cl x) x.length), .int .i64 0]) ∧ Below w.heap.size w w' := by
  obtain ⟨z1, z2, z3, z4, z5, z6⟩ := chk_rows (by decide) hc ho
  have bA : Below w.heap.size w (w.alloc (.cells #[.int .i64 2, .int .i64 N, .int .i64 C, .slice wa wl.length wc, .slice va vl.length vc, .slice ca cl.length cc] 25)) := bl_al (Below.refl _ _) _
  have HK := Lib.hid (ref_any 2 N C wl vl cl wa va ca wc vc cc _ (h.keep bA))
  have Q := Lib.hid (heap_alloc_new w (.cells #[.int .i64 2, .int .i64 N, .int .i64 C, .slice wa wl.length wc, .slice va vl.length vc, .slice ca cl.length cc] 25))
  have BA := Lib.hid bA
  have HPm := Lib.hid (fun W (hb : Below w.heap.size w W) => perm_any x N (chk_zero hc).1 (by omega) xa xc W (hI.keep hb))
  have hp : (x.length : Int) = N ∧ permP x N.toNat := ⟨ho.1, by rcases ho.2 with q | q; exact absurd q.1 (by decide); exact q.2.2⟩
  have HPm2 : Hid (∀ W, Below w.heap.size w W → Calls Try.prog 24 #[.slice xa x.length xc, .int .i64 N] W fun e w' => e = .returned (.bool true) ∧ W = w') := fun W hb => by have := HPm.out W hb; simp only [hp, and_self, decide_true] at this; exact this
  have P1 := Lib.hid (ps_next (rowc cl x) x.length (fun j hj => ent_ok z4 z6 _ _ (by omega) (by have := z5 j hj; omega)) z3)
  have H1 := Lib.hid (fun W (hb : Below w.heap.size w W) j (hj : j < x.length) => rws_nth (h.keep hb).2.2.1 z4 (a := (j : Int)) (b := nth x j) (by omega) (by have := z5 j hj; omega))
  have H3 := Lib.hid (fun W (hb : Below w.heap.size w W) j (hj : j < x.length) => ints_nth (hI.keep hb) (j := j) hj)
  have HR := Lib.hid z5
  have HW := Lib.hid (show ∀ j, rowc cl x j = ent cl j (nth x j) from fun j => rfl)
  have hN := Lib.hid ho.1
  rw [hc] at HK
  clear h hI bA ho HPm hp hc z4 z5 z6
  generalize rowc cl x = f at *
  generalize wl.length = wn at *
  generalize vl.length = vn at *
  generalize hcn : cl.length = cn at *
  clear hcn
  subst z1
  generalize x.length = n at *
  obtain rfl : N = n := hN.out.symm
  go_enter Try.func10, Try.ntmps10
  go_wp2_with fail
  refine HK.out.mono ?_; rintro e w1 ⟨rfl, hb1⟩
  obtain ⟨c0, c1, c2, c3, c4, c5⟩ := box6_keep hb1 Q.out
  have B1 := Lib.hid (bl_tr BA.out hb1)
  clear hb1
  go_wp2_with fail
  refine (HPm2.out w1 B1.out).mono ?_; rintro e w2 ⟨rfl, rfl⟩
  go_wp2
  go_loopw [7, 8] (fun a i wr => ∃ k : Nat, k ≤ n ∧ a = .int .i64 (ps f k) ∧ i = .int .i64 k ∧ ∃ m, wr = w1.drewN m) (fun _ i _ => n - (intOf i).toNat)
  case atStart => exact ⟨0, by omega, by rw [ps_zero], rfl, 0, rfl⟩
  case round =>
    obtain ⟨k, hk, rfl, rfl, m, rfl⟩ := hrel
    by_cases hlt : k < n
    · obtain ⟨b1, of1, b2, of2, cj, rfl, hb1, hc1, hb2, hc2⟩ := H1.out w1 B1.out k hlt
      obtain ⟨b3, of3, rfl, hb3, hc3⟩ := H3.out w1 B1.out k hlt
      obtain ⟨p1, p2, p3⟩ := P1.out k hlt
      obtain ⟨t1, t2⟩ := HR.out k hlt
      have HWk := HW.out k
      rw [HWk] at p3
      simp only [Int.toNat_natCast] at hc1
      generalize hu : ent cl k (nth x k) = u at *
      generalize nth x k = t at *
      have P3 := Lib.hid p3
      have r1 : 0 ≤ ps f k + u := by omega
      have r2 : ps f k + u ≤ 137438953408 := by omega
      have r3 : (0 : Int) ≤ (k : Int) := by omega
      have r4 : (k : Int) < (n : Int) := by omega
      have hw1 : IntKind.i64.wrap (ps f k + u) = ps f k + u := IntWalk.i64_in _ (by omega)
      clear p3 HWk hu
      go_wp2
      go_quiet (fail)
      go_wp2
      go_roundw
      case rel => exact ⟨k + 1, by omega, by rw [P3.out], by go_num, _, rfl⟩
      case measure => simp [intOf]; omega
    · obtain rfl : n = k := by omega
      go_wp2
      go_ret2
      exact ⟨rfl, bl_dn B1.out _⟩
open Classical in
set_option maxRecDepth 100000 in
set_option maxHeartbeats 2000000 in
theorem refCost_ways (N C : Int) (wl vl : List Int) (cl : List (List Int)) (hc : chk 3 N C wl vl cl = 0) (x : List Int) (ho : okx 3 N x) (wa va ca xa : Option Addr) (wc vc cc xc : Nat) (w : World) (h : Prob w wl vl cl wa va ca) (hI : Ints w xa x) :
    Calls Try.prog 10 #[.agg #[.int .i64 3, .int .i64 N, .int .i64 C, .slice wa wl.length wc, .slice va vl.length vc, .slice ca cl.length cc], .slice xa x.length xc] w
      fun e w' => e = .returned (.tuple #[.int .i64 (ps (wayc cl x) x.length), .int .i64 0]) ∧ Below w.heap.size w w' := by
  obtain ⟨z1, z2, z3, z4, z5, z6⟩ := chk_rows (by decide) hc ho
  have bA : Below w.heap.size w (w.alloc (.cells #[.int .i64 3, .int .i64 N, .int .i64 C, .slice wa wl.length wc, .slice va vl.length vc, .slice ca cl.length cc] 25)) := bl_al (Below.refl _ _) _
  have HK := Lib.hid (ref_any 3 N C wl vl cl wa va ca wc vc cc _ (h.keep bA))
  have Q := Lib.hid (heap_alloc_new w (.cells #[.int .i64 3, .int .i64 N, .int .i64 C, .slice wa wl.length wc, .slice va vl.length vc, .slice ca cl.length cc] 25))
  have BA := Lib.hid bA
  have HPm := Lib.hid (fun W (hb : Below w.heap.size w W) => perm_any x N (chk_zero hc).1 (by omega) xa xc W (hI.keep hb))
  have hp : (x.length : Int) = N ∧ permP x N.toNat := ⟨ho.1, by rcases ho.2 with q | q; exact absurd q.1 (by decide); exact q.2.2⟩
  have h00 : nth x 0 = 0 := by rcases ho.2 with q | q; exact absurd q.1 (by decide); have := q.2.1 rfl; unfold nth; exact this
  have HPm2 : Hid (∀ W, Below w.heap.size w W → Calls Try.prog 24 #[.slice xa x.length xc, .int .i64 N] W fun e w' => e = .returned (.bool true) ∧ W = w') := fun W hb => by have := HPm.out W hb; simp only [hp, and_self, decide_true] at this; exact this
  have hmod : ∀ j, j < x.length → (j + 1) % x.length < x.length := fun j hj => Nat.mod_lt _ z2
  rw [← refw_sum cl x z2]
  have P1 := Lib.hid (ps_next (refw cl x) x.length (fun j hj => ent_ok z4 z6 _ _ (by have := z5 j hj; omega) (by have := z5 _ (hmod j hj); omega)) z3)
  have H1 := Lib.hid (fun W (hb : Below w.heap.size w W) j (hj : j < x.length) => rws_nth (h.keep hb).2.2.1 z4 (a := nth x j) (b := nth x ((j + 1) % x.length)) (by have := z5 j hj; omega) (by have := z5 _ (hmod j hj); omega))
  have H3 := Lib.hid (fun W (hb : Below w.heap.size w W) j (hj : j < x.length) => ints_nth (hI.keep hb) (j := j) hj)
  have HR := Lib.hid z5
  have HMd := Lib.hid hmod
  have HMt := Lib.hid (show ∀ j : Nat, ((j : Int) + 1).tmod (x.length : Int) = (((j + 1) % x.length : Nat) : Int) from fun j => by
    rw [Int.tmod_eq_emod_of_nonneg (by omega)]; simp)
  have HW := Lib.hid (show ∀ j, refw cl x j = ent cl (nth x j) (nth x ((j + 1) % x.length)) from fun j => rfl)
  have hN := Lib.hid ho.1
  rw [hc] at HK
  clear h hI bA ho HPm hp hc z4 z5 z6 hmod
  generalize refw cl x = f at *
  generalize wl.length = wn at *
  generalize vl.length = vn at *
  generalize hcn : cl.length = cn at *
  clear hcn
  subst z1
  generalize x.length = n at *
  obtain rfl : N = n := hN.out.symm
  have H00 := Lib.hid h00
  clear h00
  go_enter Try.func10, Try.ntmps10
  go_wp2_with fail
  refine HK.out.mono ?_; rintro e w1 ⟨rfl, hb1⟩
  obtain ⟨c0, c1, c2, c3, c4, c5⟩ := box6_keep hb1 Q.out
  have B1 := Lib.hid (bl_tr BA.out hb1)
  clear hb1
  obtain ⟨b9, of9, rfl, hb9, hc9⟩ := H3.out w1 B1.out 0 z2
  rw [Nat.add_zero, H00.out] at hc9
  have h0' : (0 : Int) < n := by omega
  go_wp2_with fail
  refine (HPm2.out w1 B1.out).mono ?_; rintro e w2 ⟨rfl, rfl⟩
  go_wp2
  clear hc9
  go_loopw [7, 8] (fun a i wr => ∃ k : Nat, k ≤ n ∧ a = .int .i64 (ps f k) ∧ i = .int .i64 k ∧ ∃ m, wr = w1.drewN m) (fun _ i _ => n - (intOf i).toNat)
  case atStart => exact ⟨0, by omega, by rw [ps_zero], rfl, 0, rfl⟩
  case round =>
    obtain ⟨k, hk, rfl, rfl, m, rfl⟩ := hrel
    by_cases hlt : k < n
    · obtain ⟨b1, of1, b2, of2, cj, rfl, hb1, hc1, hb2, hc2⟩ := H1.out w1 B1.out k hlt
      obtain ⟨b3, of3, eq3, hb3, hc3⟩ := H3.out w1 B1.out k hlt
      simp only [Option.some.injEq, Addr.mk.injEq, and_true] at eq3
      obtain ⟨rfl, rfl⟩ := eq3
      obtain ⟨b4, of4, eq4, hb4, hc4⟩ := H3.out w1 B1.out ((k + 1) % n) (HMd.out k hlt)
      simp only [Option.some.injEq, Addr.mk.injEq, and_true] at eq4
      obtain ⟨rfl, rfl⟩ := eq4
      obtain ⟨p1, p2, p3⟩ := P1.out k hlt
      obtain ⟨t1, t2⟩ := HR.out k hlt
      obtain ⟨t3, t4⟩ := HR.out _ (HMd.out k hlt)
      have HWk := HW.out k
      have hmt := HMt.out k
      have hmd := HMd.out k hlt
      rw [HWk] at p3
      generalize (k + 1) % n = r at *
      generalize hu : ent cl (nth x k) (nth x r) = u at *
      generalize nth x k = t at *
      generalize nth x r = s at *
      have P3 := Lib.hid p3
      have r1 : 0 ≤ ps f k + u := by omega
      have r2 : ps f k + u ≤ 137438953408 := by omega
      have r3 : (0 : Int) ≤ (k : Int) := by omega
      have r4 : (k : Int) < (n : Int) := by omega
      have r5 : (0 : Int) ≤ (r : Int) := by omega
      have r6 : (r : Int) < (n : Int) := by omega
      have r7 : ¬ (n : Int) = 0 := by omega
      have hw1 : IntKind.i64.wrap (ps f k + u) = ps f k + u := IntWalk.i64_in _ (by omega)
      have hw2 : IntKind.i64.wrap ((k : Int) + 1) = (k : Int) + 1 := IntWalk.i64_in _ (by omega)
      have hw3 : IntKind.i64.wrap (r : Int) = (r : Int) := IntWalk.i64_in _ (by omega)
      clear p3 HWk hu
      go_wp2
      go_quiet (fail)
      clear hmt hw1 hw2 hw3
      go_wp2
      go_roundw
      case rel => exact ⟨k + 1, by omega, by rw [P3.out], by go_num, _, rfl⟩
      case measure => simp [intOf]; omega
    · obtain rfl : n = k := by omega
      go_wp2
      go_ret2
      exact ⟨rfl, bl_dn B1.out _⟩
theorem refCost_any (K N C : Int) (wl vl : List Int) (cl : List (List Int)) (x : List Int) (wa va ca xa : Option Addr) (wc vc cc xc : Nat) (w : World) (h : Prob w wl vl cl wa va ca) (hI : Ints w xa x) (hl : x.length ≤ 1000) :
    Calls Try.prog 10 #[.agg #[.int .i64 K, .int .i64 N, .int .i64 C, .slice wa wl.length wc, .slice va vl.length vc, .slice ca cl.length cc], .slice xa x.length xc] w
      fun e w' => e = .returned (.tuple #[.int .i64 (costR K N C wl vl cl x).1, .int .i64 (costR K N C wl vl cl x).2]) ∧ Below w.heap.size w w' := by
  by_cases hc : chk K N C wl vl cl = 0
  · by_cases ho : okx K N x
    · rcases (show K = 1 ∨ K = 2 ∨ K = 3 by rcases (chk_zero hc).2 with z | z <;> omega) with rfl | rfl | rfl
      · rw [cost_items hc ho]; exact refCost_items N C wl vl cl hc x ho wa va ca xa wc vc cc xc w h hI
      · rw [cost_rows hc ho]; exact refCost_rows N C wl vl cl hc x ho wa va ca xa wc vc cc xc w h hI
      · rw [cost_ways hc ho]; exact refCost_ways N C wl vl cl hc x ho wa va ca xa wc vc cc xc w h hI
    · rw [cost_arg hc ho]
      by_cases hK : K = 1
      · subst hK; exact refCost_ibad N C wl vl cl hc x ho wa va ca xa wc vc cc xc w h hI hl
      · exact refCost_obad K N C hK wl vl cl hc x ho wa va ca xa wc vc cc xc w h hI hl
  · rw [cost_bad hc]; exact refCost_bad K N C wl vl cl hc x wa va ca xa wc vc cc xc w h
end Go.Proofs.Ytfpffggeehmedaa
