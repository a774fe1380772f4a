/-
  assign: the reference's Best and Small.
-/
import Derived.Test.YtlhpiikpmmlpeaaDoorCc
import Derived.Test.YtlhpiikpmmlpeaaDoorCa
namespace Go.Proofs.YtlhpiikpmmlpeaaDoor
open Go.RowKit
set_option linter.unusedVariables false
set_option linter.unusedSimpArgs false
theorem ls_ints {W : World} {a : Option Addr} {c : Nat} {x : List Int} (h : kn.Ls (.slice a x.length c) x W) : Ints W a x := fun j hj => by
  rcases h with ⟨_, _, _, e⟩ | ⟨g, o, c', e, _, hg, q⟩
  · rw [e] at hj; exact absurd hj (by simp)
  · injection e with e _ _
    exact ⟨g, o, e, hg, by have := q j hj; unfold kn.nt at this; exact this⟩
set_option maxRecDepth 100000 in
set_option maxHeartbeats 4000000 in
theorem rbest_end {C : Int} {n : Nat} {wl vl : List Int} {cl : List (List Int)} (hc : chk 2 n C wl vl cl = 0) (x : List Int) (hx : Pre n x) (hl : x.length = n) (wa va ca xa : Option Addr) (wc vc cc xc : Nat) (w : World) (h : Prob w wl vl cl wa va ca) (hI : Ints w xa x) :
    Calls Tryd.prog 59 #[.agg #[.int .i64 2, .int .i64 n, .int .i64 C, .slice wa wl.length wc, .slice va vl.length vc, .slice ca cl.length cc], .slice xa x.length xc] w
      fun e w' => e = .returned (.int .i64 (csm cl x n)) ∧ Below w.heap.size w w' := by
  have bA : Below w.heap.size w (w.alloc (ob 2 n C (.slice wa wl.length wc) (.slice va vl.length vc) (.slice ca cl.length cc))) := bl_al (Below.refl _ _) _
  have HC := Lib.hid (rcost_any hc x hx hl wa va ca xa wc vc cc xc _ (h.keep bA) (hI.keep bA))
  have BA := Lib.hid bA
  have hnb : ((n : Int) == n) = true := by simp
  unfold ob at HC BA
  rw [hl] at HC ⊢
  clear h hI bA hl hc hx
  generalize csm cl x n = bb at *
  generalize wl.length = wn at *
  generalize vl.length = vn at *
  generalize cl.length = cn at *
  go_enter Tryd.func59, Tryd.ntmps59
  go_wp2_with fail
  refine HC.out.mono ?_; rintro e w1 ⟨rfl, hb⟩
  have B1 := Lib.hid (bl_tr BA.out hb)
  clear hb HC
  go_wp2
  first
    | exact ⟨rfl, B1.out⟩
    | (go_ret; exact ⟨rfl, B1.out⟩)
theorem rbest_any {C : Int} {n : Nat} {wl vl : List Int} {cl : List (List Int)} (h64 : n ≤ 64) (hc : chk 2 n C wl vl cl = 0) (wa va ca : Option Addr) (wc vc cc : Nat) : ∀ (d : Nat) (x : List Int) (pa : Option Addr) (pc : Nat) (w : World), Pre n x → x.length + d = n → Prob w wl vl cl wa va ca → kn.Ls (.slice pa x.length pc) x w → kn.SrcA w pa pc x →
    Calls Tryd.prog 59 #[.agg #[.int .i64 2, .int .i64 n, .int .i64 C, .slice wa wl.length wc, .slice va vl.length vc, .slice ca cl.length cc], .slice pa x.length pc] w
      fun e w' => e = .returned (.int .i64 (bstA cl n d x)) ∧ Below w.heap.size w w'
  | 0, x, pa, pc, w, hx, hd, hP, hL, hS => by
    rw [bstA_zero]
    exact rbest_end hc x hx (by omega) wa va ca pa wc vc cc pc w hP (ls_ints hL)
  | d + 1, x, pa, pc, w, hx, hd, hP, hL, hS => by
    rw [bstA_succ]
    refine best_step (bstA cl n d) 2 n C _ _ _ n rfl x pa pc (by omega) h64 w hL hS (fun u Y k hs hk hu hb => ?_)
    have bA : Below w.heap.size w (w.alloc (ob 2 n C (.slice wa wl.length wc) (.slice va vl.length vc) (.slice ca cl.length cc))) := bl_al (Below.refl _ _) _
    obtain ⟨a, c, rfl⟩ := hu.form
    have hs2 : kn.SrcA Y a c (x ++ [(k : Int)]) := by
      rcases kn.app_run_src hu with h | h
      · exact h
      · exact absurd h (by simp)
    rw [most2] at hk
    exact rbest_any h64 hc wa va ca wc vc cc d (x ++ [(k : Int)]) a c Y (pre_snoc hx hk ((skip2 x k).1 hs)) (by rw [List.length_append]; simp; omega) ((hP.keep bA).keep hb) hu hs2
set_option maxRecDepth 100000 in
set_option maxHeartbeats 4000000 in
theorem best_any {C : Int} {n : Nat} {wl vl : List Int} {cl : List (List Int)} (h64 : n ≤ 64) (hc : chk 2 n C wl vl cl = 0) (wa va ca : Option Addr) (wc vc cc : Nat) (d : Nat) (x : List Int) (pa : Option Addr) (pc : Nat) (w : World) (hx : Pre n x) (hd : x.length + d = n) (hP : Prob w wl vl cl wa va ca) (hL : kn.Ls (.slice pa x.length pc) x w) (hS : kn.SrcA w pa pc x) :
    Calls Tryd.prog 29 #[.agg #[.int .i64 2, .int .i64 n, .int .i64 C, .slice wa wl.length wc, .slice va vl.length vc, .slice ca cl.length cc], .slice pa x.length pc] w
      fun e w' => e = .returned (.int .i64 (bstA cl n d x)) ∧ Below w.heap.size w w' := by
  have bA : Below w.heap.size w (w.alloc (ob 2 n C (.slice wa wl.length wc) (.slice va vl.length vc) (.slice ca cl.length cc))) := bl_al (Below.refl _ _) _
  have HC := Lib.hid (rbest_any h64 hc wa va ca wc vc cc d x pa pc _ hx hd (hP.keep bA) (hL.up bA) (kn.srcA_up hS bA))
  have BA := Lib.hid bA
  unfold ob at HC BA
  clear hP hL hS bA hc hx hd
  generalize bstA cl n d x = bb at *
  generalize wl.length = wn at *
  generalize vl.length = vn at *
  generalize cl.length = cn at *
  generalize x.length = xn at *
  go_enter Tryd.func29, Tryd.ntmps29
  go_wp2_with fail
  refine HC.out.mono ?_; rintro e w1 ⟨rfl, hb⟩
  have B1 := Lib.hid (bl_tr BA.out hb)
  clear hb HC
  go_wp2
  first
    | exact ⟨rfl, B1.out⟩
    | (go_ret; exact ⟨rfl, B1.out⟩)
/-- is a problem small? -/
noncomputable def smallR (K N C : Int) (wl vl : List Int) (cl : List (List Int)) : Bool := decide (chk K N C wl vl cl = 0) && ((decide (K = 1) && decide (N ≤ 9)) || decide (N ≤ 6))
set_option maxRecDepth 100000 in
set_option maxHeartbeats 4000000 in
theorem small_any (K N C : Int) (wl vl : List Int) (cl : List (List Int)) (wa va ca : Option Addr) (wc vc cc : Nat) (w : World) (h : Prob w wl vl cl wa va ca) :
    Calls Tryd.prog 28 #[.agg #[.int .i64 K, .int .i64 N, .int .i64 C, .slice wa wl.length wc, .slice va vl.length vc, .slice ca cl.length cc]] w
      fun e w' => ∃ b : Bool, e = .returned (.bool b) ∧ Hid (b = true → chk K N C wl vl cl = 0) ∧ Below w.heap.size w w' := by
  have bA : Below w.heap.size w (w.alloc (ob K N C (.slice wa wl.length wc) (.slice va vl.length vc) (.slice ca cl.length cc))) := bl_al (Below.refl _ _) _
  have HC := Lib.hid (ref_any K N C wl vl cl wa va ca wc vc cc _ (h.keep bA))
  have q0 := Lib.hid (heap_alloc_new w (ob K N C (.slice wa wl.length wc) (.slice va vl.length vc) (.slice ca cl.length cc)))
  have BA := Lib.hid bA
  unfold ob at HC BA q0
  clear h bA
  generalize chk K N C wl vl cl = ce at *
  by_cases q : ce = 0
  · subst q
    have T : ∀ b : Bool, Hid (b = true → (0 : Int) = 0) := fun b _ => rfl
    by_cases k1 : K = 1
    · subst k1
      rcases (show (N ≤ 9 ∧ N ≤ 6) ∨ (N ≤ 9 ∧ ¬ N ≤ 6) ∨ (¬ N ≤ 9 ∧ ¬ N ≤ 6) by omega) with ⟨n9, n6⟩ | ⟨n9, n6⟩ | ⟨n9, n6⟩
      all_goals
        skip
        all_goals
          go_enter Tryd.func28, Tryd.ntmps28
          go_wp2_with fail
          refine HC.out.mono ?_; rintro e w1 ⟨rfl, hb⟩
          have B1 := Lib.hid (bl_tr BA.out hb)
          obtain ⟨c0, c1, c2, c3, c4, c5⟩ := box6 ((hb.block _ (lt_hp q0.out)).trans q0.out)
          clear hb HC
          go_wp2
          first
            | (refine ⟨_, rfl, ?_, B1.out⟩; intro _; first | rfl | trivial)
            | (go_ret; refine ⟨_, rfl, ?_, B1.out⟩; intro _; first | rfl | trivial)
    · have kb : (K == 1) = false := by simpa using k1
      clear k1
      by_cases n6 : N ≤ 6
      all_goals
        go_enter Tryd.func28, Tryd.ntmps28
        go_wp2_with fail
        refine HC.out.mono ?_; rintro e w1 ⟨rfl, hb⟩
        have B1 := Lib.hid (bl_tr BA.out hb)
        obtain ⟨c0, c1, c2, c3, c4, c5⟩ := box6 ((hb.block _ (lt_hp q0.out)).trans q0.out)
        clear hb HC
        go_wp2
        first
          | (refine ⟨_, rfl, ?_, B1.out⟩; intro _; first | rfl | trivial)
          | (go_ret; refine ⟨_, rfl, ?_, B1.out⟩; intro _; first | rfl | trivial)
  · have qb : (ce == 0) = false := by simpa using q
    have T : Hid ((false : Bool) = true → ce = 0) := fun h => by cases h
    go_enter Tryd.func28, Tryd.ntmps28
    go_wp2_with fail
    refine HC.out.mono ?_; rintro e w1 ⟨rfl, hb⟩
    have B1 := Lib.hid (bl_tr BA.out hb)
    clear hb HC
    go_wp2
    first
      | exact ⟨_, rfl, T, B1.out⟩
      | (go_ret; exact ⟨_, rfl, T, B1.out⟩)
end Go.Proofs.YtlhpiikpmmlpeaaDoor
