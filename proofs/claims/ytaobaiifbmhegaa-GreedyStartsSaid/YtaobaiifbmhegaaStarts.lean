/-
  For every problem, kurganlaw10.GreedyStarts answers true and leaves it as it was: Start is Better of First, with its cost, and not better than the best. No condition.
-/
import Derived.Test.YtaobaiifbmhegaaFrAll
import Derived.Test.YtaobaiifbmhegaaBs
import Derived.Test.YtaobaiifbmhegaaRcAll
import Derived.Test.YtaobaiifbmhegaaGv
import Derived.Test.YtaobaiifbmhegaaPlainsW
import Derived.Test.YtaobaiifbmhegaaLf
import Derived.Test.YtaobaiifbmhegaaOpen
import Derived.Test.YtaobaiifbmhegaaRows
import Derived.ProofKit
import Derived.OpenShut
import Derived.ChangeOld
import Derived.Below
import Derived.Carry
import Derived.ShutString

/-
  greedy: Start.
-/
namespace Go.Proofs.Ytaobaiifbmhegaa
open Go.RowKit
set_option linter.unusedVariables false
/-- what Start leaves -/
def StaP (K N C : Int) (wl vl : List Int) (cl : List (List Int)) (w : World) (e : Ending) (w' : World) : Prop :=
  (chk K N C wl vl cl ≠ 0 ∧ e = .returned (.tuple #[.slice none 0 0, .int .i64 0, .int .i64 (chk K N C wl vl cl)]) ∧ Below w.heap.size w w') ∨
  (chk K N C wl vl cl = 0 ∧ ∃ g cap x, FirstR K C wl vl cl x ∧ e = .returned (.tuple #[.slice (some ⟨g, 0, none⟩) x.length cap, .int .i64 (runR (costR K N C wl vl cl) K x.length 50 (x, (costR K N C wl vl cl x).1)).2, .int .i64 0]) ∧ od.Own w.heap.size g x.length cap (runR (costR K N C wl vl cl) K x.length 50 (x, (costR K N C wl vl cl x).1)).1 w w')
set_option maxRecDepth 100000 in
set_option maxHeartbeats 4000000 in
theorem start_no (K N C : Int) (wl vl : List Int) (cl : List (List Int)) (wa va ca : Option Addr) (wc vc cc : Nat) (w : World) (h : Prob w wl vl cl wa va ca) (hc : chk K N C wl vl cl ≠ 0) :
    Calls Try.prog 18 #[.agg #[.int .i64 K, .int .i64 N, .int .i64 C, .slice wa wl.length wc, .slice va vl.length vc, .slice ca cl.length cc]] w (StaP K N C wl vl cl w) := by
  have bA : Below w.heap.size w (w.alloc (ob K N C (.slice wa wl.length wc) (.slice va vl.length vc) (.slice ca cl.length cc))) := bl_al (Below.refl _ _) _
  have HC : Hid (Calls Try.prog 10 #[.agg #[.int .i64 K, .int .i64 N, .int .i64 C, .slice wa wl.length wc, .slice va vl.length vc, .slice ca cl.length cc]] (w.alloc (ob K N C (.slice wa wl.length wc) (.slice va vl.length vc) (.slice ca cl.length cc))) fun e w' => e = .returned (.tuple #[.slice none 0 0, .int .i64 (chk K N C wl vl cl)]) ∧ Below (w.alloc (ob K N C (.slice wa wl.length wc) (.slice va vl.length vc) (.slice ca cl.length cc))).heap.size (w.alloc (ob K N C (.slice wa wl.length wc) (.slice va vl.length vc) (.slice ca cl.length cc))) w') := (first_any K N C wl vl cl wa va ca wc vc cc _ (h.keep bA)).mono fun e w' q => by
    rcases q with ⟨_, e1, e2⟩ | ⟨q, _⟩
    · exact ⟨e1, e2⟩
    · exact absurd q hc
  have HG : Hid (∀ W', Below w.heap.size w W' → StaP K N C wl vl cl w (.returned (.tuple #[.slice none 0 0, .int .i64 0, .int .i64 (chk K N C wl vl cl)])) W') := fun W' hb => .inl ⟨hc, rfl, hb⟩
  have BA := Lib.hid bA
  unfold ob at HC BA
  clear h bA
  have hc' : (chk K N C wl vl cl != 0) = true := by simpa using hc
  clear hc
  generalize StaP K N C wl vl cl w = G at *
  generalize chk K N C wl vl cl = ce at *
  go_enter Try.func18, Try.ntmps18
  go_wp2_with fail
  refine HC.out.mono ?_; rintro e w1 ⟨rfl, hb⟩
  have B1 := Lib.hid (bl_tr BA.out hb)
  clear hb HC
  go_wp2
  go_ret3
  exact HG.out _ B1.out
set_option maxRecDepth 100000 in
set_option maxHeartbeats 4000000 in
theorem start_ok (K N C : Int) (wl vl : List Int) (cl : List (List Int)) (wa va ca : Option Addr) (wc vc cc : Nat) (w : World) (h : Prob w wl vl cl wa va ca) (hc : chk K N C wl vl cl = 0) :
    Calls Try.prog 18 #[.agg #[.int .i64 K, .int .i64 N, .int .i64 C, .slice wa wl.length wc, .slice va vl.length vc, .slice ca cl.length cc]] w (StaP K N C wl vl cl w) := by
  have bA : Below w.heap.size w (w.alloc (ob K N C (.slice wa wl.length wc) (.slice va vl.length vc) (.slice ca cl.length cc))) := bl_al (Below.refl _ _) _
  have q0 := Lib.hid (heap_alloc_new w (ob K N C (.slice wa wl.length wc) (.slice va vl.length vc) (.slice ca cl.length cc)))
  have HC : Hid (Calls Try.prog 10 #[.agg #[.int .i64 K, .int .i64 N, .int .i64 C, .slice wa wl.length wc, .slice va vl.length vc, .slice ca cl.length cc]] (w.alloc (ob K N C (.slice wa wl.length wc) (.slice va vl.length vc) (.slice ca cl.length cc))) fun e w' => ∃ g x n, Hid (x.length = n ∧ FirstR K C wl vl cl x) ∧ e = .returned (.tuple #[.slice (some ⟨g, 0, none⟩) n n, .int .i64 0]) ∧ Hid (od.Own w.heap.size g n n x w w') ∧ Hid (Below (w.alloc (ob K N C (.slice wa wl.length wc) (.slice va vl.length vc) (.slice ca cl.length cc))).heap.size (w.alloc (ob K N C (.slice wa wl.length wc) (.slice va vl.length vc) (.slice ca cl.length cc))) w')) := (first_any K N C wl vl cl wa va ca wc vc cc _ (h.keep bA)).mono fun e w' q => by
    rcases q with ⟨q, _⟩ | ⟨_, g, x, e1, fx, ho⟩
    · exact absurd hc q
    · exact ⟨g, x, x.length, ⟨rfl, fx⟩, e1, ho.down bA bA.size, ho.2.2.2⟩
  have HCo : Hid (∀ (W : World) (g n : Nat) (x : List Int), od.Own w.heap.size g n n x w W → n ≤ 64 → Calls Try.prog 25 #[.agg #[.int .i64 K, .int .i64 N, .int .i64 C, .slice wa wl.length wc, .slice va vl.length vc, .slice ca cl.length cc], .slice (some ⟨g, 0, none⟩) n n] W fun e w' => e = .returned (.tuple #[.int .i64 (costR K N C wl vl cl x).1, .int .i64 (costR K N C wl vl cl x).2]) ∧ Below W.heap.size W w') := fun W g n x ho hn => by
    have := cost_any K N C wl vl cl x wa va ca (some ⟨g, 0, none⟩) wc vc cc n W (h.keep ho.2.2.2) (own_ints ho) (by rw [ho.1]; omega)
    rw [ho.1] at this
    exact this
  have HR : Hid (∀ (gS gx n : Nat) (W : World) (p : List Int × Int), n ≤ 64 → 1 ≤ n → Sr w.heap.size gS gx n n K N C (.slice wa wl.length wc) (.slice va vl.length vc) (.slice ca cl.length cc) p.1 p.2 w W → Calls Try.prog 39 #[.pointer (some ⟨gS, 0, none⟩)] W fun e w' => e = .returned (.tuple #[]) ∧ Sr w.heap.size gS gx n n K N C (.slice wa wl.length wc) (.slice va vl.length vc) (.slice ca cl.length cc) (runR (costR K N C wl vl cl) K n 50 p).1 (runR (costR K N C wl vl cl) K n 50 p).2 w w') := fun gS gx n W p h1 h2 hS => run_prob K N C wl vl cl wa va ca wc vc cc w h gS gx n n h1 h2 W p hS
  have HLn : Hid (∀ x, FirstR K C wl vl cl x → 1 ≤ x.length ∧ x.length ≤ 64) := fun x fx => cost_len (first_ok hc fx)
  have HG : Hid (∀ g x n W', x.length = n → FirstR K C wl vl cl x → od.Own w.heap.size g n n (runR (costR K N C wl vl cl) K n 50 (x, (costR K N C wl vl cl x).1)).1 w W' → StaP K N C wl vl cl w (.returned (.tuple #[.slice (some ⟨g, 0, none⟩) n n, .int .i64 (runR (costR K N C wl vl cl) K n 50 (x, (costR K N C wl vl cl x).1)).2, .int .i64 0])) W') := fun g x n W' hn fx ho => by
    subst hn
    exact .inr ⟨hc, g, x.length, x, fx, rfl, ho⟩
  have BA := Lib.hid bA
  unfold ob at HC BA q0
  clear h bA hc
  generalize StaP K N C wl vl cl w = G at *
  go_enter Try.func18, Try.ntmps18
  go_wp2_with fail
  refine HC.out.mono ?_; rintro e w1 ⟨gx, x, n, hx, rfl, ho, hb⟩
  obtain ⟨c0, c1, c2, c3, c4, c5⟩ := box6 ((hb.out.block _ (lt_hp q0.out)).trans q0.out)
  have hn := HLn.out x hx.out.2
  rw [hx.out.1] at hn
  have CO := Lib.hid (HCo.out w1 gx n x ho.out hn.2)
  have RQ := Lib.hid (fun gS W hS => HR.out gS gx n W (x, (costR K N C wl vl cl x).1) hn.2 hn.1 hS)
  have HGx := Lib.hid (fun W' h => HG.out gx x n W' hx.out.1 hx.out.2 h)
  have Q1 := Lib.hid ((hb.out.block _ (lt_hp q0.out)).trans q0.out)
  clear HC HCo HR HG HLn q0 hx hb
  generalize runR (costR K N C wl vl cl) K n 50 (x, (costR K N C wl vl cl x).1) = rr at *
  generalize costR K N C wl vl cl x = cr at *
  obtain ⟨co, er⟩ := cr
  obtain ⟨r1, r2⟩ := rr
  simp only at CO RQ HGx
  go_wp2_with fail
  refine CO.out.mono ?_; rintro e w2 ⟨rfl, hb2⟩
  have O2 := Lib.hid (ho.out.keep hb2)
  clear c0 c1 c2 c3 c4 c5 CO ho
  obtain ⟨c0, c1, c2, c3, c4, c5⟩ := box6 ((hb2.block _ (lt_hp Q1.out)).trans Q1.out)
  have HS := Lib.hid (RQ.out w2.heap.size _ (sr_new O2.out K N C (.slice wa wl.length wc) (.slice va vl.length vc) (.slice ca cl.length cc) co O2.out.2.2.2.size))
  clear hb2 Q1 RQ
  go_wp2_with fail
  refine HS.out.mono ?_; rintro e w3 ⟨rfl, h3⟩
  have HO := Lib.hid (fun m => HGx.out (w3.drewN m) (h3.own.keep (od.bl_dn (Below.refl _ _) m)))
  obtain ⟨k0, k1, k2, k3, k4, k5, k6, k7⟩ := h3.cells
  clear h3 HS HGx O2 c0 c1 c2 c3 c4 c5
  go_wp2
  go_quiet (fail)
  go_wp2
  first
    | exact HO.out _
    | (go_ret3; exact HO.out _)
theorem start_any (K N C : Int) (wl vl : List Int) (cl : List (List Int)) (wa va ca : Option Addr) (wc vc cc : Nat) (w : World) (h : Prob w wl vl cl wa va ca) :
    Calls Try.prog 18 #[.agg #[.int .i64 K, .int .i64 N, .int .i64 C, .slice wa wl.length wc, .slice va vl.length vc, .slice ca cl.length cc]] w (StaP K N C wl vl cl w) := by
  by_cases hc : chk K N C wl vl cl = 0
  · exact start_ok K N C wl vl cl wa va ca wc vc cc w h hc
  · exact start_no K N C wl vl cl wa va ca wc vc cc w h hc
end Go.Proofs.Ytaobaiifbmhegaa

/-
  The reference's Best.
-/
namespace Go.Proofs.Ytaobaiifbmhegaa
open Go.RowKit
set_option linter.unusedVariables false
theorem ls_ints {W : World} {a : Option Addr} {c : Nat} {x : List Int} (h : kn.Ls (.slice a x.length c) x W) : Ints W a x := fun j hj => by
  rcases h with ⟨_, _, _, e⟩ | ⟨g, o, c', e, _, hg, q⟩
  · rw [e] at hj; exact absurd hj (by simp)
  · injection e with e _ _
    exact ⟨g, o, e, hg, by have := q j hj; unfold kn.nt at this; exact this⟩
set_option maxRecDepth 100000 in
set_option maxHeartbeats 4000000 in
theorem best_end (K N C : Int) (wl vl : List Int) (cl : List (List Int)) (x : List Int) (wa va ca xa : Option Addr) (wc vc cc xc : Nat) (w : World) (h : Prob w wl vl cl wa va ca) (hI : Ints w xa x) (hl : x.length ≤ 1000) (hn : N = (x.length : Int)) (n : Nat) :
    Calls Try.prog 20 #[.agg #[.int .i64 K, .int .i64 N, .int .i64 C, .slice wa wl.length wc, .slice va vl.length vc, .slice ca cl.length cc], .slice xa x.length xc] w
      fun e w' => e = .returned (.int .i64 (bstR (costR K N C wl vl cl) K n 0 x)) ∧ Below w.heap.size w w' := by
  have bA : Below w.heap.size w (w.alloc (ob K N C (.slice wa wl.length wc) (.slice va vl.length vc) (.slice ca cl.length cc))) := bl_al (Below.refl _ _) _
  have HC := Lib.hid (refCost_any K N C wl vl cl x wa va ca xa wc vc cc xc _ (h.keep bA) (hI.keep bA) hl)
  have BA := Lib.hid bA
  have hnb : ((x.length : Int) == N) = true := by rw [hn]; simp
  have HB := Lib.hid (fun h => bst_bad (f := costR K N C wl vl cl) (K := K) (n := n) (x := x) h)
  have HO := Lib.hid (fun h => bst_ok (f := costR K N C wl vl cl) (K := K) (n := n) (x := x) h)
  unfold ob at HC BA
  clear h hI bA hl hn
  generalize bstR (costR K N C wl vl cl) K n 0 x = bb at *
  generalize costR K N C wl vl cl x = cr at *
  obtain ⟨co, ce⟩ := cr
  simp only at HC HB HO
  generalize x.length = m at *
  by_cases q : ce = 0
  · subst q
    have E := HO.out rfl
    subst E
    clear HB HO
    go_enter Try.func20, Try.ntmps20
    go_wp2_with fail
    refine HC.out.mono ?_; rintro e w1 ⟨rfl, hb⟩
    have B1 := Lib.hid (bl_tr BA.out hb)
    clear hb HC
    go_wp2
    first
      | exact ⟨rfl, B1.out⟩
      | (go_ret; exact ⟨rfl, B1.out⟩)
  · have E := HB.out q
    have q' : (ce != 0) = true := by simpa using q
    subst E
    clear HB HO q
    go_enter Try.func20, Try.ntmps20
    go_wp2_with fail
    refine HC.out.mono ?_; rintro e w1 ⟨rfl, hb⟩
    have B1 := Lib.hid (bl_tr BA.out hb)
    clear hb HC
    go_wp2
    first
      | exact ⟨rfl, B1.out⟩
      | (go_ret; exact ⟨rfl, B1.out⟩)
theorem best_any (K C : Int) (wl vl : List Int) (cl : List (List Int)) (wa va ca : Option Addr) (wc vc cc n : Nat) (h64 : n ≤ 64) : ∀ (d : Nat) (x : List Int) (pa : Option Addr) (pc : Nat) (w : World), x.length + d = n → Prob w wl vl cl wa va ca → kn.Ls (.slice pa x.length pc) x w → kn.SrcA w pa pc x →
    Calls Try.prog 20 #[.agg #[.int .i64 K, .int .i64 n, .int .i64 C, .slice wa wl.length wc, .slice va vl.length vc, .slice ca cl.length cc], .slice pa x.length pc] w
      fun e w' => e = .returned (.int .i64 (bstR (costR K n C wl vl cl) K n d x)) ∧ Below w.heap.size w w'
  | 0, x, pa, pc, w, hd, hP, hL, hS => best_end K n C wl vl cl x wa va ca pa wc vc cc pc w hP (ls_ints hL) (by omega) (by omega) n
  | d + 1, x, pa, pc, w, hd, hP, hL, hS => by
    rw [bst_succ]
    refine best_step (bstR (costR K n C wl vl cl) K n d) K n C _ _ _ n rfl x pa pc (by omega) h64 w hL hS (fun u Y k hu hb => ?_)
    have bA : Below w.heap.size w (w.alloc (ob K n C (.slice wa wl.length wc) (.slice va vl.length vc) (.slice ca cl.length cc))) := bl_al (Below.refl _ _) _
    obtain ⟨a, c, rfl⟩ := hu.form
    have hs : kn.SrcA Y a c (x ++ [(k : Int)]) := by
      rcases kn.app_run_src hu with h | h
      · exact h
      · exact absurd h (by simp)
    exact best_any K C wl vl cl wa va ca wc vc cc n h64 d (x ++ [(k : Int)]) a c Y (by rw [List.length_append]; simp; omega) ((hP.keep bA).keep hb) hu hs
end Go.Proofs.Ytaobaiifbmhegaa

/-
  The reference's Small.
-/
namespace Go.Proofs.Ytaobaiifbmhegaa
open Go.RowKit
set_option linter.unusedVariables false
/-- is a problem small? -/
noncomputable def smallR (K N C : Int) (wl vl : List Int) (cl : List (List Int)) : Bool := decide (chk K N C wl vl cl = 0) && ((decide (K = 1) && decide (N ≤ 9)) || decide (N ≤ 6))
set_option maxRecDepth 100000 in
set_option maxHeartbeats 4000000 in
theorem small_any (K N C : Int) (wl vl : List Int) (cl : List (List Int)) (wa va ca : Option Addr) (wc vc cc : Nat) (w : World) (h : Prob w wl vl cl wa va ca) :
    Calls Try.prog 19 #[.agg #[.int .i64 K, .int .i64 N, .int .i64 C, .slice wa wl.length wc, .slice va vl.length vc, .slice ca cl.length cc]] w
      fun e w' => ∃ b : Bool, e = .returned (.bool b) ∧ Hid (b = true → chk K N C wl vl cl = 0) ∧ Below w.heap.size w w' := by
  have bA : Below w.heap.size w (w.alloc (ob K N C (.slice wa wl.length wc) (.slice va vl.length vc) (.slice ca cl.length cc))) := bl_al (Below.refl _ _) _
  have HC := Lib.hid (ref_any K N C wl vl cl wa va ca wc vc cc _ (h.keep bA))
  have q0 := Lib.hid (heap_alloc_new w (ob K N C (.slice wa wl.length wc) (.slice va vl.length vc) (.slice ca cl.length cc)))
  have BA := Lib.hid bA
  unfold ob at HC BA q0
  clear h bA
  generalize chk K N C wl vl cl = ce at *
  by_cases q : ce = 0
  · subst q
    have T : ∀ b : Bool, Hid (b = true → (0 : Int) = 0) := fun b _ => rfl
    by_cases k1 : K = 1
    · subst k1
      rcases (show (N ≤ 9 ∧ N ≤ 6) ∨ (N ≤ 9 ∧ ¬ N ≤ 6) ∨ (¬ N ≤ 9 ∧ ¬ N ≤ 6) by omega) with ⟨n9, n6⟩ | ⟨n9, n6⟩ | ⟨n9, n6⟩
      all_goals
        skip
        all_goals
          go_enter Try.func19, Try.ntmps19
          go_wp2_with fail
          refine HC.out.mono ?_; rintro e w1 ⟨rfl, hb⟩
          have B1 := Lib.hid (bl_tr BA.out hb)
          obtain ⟨c0, c1, c2, c3, c4, c5⟩ := box6 ((hb.block _ (lt_hp q0.out)).trans q0.out)
          clear hb HC
          go_wp2
          first
            | (refine ⟨_, rfl, ?_, B1.out⟩; intro _; first | rfl | trivial)
            | (go_ret; refine ⟨_, rfl, ?_, B1.out⟩; intro _; first | rfl | trivial)
    · have kb : (K == 1) = false := by simpa using k1
      clear k1
      by_cases n6 : N ≤ 6
      all_goals
        go_enter Try.func19, Try.ntmps19
        go_wp2_with fail
        refine HC.out.mono ?_; rintro e w1 ⟨rfl, hb⟩
        have B1 := Lib.hid (bl_tr BA.out hb)
        obtain ⟨c0, c1, c2, c3, c4, c5⟩ := box6 ((hb.block _ (lt_hp q0.out)).trans q0.out)
        clear hb HC
        go_wp2
        first
          | (refine ⟨_, rfl, ?_, B1.out⟩; intro _; first | rfl | trivial)
          | (go_ret; refine ⟨_, rfl, ?_, B1.out⟩; intro _; first | rfl | trivial)
  · have qb : (ce == 0) = false := by simpa using q
    have T : Hid ((false : Bool) = true → ce = 0) := fun h => by cases h
    go_enter Try.func19, Try.ntmps19
    go_wp2_with fail
    refine HC.out.mono ?_; rintro e w1 ⟨rfl, hb⟩
    have B1 := Lib.hid (bl_tr BA.out hb)
    clear hb HC
    go_wp2
    first
      | exact ⟨_, rfl, T, B1.out⟩
      | (go_ret; exact ⟨_, rfl, T, B1.out⟩)
end Go.Proofs.Ytaobaiifbmhegaa

/-
  kurganlaw10.GreedyStarts, walked.
-/
namespace Go.Proofs.Ytaobaiifbmhegaa
open Go.RowKit
set_option linter.unusedVariables false
set_option maxRecDepth 100000 in
set_option maxHeartbeats 8000000 in
theorem greedyStarts_walk (kd N C : Int) (wl vl : List Int) (cl : List (List Int)) (wa va ca : Option Addr) (wn vn cn wc vc cc : Nat) (w : World) (h1 : Src w wa wn wc wl) (h2 : Src w va vn vc vl) (h3 : RSrc w ca cn cc cl) :
    Calls Try.prog 5 #[.agg #[.int .i64 kd, .int .i64 N, .int .i64 C, .slice wa wn wc, .slice va vn vc, .slice ca cn cc]] w fun e w' => e = .returned (.bool true) ∧ Below w.heap.size w w' := by
  have bA : Below w.heap.size w (w.alloc (.cells #[.int .i64 kd, .int .i64 N, .int .i64 C, .slice wa wn wc, .slice va vn vc, .slice ca cn cc] 25)) := bl_al (Below.refl _ _) _
  have HC := Lib.hid (few_any kd N C wl vl cl wa va ca wn vn cn wc vc cc _ (h1.keep bA) (h2.keep bA) (h3.keep bA))
  have HB := Lib.hid bA
  have Q0 := Lib.hid (heap_alloc_new w (.cells #[.int .i64 kd, .int .i64 N, .int .i64 C, .slice wa wn wc, .slice va vn vc, .slice ca cn cc] 25))
  have l1 : wl.length ≤ 1000 := by have := h1.1; omega
  have l2 : vl.length ≤ 1000 := by have := h2.1; omega
  have l3 : cl.length ≤ 1000 := by have := h3.1; omega
  have HF := Lib.hid (fun W => finds_any W)
  clear h1 h2 h3
  go_enter Try.func5, Try.ntmps5
  go_wp2_with fail
  refine HC.out.mono ?_; rintro e w1 ⟨N', g1, k1, g2, k2, ca', cc', rfl, hb, i1, i2, rw⟩
  have q0 := (hb.block _ (lt_hp Q0.out)).trans Q0.out
  have H3 : L3 (w.alloc (.cells #[.int .i64 kd, .int .i64 N, .int .i64 C, .slice wa wn wc, .slice va vn vc, .slice ca cn cc] 25)).heap.size w1 g1 g2 ca' wl vl cl := ⟨i1, i2, rw⟩
  have BX := Lib.hid (six_below (bl_tr HB.out hb) (Nat.le_refl w.heap.size) (.int .i64 kd) (.int .i64 N') (.int .i64 C) (.slice (some ⟨g1, 0, none⟩) wl.length k1) (.slice (some ⟨g2, 0, none⟩) vl.length k2) (.slice ca' cl.length cc'))
  have S1 := Lib.hid (six q0 (.int .i64 kd) (.int .i64 N') (.int .i64 C) (.slice (some ⟨g1, 0, none⟩) wl.length k1) (.slice (some ⟨g2, 0, none⟩) vl.length k2) (.slice ca' cl.length cc'))
  have PX := Lib.hid ((H3.other q0 (fun k hk => six_other (w := w1) hk (.int .i64 kd) (.int .i64 N') (.int .i64 C) (.slice (some ⟨g1, 0, none⟩) wl.length k1) (.slice (some ⟨g2, 0, none⟩) vl.length k2) (.slice ca' cl.length cc'))).prob l1 l2 l3)
  obtain ⟨c0, c1, c2, c3, c4, c5⟩ := box6 q0
  have cf := fr6 q0
  have hs := lt_hp q0
  clear hb i1 i2 rw q0 HC HB H3 Q0 bA
  go_upto_region 2 with fail
  clear c0 c1 c2 c3 c4 c5 cf hs
  generalize ((((((w1.setCell ⟨w.heap.size, 0, none⟩ (.int .i64 kd)).setCell ⟨w.heap.size, 1, none⟩ (.int .i64 N')).setCell ⟨w.heap.size, 2, none⟩ (.int .i64 C)).setCell ⟨w.heap.size, 3, none⟩ (.slice (some ⟨g1, 0, none⟩) wl.length k1)).setCell ⟨w.heap.size, 4, none⟩ (.slice (some ⟨g2, 0, none⟩) vl.length k2)).setCell ⟨w.heap.size, 5, none⟩ (.slice ca' cl.length cc')) = X at *
  have H6 := Lib.hid (fun (W : World) (h : Below X.heap.size X W) => box6 ((h.block _ (lt_hp S1.out)).trans S1.out))
  have ST := Lib.hid (start_any kd N' C wl vl cl (some ⟨g1, 0, none⟩) (some ⟨g2, 0, none⟩) ca' k1 k2 cc' X PX.out)
  have RA := Lib.hid (fun (W : World) (hW : Below X.heap.size X W) => rfirst_any kd N' C wl vl cl (some ⟨g1, 0, none⟩) (some ⟨g2, 0, none⟩) ca' k1 k2 cc' W (PX.out.keep hW))
  have SM := Lib.hid (fun (W : World) (hW : Below X.heap.size X W) => small_any kd N' C wl vl cl (some ⟨g1, 0, none⟩) (some ⟨g2, 0, none⟩) ca' k1 k2 cc' W (PX.out.keep hW))
  obtain ⟨c0, c1, c2, c3, c4, c5⟩ := H6.out X (Below.refl _ _)
  go_wp2_with fail
  refine ST.out.mono ?_; rintro e w4 h
  clear c0 c1 c2 c3 c4 c5 ST
  rcases h with ⟨hc, rfl, hb4⟩ | ⟨hc, gR, cR, x, fx, rfl, hy⟩
  · have B4 := Lib.hid hb4
    obtain ⟨c0, c1, c2, c3, c4, c5⟩ := H6.out w4 B4.out
    have R4 := Lib.hid (RA.out w4 hb4)
    have H4 := Lib.hid hc
    have hc' : (chk kd N' C wl vl cl != 0) = true := by simpa using hc
    clear hb4 RA SM hc
    go_wp2_with fail
    refine R4.out.mono ?_; rintro e w5 h
    rcases h with ⟨_, rfl, hb5⟩ | ⟨hc2, _⟩
    rotate_left
    · exact absurd hc2 H4.out
    have B5 := Lib.hid (bl_tr B4.out hb5)
    clear hb5 R4 c0 c1 c2 c3 c4 c5 H4
    generalize chk kd N' C wl vl cl = ce at *
    have ces : (ce == ce) = true := by simp
    go_wp2_with fail
    refine (HF.out w5).mono ?_; rintro e w6 ⟨rfl, hb6⟩
    have B6 := Lib.hid (bl_tr B5.out hb6)
    clear hb6
    go_wp2_with fail
    refine (HF.out w6).mono ?_; rintro e w7 ⟨rfl, hb7⟩
    have B7 := Lib.hid (BX.out.trans ((bl_tr B6.out hb7).mono BX.out.size))
    clear hb7
    go_wp2
    first
      | exact ⟨rfl, B7.out⟩
      | (go_ret; exact ⟨rfl, B7.out⟩)
  · have hcx := first_ok hc fx
    have hl64 := cost_len hcx
    have hNn : N' = (x.length : Int) := (cost_some hcx).2.1.symm
    have GD := run_gd (K := kd) (f := costR kd N' C wl vl cl) (n := x.length) 50 (p := (x, (costR kd N' C wl vl cl x).1)) ⟨rfl, by show costR kd N' C wl vl cl x = _; rw [← hcx]⟩
    have gd0 : (costR kd N' C wl vl cl (runR (costR kd N' C wl vl cl) kd x.length 50 (x, (costR kd N' C wl vl cl x).1)).1).2 = 0 := by rw [GD.1.2]
    have LE : Hid (bstR (costR kd N' C wl vl cl) kd x.length x.length [] ≤ (runR (costR kd N' C wl vl cl) kd x.length 50 (x, (costR kd N' C wl vl cl x).1)).2) := by
      have := (bst_le (f := costR kd N' C wl vl cl) (K := kd) (N := N') (n := x.length) hNn (cost_some gd0).2 gd0 (cost_bd kd N' C wl vl cl _).1 x.length 0 (by omega)).2
      rw [GD.1.2] at this
      exact Lib.hid (by simpa using this)
    have R4 : Hid (∀ (W : World), Below X.heap.size X W → Calls Try.prog 11 #[.agg #[.int .i64 kd, .int .i64 N', .int .i64 C, .slice (some ⟨g1, 0, none⟩) wl.length k1, .slice (some ⟨g2, 0, none⟩) vl.length k2, .slice ca' cl.length cc']] W fun e w' => ∃ g cap, e = .returned (.tuple #[.slice (some ⟨g, 0, none⟩) x.length cap, .int .i64 0]) ∧ Hid (od.Own W.heap.size g x.length cap x W w')) := fun W hW => (RA.out W hW).mono fun e w' h => by
      rcases h with ⟨h, _⟩ | ⟨_, g, cap, y, rfl, fy, hyy⟩
      · exact absurd hc h
      · obtain rfl := first_uniq fx fy
        exact ⟨g, cap, rfl, hyy⟩
    have RB : Hid (∀ (W : World) (B g cap : Nat) (w0 : World), Below X.heap.size X W → od.Own B g x.length cap x w0 W → Calls Try.prog 17 #[.agg #[.int .i64 kd, .int .i64 N', .int .i64 C, .slice (some ⟨g1, 0, none⟩) wl.length k1, .slice (some ⟨g2, 0, none⟩) vl.length k2, .slice ca' cl.length cc'], .slice (some ⟨g, 0, none⟩) x.length cap] W fun e w' => ∃ g' cap', e = .returned (.tuple #[.slice (some ⟨g', 0, none⟩) x.length cap', .int .i64 0]) ∧ Hid (od.Own W.heap.size g' x.length cap' (runR (costR kd N' C wl vl cl) kd x.length 50 (x, (costR kd N' C wl vl cl x).1)).1 W w')) := fun W B g cap w0 hW ho => (rbet_any kd N' C wl vl cl x (some ⟨g1, 0, none⟩) (some ⟨g2, 0, none⟩) ca' (some ⟨g, 0, none⟩) k1 k2 cc' cap W (PX.out.keep hW) (own_ints ho) (by omega) ho.cap).mono fun e w' h => by
      rcases h with ⟨h, _⟩ | ⟨_, g', cap', rfl, hz⟩
      · exact absurd hcx h
      · exact ⟨g', cap', rfl, hz⟩
    have RY : Hid (∀ (W : World) (B g cap : Nat) (w0 : World), Below X.heap.size X W → od.Own B g x.length cap (runR (costR kd N' C wl vl cl) kd x.length 50 (x, (costR kd N' C wl vl cl x).1)).1 w0 W → Calls Try.prog 14 #[.agg #[.int .i64 kd, .int .i64 N', .int .i64 C, .slice (some ⟨g1, 0, none⟩) wl.length k1, .slice (some ⟨g2, 0, none⟩) vl.length k2, .slice ca' cl.length cc'], .slice (some ⟨g, 0, none⟩) x.length cap] W fun e w' => e = .returned (.tuple #[.int .i64 (runR (costR kd N' C wl vl cl) kd x.length 50 (x, (costR kd N' C wl vl cl x).1)).2, .int .i64 0]) ∧ Below W.heap.size W w') := fun W B g cap w0 hW h => by
      have := refCost_any kd N' C wl vl cl _ (some ⟨g1, 0, none⟩) (some ⟨g2, 0, none⟩) ca' (some ⟨g, 0, none⟩) k1 k2 cc' cap W (PX.out.keep hW) (own_ints h) (by rw [h.1]; omega)
      rw [h.1, GD.1.2] at this
      exact this
    have BE : Hid (∀ (W : World), Below X.heap.size X W → Calls Try.prog 20 #[.agg #[.int .i64 kd, .int .i64 N', .int .i64 C, .slice (some ⟨g1, 0, none⟩) wl.length k1, .slice (some ⟨g2, 0, none⟩) vl.length k2, .slice ca' cl.length cc'], .slice none 0 0] W fun e w' => e = .returned (.int .i64 (bstR (costR kd N' C wl vl cl) kd x.length x.length [])) ∧ Below W.heap.size W w') := fun W hW => by
      have := best_any kd C wl vl cl (some ⟨g1, 0, none⟩) (some ⟨g2, 0, none⟩) ca' k1 k2 cc' x.length hl64.2 x.length [] none 0 W (by simp) (PX.out.keep hW) (.inl ⟨none, 0, rfl, rfl⟩) (.inl ⟨rfl, rfl, rfl⟩)
      rw [← hNn] at this
      exact this
    have OR := Lib.hid hy
    have B4 := Lib.hid hy.2.2.2
    clear hy RA hc hcx fx GD gd0 hNn
    generalize runR (costR kd N' C wl vl cl) kd x.length 50 (x, (costR kd N' C wl vl cl x).1) = rr at *
    generalize bstR (costR kd N' C wl vl cl) kd x.length x.length [] = bv at *
    obtain ⟨r1, r2⟩ := rr
    simp only at LE RB RY OR
    obtain ⟨n, hn⟩ : ∃ n, n = x.length := ⟨_, rfl⟩
    rw [← hn] at R4 RB RY OR hl64 ⊢
    clear hn
    obtain ⟨c0, c1, c2, c3, c4, c5⟩ := H6.out w4 B4.out
    go_wp2_with fail
    refine (R4.out w4 B4.out).mono ?_; rintro e w5 ⟨gy, cy, rfl, hy⟩
    have B5 := Lib.hid (bl_tr B4.out hy.out.2.2.2)
    have OR5 := Lib.hid (OR.out.keep hy.out.2.2.2)
    clear OR c0 c1 c2 c3 c4 c5 R4
    go_wp2_with fail
    refine (HF.out w5).mono ?_; rintro e w6 ⟨rfl, hb6⟩
    have B6 := Lib.hid (bl_tr B5.out hb6)
    have OR6 := Lib.hid (OR5.out.keep hb6)
    have OY6 := Lib.hid (hy.out.keep hb6)
    clear hb6 OR5 hy
    obtain ⟨c0, c1, c2, c3, c4, c5⟩ := H6.out w6 B6.out
    go_wp2_with fail
    refine (RB.out w6 _ gy cy _ B6.out OY6.out).mono ?_; rintro e w7 ⟨gz, cz, rfl, hz⟩
    have B7 := Lib.hid (bl_tr B6.out hz.out.2.2.2)
    have OR7 := Lib.hid (OR6.out.keep hz.out.2.2.2)
    clear OR6 OY6 c0 c1 c2 c3 c4 c5 RB
    obtain ⟨c0, c1, c2, c3, c4, c5⟩ := H6.out w7 B7.out
    go_wp2_with fail
    refine (RY.out w7 _ gz cz _ B7.out hz.out).mono ?_; rintro e w8 ⟨rfl, hb8⟩
    have B8 := Lib.hid (bl_tr B7.out hb8)
    have OR8 := Lib.hid (OR7.out.keep hb8)
    have OZ8 := Lib.hid (hz.out.keep hb8)
    clear OR7 hz hb8 c0 c1 c2 c3 c4 c5 RY
    have rr2 : (r2 != r2) = false := by simp
    go_wp2_with fail
    refine (same_own OR8.out OZ8.out (by omega)).mono ?_; rintro e w9 ⟨rfl, hb9⟩
    have B9 := Lib.hid (bl_tr B8.out hb9)
    clear OR8 OZ8 hb9
    obtain ⟨c0, c1, c2, c3, c4, c5⟩ := H6.out w9 B9.out
    go_wp2_with fail
    refine (SM.out w9 B9.out).mono ?_; rintro e wa' ⟨b, rfl, _, hba⟩
    have BA := Lib.hid (bl_tr B9.out hba)
    clear hba SM c0 c1 c2 c3 c4 c5
    obtain ⟨c0, c1, c2, c3, c4, c5⟩ := H6.out wa' BA.out
    cases b
    · have HE := Lib.hid (BX.out.trans (BA.out.mono BX.out.size))
      go_wp2
      first
        | exact ⟨rfl, HE.out⟩
        | (go_ret; exact ⟨rfl, HE.out⟩)
    · go_wp2_with fail
      refine (BE.out wa' BA.out).mono ?_; rintro e wb ⟨rfl, hbb⟩
      have HE := Lib.hid (BX.out.trans ((bl_tr BA.out hbb).mono BX.out.size))
      have le := LE.out
      have led : decide (bv ≤ r2) = true := decide_eq_true le
      clear hbb c0 c1 c2 c3 c4 c5
      go_wp2
      first
        | exact ⟨rfl, HE.out⟩
        | (go_ret; exact ⟨rfl, HE.out⟩)
end Go.Proofs.Ytaobaiifbmhegaa

/-
  For every problem, kurganlaw10.GreedyStarts answers true and leaves it as it was: Start is Better of First, with its cost, and not better than the best. No condition.
-/
namespace Go.Proofs.Ytaobaiifbmhegaa.greedyStarts
open Go.ChangeMaps (open_string shut_string)
open Go.ChangeShapes Go.WideShapes Go.ChangeAt Go.RowKit
set_option linter.unusedVariables false

theorem own : ownKnob Try.prog.godebug = none := by kernel_rfl
theorem laidOut : laidOutB Try.prog = true := by kernel_rfl
theorem walk (kd0 N0 C0 : Int) (wl0 vl0 : List Int) (cl0 : List (List Int)) (wa0 va0 ca0 : Option Addr) (wn0 vn0 cn0 wc0 vc0 cc0 : Nat) (W : World) (sa0 : Src W wa0 wn0 wc0 wl0) (sb0 : Src W va0 vn0 vc0 vl0) (sc0 : RSrc W ca0 cn0 cc0 cl0) :
    Calls Try.prog 5 #[.agg #[.int .i64 kd0, .int .i64 N0, .int .i64 C0, .slice wa0 wn0 wc0, .slice va0 vn0 vc0, .slice ca0 cn0 cc0]] W fun e w' => e = .returned (.bool true) ∧ Below W.heap.size W w' :=
  greedyStarts_walk kd0 N0 C0 wl0 vl0 cl0 wa0 va0 ca0 wn0 vn0 cn0 wc0 vc0 cc0 W sa0 sb0 sc0

set_option maxRecDepth 100000 in
theorem lifted (os : Os) (started : os.Started) (H : Type) (enc : TypeId × Value → H) :
    ReturnsInHanded {} Try.checked os 5 .any (Rows.greedyStartsSpec.pre6 enc Try.prog Try.f5 Rows.greedyStartsRow.domain false) (Rows.greedyStartsSpec.post enc Try.prog Try.f5 false true false false) := by
  refine returnsInHanded_of_change (C := Try.checked) own started (by kernel_rfl) Try.func5
    (ChangeSpec.witness6 (enc := enc) (C := Try.checked) false ⟨#[], #[.agg #[.int .i64 0, .int .i64 0, .int .i64 0, .slice none 0 0, .slice none 0 0, .slice none 0 0]], []⟩ 8 (by kernel_rfl) (by kernel_rfl) (by kernel_rfl) (by kernel_rfl)) ?_
  intro W base args ds gs before hval0 hW hcnd _
  have hval : ∀ (j : Nat) t v, Try.f5.params[j]? = some t → args[j]? = some v → Value.okWide Try.prog W .any base t v := hval0
  have hW' := hW
  obtain ⟨p, q, hA0, hV, rfl, hfz, hnd⟩ := hW
  have hA : DataW.TrodAll enc Try.prog W 0 (fun _ => true) true Try.f5.params.toList args.toList ds p := hA0
  rw [Try.params5] at hA hval
  obtain ⟨v0, vs0, d0, ds0, p0, q0, e0, rfl, rfl, h0, r0⟩ := trodAll_cons hA
  obtain ⟨rfl, rfl, rfl⟩ := trodAll_nil r0
  obtain rfl : args = #[v0] := by cases args; simp_all
  obtain ⟨rfl, rfl⟩ := trodVars_none hV
  have lt0 : ∀ x ∈ p0, x.block < W.heap.size := by obtain ⟨m, hm⟩ := h0; exact DataW.trod_lt m _ _ _ hm
  have k0 := h0
  obtain ⟨kd0, N0, C0, wa0, va0, ca0, wn0, vn0, cn0, wc0, vc0, cc0, wl0, vl0, cl0, rfl, sa0, sb0, sc0⟩ := open_inst (hval 0 25 v0 rfl rfl) h0
  clear hA0 hval0
  simp only [List.append_nil] at hW'
  refine (walk kd0 N0 C0 wl0 vl0 cl0 wa0 va0 ca0 wn0 vn0 cn0 wc0 vc0 cc0 W sa0 sb0 sc0).mono fun e W' ⟨he, bel⟩ => ?_
  subst he
  exact ⟨_, rfl, _, _, _, [], _, [], hW', trodAll_mk1 (shut_bool Try.underlying4 _), (trodAll_cons_mk (Below.trod laidOut (by kernel_rfl) (of_decide_eq_true (by kernel_rfl)) k0 bel lt0) trodAll_mk0), rfl, bel.frame _, fun h => by cases h⟩

theorem over : Rows.greedyStartsRow.holds Try.pinned (OpenSpec.ofChange Rows.greedyStartsSpec) :=
  OpenClaim.holds_of_wide 5 Try.f5 rfl rfl rfl rfl rfl rfl rfl ⟨rfl, rfl, rfl, rfl, rfl⟩ rfl rfl rfl rfl rfl (by kernel_rfl) Try.func5 (by kernel_rfl)
    (of_decide_eq_true (by kernel_rfl)) (by unfold Func.isWrapper; first | (rw [if_pos (by decide +kernel)]; kernel_rfl) | (rw [if_neg (by decide +kernel)]; exact ⟨rfl, rfl⟩))
    (fun os started H enc _ => lifted os started H enc)

/-- the statement -/
theorem proved : Rows.GreedyStartsSaid := over
#print axioms proved
end Go.Proofs.Ytaobaiifbmhegaa.greedyStarts

