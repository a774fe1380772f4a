/-
  What value.Cost answers of every problem and list.
-/
import Derived.Test.YtaobaiifbmhegaaCosts
namespace Go.Proofs.Ytaobaiifbmhegaa
open Go.RowKit
set_option linter.unusedVariables false

open Classical in
/-- what a list costs, and what is wrong with it -/
noncomputable def costR (K N C : Int) (wl vl : List Int) (cl : List (List Int)) (x : List Int) : Int × Int :=
  if chk K N C wl vl cl ≠ 0 then (0, chk K N C wl vl cl) else if ¬ okx K N x then (0, 1) else if K = 1 then itemsR C wl vl x else if K = 2 then (ps (rowc cl x) x.length, 0) else (ps (wayc cl x) x.length, 0)
theorem cost_bad {K N C : Int} {wl vl : List Int} {cl : List (List Int)} {x : List Int} (h : chk K N C wl vl cl ≠ 0) : costR K N C wl vl cl x = (0, chk K N C wl vl cl) := by unfold costR; rw [if_pos h]
theorem cost_arg {K N C : Int} {wl vl : List Int} {cl : List (List Int)} {x : List Int} (h : chk K N C wl vl cl = 0) (h1 : ¬ okx K N x) : costR K N C wl vl cl x = (0, 1) := by unfold costR; rw [if_neg (by simp [h]), if_pos h1]
theorem cost_items {N C : Int} {wl vl : List Int} {cl : List (List Int)} {x : List Int} (h : chk 1 N C wl vl cl = 0) (h1 : okx 1 N x) : costR 1 N C wl vl cl x = itemsR C wl vl x := by unfold costR; rw [if_neg (by simp [h]), if_neg (by simp [h1]), if_pos rfl]
theorem cost_rows {N C : Int} {wl vl : List Int} {cl : List (List Int)} {x : List Int} (h : chk 2 N C wl vl cl = 0) (h1 : okx 2 N x) : costR 2 N C wl vl cl x = (ps (rowc cl x) x.length, 0) := by unfold costR; rw [if_neg (by simp [h]), if_neg (by simp [h1]), if_neg (by decide), if_pos rfl]
theorem cost_ways {N C : Int} {wl vl : List Int} {cl : List (List Int)} {x : List Int} (h : chk 3 N C wl vl cl = 0) (h1 : okx 3 N x) : costR 3 N C wl vl cl x = (ps (wayc cl x) x.length, 0) := by unfold costR; rw [if_neg (by simp [h]), if_neg (by simp [h1]), if_neg (by decide), if_neg (by decide)]
attribute [irreducible] costR
theorem perm_rng {x : List Int} {n : Nat} (h : permP x n) : ∀ j, j < x.length → 0 ≤ nth x j ∧ nth x j < x.length := fun j hj => by
  have := ((perm_pig n x h.2).2 h.1).2 (x[j]) (List.getElem_mem hj)
  have e : nth x j = x[j] := by unfold nth; rw [List.getElem?_eq_getElem hj]; rfl
  rw [e, h.1]; exact this
/-- a problem's lists in memory -/
def Prob (W : World) (wl vl : List Int) (cl : List (List Int)) (wa va ca : Option Addr) : Prop := Ints W wa wl ∧ Ints W va vl ∧ Rws W ca cl ∧ wl.length ≤ 1000 ∧ vl.length ≤ 1000 ∧ cl.length ≤ 1000
theorem Prob.keep {W W1 : World} {wl vl : List Int} {cl : List (List Int)} {wa va ca : Option Addr} (h : Prob W wl vl cl wa va ca) (hb : Below W.heap.size W W1) : Prob W1 wl vl cl wa va ca :=
  ⟨h.1.keep hb, h.2.1.keep hb, h.2.2.1.keep hb, h.2.2.2⟩
theorem check_prob (K N C : Int) {wl vl : List Int} {cl : List (List Int)} {wa va ca : Option Addr} {wc vc cc : Nat} {w : World} (h : Prob w wl vl cl wa va ca) :
    Calls Try.prog 22 #[.agg #[.int .i64 K, .int .i64 N, .int .i64 C, .slice wa wl.length wc, .slice va vl.length vc, .slice ca cl.length cc]] w
      fun e w' => e = .returned (.int .i64 (chk K N C wl vl cl)) ∧ Below w.heap.size w w' := check_any K N C wl vl cl wa va ca wc vc cc w h.1 h.2.1 h.2.2.1 h.2.2.2.1 h.2.2.2.2.1 h.2.2.2.2.2
open Classical in
theorem form_prob (K N C : Int) {wl vl : List Int} {cl : List (List Int)} (hc : chk K N C wl vl cl = 0) {wa va ca xa : Option Addr} {wc vc cc xc : Nat} {x : List Int} {w : World} (hI : Ints w xa x) (hl : x.length ≤ 1000) :
    Calls Try.prog 47 #[.agg #[.int .i64 K, .int .i64 N, .int .i64 C, .slice wa wl.length wc, .slice va vl.length vc, .slice ca cl.length cc], .slice xa x.length xc] w
      fun e w' => e = .returned (.bool (decide (okx K N x))) ∧ Below w.heap.size w w' :=
  form_any K N C (chk_zero hc).1 (fun hK => by rcases (chk_zero hc).2 with h | h <;> omega) wa va ca wl.length vl.length cl.length wc vc cc x xa xc w hI hl
theorem items_prob (N C : Int) {wl vl : List Int} {cl : List (List Int)} {x : List Int} (hc : chk 1 N C wl vl cl = 0) (ho : okx 1 N x) {wa va ca xa : Option Addr} {wc vc cc xc : Nat} {w : World} (h : Prob w wl vl cl wa va ca) (hI : Ints w xa x) :
    Calls Try.prog 48 #[.agg #[.int .i64 1, .int .i64 N, .int .i64 C, .slice wa wl.length wc, .slice va vl.length vc, .slice ca cl.length cc], .slice xa x.length xc] w
      fun e w' => e = .returned (.tuple #[.int .i64 (itemsR C wl vl x).1, .int .i64 (itemsR C wl vl x).2]) ∧ Below w.heap.size w w' := by
  obtain ⟨z0, z⟩ := chk_zero hc
  rcases z with ⟨_, z1, z2, z3, z4, z5, z6⟩ | ⟨z1, _⟩
  · have hl := ho.1
    exact itemsCost_any 1 N C wl vl x (by omega) (by omega) (by omega) (fun j hj => items_ok wl vl (by omega) z6 j (by omega)) wa va ca xa wc vc cl.length cc xc w h.1 h.2.1 hI
  · omega
theorem chk_rows {K N C : Int} {wl vl : List Int} {cl : List (List Int)} {x : List Int} (hK : K ≠ 1) (hc : chk K N C wl vl cl = 0) (ho : okx K N x) :
    cl.length = x.length ∧ 0 < x.length ∧ x.length ≤ 64 ∧ rowsP cl ∧ (∀ j, j < x.length → 0 ≤ nth x j ∧ nth x j < x.length) ∧ costE K 0 cl = 0 := by
  obtain ⟨z0, z⟩ := chk_zero hc
  rcases z with ⟨z1, _⟩ | ⟨z1, z2, z3, z4, z5, z6, z7, z8⟩
  · omega
  · have hl := ho.1
    rcases ho.2 with h | h
    · omega
    · exact ⟨by omega, by omega, by omega, z7, perm_rng h.2.2, z8⟩
theorem rows_prob (N C : Int) {wl vl : List Int} {cl : List (List Int)} {x : List Int} (hc : chk 2 N C wl vl cl = 0) (ho : okx 2 N x) {wa va ca xa : Option Addr} {wc vc cc xc : Nat} {w : World} (h : Prob w wl vl cl wa va ca) (hI : Ints w xa x) :
    Calls Try.prog 49 #[.agg #[.int .i64 2, .int .i64 N, .int .i64 C, .slice wa wl.length wc, .slice va vl.length vc, .slice ca cl.length cc], .slice xa x.length xc] w
      fun e w' => e = .returned (.int .i64 (ps (rowc cl x) x.length)) ∧ Below w.heap.size w w' := by
  obtain ⟨c1, c2, c3, c4, c5, c6⟩ := chk_rows (by decide) hc ho
  exact rowsCost_any 2 N C cl x c1 c3 c4 c5 (fun j hj => ent_ok c4 c6 _ _ (by omega) (by have := c5 j hj; omega)) wa va ca xa wl.length vl.length wc vc cc xc w h.2.2.1 hI
theorem ways_prob (N C : Int) {wl vl : List Int} {cl : List (List Int)} {x : List Int} (hc : chk 3 N C wl vl cl = 0) (ho : okx 3 N x) {wa va ca xa : Option Addr} {wc vc cc xc : Nat} {w : World} (h : Prob w wl vl cl wa va ca) (hI : Ints w xa x) :
    Calls Try.prog 50 #[.agg #[.int .i64 3, .int .i64 N, .int .i64 C, .slice wa wl.length wc, .slice va vl.length vc, .slice ca cl.length cc], .slice xa x.length xc] w
      fun e w' => e = .returned (.int .i64 (ps (wayc cl x) x.length)) ∧ Below w.heap.size w w' := by
  obtain ⟨c1, c2, c3, c4, c5, c6⟩ := chk_rows (by decide) hc ho
  exact waysCost_any 3 N C cl x c1 c2 c3 c4 c5 (fun j hj => ent_ok c4 c6 _ _ (by have : 0 ≤ hereAt x j ∧ hereAt x j < x.length := (by unfold hereAt; split; exact c5 _ (by omega); exact c5 _ (by omega)); omega) (by have := c5 j hj; omega)) wa va ca xa wl.length vl.length wc vc cc xc w h.2.2.1 hI
open Classical in
set_option maxHeartbeats 2000000 in
theorem cost_any (K N C : Int) (wl vl : List Int) (cl : List (List Int)) (x : List Int) (wa va ca xa : Option Addr) (wc vc cc xc : Nat) (w : World) (h : Prob w wl vl cl wa va ca) (hI : Ints w xa x) (hl : x.length ≤ 1000) :
    Calls Try.prog 25 #[.agg #[.int .i64 K, .int .i64 N, .int .i64 C, .slice wa wl.length wc, .slice va vl.length vc, .slice ca cl.length cc], .slice xa x.length xc] w
      fun e w' => e = .returned (.tuple #[.int .i64 (costR K N C wl vl cl x).1, .int .i64 (costR K N C wl vl cl x).2]) ∧ Below w.heap.size w w' := by
  have bA : Below w.heap.size w (w.alloc (.cells #[.int .i64 K, .int .i64 N, .int .i64 C, .slice wa wl.length wc, .slice va vl.length vc, .slice ca cl.length cc] 25)) := bl_al (Below.refl _ _) _
  have HK := Lib.hid (check_prob K N C (wc := wc) (vc := vc) (cc := cc) (h.keep bA))
  have Q := Lib.hid (heap_alloc_new w (.cells #[.int .i64 K, .int .i64 N, .int .i64 C, .slice wa wl.length wc, .slice va vl.length vc, .slice ca cl.length cc] 25))
  have BA := Lib.hid bA
  by_cases hc : chk K N C wl vl cl = 0
  · by_cases ho : okx K N x
    · have HF := Lib.hid (fun W (hb : Below w.heap.size w W) => form_prob K N C (wa := wa) (va := va) (ca := ca) (wc := wc) (vc := vc) (cc := cc) (xc := xc) hc (hI.keep hb) hl)
      have e1 : decide (okx K N x) = true := by simpa using ho
      have HF2 : Hid (∀ W, Below w.heap.size w W → Calls Try.prog 47 #[.agg #[.int .i64 K, .int .i64 N, .int .i64 C, .slice wa wl.length wc, .slice va vl.length vc, .slice ca cl.length cc], .slice xa x.length xc] W
          fun e w' => e = .returned (.bool true) ∧ Below W.heap.size W w') := fun W hb => by have := HF.out W hb; simp only [ho, decide_true] at this; exact this
      rcases (show K = 1 ∨ K = 2 ∨ K = 3 by rcases (chk_zero hc).2 with z | z <;> omega) with rfl | rfl | rfl
      · have HI := Lib.hid (fun W (hb : Below w.heap.size w W) => items_prob N C (wc := wc) (vc := vc) (cc := cc) (xc := xc) hc ho (h.keep hb) (hI.keep hb))
        rw [cost_items hc ho]
        rw [hc] at HK
        clear hc ho h hI HF e1 bA
        generalize itemsR C wl vl x = R at *
        generalize wl.length = wn at *
        generalize vl.length = vn at *
        generalize cl.length = cn at *
        generalize x.length = xn at *
        go_enter Try.func25, Try.ntmps25
        go_wp2_with fail
        refine HK.out.mono ?_; rintro e w1 ⟨rfl, hb1⟩
        obtain ⟨c0, c1, c2, c3, c4, c5⟩ := box6_keep hb1 Q.out
        have B1 := Lib.hid (bl_tr BA.out hb1)
        have HB1 := Lib.hid hb1
        clear hb1
        go_wp2_with fail
        refine (HF2.out _ B1.out).mono ?_; rintro e w2 ⟨rfl, hb2⟩
        clear c0 c1 c2 c3 c4 c5
        obtain ⟨c0, c1, c2, c3, c4, c5⟩ := box6_keep (bl_tr HB1.out hb2) Q.out
        have B2 := Lib.hid (bl_tr B1.out hb2)
        clear hb2
        go_wp2_with fail
        refine (HI.out _ B2.out).mono ?_; rintro e w3 ⟨rfl, hb3⟩
        go_wp2
        go_ret2
        exact ⟨rfl, bl_tr B2.out hb3⟩
      · have HI := Lib.hid (fun W (hb : Below w.heap.size w W) => rows_prob N C (wc := wc) (vc := vc) (cc := cc) (xc := xc) hc ho (h.keep hb) (hI.keep hb))
        rw [cost_rows hc ho]
        rw [hc] at HK
        clear hc ho h hI HF e1 bA
        generalize ps (rowc cl x) x.length = R at *
        generalize wl.length = wn at *
        generalize vl.length = vn at *
        generalize cl.length = cn at *
        generalize x.length = xn at *
        go_enter Try.func25, Try.ntmps25
        go_wp2_with fail
        refine HK.out.mono ?_; rintro e w1 ⟨rfl, hb1⟩
        obtain ⟨c0, c1, c2, c3, c4, c5⟩ := box6_keep hb1 Q.out
        have B1 := Lib.hid (bl_tr BA.out hb1)
        have HB1 := Lib.hid hb1
        clear hb1
        go_wp2_with fail
        refine (HF2.out _ B1.out).mono ?_; rintro e w2 ⟨rfl, hb2⟩
        clear c0 c1 c2 c3 c4 c5
        obtain ⟨c0, c1, c2, c3, c4, c5⟩ := box6_keep (bl_tr HB1.out hb2) Q.out
        have B2 := Lib.hid (bl_tr B1.out hb2)
        clear hb2
        go_wp2_with fail
        refine (HI.out _ B2.out).mono ?_; rintro e w3 ⟨rfl, hb3⟩
        go_wp2
        go_ret2
        exact ⟨rfl, bl_tr B2.out hb3⟩
      · have HI := Lib.hid (fun W (hb : Below w.heap.size w W) => ways_prob N C (wc := wc) (vc := vc) (cc := cc) (xc := xc) hc ho (h.keep hb) (hI.keep hb))
        rw [cost_ways hc ho]
        rw [hc] at HK
        clear hc ho h hI HF e1 bA
        generalize ps (wayc cl x) x.length = R at *
        generalize wl.length = wn at *
        generalize vl.length = vn at *
        generalize cl.length = cn at *
        generalize x.length = xn at *
        go_enter Try.func25, Try.ntmps25
        go_wp2_with fail
        refine HK.out.mono ?_; rintro e w1 ⟨rfl, hb1⟩
        obtain ⟨c0, c1, c2, c3, c4, c5⟩ := box6_keep hb1 Q.out
        have B1 := Lib.hid (bl_tr BA.out hb1)
        have HB1 := Lib.hid hb1
        clear hb1
        go_wp2_with fail
        refine (HF2.out _ B1.out).mono ?_; rintro e w2 ⟨rfl, hb2⟩
        clear c0 c1 c2 c3 c4 c5
        obtain ⟨c0, c1, c2, c3, c4, c5⟩ := box6_keep (bl_tr HB1.out hb2) Q.out
        have B2 := Lib.hid (bl_tr B1.out hb2)
        clear hb2
        go_wp2_with fail
        refine (HI.out _ B2.out).mono ?_; rintro e w3 ⟨rfl, hb3⟩
        go_wp2
        go_ret2
        exact ⟨rfl, bl_tr B2.out hb3⟩
    · have HF := Lib.hid (fun W (hb : Below w.heap.size w W) => form_prob K N C (wa := wa) (va := va) (ca := ca) (wc := wc) (vc := vc) (cc := cc) (xc := xc) hc (hI.keep hb) hl)
      have HF2 : Hid (∀ W, Below w.heap.size w W → Calls Try.prog 47 #[.agg #[.int .i64 K, .int .i64 N, .int .i64 C, .slice wa wl.length wc, .slice va vl.length vc, .slice ca cl.length cc], .slice xa x.length xc] W
          fun e w' => e = .returned (.bool false) ∧ Below W.heap.size W w') := fun W hb => by have := HF.out W hb; simp only [ho, decide_false] at this; exact this
      rw [cost_arg hc ho]
      rw [hc] at HK
      clear hc ho h hI HF bA
      generalize wl.length = wn at *
      generalize vl.length = vn at *
      generalize cl.length = cn at *
      generalize x.length = xn at *
      go_enter Try.func25, Try.ntmps25
      go_wp2_with fail
      refine HK.out.mono ?_; rintro e w1 ⟨rfl, hb1⟩
      obtain ⟨c0, c1, c2, c3, c4, c5⟩ := box6_keep hb1 Q.out
      have B1 := Lib.hid (bl_tr BA.out hb1)
      clear hb1
      go_wp2_with fail
      refine (HF2.out _ B1.out).mono ?_; rintro e w2 ⟨rfl, hb2⟩
      go_wp2
      go_ret2
      exact ⟨rfl, bl_tr B1.out hb2⟩
  · rw [cost_bad hc]
    clear h hI bA
    generalize chk K N C wl vl cl = ck at *
    have hc' : (ck == 0) = false := by simp [hc]
    generalize wl.length = wn at *
    generalize vl.length = vn at *
    generalize cl.length = cn at *
    generalize x.length = xn at *
    go_enter Try.func25, Try.ntmps25
    go_wp2_with fail
    refine HK.out.mono ?_; rintro e w1 ⟨rfl, hb1⟩
    go_wp2
    go_ret2
    exact ⟨rfl, bl_tr BA.out hb1⟩
end Go.Proofs.Ytaobaiifbmhegaa
