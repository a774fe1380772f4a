/-
  What inst.Check answers of every problem whose lists lie in memory.
-/
import Derived.Test.YteoionlnnjcggaaChk3
namespace Go.Proofs.Yteoionlnnjcggaa
open Go.RowKit
set_option linter.unusedVariables false

open Classical in
/-- the first thing that is wrong with a problem, 0: nothing -/
noncomputable def chk (K N C : Int) (wl vl : List Int) (cl : List (List Int)) : Int :=
  if K < 1 ∨ 3 < K then 14 else if N < 1 then 1 else if (K = 1 ∧ 64 < N) ∨ (K ≠ 1 ∧ 24 < N) then 5 else if ¬ formP K N C wl.length vl.length cl then 8
  else if K = 1 then (if num C = 0 then itemsE wl vl else num C) else costE K 0 cl
theorem chk_kind {K N C : Int} {wl vl : List Int} {cl : List (List Int)} (h : K < 1 ∨ 3 < K) : chk K N C wl vl cl = 14 := by unfold chk; rw [if_pos h]
theorem chk_arg {K N C : Int} {wl vl : List Int} {cl : List (List Int)} (h : ¬ (K < 1 ∨ 3 < K)) (h1 : N < 1) : chk K N C wl vl cl = 1 := by unfold chk; rw [if_neg h, if_pos h1]
theorem chk_big {K N C : Int} {wl vl : List Int} {cl : List (List Int)} (h : ¬ (K < 1 ∨ 3 < K)) (h1 : ¬ N < 1) (h2 : (K = 1 ∧ 64 < N) ∨ (K ≠ 1 ∧ 24 < N)) : chk K N C wl vl cl = 5 := by unfold chk; rw [if_neg h, if_neg h1, if_pos h2]
theorem chk_form {K N C : Int} {wl vl : List Int} {cl : List (List Int)} (h : ¬ (K < 1 ∨ 3 < K)) (h1 : ¬ N < 1) (h2 : ¬ ((K = 1 ∧ 64 < N) ∨ (K ≠ 1 ∧ 24 < N))) (h3 : ¬ formP K N C wl.length vl.length cl) : chk K N C wl vl cl = 8 := by
  unfold chk; rw [if_neg h, if_neg h1, if_neg h2, if_pos h3]
theorem chk_items {K N C : Int} {wl vl : List Int} {cl : List (List Int)} (h : ¬ (K < 1 ∨ 3 < K)) (h1 : ¬ N < 1) (h2 : ¬ ((K = 1 ∧ 64 < N) ∨ (K ≠ 1 ∧ 24 < N))) (h3 : formP K N C wl.length vl.length cl) (h4 : K = 1) : chk K N C wl vl cl = if num C = 0 then itemsE wl vl else num C := by
  unfold chk; rw [if_neg h, if_neg h1, if_neg h2, if_neg (by simpa using h3), if_pos h4]
theorem chk_costs {K N C : Int} {wl vl : List Int} {cl : List (List Int)} (h : ¬ (K < 1 ∨ 3 < K)) (h1 : ¬ N < 1) (h2 : ¬ ((K = 1 ∧ 64 < N) ∨ (K ≠ 1 ∧ 24 < N))) (h3 : formP K N C wl.length vl.length cl) (h4 : ¬ K = 1) : chk K N C wl vl cl = costE K 0 cl := by
  unfold chk; rw [if_neg h, if_neg h1, if_neg h2, if_neg (by simpa using h3), if_neg h4]
theorem form_items {K N C : Int} {wn vn : Nat} {cl : List (List Int)} (h : formP K N C wn vn cl) (h4 : K = 1) : (wn : Int) = N ∧ (vn : Int) = N ∧ cl.length = 0 := by
  unfold formP at h
  rcases h with h | h
  · exact h.2
  · exact absurd h4 h.1
theorem form_costs {K N C : Int} {wn vn : Nat} {cl : List (List Int)} (h : formP K N C wn vn cl) (h4 : K ≠ 1) : (cl.length : Int) = N ∧ C = 0 ∧ wn = 0 ∧ vn = 0 ∧ rowsP cl := by
  unfold formP at h
  rcases h with h | h
  · exact absurd h.1 h4
  · exact h.2
attribute [irreducible] chk
theorem box_cells {w w2 : World} {v0 v1 v2 v3 v4 v5 : Value} (hb : Below (w.alloc (.cells #[v0, v1, v2, v3, v4, v5] 25)).heap.size (w.alloc (.cells #[v0, v1, v2, v3, v4, v5] 25)) w2) :
    (w2.cell? ⟨w.heap.size, 0, none⟩ = some v0 ∧ w2.cell? ⟨w.heap.size, 1, none⟩ = some v1 ∧ w2.cell? ⟨w.heap.size, 2, none⟩ = some v2 ∧ w2.cell? ⟨w.heap.size, 3, none⟩ = some v3 ∧ w2.cell? ⟨w.heap.size, 4, none⟩ = some v4 ∧ w2.cell? ⟨w.heap.size, 5, none⟩ = some v5) ∧ Below w.heap.size w w2 := by
  have q : w2.heap[w.heap.size]? = some (.cells #[v0, v1, v2, v3, v4, v5] 25 (0, 0)) := (hb.block _ (by simp)).trans (heap_alloc_new w _)
  exact ⟨⟨cell_of_row _ _ 0 _ _ _ q, cell_of_row _ _ 1 _ _ _ q, cell_of_row _ _ 2 _ _ _ q, cell_of_row _ _ 3 _ _ _ q, cell_of_row _ _ 4 _ _ _ q, cell_of_row _ _ 5 _ _ _ q⟩, bl_tr (bl_al (Below.refl _ _) _) hb⟩
set_option maxHeartbeats 2000000 in
theorem check_any (K N C : Int) (wl vl : List Int) (cl : List (List Int)) (wa va ca : Option Addr) (wc vc cc : Nat) (w : World) (hw : Ints w wa wl) (hv : Ints w va vl) (hr : Rws w ca cl)
    (l1 : wl.length ≤ 1000) (l2 : vl.length ≤ 1000) (l3 : cl.length ≤ 1000) :
    Calls Try.prog 28 #[.agg #[.int .i64 K, .int .i64 N, .int .i64 C, .slice wa wl.length wc, .slice va vl.length vc, .slice ca cl.length cc]] w
      fun e w' => e = .returned (.int .i64 (chk K N C wl vl cl)) ∧ Below w.heap.size w w' := by
  have HN := Lib.hid (fun W => name_any K W)
  have bA : ∀ o, Below w.heap.size w (w.alloc o) := fun o => bl_al (Below.refl _ _) _
  by_cases hK : K < 1 ∨ 3 < K
  · have hs : nameOf K = [] := by unfold nameOf; rw [if_neg (by omega), if_neg (by omega), if_neg (by omega)]
    rw [hs] at HN
    rw [chk_kind hK]
    clear hw hv hr hs
    by_cases h1 : K = 1
    · omega
    · clear hK
      go_enter Try.func28, Try.ntmps28
      go_wp2_with fail
      refine (HN.out _).mono ?_; rintro e w1 ⟨rfl, rfl⟩
      go_wp2
      go_ret
      exact ⟨rfl, bl_al (Below.refl _ _) _⟩
  · have HK := Lib.hid hK
    by_cases h1 : N < 1
    · rw [chk_arg hK h1]
      clear hw hv hr
      obtain rfl | rfl | rfl : K = 1 ∨ K = 2 ∨ K = 3 := by omega
      all_goals
        clear hK
        go_enter Try.func28, Try.ntmps28
        go_wp2_with fail
        refine (HN.out _).mono ?_; rintro e w1 ⟨rfl, rfl⟩
        go_wp2
        go_ret
        exact ⟨rfl, bl_al (Below.refl _ _) _⟩
    · by_cases h2 : (K = 1 ∧ 64 < N) ∨ (K ≠ 1 ∧ 24 < N)
      · rw [chk_big hK h1 h2]
        clear hw hv hr
        obtain rfl | rfl | rfl : K = 1 ∨ K = 2 ∨ K = 3 := by omega
        all_goals
          first
            | (have h3 : 64 < N := by omega)
            | (have h3 : 24 < N := by omega)
          clear hK h2
          go_enter Try.func28, Try.ntmps28
          go_wp2_with fail
          refine (HN.out _).mono ?_; rintro e w1 ⟨rfl, rfl⟩
          go_wp2
          go_ret
          exact ⟨rfl, bl_al (Below.refl _ _) _⟩
      · by_cases h3 : formP K N C wl.length vl.length cl
        · have HF := Lib.hid (fun o => inform_any K N C true wl.length vl.length cl ⟨fun _ => h3, fun _ => rfl⟩ wa va ca wc vc cc (w.alloc o) (hr.keep (bA o)) l3)
          have HW := Lib.hid hw
          have HV := Lib.hid hv
          have HR := Lib.hid hr
          clear hw hv hr
          by_cases h4 : K = 1
          · rw [chk_items hK h1 h2 h3 h4]
            obtain ⟨f1, f2, f3⟩ := form_items h3 h4
            have HI := Lib.hid (fun W (hb : Below w.heap.size w W) => items_any K N C wl vl wa va ca wc vc cl.length cc W (HW.out.keep hb) (HV.out.keep hb) (by omega) l1)
            have b64 : N ≤ 64 := by omega
            clear hK h2 h3 f1 f2 f3 bA
            subst h4
            generalize (if num C = 0 then itemsE wl vl else num C) = r at *
            go_enter Try.func28, Try.ntmps28
            go_wp2_with fail
            refine (HN.out _).mono ?_; rintro e w1 ⟨rfl, rfl⟩
            go_wp2_with fail
            refine (HF.out _).mono ?_; rintro e w2 ⟨rfl, hb2⟩
            obtain ⟨⟨c0, c1, c2, c3, c4, c5⟩, bl⟩ := box_cells hb2
            have BL := Lib.hid bl
            clear hb2 bl
            go_wp2_with fail
            refine (HI.out _ BL.out).mono ?_; rintro e w3 ⟨rfl, hb3⟩
            clear c0 c1 c2 c3 c4 c5
            go_wp2
            go_ret
            exact ⟨rfl, bl_tr BL.out hb3⟩
          · rw [chk_costs hK h1 h2 h3 h4]
            have HI := Lib.hid (fun W (hb : Below w.heap.size w W) => costs_any K N C cl wa va ca wl.length vl.length wc vc cc W (HR.out.keep hb) l3)
            have b24 : N ≤ 24 := by omega
            clear h2 h3 bA
            generalize hrr : costE K 0 cl = r at *
            clear hrr
            obtain rfl | rfl : K = 2 ∨ K = 3 := by omega
            all_goals
              clear hK h4
              go_enter Try.func28, Try.ntmps28
              go_wp2_with fail
              refine (HN.out _).mono ?_; rintro e w1 ⟨rfl, rfl⟩
              go_wp2_with fail
              refine (HF.out _).mono ?_; rintro e w2 ⟨rfl, hb2⟩
              obtain ⟨⟨c0, c1, c2, c3, c4, c5⟩, bl⟩ := box_cells hb2
              have BL := Lib.hid bl
              clear hb2 bl
              go_wp2_with fail
              refine (HI.out _ BL.out).mono ?_; rintro e w3 ⟨rfl, hb3⟩
              clear c0 c1 c2 c3 c4 c5
              go_wp2
              go_ret
              exact ⟨rfl, bl_tr BL.out hb3⟩
        · rw [chk_form hK h1 h2 h3]
          have HF := Lib.hid (fun o => inform_any K N C false wl.length vl.length cl ⟨fun h => (by cases h), fun h => absurd h h3⟩ wa va ca wc vc cc (w.alloc o) (hr.keep (bA o)) l3)
          clear hw hv hr h3 bA
          obtain rfl | rfl | rfl : K = 1 ∨ K = 2 ∨ K = 3 := by omega
          all_goals
            first
              | (have b24 : N ≤ 24 := by omega)
              | (have b64 : N ≤ 64 := by omega)
            clear hK h2
            go_enter Try.func28, Try.ntmps28
            go_wp2_with fail
            refine (HN.out _).mono ?_; rintro e w1 ⟨rfl, rfl⟩
            go_wp2_with fail
            refine (HF.out _).mono ?_; rintro e w2 ⟨rfl, hb2⟩
            obtain ⟨-, bl⟩ := box_cells hb2
            clear hb2
            go_wp2
            go_ret
            exact ⟨rfl, bl⟩
end Go.Proofs.Yteoionlnnjcggaa
