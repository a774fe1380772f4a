/-
  The walk through kurganlaw17.TapeMakes.
-/
import Derived.Test.YtdeflnnbnabbgaaTapes
import Derived.Test.YtdeflnnbnabbgaaMix
namespace Go.Proofs.Ytdeflnnbnabbgaa
open Go.RowKit
set_option linter.unusedVariables false
theorem same_eq (l : List Int) (hl : l.length ≤ 2500) (a b : Option Addr) (c d : Nat) (X : World) (h1 : Ints X a l) (h2 : Ints X b l) :
    Calls Try.prog 15 #[.slice a l.length c, .slice b l.length d] X fun e X' => e = .returned (.bool true) ∧ Below X.heap.size X X' := by
  have h := same_any l l hl hl a b c d X h1 h2
  rwa [show decide (l = l) = true by simp] at h
set_option maxRecDepth 100000 in
set_option maxHeartbeats 8000000 in
theorem makes_core (n a b count c s : Int) (hc : (2000 < count ∧ count ≤ 1000000 ∧ count.tmod 2000 = c ∧ count % 2000 = c) ∨ ((count ≤ 2000 ∨ 1000000 < count) ∧ count = c)) (hb : b ≤ 9223372036854775807) (hs : IntKind.u64.wrap b = s) (w : World) :
    Calls Try.prog 4 #[.int .i64 n, .agg #[.int .i64 a, .int .i64 b], .int .i64 count] w fun e w' => e = .returned (.bool true) ∧ Below w.heap.size w w' := by
  have hcc : c ≤ 2500 ∨ 1000000 < c := by omega
  have R1 := Lib.hid (fun U => rfavor_any n 0 1 c (by decide) hcc U)
  have F1 := Lib.hid (fun U => round_any n c hcc U)
  have F2 := Lib.hid (fun U => favor_any n a b c hb hcc U)
  have R2 := Lib.hid (fun U => rfavor_any n a b c hb hcc U)
  have F3 := Lib.hid (fun U => mixed_any n c s hcc U)
  have R3 := Lib.hid (fun U => rmixed_any n c s hcc U)
  have N1 := Lib.hid (FAV_len n 0 1 c hcc)
  have N2 := Lib.hid (FAV_len n a b c hcc)
  have N3 := Lib.hid (MIX_len n c s hcc)
  generalize FAV n 0 1 c = L1 at *
  generalize FAV n a b c = L2 at *
  generalize MIX n c s = L3 at *
  have HB := Lib.hid (bl_al (Below.refl _ w) (.cells #[.int .i64 a, .int .i64 b] 34))
  have hnew := heap_alloc_new w (.cells #[.int .i64 a, .int .i64 b] 34 (0, 0))
  have HK : Hid (∀ X, Below (w.alloc (.cells #[.int .i64 a, .int .i64 b] 34)).heap.size (w.alloc (.cells #[.int .i64 a, .int .i64 b] 34)) X → X.cell? ⟨w.heap.size, 0, none⟩ = some (.int .i64 a) ∧ X.cell? ⟨w.heap.size, 1, none⟩ = some (.int .i64 b)) := fun X h => by
    exact ⟨(h.cell (p := ⟨w.heap.size, 0, none⟩) (by simp)).trans (by simp), (h.cell (p := ⟨w.heap.size, 1, none⟩) (by simp)).trans (by simp)⟩
  have HBB : Hid (Below (w.alloc (.cells #[.int .i64 a, .int .i64 b] 34)).heap.size (w.alloc (.cells #[.int .i64 a, .int .i64 b] 34)) (w.alloc (.cells #[.int .i64 a, .int .i64 b] 34))) := Below.refl _ _
  have HS := Lib.hid hs
  clear hs hnew hcc hb
  rcases hc with ⟨c1, c2, c3, c4⟩ | ⟨c1 | c1, rfl⟩
  · have hsr := HS.out
    skip
    go_enter Try.func4, Try.ntmps4
    go_wp2_with fail
    refine (R1.out _).mono ?_; rintro E X1 ⟨v, rfl, a0, q0, rfl, i0, b1⟩
    have BB := Lib.hid (bl_tr (bl_tr HBB.out b1) (bl_drew X1))
    have K := Lib.hid (HK.out _ BB.out)
    have I0 := Lib.hid (i0.keep (bl_drew X1))
    clear i0 b1 R1 HBB
    go_wp2
    go_region_held3 (fun w' => w'.cell? ⟨w.heap.size, 0, none⟩ = some (.int .i64 a) ∧ w'.cell? ⟨w.heap.size, 1, none⟩ = some (.int .i64 b))
      (exact K.out)
      (first
        | (go_at_call 8; (with_reducible refine (tapes_any _).mono ?_); rintro e x1 ⟨rfl, hb⟩; have I0 := Lib.hid (I0.out.keep hb); have BB := Lib.hid (bl_tr BB.out hb); have K := Lib.hid (HK.out _ BB.out); clear hb)
        | (go_at_call 15; (with_reducible refine (same_eq _ ?_ _ _ _ _ _ ?_ ?_).mono ?_); (first | exact N1.out | exact N2.out | exact N3.out); exact I1.out; exact I0.out; rintro e x1 ⟨rfl, hb⟩; have BB := Lib.hid (bl_tr BB.out hb); have K := Lib.hid (HK.out _ BB.out); clear hb)
        | (go_at_call 16; (with_reducible refine (F1.out _).mono ?_); rintro e x1 ⟨v1, rfl, a1, q1, rfl, i1, hb⟩; have I0 := Lib.hid (I0.out.keep hb); have I1 := Lib.hid i1; have BB := Lib.hid (bl_tr BB.out hb); have K := Lib.hid (HK.out _ BB.out); clear hb i1)
        | (go_at_call 17; (with_reducible refine (F2.out _).mono ?_); rintro e x1 ⟨v1, rfl, a1, q1, rfl, i1, hb⟩; have I1 := Lib.hid i1; have BB := Lib.hid (bl_tr BB.out hb); have K := Lib.hid (HK.out _ BB.out); clear hb i1)
        | (go_at_call 14; (with_reducible refine (R2.out _).mono ?_); rintro e x1 ⟨v1, rfl, a1, q1, rfl, i1, hb⟩; have I1 := Lib.hid (I1.out.keep hb); have I0 := Lib.hid i1; have BB := Lib.hid (bl_tr BB.out hb); have K := Lib.hid (HK.out _ BB.out); clear hb i1)
        | (go_at_call 18; (with_reducible refine (F3.out _).mono ?_); rintro e x1 ⟨v1, rfl, a1, q1, rfl, i1, hb⟩; have I1 := Lib.hid i1; have BB := Lib.hid (bl_tr BB.out hb); have K := Lib.hid (HK.out _ BB.out); clear hb i1)
        | (go_at_call 19; (with_reducible refine (R3.out _).mono ?_); rintro e x1 ⟨v1, rfl, a1, q1, rfl, i1, hb⟩; have I1 := Lib.hid (I1.out.keep hb); have I0 := Lib.hid i1; have BB := Lib.hid (bl_tr BB.out hb); have K := Lib.hid (HK.out _ BB.out); clear hb i1))
    all_goals go_wp2
    all_goals
      go_ret
      exact ⟨rfl, bl_tr HB.out BB.out⟩
  · have hsr := HS.out
    skip
    go_enter Try.func4, Try.ntmps4
    go_wp2_with fail
    refine (R1.out _).mono ?_; rintro E X1 ⟨v, rfl, a0, q0, rfl, i0, b1⟩
    have BB := Lib.hid (bl_tr (bl_tr HBB.out b1) (bl_drew X1))
    have K := Lib.hid (HK.out _ BB.out)
    have I0 := Lib.hid (i0.keep (bl_drew X1))
    clear i0 b1 R1 HBB
    go_wp2
    go_region_held3 (fun w' => w'.cell? ⟨w.heap.size, 0, none⟩ = some (.int .i64 a) ∧ w'.cell? ⟨w.heap.size, 1, none⟩ = some (.int .i64 b))
      (exact K.out)
      (first
        | (go_at_call 8; (with_reducible refine (tapes_any _).mono ?_); rintro e x1 ⟨rfl, hb⟩; have I0 := Lib.hid (I0.out.keep hb); have BB := Lib.hid (bl_tr BB.out hb); have K := Lib.hid (HK.out _ BB.out); clear hb)
        | (go_at_call 15; (with_reducible refine (same_eq _ ?_ _ _ _ _ _ ?_ ?_).mono ?_); (first | exact N1.out | exact N2.out | exact N3.out); exact I1.out; exact I0.out; rintro e x1 ⟨rfl, hb⟩; have BB := Lib.hid (bl_tr BB.out hb); have K := Lib.hid (HK.out _ BB.out); clear hb)
        | (go_at_call 16; (with_reducible refine (F1.out _).mono ?_); rintro e x1 ⟨v1, rfl, a1, q1, rfl, i1, hb⟩; have I0 := Lib.hid (I0.out.keep hb); have I1 := Lib.hid i1; have BB := Lib.hid (bl_tr BB.out hb); have K := Lib.hid (HK.out _ BB.out); clear hb i1)
        | (go_at_call 17; (with_reducible refine (F2.out _).mono ?_); rintro e x1 ⟨v1, rfl, a1, q1, rfl, i1, hb⟩; have I1 := Lib.hid i1; have BB := Lib.hid (bl_tr BB.out hb); have K := Lib.hid (HK.out _ BB.out); clear hb i1)
        | (go_at_call 14; (with_reducible refine (R2.out _).mono ?_); rintro e x1 ⟨v1, rfl, a1, q1, rfl, i1, hb⟩; have I1 := Lib.hid (I1.out.keep hb); have I0 := Lib.hid i1; have BB := Lib.hid (bl_tr BB.out hb); have K := Lib.hid (HK.out _ BB.out); clear hb i1)
        | (go_at_call 18; (with_reducible refine (F3.out _).mono ?_); rintro e x1 ⟨v1, rfl, a1, q1, rfl, i1, hb⟩; have I1 := Lib.hid i1; have BB := Lib.hid (bl_tr BB.out hb); have K := Lib.hid (HK.out _ BB.out); clear hb i1)
        | (go_at_call 19; (with_reducible refine (R3.out _).mono ?_); rintro e x1 ⟨v1, rfl, a1, q1, rfl, i1, hb⟩; have I1 := Lib.hid (I1.out.keep hb); have I0 := Lib.hid i1; have BB := Lib.hid (bl_tr BB.out hb); have K := Lib.hid (HK.out _ BB.out); clear hb i1))
    all_goals go_wp2
    all_goals
      go_ret
      exact ⟨rfl, bl_tr HB.out BB.out⟩
  · have hsr := HS.out
    have c2 : ¬ count ≤ 1000000 := by omega
    have c3 : decide (count ≤ 1000000) = false := decide_eq_false c2
    go_enter Try.func4, Try.ntmps4
    go_wp2_with fail
    refine (R1.out _).mono ?_; rintro E X1 ⟨v, rfl, a0, q0, rfl, i0, b1⟩
    have BB := Lib.hid (bl_tr (bl_tr HBB.out b1) (bl_drew X1))
    have K := Lib.hid (HK.out _ BB.out)
    have I0 := Lib.hid (i0.keep (bl_drew X1))
    clear i0 b1 R1 HBB
    go_wp2
    go_region_held3 (fun w' => w'.cell? ⟨w.heap.size, 0, none⟩ = some (.int .i64 a) ∧ w'.cell? ⟨w.heap.size, 1, none⟩ = some (.int .i64 b))
      (exact K.out)
      (first
        | (go_at_call 8; (with_reducible refine (tapes_any _).mono ?_); rintro e x1 ⟨rfl, hb⟩; have I0 := Lib.hid (I0.out.keep hb); have BB := Lib.hid (bl_tr BB.out hb); have K := Lib.hid (HK.out _ BB.out); clear hb)
        | (go_at_call 15; (with_reducible refine (same_eq _ ?_ _ _ _ _ _ ?_ ?_).mono ?_); (first | exact N1.out | exact N2.out | exact N3.out); exact I1.out; exact I0.out; rintro e x1 ⟨rfl, hb⟩; have BB := Lib.hid (bl_tr BB.out hb); have K := Lib.hid (HK.out _ BB.out); clear hb)
        | (go_at_call 16; (with_reducible refine (F1.out _).mono ?_); rintro e x1 ⟨v1, rfl, a1, q1, rfl, i1, hb⟩; have I0 := Lib.hid (I0.out.keep hb); have I1 := Lib.hid i1; have BB := Lib.hid (bl_tr BB.out hb); have K := Lib.hid (HK.out _ BB.out); clear hb i1)
        | (go_at_call 17; (with_reducible refine (F2.out _).mono ?_); rintro e x1 ⟨v1, rfl, a1, q1, rfl, i1, hb⟩; have I1 := Lib.hid i1; have BB := Lib.hid (bl_tr BB.out hb); have K := Lib.hid (HK.out _ BB.out); clear hb i1)
        | (go_at_call 14; (with_reducible refine (R2.out _).mono ?_); rintro e x1 ⟨v1, rfl, a1, q1, rfl, i1, hb⟩; have I1 := Lib.hid (I1.out.keep hb); have I0 := Lib.hid i1; have BB := Lib.hid (bl_tr BB.out hb); have K := Lib.hid (HK.out _ BB.out); clear hb i1)
        | (go_at_call 18; (with_reducible refine (F3.out _).mono ?_); rintro e x1 ⟨v1, rfl, a1, q1, rfl, i1, hb⟩; have I1 := Lib.hid i1; have BB := Lib.hid (bl_tr BB.out hb); have K := Lib.hid (HK.out _ BB.out); clear hb i1)
        | (go_at_call 19; (with_reducible refine (R3.out _).mono ?_); rintro e x1 ⟨v1, rfl, a1, q1, rfl, i1, hb⟩; have I1 := Lib.hid (I1.out.keep hb); have I0 := Lib.hid i1; have BB := Lib.hid (bl_tr BB.out hb); have K := Lib.hid (HK.out _ BB.out); clear hb i1))
    all_goals go_wp2
    all_goals
      go_ret
      exact ⟨rfl, bl_tr HB.out BB.out⟩
theorem tapeMakes_walk (n a b count : Int) (w : World) (hb : (Lit.int .i64 b).wf = true) :
    Calls Try.prog 4 #[.int .i64 n, .agg #[.int .i64 a, .int .i64 b], .int .i64 count] w fun e w' => e = .returned (.bool true) ∧ Below w.heap.size w w' := by
  have h := bounds_i64 hb
  by_cases hc : 2000 < count ∧ count ≤ 1000000
  · exact makes_core n a b count (count % 2000) _ (.inl ⟨hc.1, hc.2, Int.tmod_eq_emod_of_nonneg (by omega), rfl⟩) h.2 rfl w
  · exact makes_core n a b count count _ (.inr ⟨by omega, rfl⟩) h.2 rfl w
end Go.Proofs.Ytdeflnnbnabbgaa
