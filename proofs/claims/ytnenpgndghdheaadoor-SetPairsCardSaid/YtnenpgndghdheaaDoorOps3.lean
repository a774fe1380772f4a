/-
  What Full, Next, Rank and Has answer.
-/
import Derived.Test.YtnenpgndghdheaaDoorOps2
import Derived.Test.YtnenpgndghdheaaDoorSets2
namespace Go.Proofs.YtnenpgndghdheaaDoor
open Go.RowKit
set_option linter.unusedVariables false
/-- how many numbers Full has -/
def clamp (n : Int) : Int := min (max n 0) 128
theorem full_bit (n : Int) (i : Nat) (hi : i < 128) : mem (lowv (clamp n)) (lowv (clamp n - 64)) i = decide ((i : Int) < n) := by
  have hc : clamp n = min (max n 0) 128 := rfl
  by_cases h : i < 64
  · rw [mem_lo h, lowv_bit _ _ h]
    congr 1
    simp only [eq_iff_iff]; omega
  · rw [mem_hi h, lowv_bit _ _ (by omega)]
    congr 1
    simp only [eq_iff_iff]; omega
theorem full_neg (n : Int) (h : n < 0) (w : World) :
    Calls Tryd.prog 23 #[.int .i64 n] w fun e w' => e = .returned (.agg #[.int .u64 (lowv 0), .int .u64 (lowv (-64))]) ∧ Below w.heap.size w w' := by
  have H1 := Lib.hid (fun W => low_all 0 (by omega) W)
  have H2 := Lib.hid (fun W => low_all (-64) (by omega) W)
  have q1 : ¬ 0 ≤ n := by omega
  generalize lowv 0 = r0 at *
  generalize lowv (-64) = r1 at *
  go_enter Tryd.func23, Tryd.ntmps23
  go_wp2_with fail
  refine (H1.out _).mono ?_; rintro e w1 ⟨rfl, rfl⟩
  go_wp2_with fail
  refine (H2.out _).mono ?_; rintro e w1 ⟨rfl, rfl⟩
  go_wp2
  exact bodyPost_ret (v := .agg #[.int .u64 r0, .int .u64 r1]) (by simp [results, Tryd.results23, go_sem]) rfl ⟨rfl, bl_al (Below.refl _ _) _⟩
theorem full_mid (n : Int) (h0 : 0 ≤ n) (h1 : n ≤ 128) (w : World) :
    Calls Tryd.prog 23 #[.int .i64 n] w fun e w' => e = .returned (.agg #[.int .u64 (lowv n), .int .u64 (lowv (n - 64))]) ∧ Below w.heap.size w w' := by
  have H1 := Lib.hid (fun W => low_all n (by omega) W)
  have H2 := Lib.hid (fun W => low_all (n - 64) (by omega) W)
  generalize lowv n = r0 at *
  generalize lowv (n - 64) = r1 at *
  go_enter Tryd.func23, Tryd.ntmps23
  go_wp2_with fail
  refine (H1.out _).mono ?_; rintro e w1 ⟨rfl, rfl⟩
  go_wp2_with fail
  refine (H2.out _).mono ?_; rintro e w1 ⟨rfl, rfl⟩
  go_wp2
  exact bodyPost_ret (v := .agg #[.int .u64 r0, .int .u64 r1]) (by simp [results, Tryd.results23, go_sem]) rfl ⟨rfl, bl_al (Below.refl _ _) _⟩
theorem full_top (n : Int) (h : 128 < n) (w : World) :
    Calls Tryd.prog 23 #[.int .i64 n] w fun e w' => e = .returned (.agg #[.int .u64 (lowv 128), .int .u64 (lowv (64))]) ∧ Below w.heap.size w w' := by
  have H1 := Lib.hid (fun W => low_all 128 (by omega) W)
  have H2 := Lib.hid (fun W => low_all (64) (by omega) W)
  have q1 : 0 ≤ n := by omega
  have q2 : ¬ n ≤ 128 := by omega
  generalize lowv 128 = r0 at *
  generalize lowv (64) = r1 at *
  go_enter Tryd.func23, Tryd.ntmps23
  go_wp2_with fail
  refine (H1.out _).mono ?_; rintro e w1 ⟨rfl, rfl⟩
  go_wp2_with fail
  refine (H2.out _).mono ?_; rintro e w1 ⟨rfl, rfl⟩
  go_wp2
  exact bodyPost_ret (v := .agg #[.int .u64 r0, .int .u64 r1]) (by simp [results, Tryd.results23, go_sem]) rfl ⟨rfl, bl_al (Below.refl _ _) _⟩
theorem full_all (n : Int) (w : World) :
    Calls Tryd.prog 23 #[.int .i64 n] w fun e w' => e = .returned (.agg #[.int .u64 (lowv (clamp n)), .int .u64 (lowv (clamp n - 64))]) ∧ Below w.heap.size w w' := by
  by_cases h : n < 0
  · have e : clamp n = 0 := by unfold clamp; omega
    rw [e]; exact full_neg n h w
  · by_cases h1 : n ≤ 128
    · have e : clamp n = n := by unfold clamp; omega
      rw [e]; exact full_mid n (by omega) h1 w
    · have e : clamp n = 128 := by unfold clamp; omega
      rw [e]; exact full_top n (by omega) w
attribute [irreducible] clamp
theorem clamp_in (n : Int) (h0 : 0 ≤ n) (h1 : n ≤ 128) : clamp n = n := by unfold clamp; omega
set_option maxHeartbeats 1000000 in
theorem next_any (x y : Nat) (hx : x < 18446744073709551616) (hy : y < 18446744073709551616) (k : Nat) (h1 : k < 128) (w : World) (hT : T64 w) :
    Calls Tryd.prog 17 #[.agg #[.int .u64 x, .int .u64 y], .int .i64 k] w fun e w' => e = .returned (.int .i64 (fst (lst (mem x y) (k + 1) (128 - (k + 1))))) ∧ Below w.heap.size w w' := by
  have e : fst (nums (mem (anot x (lowv (clamp (k + 1)))) (anot y (lowv (clamp (k + 1) - 64))))) = fst (lst (mem x y) (k + 1) (128 - (k + 1))) := by
    rw [nums_above (f := mem x y) (k + 1) (by omega) (fun i hi => by
      rw [mem_anot _ _ _ _ _ hi, full_bit _ _ hi]
      congr 2
      simp only [decide_eq_decide]; omega)]
  rw [← e]
  clear e
  have B0 := bl_al (Below.refl w.heap.size w) (.cells #[.int .u64 x, .int .u64 y] 24)
  have q : (w.alloc (.cells #[.int .u64 x, .int .u64 y] 24)).heap[w.heap.size]? = some (.cells #[.int .u64 x, .int .u64 y] 24 (0, 0)) := by
    show (w.heap.push (Obj.cells #[.int .u64 x, .int .u64 y] 24))[w.heap.size]? = some (Obj.cells #[.int .u64 x, .int .u64 y] 24)
    simp
  have H1 := Lib.hid (fun W => full_all ((k : Int) + 1) W)
  have H2 := Lib.hid (fun W => minus_any x y (lowv (clamp (k + 1))) (lowv (clamp (k + 1) - 64)) W)
  have H3 := Lib.hid (fun (W : World) (hb : Below (w.alloc (.cells #[.int .u64 x, .int .u64 y] 24)).heap.size (w.alloc (.cells #[.int .u64 x, .int .u64 y] 24)) W) => first_any (anot x (lowv (clamp (k + 1)))) (anot y (lowv (clamp (k + 1) - 64))) (anot_lt _ _) (anot_lt _ _) W ((hT.keep B0).keep hb))
  generalize fst (nums (mem (anot x (lowv (clamp (k + 1)))) (anot y (lowv (clamp (k + 1) - 64))))) = r at *
  generalize anot x (lowv (clamp (k + 1))) = a0 at *
  generalize anot y (lowv (clamp (k + 1) - 64)) = a1 at *
  generalize lowv (clamp (k + 1)) = f0 at *
  generalize lowv (clamp (k + 1) - 64) = f1 at *
  have g1 : ¬ (128 : Int) ≤ (k : Int) := by omega
  have g2 : IntKind.i64.wrap ((k : Int) + 1) = (k : Int) + 1 := IntWalk.i64_in _ (by omega)
  clear hT
  go_enter Tryd.func17, Tryd.ntmps17
  go_wp2
  have B := Lib.hid B0
  have Q := Lib.hid q
  clear B0 q
  generalize w.alloc (.cells #[.int .u64 x, .int .u64 y] 24) = X at *
  obtain ⟨c0, c1⟩ := two_keep (Below.refl _ _) Q.out
  go_region_with (first
    | (go_at_call 23; with_reducible refine (H1.out _).mono ?_; rintro e w1 ⟨rfl, hb1⟩; obtain ⟨k0, k1⟩ := two_keep hb1 Q.out)
    | (go_at_call 10; with_reducible refine (H2.out _).mono ?_; rintro e w2 ⟨rfl, hb2⟩; have hb3 := bl_tr hb1 hb2; obtain ⟨m0, m1⟩ := two_keep hb3 Q.out)
    | (go_at_call 16; refine (H3.out _ (bl_undr hb3)).mono ?_; rintro e w3 ⟨rfl, hb4⟩; have hb5 := bl_tr hb3 hb4))
  all_goals
    go_wp2
    go_ret
    exact ⟨rfl, B.out.trans ((bl_undr hb5).mono B.out.size)⟩
set_option maxHeartbeats 1000000 in
theorem rank_any (x y : Nat) (hx : x < 18446744073709551616) (hy : y < 18446744073709551616) (k : Nat) (h1 : k ≤ 128) (w : World) :
    Calls Tryd.prog 18 #[.agg #[.int .u64 x, .int .u64 y], .int .i64 k] w fun e w' => e = .returned (.int .i64 (lst (mem x y) 0 k).length) ∧ Below w.heap.size w w' := by
  have e : (nums (mem (x &&& lowv (clamp k)) (y &&& lowv (clamp k - 64)))).length = (lst (mem x y) 0 k).length := by
    rw [nums_below (f := mem x y) k h1 (fun i hi => by
      rw [mem_and, full_bit _ _ hi]
      congr 1
      simp only [decide_eq_decide]; omega)]
  rw [← e]
  clear e
  have B0 := bl_al (Below.refl w.heap.size w) (.cells #[.int .u64 x, .int .u64 y] 24)
  have q : (w.alloc (.cells #[.int .u64 x, .int .u64 y] 24)).heap[w.heap.size]? = some (.cells #[.int .u64 x, .int .u64 y] 24 (0, 0)) := by
    show (w.heap.push (Obj.cells #[.int .u64 x, .int .u64 y] 24))[w.heap.size]? = some (Obj.cells #[.int .u64 x, .int .u64 y] 24)
    simp
  have H1 := Lib.hid (fun W => full_all (k : Int) W)
  have H2 := Lib.hid (fun W => and_any x y (lowv (clamp k)) (lowv (clamp k - 64)) hx hy (lowv_lt _) (lowv_lt _) W)
  have H3 := Lib.hid (fun W => count_any (x &&& lowv (clamp k)) (y &&& lowv (clamp k - 64)) (Nat.lt_of_le_of_lt Nat.and_le_left hx) (Nat.lt_of_le_of_lt Nat.and_le_left hy) W)
  generalize (nums (mem (x &&& lowv (clamp k)) (y &&& lowv (clamp k - 64)))).length = r at *
  generalize x &&& lowv (clamp k) = a0 at *
  generalize y &&& lowv (clamp k - 64) = a1 at *
  generalize lowv (clamp k) = f0 at *
  generalize lowv (clamp k - 64) = f1 at *
  go_enter Tryd.func18, Tryd.ntmps18
  go_wp2
  have B := Lib.hid B0
  have Q := Lib.hid q
  clear B0 q
  generalize w.alloc (.cells #[.int .u64 x, .int .u64 y] 24) = X at *
  obtain ⟨c0, c1⟩ := two_keep (Below.refl _ _) Q.out
  go_region_with (first
    | (go_at_call 23; with_reducible refine (H1.out _).mono ?_; rintro e w1 ⟨rfl, hb1⟩; obtain ⟨k0, k1⟩ := two_keep hb1 Q.out)
    | (go_at_call 8; with_reducible refine (H2.out _).mono ?_; rintro e w2 ⟨rfl, hb2⟩; have hb3 := bl_tr hb1 hb2; obtain ⟨m0, m1⟩ := two_keep hb3 Q.out)
    | (go_at_call 21; with_reducible refine (H3.out _).mono ?_; rintro e w3 ⟨rfl, hb4⟩; have hb5 := bl_tr hb3 hb4))
  all_goals
    go_wp2
    go_ret
    exact ⟨rfl, B.out.trans ((bl_undr hb5).mono B.out.size)⟩
end Go.Proofs.YtnenpgndghdheaaDoor
