/-
  What the reference's Minus answers.
-/
import Derived.Test.YtdeggnefbkcegaaArRef
namespace Go.Proofs.Ytdeggnefbkcegaa.ar
open Go.RowKit
set_option linter.unusedVariables false


set_option maxRecDepth 100000 in
theorem minus_loop (x y : Nat) (hyx : y ≤ x) (w : World) :
    Calls Try.prog 46 #[.agg #[.int .i64 (dg x 0), .int .i64 (dg x 1), .int .i64 (dg x 2), .int .i64 (dg x 3), .int .i64 (dg x 4), .int .i64 (dg x 5), .int .i64 (dg x 6), .int .i64 (dg x 7), .int .i64 (dg x 8)], .agg #[.int .i64 (dg y 0), .int .i64 (dg y 1), .int .i64 (dg y 2), .int .i64 (dg y 3), .int .i64 (dg y 4), .int .i64 (dg y 5), .int .i64 (dg y 6), .int .i64 (dg y 7), .int .i64 (dg y 8)]] w fun e w' => e = .returned (.agg #[.int .i64 (dg (x - y) 0), .int .i64 (dg (x - y) 1), .int .i64 (dg (x - y) 2), .int .i64 (dg (x - y) 3), .int .i64 (dg (x - y) 4), .int .i64 (dg (x - y) 5), .int .i64 (dg (x - y) 6), .int .i64 (dg (x - y) 7), .int .i64 (dg (x - y) 8)]) ∧ Below w.heap.size w w' := by
  have S := BL.start w x y (x - y)
  go_enter Try.func46, Try.ntmps46
  go_wp2_with fail
  go_loopw [6, 7] (fun s t wr => ∃ k : Nat, k ≤ 9 ∧ t = .int .i64 k ∧ s = .int .i64 (bw x y k) ∧ BL w wr x y (x - y) k) (fun _ t _ => 9 - (intOf t).toNat)
  case atStart => exact ⟨0, by omega, rfl, by rw [bw_zero], S⟩
  case round =>
    obtain ⟨k, hk, rfl, rfl, hb⟩ := hrel
    clear S
    by_cases hlt : k < 9
    · have fa := hb.ca k hlt
      have fb := hb.cb k hlt
      have fc := hb.cc hlt
      have ff := hb.fc k
      obtain ⟨ax1, ax2⟩ := dg_b x k
      obtain ⟨ay1, ay2⟩ := dg_b y k
      obtain ⟨az1, az2⟩ := dg_b (x - y) k
      obtain ⟨ac1, ac2⟩ := bw_b x y k
      have w1 : IntKind.i64.wrap (dg x k - dg y k) = dg x k - dg y k := IntWalk.i64_in _ (by omega)
      have w2 : IntKind.i64.wrap (dg x k - dg y k - bw x y k) = dg x k - dg y k - bw x y k := IntWalk.i64_in _ (by omega)
      have k1 : (0 : Int) ≤ (k : Int) := by omega
      have k2 : (k : Int) < 9 := by omega
      have st := fun n => (hb.drewN n).step hlt
      clear hb
      by_cases hneg : dg x k - dg y k - bw x y k < 0
      · obtain ⟨e1, e2⟩ := dg_sub_neg x y k hyx hneg
        have H2 := Lib.hid e2
        clear e2
        go_wp2
        go_quiet (fail)
        go_wp2
        go_roundw
        case rel => exact ⟨k + 1, by omega, by go_num, by rw [H2.out], st _⟩
        case measure => simp [intOf]; omega
      · obtain ⟨e1, e2⟩ := dg_sub_pos x y k hyx hneg
        have H2 := Lib.hid e2
        clear e2 hneg
        go_wp2
        go_quiet (fail)
        go_wp2
        go_roundw
        case rel => exact ⟨k + 1, by omega, by go_num, by rw [H2.out], st _⟩
        case measure => simp [intOf]; omega
    · obtain rfl : k = 9 := by omega
      have F := BL.out hb
      have bl := hb.bl
      have BR := Lib.hid hb.br
      obtain ⟨c0, c1, c2, c3, c4, c5, c6, c7, c8, r0, r1, r2, r3, r4, r5, r6, r7, r8, ff⟩ := F
      clear hb hlt hk
      go_wp2
      exact bodyPost_ret (results_cell_row Try.results46 _ _ (w.heap.size + 1 + 1) 76 _ (0, 0) _ rfl (nine _ _ BR.out _ _ _ _ _ _ _ _ _) Try.underlying76 rfl (by kernel_rfl)) rfl ⟨rfl, nine_below bl _ (by omega) _ _ _ _ _ _ _ _ _⟩
end Go.Proofs.Ytdeggnefbkcegaa.ar
