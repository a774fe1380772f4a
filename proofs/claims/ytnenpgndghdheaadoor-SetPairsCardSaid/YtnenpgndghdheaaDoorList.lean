/-
  set.List: slices.Collect over All.
-/
import Derived.Test.YtnenpgndghdheaaDoorAll
import Derived.Maps.AppendAt
namespace Go.Proofs.YtnenpgndghdheaaDoor
open Go.RowKit Go.Shelf
set_option linter.unusedVariables false
attribute [local go_sem] Oper.semAt_some
theorem info3 : (Tryd.prog.info? 3).map (fun i => (i.zero, i.size, i.bytes)) = some (some (.int .i64 0), 1, 8) := by kernel_rfl
/-- what All answers: the set is boxed, the function value holds the box -/
theorem all_any (x y : Nat) (w : World) : Calls Tryd.prog 13 #[.agg #[.int .u64 x, .int .u64 y]] w fun e w' => e = .returned (.func (.func 24) #[] #[.pointer (some ⟨w.heap.size, 0, none⟩)]) ∧ w' = w.alloc (.cells #[.int .u64 x, .int .u64 y] 24) := by
  go_enter Tryd.func13, Tryd.ntmps13
  go_wp2
  go_ret
  exact ⟨rfl, rfl⟩
theorem all_stops (n : Nat) (hn : 1 ≤ n) (Bs n₀ x y : Nat) (hx : x < 18446744073709551616) (hy : y < 18446744073709551616) (w : World) (h0n : 0 < n₀) (hBs : Bs < w.heap.size) (hn₀ : n₀ ≤ w.heap.size) (hT : T64 w)
    (c0 : w.cell? ⟨Bs, 0, none⟩ = some (.int .u64 x)) (c1 : w.cell? ⟨Bs, 1, none⟩ = some (.int .u64 y)) :
    SeqStopsK Fence.wide n Tryd.prog 24 #[.pointer (some ⟨Bs, 0, none⟩)] (fun v : Int => #[Value.int .i64 v]) (Below n₀) (fun ys => ys = both x y) (fun pre => pre <+: both x y) (both x y).length w := fun l J Jx W hW _ _ hY h0 =>
  all1_in n hn l Bs n₀ x y hx hy h0n J Jx hY W (hT.keep hW) ((hW.cell (p := ⟨Bs, 0, none⟩) hBs).trans c0) ((hW.cell (p := ⟨Bs, 1, none⟩) hBs).trans c1) h0
set_option maxRecDepth 100000 in
set_option maxHeartbeats 2000000 in
theorem appendSeq_any (Bs x y : Nat) (hx : x < 18446744073709551616) (hy : y < 18446744073709551616) (w : World) (hT : T64 w) (hBs : Bs < w.heap.size)
    (c0 : w.cell? ⟨Bs, 0, none⟩ = some (.int .u64 x)) (c1 : w.cell? ⟨Bs, 1, none⟩ = some (.int .u64 y)) :
    Calls Tryd.prog 31 #[.slice none 0 0, .func (.func 24) #[] #[.pointer (some ⟨Bs, 0, none⟩)]] w fun e W' => ∃ v, e = .returned v ∧ W'.ownsRow w.heap.size 3 1 v (both x y).length ((both x y).map (Value.int .i64)) ∧ (v = .slice none 0 0 ↔ both x y = []) ∧ Below w.heap.size w W' := by
  have hblen := both_len x y
  obtain ⟨i0, hi, hz0, hz1, hz2⟩ := info_parts info3
  refine (callsIn_wide (n := 8)).1 ?_
  refine callsIn_of_wp_marks Tryd.func31 rfl trivial ?_ rfl
  simp only [Tryd.ntmps31, List.size_toArray, List.length_cons, List.length_nil, Nat.reduceAdd, Nat.reduceSub, Array.replicate_succ, Array.replicate_zero, List.push_toArray, List.append_toArray, List.nil_append, List.cons_append]
  gi_wp2
  have bO := Boxed.new w 32 (.slice none 0 0)
  have hB0 : Below w.heap.size w (w.alloc (.cells #[.slice none 0 0] 32)) := (Below.refl _ w).alloc (Nat.le_refl _) _
  refine wpIn_rangeFunc_ownG rfl (by omega) (gf := 24) (lb := #[.pointer (some ⟨Bs, 0, none⟩)]) rfl trivial (enters_of Tryd.func24 (by kernel_rfl) rfl)
    (all_stops (8 - 1) (by omega) Bs w.heap.size x y hx hy _ (by omega) (by simp; omega) (by simp) (hT.keep hB0) ((hB0.cell (p := ⟨Bs, 0, none⟩) hBs).trans c0) ((hB0.cell (p := ⟨Bs, 1, none⟩) hBs).trans c1)) belowK_t (belowK_b (by simp)) (Below.refl _ _) (fun _ => rfl)
    (fun pre W => (∃ v, Boxed W w.heap.size 32 v ∧ W.ownsRow w.heap.size 3 1 v pre.length (pre.map (Value.int .i64)) ∧ (v = .slice none 0 0 ↔ pre = [])) ∧ Below w.heap.size w W)
    (fun _ _ _ => False)
    (OwnFrom.and (Own.from (holdsRow_own w.heap.size w.heap.size 32 3 1 (fun pre => pre.length) (fun pre => pre.map (Value.int .i64)) (fun pre v => v = .slice none 0 0 ↔ pre = [])) _) (ownFrom_below (Nat.le_refl _) (by simp)))
    (fun _ _ _ _ _ hs _ _ => hs)
    ⟨⟨_, bO, World.ownsRow_nil _ _ _ _, by simp⟩, hB0⟩
    (fun v => { tmps := #[.slice none 0 0, .func (.func 24) #[] #[.pointer (some ⟨Bs, 0, none⟩)], .pointer (some ⟨w.heap.size, 0, none⟩), undef, .slice none 0 0, .int .i64 v, .func (.func 24) #[] #[.pointer (some ⟨Bs, 0, none⟩)], .int .i64 v, undef, undef, undef, undef, undef], defers := [] }) ?assign ?body ?done ?stop
  case assign =>
    intro l v W K hK
    gi_wp2
    exact hK
  case body =>
    rintro l pre z W ⟨⟨v, hv, hrow, hnil⟩, hB⟩ hlt
    have hc := hv.cell
    gi_wp2_with (gi_at_builtin; refine wpListIn_append_own _ rfl _ _ 32 rfl w.heap.size 3 i0 (.int .i64 0) 1 8 Tryd.underlying32 hi hz0 hz1 hz2 rfl (by decide) _ _ _ rfl (hrow.alloc _) ⟨W.heap.size, 0, none⟩ 1 1 [.int .i64 z] rfl rfl (cell_one_new _ _ _) (by simp [Value.oneCell']) (by unfold maxLen; omega) (by omega) (by have := hB.size; simp; omega) ?_; intro v' w1 hown' hgrow _; obtain ⟨g', cap', rfl⟩ := ownsRow_succ hown'; obtain ⟨hv1, hv2, hr2, hk2, hb2⟩ := hv.appended (by decide) hrow hB.size (Nat.le_refl _) hown' hgrow; have hc1 := hv1.cell; have hf1 := hv1.frozen)
    exact ⟨hk2.from _, hb2, ⟨_, hv2, by simpa using hr2, by simp⟩, hB.trans hb2⟩
  case done =>
    rintro D ys W hD rfl ⟨⟨v, hv, hrow, hnil⟩, hB⟩ hK
    have hc := hv.cell
    gi_wp2
    refine ⟨by simp, .inl ⟨_, _, rfl, run_takeDeferred hK, ?_⟩⟩
    exact ⟨_, results_tmp rfl _ _ _, v, rfl, ownsRow_putObj hrow _ hK rfl, hnil, hB.trans (belowK_b (w := w) (Nat.le_refl _) W D _ _ (by simp at hD; omega) hK rfl rfl)⟩
  case stop =>
    rintro D c pre W _ _ h _
    exact h.elim
end Go.Proofs.YtnenpgndghdheaaDoor
