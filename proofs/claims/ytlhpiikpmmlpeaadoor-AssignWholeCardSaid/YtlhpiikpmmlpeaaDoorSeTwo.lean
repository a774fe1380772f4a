import Derived.RangeFuncBox
import Derived.RangeFuncNested
import Derived.RangeFuncBound
import Derived.RangeFuncCalls
import Derived.RangeFuncLeaves
import Derived.Shelf.Abstract
import Derived.Shelf.RegionOpen
import Derived.WalkKit
import Derived.OwnWalkIn
import Derived.TacticsInMore
import Derived.LoopNIn
import Derived.LoopIn
import Derived.Lib.SliceRun
import Derived.Test.YtlhpiikpmmlpeaaDoorSeOne
import Derived.Maps.AppendAt

/-
  set.All: the numbers of a set one by one, for whatever loop's body.
-/
namespace Go.Proofs.YtlhpiikpmmlpeaaDoor.st
open Go.RowKit Go.Shelf
set_option linter.unusedVariables false
attribute [local go_sem] Oper.semAt_some
theorem run_equalIn_func_nil (w : World) (d : Nat) (f : Fn) (c b : Array Value) : (Op.equalIn (d + 1) 82 (.func f c b) .nilFunc).run Tryd.prog w = .ok false w := by
  simp [Op.equalIn, run_underlying Tryd.underlying82]
theorem run_eql_func_nil (w : World) (f : Fn) (c b : Array Value) : (binOp .eql 82 (.func f c b) .nilFunc).run Tryd.prog w = .ok (.bool false) w := by
  simp only [binOp]
  simp [Op.equal, Op.maxDepth, run_equalIn_func_nil w 9999 f c b]
theorem run_idx0 (w : World) (a b : Int) : (Instr.index 55 (.agg #[.int .u64 a, .int .u64 b]) (.int .i64 0)).run Tryd.prog w = .ok (.int .u64 a) w := by
  simp [Instr.index, run_underlying Tryd.underlying55, asIntOf, go_sem, part, Tryd.sizeOf53, Tryd.isAgg53]
theorem run_idx1 (w : World) (a b : Int) : (Instr.index 55 (.agg #[.int .u64 a, .int .u64 b]) (.int .i64 1)).run Tryd.prog w = .ok (.int .u64 b) w := by
  simp [Instr.index, run_underlying Tryd.underlying55, asIntOf, go_sem, part, Tryd.sizeOf53, Tryd.isAgg53]
def e0 (i : Nat) : Int := (i : Int)
def e1 (i : Nat) : Int := (64 + i : Int)
theorem both_eq (x y : Nat) : both x y = (els x).map e0 ++ (els y).map e1 := rfl
set_option maxRecDepth 100000 in
set_option maxHeartbeats 4000000 in
/-- the closure of All, for every body that keeps what lay below n₀ -/
theorem all1_in (n : Nat) (hn : 1 ≤ n) (l Bs n₀ : Nat) (x y : Nat) (hx : x < 18446744073709551616) (hy0 : y < 18446744073709551616) (h0n : 0 < n₀) (J Jx : List Int → World → Prop)
    (hY : ∀ pre v W, J pre W → pre.length < (both x y).length → YieldAt Fence.wide (n - 1) Tryd.prog l #[.int .i64 v] W fun e W' =>
      (e = .returned (.bool true) ∧ J (pre ++ [v]) W' ∧ Below n₀ W W') ∨ (e = .returned (.bool false) ∧ Jx (pre ++ [v]) W'))
    (W : World) (hT : T64 W) (hB0 : W.cell? ⟨Bs, 0, none⟩ = some (.int .u64 x)) (hB1 : W.cell? ⟨Bs, 1, none⟩ = some (.int .u64 y)) (h0 : J [] W) :
    CallsIn Fence.wide n Tryd.prog 93 #[.func (.yield l) #[] #[], .pointer (some ⟨Bs, 0, none⟩)] W fun e W' => (∃ v, e = .returned v) ∧
      ((∃ ys, ys = both x y ∧ J ys W') ∨ (∃ pre, pre <+: both x y ∧ Jx pre W')) := by
  refine callsIn_of_wp Tryd.func93 rfl trivial ?_ rfl
  simp only [Tryd.ntmps93, List.size_toArray, List.length_cons, List.length_nil, Nat.reduceAdd, Nat.reduceSub, Array.replicate_succ, Array.replicate_zero, List.push_toArray, List.append_toArray, List.nil_append, List.cons_append]
  have hi0 := fun w => run_idx0 w x y
  have hi1 := fun w => run_idx1 w x y
  have hnf := fun w => run_eql_func_nil w (.yield l) #[] #[]
  gi_wp2
  gi_loopw [8] (fun i wr => (i = .int .i64 0 ∧ J [] wr ∧ Below n₀ W wr) ∨ (i = .int .i64 1 ∧ J ((els x).map e0) wr ∧ Below n₀ W wr) ∨ (i = .int .i64 2 ∧ J (both x y) wr ∧ Below n₀ W wr)) (fun i _ => 2 - (intOf i).toNat)
  case atStart => exact Or.inl ⟨rfl, h0, Below.refl _ _⟩
  case round =>
    rcases hrel with ⟨rfl, hJ0, hB⟩ | ⟨rfl, hJ0, hB⟩ | ⟨rfl, hJ0, hB⟩
    · have HJ := Lib.hid hJ0
      have HB := Lib.hid hB
      clear hJ0 hB h0
      gi_wp2
      gi_loopw [4] (fun q wr' => ∃ (r : Nat) (pre : List Int), r < 18446744073709551616 ∧ q = .int .u64 r ∧ Hid (J pre wr') ∧ Hid (Below n₀ W wr') ∧ Hid (pre ++ (els r).map e0 = ([] : List Int) ++ (els x).map e0)) (fun q _ => (els (intOf q).toNat).length)
      case atStart => exact ⟨x, ([] : List Int), hx, rfl, HJ, HB, rfl⟩
      case round =>
        clear HJ HB
        obtain ⟨r, pre, hr, rfl, HJ, HB, HE⟩ := hrel
        have hTr := hT.under h0n HB.out
        by_cases hz : r = 0
        · subst hz
          have HE2 : Hid (pre = ([] : List Int) ++ (els x).map e0) := by
            have := HE.out
            rw [els_zero] at this
            show pre = _
            simpa using this
          gi_wp2
          go_roundw
          case rel => exact Or.inr (Or.inl ⟨rfl, by have := HJ.out; rw [HE2.out] at this; simpa using this, HB.out⟩)
          case measure => simp [intOf]
        · have hstep := els_step r hz hr
          obtain ⟨c, hc⟩ : ∃ c, c = Lib.ctz 64 r := ⟨_, rfl⟩
          obtain ⟨hcb, -⟩ := low_clear r hz hr
          rw [← hc] at hstep hcb
          have hTz := tz_any r hr _ hTr
          rw [← hc] at hTz
          have HTz := Lib.hid hTz
          have HE2 : Hid ((pre ++ [e0 c]) ++ (els (r &&& (r - 1))).map e0 = ([] : List Int) ++ (els x).map e0) := by
            show _ = _
            rw [← HE.out, hstep]; simp
          have hlen : pre.length < (both x y).length := by
            have := congrArg List.length HE.out
            rw [hstep] at this
            rw [both_eq]
            simp at this ⊢
            omega
          obtain ⟨fn, tmps, assign, body, hy, hR⟩ := hY pre (e0 c) _ HJ.out hlen
          have hrb := Lib.hid hR
          have hms : (els (r &&& (r - 1))).length < (els r).length := by rw [hstep]; simp
          have hpre : Hid (∃ t, (pre ++ [e0 c]) ++ t = both x y) := ⟨(els (r &&& (r - 1))).map e0 ++ (els y).map e1, by rw [both_eq, ← List.append_assoc, HE2.out]; simp⟩
          have hq1 : ((r : Int) == 0) = false := by simpa using hz
          have hq2 : ((r : Int) != 0) = true := by simpa using hz
          have w1 : IntKind.u64.wrap ((r : Int) - 1) = ((r - 1 : Nat) : Int) := by rw [IntKind.wrap_u64]; omega
          have w2 : bits BinOp.and IntKind.u64 (r : Int) ((r - 1 : Nat) : Int) = ((r &&& (r - 1) : Nat) : Int) := band r (r - 1) hr (by omega)
          have hqlt := and_lt r hr
          clear hR hTz hstep hc HE
          generalize r &&& (r - 1) = q at *
          unfold e0 at hy
          gi_wp2_with (refine ⟨trivial, ?_⟩; gi_at_call 94; refine (callsIn_wide.2 HTz.out).mono ?_; rintro e w2 ⟨rfl, rfl⟩)
          refine hrb.out.mono ?_
          rintro e W3 (⟨rfl, hJ3, hk3⟩ | ⟨rfl, hJx3⟩)
          · have HJ3 := Lib.hid hJ3
            have HB3 := Lib.hid (HB.out.trans hk3)
            clear hJ3 hk3
            gi_wp2
            go_roundw
            case rel => exact ⟨q, pre ++ [e0 c], hqlt, rfl, HJ3, HB3, HE2⟩
            case measure => simpa [intOf] using hms
          · gi_wp2
            refine bodyPost_ret (results_none rfl _ _ _) rfl ?_
            exact ⟨⟨_, rfl⟩, .inr ⟨_, hpre.out, hJx3⟩⟩
    · have HJ := Lib.hid hJ0
      have HB := Lib.hid hB
      clear hJ0 hB h0
      gi_wp2
      gi_loopw [4] (fun q wr' => ∃ (r : Nat) (pre : List Int), r < 18446744073709551616 ∧ q = .int .u64 r ∧ Hid (J pre wr') ∧ Hid (Below n₀ W wr') ∧ Hid (pre ++ (els r).map e1 = ((els x).map e0) ++ (els y).map e1)) (fun q _ => (els (intOf q).toNat).length)
      case atStart => exact ⟨y, ((els x).map e0), hy0, rfl, HJ, HB, rfl⟩
      case round =>
        clear HJ HB
        obtain ⟨r, pre, hr, rfl, HJ, HB, HE⟩ := hrel
        have hTr := hT.under h0n HB.out
        by_cases hz : r = 0
        · subst hz
          have HE2 : Hid (pre = ((els x).map e0) ++ (els y).map e1) := by
            have := HE.out
            rw [els_zero] at this
            show pre = _
            simpa using this
          gi_wp2
          go_roundw
          case rel => exact Or.inr (Or.inr ⟨rfl, by have := HJ.out; rw [HE2.out] at this; rw [both_eq]; exact this, HB.out⟩)
          case measure => simp [intOf]
        · have hstep := els_step r hz hr
          obtain ⟨c, hc⟩ : ∃ c, c = Lib.ctz 64 r := ⟨_, rfl⟩
          obtain ⟨hcb, -⟩ := low_clear r hz hr
          rw [← hc] at hstep hcb
          have hTz := tz_any r hr _ hTr
          rw [← hc] at hTz
          have HTz := Lib.hid hTz
          have HE2 : Hid ((pre ++ [e1 c]) ++ (els (r &&& (r - 1))).map e1 = ((els x).map e0) ++ (els y).map e1) := by
            show _ = _
            rw [← HE.out, hstep]; simp
          have hlen : pre.length < (both x y).length := by
            have := congrArg List.length HE.out
            rw [hstep] at this
            rw [both_eq]
            simp at this ⊢
            omega
          obtain ⟨fn, tmps, assign, body, hy, hR⟩ := hY pre (e1 c) _ HJ.out hlen
          have hrb := Lib.hid hR
          have hms : (els (r &&& (r - 1))).length < (els r).length := by rw [hstep]; simp
          have hpre : Hid (∃ t, (pre ++ [e1 c]) ++ t = both x y) := ⟨(els (r &&& (r - 1))).map e1, by rw [both_eq, ← HE2.out]⟩
          have hq1 : ((r : Int) == 0) = false := by simpa using hz
          have hq2 : ((r : Int) != 0) = true := by simpa using hz
          have w1 : IntKind.u64.wrap ((r : Int) - 1) = ((r - 1 : Nat) : Int) := by rw [IntKind.wrap_u64]; omega
          have w2 : bits BinOp.and IntKind.u64 (r : Int) ((r - 1 : Nat) : Int) = ((r &&& (r - 1) : Nat) : Int) := band r (r - 1) hr (by omega)
          have hqlt := and_lt r hr
          clear hR hTz hstep hc HE
          generalize r &&& (r - 1) = q at *
          unfold e1 at hy
          gi_wp2_with (refine ⟨trivial, ?_⟩; gi_at_call 94; refine (callsIn_wide.2 HTz.out).mono ?_; rintro e w2 ⟨rfl, rfl⟩)
          refine hrb.out.mono ?_
          rintro e W3 (⟨rfl, hJ3, hk3⟩ | ⟨rfl, hJx3⟩)
          · have HJ3 := Lib.hid hJ3
            have HB3 := Lib.hid (HB.out.trans hk3)
            clear hJ3 hk3
            gi_wp2
            go_roundw
            case rel => exact ⟨q, pre ++ [e1 c], hqlt, rfl, HJ3, HB3, HE2⟩
            case measure => simpa [intOf] using hms
          · gi_wp2
            refine bodyPost_ret (results_none rfl _ _ _) rfl ?_
            exact ⟨⟨_, rfl⟩, .inr ⟨_, hpre.out, hJx3⟩⟩
    · gi_wp2
      go_end0
      exact ⟨⟨_, rfl⟩, .inl ⟨_, rfl, hJ0⟩⟩
end Go.Proofs.YtlhpiikpmmlpeaaDoor.st

/-
  set.List: slices.Collect over All.
-/
namespace Go.Proofs.YtlhpiikpmmlpeaaDoor.st
open Go.RowKit Go.Shelf
set_option linter.unusedVariables false
attribute [local go_sem] Oper.semAt_some
theorem info3 : (Tryd.prog.info? 3).map (fun i => (i.zero, i.size, i.bytes)) = some (some (.int .i64 0), 1, 8) := by kernel_rfl
/-- what All answers: the set is boxed, the function value holds the box -/
theorem all_any (x y : Nat) (w : World) : Calls Tryd.prog 82 #[.agg #[.int .u64 x, .int .u64 y]] w fun e w' => e = .returned (.func (.func 93) #[] #[.pointer (some ⟨w.heap.size, 0, none⟩)]) ∧ w' = w.alloc (.cells #[.int .u64 x, .int .u64 y] 55) := by
  go_enter Tryd.func82, Tryd.ntmps82
  go_wp2
  go_ret
  exact ⟨rfl, rfl⟩
theorem all_stops (n : Nat) (hn : 1 ≤ n) (Bs n₀ x y : Nat) (hx : x < 18446744073709551616) (hy : y < 18446744073709551616) (w : World) (h0n : 0 < n₀) (hBs : Bs < w.heap.size) (hn₀ : n₀ ≤ w.heap.size) (hT : T64 w)
    (c0 : w.cell? ⟨Bs, 0, none⟩ = some (.int .u64 x)) (c1 : w.cell? ⟨Bs, 1, none⟩ = some (.int .u64 y)) :
    SeqStopsK Fence.wide n Tryd.prog 93 #[.pointer (some ⟨Bs, 0, none⟩)] (fun v : Int => #[Value.int .i64 v]) (Below n₀) (fun ys => ys = both x y) (fun pre => pre <+: both x y) (both x y).length w := fun l J Jx W hW _ _ hY h0 =>
  all1_in n hn l Bs n₀ x y hx hy h0n J Jx hY W (hT.keep hW) ((hW.cell (p := ⟨Bs, 0, none⟩) hBs).trans c0) ((hW.cell (p := ⟨Bs, 1, none⟩) hBs).trans c1) h0
set_option maxRecDepth 100000 in
set_option maxHeartbeats 2000000 in
theorem appendSeq_any (Bs x y : Nat) (hx : x < 18446744073709551616) (hy : y < 18446744073709551616) (w : World) (hT : T64 w) (hBs : Bs < w.heap.size)
    (c0 : w.cell? ⟨Bs, 0, none⟩ = some (.int .u64 x)) (c1 : w.cell? ⟨Bs, 1, none⟩ = some (.int .u64 y)) :
    Calls Tryd.prog 92 #[.slice none 0 0, .func (.func 93) #[] #[.pointer (some ⟨Bs, 0, none⟩)]] w fun e W' => ∃ v, e = .returned v ∧ W'.ownsRow w.heap.size 3 1 v (both x y).length ((both x y).map (Value.int .i64)) ∧ (v = .slice none 0 0 ↔ both x y = []) ∧ Below w.heap.size w W' := by
  have hblen := both_len x y
  obtain ⟨i0, hi, hz0, hz1, hz2⟩ := info_parts info3
  refine (callsIn_wide (n := 8)).1 ?_
  refine callsIn_of_wp_marks Tryd.func92 rfl trivial ?_ rfl
  simp only [Tryd.ntmps92, List.size_toArray, List.length_cons, List.length_nil, Nat.reduceAdd, Nat.reduceSub, Array.replicate_succ, Array.replicate_zero, List.push_toArray, List.append_toArray, List.nil_append, List.cons_append]
  gi_wp2
  have bO := Boxed.new w 22 (.slice none 0 0)
  have hB0 : Below w.heap.size w (w.alloc (.cells #[.slice none 0 0] 22)) := (Below.refl _ w).alloc (Nat.le_refl _) _
  refine wpIn_rangeFunc_ownG rfl (by omega) (gf := 93) (lb := #[.pointer (some ⟨Bs, 0, none⟩)]) rfl trivial (enters_of Tryd.func93 (by kernel_rfl) rfl)
    (all_stops (8 - 1) (by omega) Bs w.heap.size x y hx hy _ (by omega) (by simp; omega) (by simp) (hT.keep hB0) ((hB0.cell (p := ⟨Bs, 0, none⟩) hBs).trans c0) ((hB0.cell (p := ⟨Bs, 1, none⟩) hBs).trans c1)) belowK_t (belowK_b (by simp)) (Below.refl _ _) (fun _ => rfl)
    (fun pre W => (∃ v, Boxed W w.heap.size 22 v ∧ W.ownsRow w.heap.size 3 1 v pre.length (pre.map (Value.int .i64)) ∧ (v = .slice none 0 0 ↔ pre = [])) ∧ Below w.heap.size w W)
    (fun _ _ _ => False)
    (OwnFrom.and (Own.from (holdsRow_own w.heap.size w.heap.size 22 3 1 (fun pre => pre.length) (fun pre => pre.map (Value.int .i64)) (fun pre v => v = .slice none 0 0 ↔ pre = [])) _) (ownFrom_below (Nat.le_refl _) (by simp)))
    (fun _ _ _ _ _ hs _ _ => hs)
    ⟨⟨_, bO, World.ownsRow_nil _ _ _ _, by simp⟩, hB0⟩
    (fun v => { tmps := #[.slice none 0 0, .func (.func 93) #[] #[.pointer (some ⟨Bs, 0, none⟩)], .pointer (some ⟨w.heap.size, 0, none⟩), undef, .slice none 0 0, .int .i64 v, .func (.func 93) #[] #[.pointer (some ⟨Bs, 0, none⟩)], .int .i64 v, undef, undef, undef, undef, undef], defers := [] }) ?assign ?body ?done ?stop
  case assign =>
    intro l v W K hK
    gi_wp2
    exact hK
  case body =>
    rintro l pre z W ⟨⟨v, hv, hrow, hnil⟩, hB⟩ hlt
    have hc := hv.cell
    gi_wp2_with (gi_at_builtin; refine wpListIn_append_own _ rfl _ _ 22 rfl w.heap.size 3 i0 (.int .i64 0) 1 8 Tryd.underlying22 hi hz0 hz1 hz2 rfl (by decide) _ _ _ rfl (hrow.alloc _) ⟨W.heap.size, 0, none⟩ 1 1 [.int .i64 z] rfl rfl (cell_one_new _ _ _) (by simp [Value.oneCell']) (by unfold maxLen; omega) (by omega) (by have := hB.size; simp; omega) ?_; intro v' w1 hown' hgrow _; obtain ⟨g', cap', rfl⟩ := ownsRow_succ hown'; obtain ⟨hv1, hv2, hr2, hk2, hb2⟩ := hv.appended (by decide) hrow hB.size (Nat.le_refl _) hown' hgrow; have hc1 := hv1.cell; have hf1 := hv1.frozen)
    exact ⟨hk2.from _, hb2, ⟨_, hv2, by simpa using hr2, by simp⟩, hB.trans hb2⟩
  case done =>
    rintro D ys W hD rfl ⟨⟨v, hv, hrow, hnil⟩, hB⟩ hK
    have hc := hv.cell
    gi_wp2
    refine ⟨by simp, .inl ⟨_, _, rfl, run_takeDeferred hK, ?_⟩⟩
    exact ⟨_, results_tmp rfl _ _ _, v, rfl, ownsRow_putObj hrow _ hK rfl, hnil, hB.trans (belowK_b (w := w) (Nat.le_refl _) W D _ _ (by simp at hD; omega) hK rfl rfl)⟩
  case stop =>
    rintro D c pre W _ _ h _
    exact h.elim
end Go.Proofs.YtlhpiikpmmlpeaaDoor.st

/-
  What List answers; sets() is true.
-/
namespace Go.Proofs.YtlhpiikpmmlpeaaDoor.st
open Go.RowKit
set_option linter.unusedVariables false
/-- what List answers -/
def ListP (x y : Nat) (w : World) (e : Ending) (W' : World) : Prop := ∃ v, e = .returned v ∧ W'.ownsRow w.heap.size 3 1 v (both x y).length ((both x y).map (Value.int .i64)) ∧ (v = .slice none 0 0 ↔ both x y = []) ∧ Below w.heap.size w W'
theorem listP_up {x y : Nat} {w X : World} {e : Ending} {W' : World} (h : ListP x y X e W') (hb : Below w.heap.size w X) : ListP x y w e W' := by
  obtain ⟨v, h1, h2, h3, h4⟩ := h
  refine ⟨v, h1, ?_, h3, hb.trans (h4.mono hb.size)⟩
  obtain ⟨a1, a2⟩ := h2
  refine ⟨a1, ?_⟩
  rcases a2 with hn | ⟨g, cap, cur, hv, hg, r⟩
  · exact Or.inl hn
  · exact Or.inr ⟨g, cap, cur, hv, Nat.le_trans hb.size hg, r⟩
theorem new_two (X : World) (x y : Int) : (X.alloc (.cells #[.int .u64 x, .int .u64 y] 55)).heap[X.heap.size]? = some (.cells #[.int .u64 x, .int .u64 y] 55 (0, 0)) := by
  show (X.heap.push (Obj.cells #[.int .u64 x, .int .u64 y] 55))[X.heap.size]? = some (Obj.cells #[.int .u64 x, .int .u64 y] 55)
  simp
theorem collect_any (Bs x y : Nat) (hx : x < 18446744073709551616) (hy : y < 18446744073709551616) (w : World) (hT : T64 w) (hBs : Bs < w.heap.size)
    (c0 : w.cell? ⟨Bs, 0, none⟩ = some (.int .u64 x)) (c1 : w.cell? ⟨Bs, 1, none⟩ = some (.int .u64 y)) :
    Calls Tryd.prog 81 #[.func (.func 93) #[] #[.pointer (some ⟨Bs, 0, none⟩)]] w (ListP x y w) := by
  have H : Hid (Calls Tryd.prog 92 #[.slice none 0 0, .func (.func 93) #[] #[.pointer (some ⟨Bs, 0, none⟩)]] w (ListP x y w)) := appendSeq_any Bs x y hx hy w hT hBs c0 c1
  clear c0 c1
  go_enter Tryd.func81, Tryd.ntmps81
  go_wp2_with fail
  refine H.out.mono ?_; rintro e w1 hP
  obtain ⟨v, he, h1, h2, h3⟩ := hP
  subst he
  have HP : Hid (ListP x y w (.returned v) w1) := ⟨v, rfl, h1, h2, h3⟩
  clear h1 h2 h3
  go_wp2
  go_ret
  exact HP.out
theorem list_any (x y : Nat) (hx : x < 18446744073709551616) (hy : y < 18446744073709551616) (w : World) (hT : T64 w) :
    Calls Tryd.prog 50 #[.agg #[.int .u64 x, .int .u64 y]] w (ListP x y w) := by
  have B1 := Lib.hid (bl_al (Below.refl w.heap.size w) (.cells #[.int .u64 x, .int .u64 y] 55))
  have HA := Lib.hid (fun W => all_any x y W)
  have HS : Hid (∀ X : World, Below w.heap.size w X → Calls Tryd.prog 81 #[.func (.func 93) #[] #[.pointer (some ⟨X.heap.size, 0, none⟩)]] (X.alloc (.cells #[.int .u64 x, .int .u64 y] 55)) (ListP x y w)) := fun X hb => by
    have hq := new_two X x y
    obtain ⟨c0, c1⟩ := two_keep (Below.refl _ _) hq
    have hb2 := bl_al hb (.cells #[.int .u64 x, .int .u64 y] 55)
    exact (collect_any X.heap.size x y hx hy _ (hT.keep hb2) (by simp) c0 c1).mono fun e w' h => listP_up h hb2
  clear hT
  go_enter Tryd.func50, Tryd.ntmps50
  go_wp2_with fail
  refine (HA.out _).mono ?_; rintro e w1 ⟨rfl, rfl⟩
  go_wp2_with fail
  have hs := HS.out _ B1.out
  rw [World.size_alloc] at hs
  refine hs.mono ?_; rintro e w1 hP
  clear hs
  obtain ⟨v, he, h1, h2, h3⟩ := hP
  subst he
  have HP : Hid (ListP x y w (.returned v) w1) := ⟨v, rfl, h1, h2, h3⟩
  clear h1 h2 h3
  go_wp2
  go_ret
  exact HP.out
theorem v_of1 : lo (ofS 0 [3, 200, 1]) = 10 ∧ hi (ofS 0 [3, 200, 1]) = 0 := by decide +kernel
theorem v_of2 : lo (ofS 0 [5, 9]) = 544 ∧ hi (ofS 0 [5, 9]) = 0 := by decide +kernel
theorem v_both : both 10 0 = [1, 3] := by decide +kernel
theorem v_full : (nums (mem (lowv (clamp 70)) (lowv (clamp 70 - 64)))).length = 70 := by decide +kernel
theorem v_next : fst (lst (mem 544 0) (5 + 1) (128 - (5 + 1))) = 9 := by decide +kernel
theorem ints_lit (W : World) (g : Nat) (l : List Int) (cs : Array Value) (h : W.heap[g]? = some (.cells cs 3 (0, 0))) (hc : cs = (l.map (Value.int .i64)).toArray) : Ints W (some ⟨g, 0, none⟩) l := fun j hj => by
  refine ⟨g, 0, rfl, lt_hp h, ?_⟩
  subst hc
  simp [World.cell?, h, List.getElem?_eq_getElem hj]
theorem new_blk (X : World) (cs : Array Value) : (X.alloc (.cells cs 3)).heap[X.heap.size]? = some (.cells cs 3 (0, 0)) := by
  show (X.heap.push (Obj.cells cs 3))[X.heap.size]? = some (Obj.cells cs 3)
  simp
/-- the list that the witness reads -/
theorem wit_list {w : World} {e : Ending} {W' : World} (h : ListP 10 0 w e W') : ∃ g cap, e = .returned (.slice (some ⟨g, 0, none⟩) 2 cap) ∧ W'.cell? ⟨g, 0, none⟩ = some (.int .i64 1) ∧ W'.cell? ⟨g, 1, none⟩ = some (.int .i64 3) ∧ Below w.heap.size w W' := by
  obtain ⟨v, h1, h2, h3, h4⟩ := h
  rw [v_both] at h2 h3
  rcases h2.2 with ⟨hv, _⟩ | ⟨g, cap, cur, hv, hg, hh, r⟩
  · have := h3.1 hv; cases this
  · subst hv
    refine ⟨g, cap, h1, ?_, ?_, h4⟩
    · have := h2.cellAt 0 (by decide); simpa using this
    · have := h2.cellAt 1 (by decide); simpa using this
end Go.Proofs.YtlhpiikpmmlpeaaDoor.st
