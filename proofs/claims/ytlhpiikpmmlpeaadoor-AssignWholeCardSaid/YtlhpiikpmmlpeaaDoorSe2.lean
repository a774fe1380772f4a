/-
  All, walked by a body that hears whose number it is given.
-/
import Derived.Test.YtlhpiikpmmlpeaaDoorSeTwo
namespace Go.Proofs.YtlhpiikpmmlpeaaDoor.st
open Go.RowKit Go.Shelf
set_option linter.unusedVariables false
attribute [local go_sem] Oper.semAt_some
set_option maxRecDepth 100000 in
set_option maxHeartbeats 4000000 in
/-- the closure of All, for every body that keeps what lay below n₀ -/
theorem all1_mem (n : Nat) (hn : 1 ≤ n) (l Bs n₀ : Nat) (x y : Nat) (hx : x < 18446744073709551616) (hy0 : y < 18446744073709551616) (h0n : 0 < n₀) (J Jx : List Int → World → Prop)
    (hY : ∀ pre v W, J pre W → pre.length < (both x y).length → v ∈ both x y → YieldAt Fence.wide (n - 1) Tryd.prog l #[.int .i64 v] W fun e W' =>
      (e = .returned (.bool true) ∧ J (pre ++ [v]) W' ∧ Below n₀ W W') ∨ (e = .returned (.bool false) ∧ Jx (pre ++ [v]) W'))
    (W : World) (hT : T64 W) (hB0 : W.cell? ⟨Bs, 0, none⟩ = some (.int .u64 x)) (hB1 : W.cell? ⟨Bs, 1, none⟩ = some (.int .u64 y)) (h0 : J [] W) :
    CallsIn Fence.wide n Tryd.prog 93 #[.func (.yield l) #[] #[], .pointer (some ⟨Bs, 0, none⟩)] W fun e W' => (∃ v, e = .returned v) ∧
      ((∃ ys, ys = both x y ∧ J ys W') ∨ (∃ pre, pre <+: both x y ∧ Jx pre W')) := by
  refine callsIn_of_wp Tryd.func93 rfl trivial ?_ rfl
  simp only [Tryd.ntmps93, List.size_toArray, List.length_cons, List.length_nil, Nat.reduceAdd, Nat.reduceSub, Array.replicate_succ, Array.replicate_zero, List.push_toArray, List.append_toArray, List.nil_append, List.cons_append]
  have hi0 := fun w => run_idx0 w x y
  have hi1 := fun w => run_idx1 w x y
  have hnf := fun w => run_eql_func_nil w (.yield l) #[] #[]
  gi_wp2
  gi_loopw [8] (fun i wr => (i = .int .i64 0 ∧ J [] wr ∧ Below n₀ W wr) ∨ (i = .int .i64 1 ∧ J ((els x).map e0) wr ∧ Below n₀ W wr) ∨ (i = .int .i64 2 ∧ J (both x y) wr ∧ Below n₀ W wr)) (fun i _ => 2 - (intOf i).toNat)
  case atStart => exact Or.inl ⟨rfl, h0, Below.refl _ _⟩
  case round =>
    rcases hrel with ⟨rfl, hJ0, hB⟩ | ⟨rfl, hJ0, hB⟩ | ⟨rfl, hJ0, hB⟩
    · have HJ := Lib.hid hJ0
      have HB := Lib.hid hB
      clear hJ0 hB h0
      gi_wp2
      gi_loopw [4] (fun q wr' => ∃ (r : Nat) (pre : List Int), r < 18446744073709551616 ∧ q = .int .u64 r ∧ Hid (J pre wr') ∧ Hid (Below n₀ W wr') ∧ Hid (pre ++ (els r).map e0 = ([] : List Int) ++ (els x).map e0)) (fun q _ => (els (intOf q).toNat).length)
      case atStart => exact ⟨x, ([] : List Int), hx, rfl, HJ, HB, rfl⟩
      case round =>
        clear HJ HB
        obtain ⟨r, pre, hr, rfl, HJ, HB, HE⟩ := hrel
        have hTr := hT.under h0n HB.out
        by_cases hz : r = 0
        · subst hz
          have HE2 : Hid (pre = ([] : List Int) ++ (els x).map e0) := by
            have := HE.out
            rw [els_zero] at this
            show pre = _
            simpa using this
          gi_wp2
          go_roundw
          case rel => exact Or.inr (Or.inl ⟨rfl, by have := HJ.out; rw [HE2.out] at this; simpa using this, HB.out⟩)
          case measure => simp [intOf]
        · have hstep := els_step r hz hr
          obtain ⟨c, hc⟩ : ∃ c, c = Lib.ctz 64 r := ⟨_, rfl⟩
          obtain ⟨hcb, -⟩ := low_clear r hz hr
          rw [← hc] at hstep hcb
          have hTz := tz_any r hr _ hTr
          rw [← hc] at hTz
          have HTz := Lib.hid hTz
          have HE2 : Hid ((pre ++ [e0 c]) ++ (els (r &&& (r - 1))).map e0 = ([] : List Int) ++ (els x).map e0) := by
            show _ = _
            rw [← HE.out, hstep]; simp
          have hlen : pre.length < (both x y).length := by
            have := congrArg List.length HE.out
            rw [hstep] at this
            rw [both_eq]
            simp at this ⊢
            omega
          obtain ⟨fn, tmps, assign, body, hy, hR⟩ := hY pre (e0 c) _ HJ.out hlen (by rw [both_eq]; exact List.mem_append_left _ (by have q := HE2.out; rw [List.nil_append] at q; rw [← q]; simp))
          have hrb := Lib.hid hR
          have hms : (els (r &&& (r - 1))).length < (els r).length := by rw [hstep]; simp
          have hpre : Hid (∃ t, (pre ++ [e0 c]) ++ t = both x y) := ⟨(els (r &&& (r - 1))).map e0 ++ (els y).map e1, by rw [both_eq, ← List.append_assoc, HE2.out]; simp⟩
          have hq1 : ((r : Int) == 0) = false := by simpa using hz
          have hq2 : ((r : Int) != 0) = true := by simpa using hz
          have w1 : IntKind.u64.wrap ((r : Int) - 1) = ((r - 1 : Nat) : Int) := by rw [IntKind.wrap_u64]; omega
          have w2 : bits BinOp.and IntKind.u64 (r : Int) ((r - 1 : Nat) : Int) = ((r &&& (r - 1) : Nat) : Int) := band r (r - 1) hr (by omega)
          have hqlt := and_lt r hr
          clear hR hTz hstep hc HE
          generalize r &&& (r - 1) = q at *
          unfold e0 at hy
          gi_wp2_with (refine ⟨trivial, ?_⟩; gi_at_call 94; refine (callsIn_wide.2 HTz.out).mono ?_; rintro e w2 ⟨rfl, rfl⟩)
          refine hrb.out.mono ?_
          rintro e W3 (⟨rfl, hJ3, hk3⟩ | ⟨rfl, hJx3⟩)
          · have HJ3 := Lib.hid hJ3
            have HB3 := Lib.hid (HB.out.trans hk3)
            clear hJ3 hk3
            gi_wp2
            go_roundw
            case rel => exact ⟨q, pre ++ [e0 c], hqlt, rfl, HJ3, HB3, HE2⟩
            case measure => simpa [intOf] using hms
          · gi_wp2
            refine bodyPost_ret (results_none rfl _ _ _) rfl ?_
            exact ⟨⟨_, rfl⟩, .inr ⟨_, hpre.out, hJx3⟩⟩
    · have HJ := Lib.hid hJ0
      have HB := Lib.hid hB
      clear hJ0 hB h0
      gi_wp2
      gi_loopw [4] (fun q wr' => ∃ (r : Nat) (pre : List Int), r < 18446744073709551616 ∧ q = .int .u64 r ∧ Hid (J pre wr') ∧ Hid (Below n₀ W wr') ∧ Hid (pre ++ (els r).map e1 = ((els x).map e0) ++ (els y).map e1)) (fun q _ => (els (intOf q).toNat).length)
      case atStart => exact ⟨y, ((els x).map e0), hy0, rfl, HJ, HB, rfl⟩
      case round =>
        clear HJ HB
        obtain ⟨r, pre, hr, rfl, HJ, HB, HE⟩ := hrel
        have hTr := hT.under h0n HB.out
        by_cases hz : r = 0
        · subst hz
          have HE2 : Hid (pre = ((els x).map e0) ++ (els y).map e1) := by
            have := HE.out
            rw [els_zero] at this
            show pre = _
            simpa using this
          gi_wp2
          go_roundw
          case rel => exact Or.inr (Or.inr ⟨rfl, by have := HJ.out; rw [HE2.out] at this; rw [both_eq]; exact this, HB.out⟩)
          case measure => simp [intOf]
        · have hstep := els_step r hz hr
          obtain ⟨c, hc⟩ : ∃ c, c = Lib.ctz 64 r := ⟨_, rfl⟩
          obtain ⟨hcb, -⟩ := low_clear r hz hr
          rw [← hc] at hstep hcb
          have hTz := tz_any r hr _ hTr
          rw [← hc] at hTz
          have HTz := Lib.hid hTz
          have HE2 : Hid ((pre ++ [e1 c]) ++ (els (r &&& (r - 1))).map e1 = ((els x).map e0) ++ (els y).map e1) := by
            show _ = _
            rw [← HE.out, hstep]; simp
          have hlen : pre.length < (both x y).length := by
            have := congrArg List.length HE.out
            rw [hstep] at this
            rw [both_eq]
            simp at this ⊢
            omega
          obtain ⟨fn, tmps, assign, body, hy, hR⟩ := hY pre (e1 c) _ HJ.out hlen (by rw [both_eq, ← HE2.out]; simp)
          have hrb := Lib.hid hR
          have hms : (els (r &&& (r - 1))).length < (els r).length := by rw [hstep]; simp
          have hpre : Hid (∃ t, (pre ++ [e1 c]) ++ t = both x y) := ⟨(els (r &&& (r - 1))).map e1, by rw [both_eq, ← HE2.out]⟩
          have hq1 : ((r : Int) == 0) = false := by simpa using hz
          have hq2 : ((r : Int) != 0) = true := by simpa using hz
          have w1 : IntKind.u64.wrap ((r : Int) - 1) = ((r - 1 : Nat) : Int) := by rw [IntKind.wrap_u64]; omega
          have w2 : bits BinOp.and IntKind.u64 (r : Int) ((r - 1 : Nat) : Int) = ((r &&& (r - 1) : Nat) : Int) := band r (r - 1) hr (by omega)
          have hqlt := and_lt r hr
          clear hR hTz hstep hc HE
          generalize r &&& (r - 1) = q at *
          unfold e1 at hy
          gi_wp2_with (refine ⟨trivial, ?_⟩; gi_at_call 94; refine (callsIn_wide.2 HTz.out).mono ?_; rintro e w2 ⟨rfl, rfl⟩)
          refine hrb.out.mono ?_
          rintro e W3 (⟨rfl, hJ3, hk3⟩ | ⟨rfl, hJx3⟩)
          · have HJ3 := Lib.hid hJ3
            have HB3 := Lib.hid (HB.out.trans hk3)
            clear hJ3 hk3
            gi_wp2
            go_roundw
            case rel => exact ⟨q, pre ++ [e1 c], hqlt, rfl, HJ3, HB3, HE2⟩
            case measure => simpa [intOf] using hms
          · gi_wp2
            refine bodyPost_ret (results_none rfl _ _ _) rfl ?_
            exact ⟨⟨_, rfl⟩, .inr ⟨_, hpre.out, hJx3⟩⟩
    · gi_wp2
      go_end0
      exact ⟨⟨_, rfl⟩, .inl ⟨_, rfl, hJ0⟩⟩
/-- a number of a set -/
abbrev Nm (x y : Nat) := { v : Int // v ∈ both x y }
theorem all_stopsM (n : Nat) (hn : 1 ≤ n) (Bs n₀ x y : Nat) (hx : x < 18446744073709551616) (hy : y < 18446744073709551616) (w : World) (h0n : 0 < n₀) (hBs : Bs < w.heap.size) (hn₀ : n₀ ≤ w.heap.size) (hT : T64 w)
    (c0 : w.cell? ⟨Bs, 0, none⟩ = some (.int .u64 x)) (c1 : w.cell? ⟨Bs, 1, none⟩ = some (.int .u64 y)) :
    SeqStopsK Fence.wide n Tryd.prog 93 #[.pointer (some ⟨Bs, 0, none⟩)] (fun v : Nm x y => #[Value.int .i64 v.1]) (Below n₀) (fun ys => ys.map (·.1) = both x y) (fun pre => pre.map (·.1) <+: both x y) (both x y).length w := fun l J Jx W hW _ _ hY h0 => by
  refine (all1_mem n hn l Bs n₀ x y hx hy h0n (fun pre W => ∃ p : List (Nm x y), p.map (·.1) = pre ∧ J p W) (fun pre W => ∃ p : List (Nm x y), p.map (·.1) = pre ∧ Jx p W) ?_ W (hT.keep hW) ((hW.cell (p := ⟨Bs, 0, none⟩) hBs).trans c0) ((hW.cell (p := ⟨Bs, 1, none⟩) hBs).trans c1) ⟨[], rfl, h0⟩).mono ?_
  · rintro pre v W1 ⟨p, e, hj⟩ hlt hm
    refine (hY p ⟨v, hm⟩ W1 hj (by rw [← e] at hlt; simpa using hlt)).mono ?_
    rintro e' W' (⟨he, hj', hb⟩ | ⟨he, hj'⟩)
    · exact .inl ⟨he, ⟨p ++ [⟨v, hm⟩], by simp [e], hj'⟩, hb⟩
    · exact .inr ⟨he, ⟨p ++ [⟨v, hm⟩], by simp [e], hj'⟩⟩
  · rintro e W' ⟨hv, (⟨ys, rfl, p, e1, hj⟩ | ⟨pre, hp, p, e1, hj⟩)⟩
    · exact ⟨hv, .inl ⟨p, e1, hj⟩⟩
    · exact ⟨hv, .inr ⟨p, (by rw [← e1] at hp; exact hp), hj⟩⟩
end Go.Proofs.YtlhpiikpmmlpeaaDoor.st
