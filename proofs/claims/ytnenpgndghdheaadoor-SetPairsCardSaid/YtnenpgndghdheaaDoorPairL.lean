/-
  The walk of kurganlaw02.SetPairs.
-/
import Derived.Test.YtnenpgndghdheaaDoorPairB
import Derived.BigRegion
namespace Go.Proofs.YtnenpgndghdheaaDoor
open Go.RowKit
set_option linter.unusedVariables false
attribute [local irreducible] row
set_option maxRecDepth 100000 in
set_option maxHeartbeats 4000000 in
theorem setPairs_core (x y u v : Nat) (hx : x < 18446744073709551616) (hy : y < 18446744073709551616) (hu : u < 18446744073709551616) (hv : v < 18446744073709551616) (w : World) (hT : T64 w) :
    Calls Tryd.prog 3 #[.agg #[.int .u64 x, .int .u64 y], .agg #[.int .u64 u, .int .u64 v]] w fun e W' => e = .returned (.bool true) ∧ Below w.heap.size w W' := by
  have hz := zero26
  have q0 := new_two w x y
  have B0 := bl_al (bl_al (Below.refl w.heap.size w) (.cells #[.int .u64 x, .int .u64 y] 24)) (.cells #[.int .u64 u, .int .u64 v] 24)
  have q1 := new_two (w.alloc (.cells #[.int .u64 x, .int .u64 y] 24)) u v
  rw [World.size_alloc] at q1
  have q2 : ((w.alloc (.cells #[.int .u64 x, .int .u64 y] 24)).alloc (.cells #[.int .u64 u, .int .u64 v] 24)).heap[w.heap.size]? = some (.cells #[.int .u64 x, .int .u64 y] 24 (0, 0)) := ((bl_al (Below.refl _ (w.alloc (.cells #[.int .u64 x, .int .u64 y] 24))) (.cells #[.int .u64 u, .int .u64 v] 24)).block _ (lt_hp q0)).trans q0
  go_enter Tryd.func3, Tryd.ntmps3
  go_wp2
  rename_i K0 aK
  generalize ((w.alloc (.cells #[.int .u64 x, .int .u64 y] 24)).alloc (.cells #[.int .u64 u, .int .u64 v] 24)) = X at *
  have B1 := Lib.hid B0
  have Q1 := Lib.hid q1
  have Q2 := Lib.hid q2
  refine pairs_reg1 x y u v hx hy hu hv w.heap.size X q2 q1 _ _ _ _ _ _ _ _ _ _ _ _ _ _ _ _ _ _ _ _ _ _ _ _ _ _ _ _ _ _ _ _ _ _ _ _ _ _ _ _ _ _ _ _ _ _ _ _ _ _ _ _ _ _ _ _ _ _ _ _ _ _ _ _ _ _ _ _ _ _ _ _ _ _ _ _ _ _ _ _ _ _ _ _ _ _ _ _ _ _ _ _ _ _ (fun c a d v w h => by cases d <;> exact h) ?_
  clear q0 q1 q2 B0
  intro gA gB W q12 q13 q14 q15 hb hA hB lA lB hne
  refine aK _ _ ?_
  clear aK
  have hS1 : w.heap.size + 1 < X.heap.size := lt_hp Q1.out
  have lXW := hb.size
  have P0 : Hid (PL (mem x y) (mem u v) gA gB W.heap.size w.heap.size #[.int .u64 x, .int .u64 y] #[.int .u64 u, .int .u64 v] w 0 (((W.alloc (.cells (Array.replicate 128 (.bool false)) 26)).alloc (.cells (Array.replicate 128 (.bool false)) 26)).alloc (.cells (Array.replicate 128 (.bool false)) 26))) := by
    have e0 : ∀ f : Nat → Bool, row f 0 = Array.replicate 128 (Value.bool false) := fun f => (row_zero f).symm
    have b1 := bl_al (Below.refl _ W) (.cells (Array.replicate 128 (.bool false)) 26)
    have b2 := bl_al b1 (.cells (Array.replicate 128 (.bool false)) 26)
    have b3 := bl_al b2 (.cells (Array.replicate 128 (.bool false)) 26)
    have n1 := new_blk26 W (Array.replicate 128 (.bool false))
    have n2 := new_blk26 (W.alloc (.cells (Array.replicate 128 (.bool false)) 26)) (Array.replicate 128 (.bool false))
    have n3 := new_blk26 ((W.alloc (.cells (Array.replicate 128 (.bool false)) 26)).alloc (.cells (Array.replicate 128 (.bool false)) 26)) (Array.replicate 128 (.bool false))
    have c2 := bl_al (Below.refl _ (W.alloc (.cells (Array.replicate 128 (.bool false)) 26))) (.cells (Array.replicate 128 (.bool false)) 26)
    have c3 := bl_al c2 (.cells (Array.replicate 128 (.bool false)) 26)
    have d3 := bl_al (Below.refl _ ((W.alloc (.cells (Array.replicate 128 (.bool false)) 26)).alloc (.cells (Array.replicate 128 (.bool false)) 26))) (.cells (Array.replicate 128 (.bool false)) 26)
    simp only [World.size_alloc] at n2 n3 c3 d3
    refine ⟨(b3.block _ (lt_hp hA)).trans hA, (b3.block _ (lt_hp hB)).trans hB, ?_, ?_, ?_, (b3.block _ (by omega)).trans ((hb.block _ (by omega)).trans Q2.out), (b3.block _ (by omega)).trans ((hb.block _ hS1).trans Q1.out), (B1.out.trans (hb.mono B1.out.size)).trans (b3.mono (by omega))⟩
    · rw [e0]; exact (c3.block _ (by omega)).trans n1
    · rw [e0]; exact (d3.block _ (by omega)).trans n2
    · rw [e0]; exact n3
  have gA' := lt_hp hA
  have gB' := lt_hp hB
  clear hA hB hb Q1 Q2 B1
  go_wp2
  generalize (((W.alloc (.cells (Array.replicate 128 (.bool false)) 26)).alloc (.cells (Array.replicate 128 (.bool false)) 26)).alloc (.cells (Array.replicate 128 (.bool false)) 26)) = Y at *
  clear hz
  go_loopw [10, 11] (fun s i wr => ∃ k : Nat, k ≤ 128 ∧ i = .int .i64 k ∧ s = .bool (subB (mem x y) (mem u v) k) ∧ Hid (PL (mem x y) (mem u v) gA gB W.heap.size w.heap.size #[.int .u64 x, .int .u64 y] #[.int .u64 u, .int .u64 v] w k wr)) (fun _ i _ => 128 - (intOf i).toNat)
  case atStart => exact ⟨0, by omega, rfl, by rw [subB_zero], P0⟩
  case round =>
    clear P0
    obtain ⟨k, hk, rfl, rfl, HP⟩ := hrel
    by_cases hlt : k < 128
    · obtain ⟨ca, -⟩ := row_cell HP.out.a hlt
      obtain ⟨cb, -⟩ := row_cell HP.out.b hlt
      obtain ⟨cc, fc⟩ := row_cell HP.out.c hlt
      obtain ⟨cd, fd⟩ := row_cell HP.out.d hlt
      obtain ⟨ce, fe⟩ := row_cell HP.out.e hlt
      have g1 : (k : Int) < 128 := by omega
      have HN := Lib.hid (fun v1 v2 v3 e1 e2 e3 => HP.out.step hlt gA' gB' (by omega) (by omega) v1 v2 v3 e1 e2 e3)
      have HS := Lib.hid (subB_step (mem x y) (mem u v) k)
      simp only [hlt, decide_true, Bool.true_and] at ca cb
      clear HP
      generalize subB (mem x y) (mem u v) k = s at *
      cases hf : mem x y k <;> cases hg : mem u v k
      all_goals
        rw [hf] at ca
        rw [hg] at cb
        have HN2 := Lib.hid (HN.out _ _ _ rfl rfl rfl)
        have HS2 := Lib.hid HS.out
        rw [hf, hg] at HN2 HS2
        clear hf hg HN HS
        cases s
      all_goals
        go_wp2
        go_region
      all_goals
        go_wp2
        go_roundw
        case rel => exact ⟨k + 1, by omega, by go_num, by rw [HS2.out]; rfl, pl_drew HN2.out⟩
        case measure => simp [intOf]; omega
    · obtain rfl : k = 128 := by omega
      have hT2 : T64 wr := hT.keep HP.out.below
      go_wp2
      rename_i K1 aK1
      refine pairs_reg9 x y u v hx hy hu hv gA gB W.heap.size w.heap.size w wr hT2 HP.out _ _ _ _ _ _ _ _ _ _ _ _ _ _ _ _ _ _ _ _ _ _ _ _ _ _ _ _ _ _ _ _ _ _ _ _ _ _ _ _ _ _ _ _ _ _ _ _ _ _ _ _ _ _ _ _ _ _ _ _ _ _ _ _ _ _ _ _ _ _ _ _ _ _ _ _ _ _ _ _ _ _ _ _ _ _ _ _ _ _ (fun c a d v w h => by cases d <;> exact h) ?_
      intro tm W' h4 h9
      refine aK1 _ _ ?_
      clear aK1
      go_wp2
      exact bodyPost_ret (v := .bool true) (by rw [← h4]; exact results_tmp rfl _ _ _) rfl ⟨rfl, HP.out.below.trans (h9.mono HP.out.below.size)⟩
theorem pairsU64 {a : Int} (h : (Lit.int .u64 a).wf = true) : ∃ n : Nat, a = (n : Int) ∧ n < 18446744073709551616 := by
  have : 0 ≤ a ∧ a < 18446744073709551616 := by
    simp [Lit.wf, IntKind.min, IntKind.max, IntKind.signed, IntKind.bits] at h
    omega
  exact ⟨a.toNat, by omega, by omega⟩
theorem setPairs_walk (a b : Int) (fa : (Lit.int .u64 a).wf = true) (fb : (Lit.int .u64 b).wf = true) (c d : Int) (fc : (Lit.int .u64 c).wf = true) (fd : (Lit.int .u64 d).wf = true) (w : World) (hT : T64 w) :
    Calls Tryd.prog 3 #[.agg #[.int .u64 a, .int .u64 b], .agg #[.int .u64 c, .int .u64 d]] w fun e w' => e = .returned (.bool true) ∧ Below w.heap.size w w' := by
  obtain ⟨x, rfl, hx⟩ := pairsU64 fa
  obtain ⟨y, rfl, hy⟩ := pairsU64 fb
  obtain ⟨u, rfl, hu⟩ := pairsU64 fc
  obtain ⟨v, rfl, hv⟩ := pairsU64 fd
  exact setPairs_core x y u v hx hy hu hv w hT
end Go.Proofs.YtnenpgndghdheaaDoor
