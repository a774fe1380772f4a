/-
  takes, leaves, Min, less.
-/
import Derived.Test.YtiiclonklihaiaaMd
namespace Go.Proofs.Ytiiclonklihaiaa
open Go.RowKit
set_option linter.unusedVariables false
theorem first_opt (B b g L : Nat) (vs : Nat → Value) (ls : Nat → List (Int × Int)) (p : Nat) (hp : p < L) (w : World) (h : MD B b g L vs ls w) :
    Calls Try.prog 21 #[.pointer (some ⟨b, 0, none⟩), .int .i64 p] w fun e w' => e = .returned (.tuple #[.agg #[.int .i64 ((frst (ls p)).getD (0, 0)).1, .int .i64 ((frst (ls p)).getD (0, 0)).2], .bool (frst (ls p)).isSome]) ∧ Below w.heap.size w w' := by
  refine first_any B b g L vs ls p hp _ _ ?_ w h
  cases e : frst (ls p) with
  | none => exact .inl ⟨rfl, rfl, rfl⟩
  | some x => exact .inr ⟨rfl, rfl⟩
/-- does a place take a key? -/
def tkv (o : Option (Int × Int)) (key : Int) : Bool := !o.isSome || decide (key ≤ (o.getD (0, 0)).1)
set_option maxHeartbeats 2000000 in
theorem takes_any (B b g L : Nat) (vs : Nat → Value) (ls : Nat → List (Int × Int)) (p : Nat) (hp : p < L) (key : Int) (w : World) (h : MD B b g L vs ls w) :
    Calls Try.prog 25 #[.pointer (some ⟨b, 0, none⟩), .int .i64 p, .int .i64 key] w fun e w' => e = .returned (.bool (tkv (frst (ls p)) key)) ∧ Below w.heap.size w w' := by
  have HF := Lib.hid (first_opt B b g L vs ls p hp w h)
  unfold tkv
  generalize frst (ls p) = o at *
  clear h
  cases o with
  | none =>
    go_enter Try.func25, Try.ntmps25
    go_wp2_with fail
    refine HF.out.mono ?_
    rintro e w1 ⟨rfl, hB⟩
    have BH := Lib.hid (bl_al hB (.cells #[.int .i64 0, .int .i64 0] 24))
    clear HF hB
    go_wp2
    go_ret
    exact ⟨rfl, BH.out⟩
  | some x =>
    obtain ⟨k, i⟩ := x
    have HF2 : Hid (Calls Try.prog 21 #[.pointer (some ⟨b, 0, none⟩), .int .i64 p] w fun e w' => e = .returned (.tuple #[.agg #[.int .i64 k, .int .i64 i], .bool true]) ∧ Below w.heap.size w w') := HF
    clear HF
    show Calls Try.prog 25 _ w fun e w' => e = .returned (.bool (decide (key ≤ k))) ∧ _
    go_enter Try.func25, Try.ntmps25
    go_wp2_with fail
    refine HF2.out.mono ?_
    rintro e w1 ⟨rfl, hB⟩
    have BH := Lib.hid (bl_al hB (.cells #[.int .i64 k, .int .i64 i] 24))
    clear HF2 hB
    go_wp2
    go_ret
    exact ⟨rfl, BH.out⟩
set_option maxHeartbeats 2000000 in
theorem leaves_any (B b g L : Nat) (hL : L ≤ 64) (vs : Nat → Value) (ls : Nat → List (Int × Int)) (w : World) (h : MD B b g L vs ls w) :
    Calls Try.prog 20 #[.pointer (some ⟨b, 0, none⟩)] w fun e w' => e = .returned (.int .i64 ((L / 2 : Nat) : Int)) ∧ w = w' := by
  obtain ⟨c0, ct⟩ := h.cells
  have e : (L : Int).tdiv 2 = ((L / 2 : Nat) : Int) := (Int.ofNat_tdiv L 2).symm
  obtain ⟨m, hm⟩ : ∃ m, m = L / 2 := ⟨_, rfl⟩
  have hm2 : m ≤ 32 := by omega
  rw [← hm] at e ⊢
  clear h ct hm hL
  go_enter Try.func20, Try.ntmps20
  go_wp2
  go_ret
  exact ⟨rfl, rfl⟩
set_option maxHeartbeats 2000000 in
theorem min_any (B b g L : Nat) (h2 : 2 ≤ L) (hL : L ≤ 64) (vs : Nat → Value) (ls : Nat → List (Int × Int)) (w : World) (h : MD B b g L vs ls w) :
    Calls Try.prog 8 #[.pointer (some ⟨b, 0, none⟩)] w fun e w' => e = .returned (.tuple #[.agg #[.int .i64 ((frst (ls 1)).getD (0, 0)).1, .int .i64 ((frst (ls 1)).getD (0, 0)).2], .bool (frst (ls 1)).isSome]) ∧ Below w.heap.size w w' := by
  have h0 := h.up (bl_al (Below.refl _ _) item0)
  have HL := Lib.hid (leaves_any B b g L hL vs ls _ h0)
  have HF := Lib.hid (first_opt B b g L vs ls 1 (by omega) _ h0)
  have B0 : Hid (Below w.heap.size w (w.alloc item0)) := bl_al (Below.refl _ _) _
  have Q0 : Hid ((w.alloc item0).heap[w.heap.size]? = some item0 ∧ w.heap.size < (w.alloc item0).heap.size) := ⟨heap_alloc_new w item0, by simp⟩
  generalize (frst (ls 1)).isSome = ok at *
  generalize ((frst (ls 1)).getD (0, 0)).1 = k at *
  generalize ((frst (ls 1)).getD (0, 0)).2 = i at *
  have d0 : (((L / 2 : Nat) : Int) == 0) = false := by simp; omega
  generalize ((L / 2 : Nat) : Int) = m at *
  unfold item0 at HL HF B0 Q0
  clear h h0
  go_enter Try.func8, Try.ntmps8
  go_wp2_with fail
  refine HL.out.mono ?_
  rintro e w1 ⟨rfl, rfl⟩
  go_wp2_with fail
  refine HF.out.mono ?_
  rintro e w1 ⟨rfl, hB⟩
  have hq := (hB.block _ Q0.out.2).trans Q0.out.1
  have z0 := cell_of_row _ w.heap.size 0 _ _ _ hq
  have z1 := cell_of_row _ w.heap.size 1 _ _ _ hq
  have f0 := frozen_of_row _ w.heap.size 0 _ _ hq
  have f1 := frozen_of_row _ w.heap.size 1 _ _ hq
  have q1 := heap_setCell_same _ _ 1 _ _ (.int .i64 i) (heap_setCell_same _ _ 0 _ _ (.int .i64 k) hq)
  have R := Lib.hid (And.intro (cell_of_row _ w.heap.size 0 _ _ _ q1) (cell_of_row _ w.heap.size 1 _ _ _ q1))
  have BB : Hid (Below w.heap.size w ((w1.setCell ⟨w.heap.size, 0, none⟩ (.int .i64 k)).setCell ⟨w.heap.size, 1, none⟩ (.int .i64 i))) :=
    Below.setCell (p := ⟨w.heap.size, 1, none⟩) (Below.setCell (p := ⟨w.heap.size, 0, none⟩) (bl_tr B0.out hB) (Nat.le_refl _) _) (Nat.le_refl _) _
  clear HL HF B0 Q0 hB hq q1
  go_wp2
  obtain ⟨r0, r1⟩ := R.out
  exact bodyPost_ret (v := .tuple #[.agg #[.int .i64 k, .int .i64 i], .bool ok]) (by simp [results, Try.results8, go_sem, r0, r1]) rfl ⟨rfl, BB.out⟩
/-- is one place's first item less than another one's? -/
def ltv (o u : Option (Int × Int)) : Bool := o.isSome && (!u.isSome || decide ((o.getD (0, 0)).1 < (u.getD (0, 0)).1))
set_option maxHeartbeats 4000000 in
theorem less_any (B b g L : Nat) (vs : Nat → Value) (ls : Nat → List (Int × Int)) (p r : Nat) (hp : p < L) (hr : r < L) (w : World) (h : MD B b g L vs ls w) :
    Calls Try.prog 35 #[.pointer (some ⟨b, 0, none⟩), .int .i64 p, .int .i64 r] w fun e w' => e = .returned (.bool (ltv (frst (ls p)) (frst (ls r)))) ∧ Below w.heap.size w w' := by
  have HF := Lib.hid (first_opt B b g L vs ls p hp w h)
  have HG : Hid (∀ W, Below w.heap.size w W → Calls Try.prog 21 #[.pointer (some ⟨b, 0, none⟩), .int .i64 r] W fun e w' => e = .returned (.tuple #[.agg #[.int .i64 ((frst (ls r)).getD (0, 0)).1, .int .i64 ((frst (ls r)).getD (0, 0)).2], .bool (frst (ls r)).isSome]) ∧ Below W.heap.size W w') := fun W hW => first_opt B b g L vs ls r hr W (h.up hW)
  unfold ltv
  generalize frst (ls p) = o at *
  generalize frst (ls r) = u at *
  clear h hp hr
  obtain ⟨ok, k, i, ho⟩ : ∃ ok k i, o.isSome = ok ∧ (o.getD (0, 0)).1 = k ∧ (o.getD (0, 0)).2 = i := ⟨_, _, _, rfl, rfl, rfl⟩
  obtain ⟨ok2, k2, i2, hu⟩ : ∃ ok k i, u.isSome = ok ∧ (u.getD (0, 0)).1 = k ∧ (u.getD (0, 0)).2 = i := ⟨_, _, _, rfl, rfl, rfl⟩
  rw [ho.1, ho.2.1, ho.2.2] at HF
  rw [hu.1, hu.2.1, hu.2.2] at HG
  rw [ho.1, ho.2.1, hu.1, hu.2.1]
  clear ho hu
  cases ok <;> cases ok2
  all_goals
    go_enter Try.func35, Try.ntmps35
    go_wp2_with fail
    refine HF.out.mono ?_
    rintro e w1 ⟨rfl, hB⟩
    have HG2 := Lib.hid (HG.out (w1.alloc (.cells #[.int .i64 k, .int .i64 i] 24)) (bl_al hB _))
    have B1 := Lib.hid (bl_al hB (.cells #[.int .i64 k, .int .i64 i] 24))
    have Q1 : Hid ((w1.alloc (.cells #[.int .i64 k, .int .i64 i] 24)).heap[w1.heap.size]? = some (.cells #[.int .i64 k, .int .i64 i] 24 (0, 0)) ∧ w1.heap.size < (w1.alloc (.cells #[.int .i64 k, .int .i64 i] 24)).heap.size) := ⟨heap_alloc_new w1 _, by simp⟩
    clear HF HG hB
    go_wp2_with fail
    refine HG2.out.mono ?_
    rintro e w2 ⟨rfl, hB⟩
    have B2 := Lib.hid (bl_al (bl_tr B1.out hB) (.cells #[.int .i64 k2, .int .i64 i2] 24))
    have c0 : (w2.alloc (.cells #[.int .i64 k2, .int .i64 i2] 24)).cell? ⟨w1.heap.size, 0, none⟩ = some (.int .i64 k) := cell_of_row _ _ 0 _ _ _ ((Below.heap_alloc w2 _ _ (Nat.lt_of_lt_of_le Q1.out.2 hB.size)).trans ((hB.block _ Q1.out.2).trans Q1.out.1))
    clear HG2 hB B1 Q1
    go_wp2
    go_ret
    exact ⟨rfl, B2.out⟩
end Go.Proofs.Ytiiclonklihaiaa
