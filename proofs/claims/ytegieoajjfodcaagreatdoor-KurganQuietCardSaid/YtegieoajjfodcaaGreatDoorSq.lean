/-
  square.
-/
import Derived.Test.YtegieoajjfodcaaGreatDoorTbl
namespace Go.Proofs.YtegieoajjfodcaaGreatDoor
open Go.RowKit
set_option linter.unusedVariables false
theorem info23 : (Tryz.prog.info? 27).map (fun i => (i.zero, i.size, i.bytes)) = some (some (.slice none 0 0), 1, 24) := by kernel_rfl
theorem info3 : (Tryz.prog.info? 3).map (fun i => (i.zero, i.size, i.bytes)) = some (some (.int .i64 0), 1, 8) := by kernel_rfl
theorem toList_one (z : Value) (n : Nat) : List.replicate n z = (madeCells #[z] n).toList := (toList_madeCells_one z n).symm
structure SQ (B gc n a : Nat) (gs : Nat → Nat) (w wr : World) : Prop where
  top : wr.ownsRow B 27 1 (.slice (some ⟨gc, 0, none⟩) n n) n (tl gs n a)
  rows : ∀ j, j < a → wr.ownsRow B 3 1 (.slice (some ⟨gs j, 0, none⟩) n n) n (rwv (fun _ _ => 0) n j)
  inj : ∀ i j, i < a → j < a → gs i = gs j → i = j
  gone : Below w.heap.size w wr
  sz : w.heap.size ≤ B
  bs : B ≤ wr.heap.size
theorem SQ.next {B gc n a : Nat} {gs : Nat → Nat} {w wr w1 : World} (h : SQ B gc n a gs w wr) (hr : w1.ownsRow B 3 1 (.slice (some ⟨wr.heap.size, 0, none⟩) n n) n (rwv (fun _ _ => 0) n a)) (hg : wr.grownBy w1 none) :
    SQ B gc n (a + 1) (fun j => if j = a then wr.heap.size else gs j) w (w1.setCell ⟨gc, a, none⟩ (.slice (some ⟨wr.heap.size, 0, none⟩) n n)) := by
  obtain ⟨ct, hct⟩ := row_kindE h.top rfl
  have hgc := (h.top.lt gc rfl)
  have hct1 : w1.heap[gc]? = some (.cells ct 27 (0, 0)) := (hg.block gc hgc.2 (by simp)).trans hct
  have kp : ∀ {v : Value} {k : Nat} {xs : List Value}, wr.ownsRow B 3 1 v k xs → (w1.setCell ⟨gc, a, none⟩ (.slice (some ⟨wr.heap.size, 0, none⟩) n n)).ownsRow B 3 1 v k xs := fun hv =>
    ownsRow_setCell_other (a := ⟨gc, a, none⟩) (hv.kept hg (by cases e : Value.ownBlock _ with | none => exact .inl rfl | some y => exact .inr (by simp))) (row_neE (hv.kept hg (by cases e : Value.ownBlock _ with | none => exact .inl rfl | some y => exact .inr (by simp))) hct1 (by decide)) _
  refine ⟨?_, fun j hj => ?_, fun i j hi hj e => ?_, ?_, h.sz, by have := hg.size; have := h.bs; simp [World.setCell]; omega⟩
  · rw [← tl_set]
    exact ((h.top.kept hg (.inr (by simp [Value.ownBlock]))).stored a _).1
  · by_cases e : j = a
    · subst e
      simp only [if_true]
      exact ownsRow_setCell_other (a := ⟨gc, j, none⟩) hr (row_neE hr hct1 (by decide)) _
    · simp only [e, if_false]
      exact kp (h.rows j (by omega))
  · by_cases e1 : i = a <;> by_cases e2 : j = a
    · omega
    · simp only [e1, e2, if_true, if_false] at e
      have := ((h.rows j (by omega)).lt (gs j) rfl).2
      omega
    · simp only [e1, e2, if_true, if_false] at e
      have := ((h.rows i (by omega)).lt (gs i) rfl).2
      omega
    · simp only [e1, e2, if_false] at e
      exact h.inj i j (by omega) (by omega) e
  · have hz := h.sz
    exact ⟨hg.os.trans h.gone.os, hg.tape.trans h.gone.tape, hg.output.trans h.gone.output, by have := h.gone.size; have := hg.size; simp [World.setCell]; omega, fun k hk => by
      rw [heap_setCell_other w1 ⟨gc, a, none⟩ k _ (by show k ≠ gc; omega)]
      exact (hg.block k (by have := h.gone.size; omega) (by simp)).trans (h.gone.block k hk)⟩
set_option maxRecDepth 100000 in
set_option maxHeartbeats 4000000 in
theorem square_any (n : Nat) (n2 : n ≤ 24) (w : World) : Calls Tryz.prog 79 #[.int .i64 n] w fun e w' => ∃ (gc : Nat) (gs : Nat → Nat), e = .returned (.slice (some ⟨gc, 0, none⟩) n n) ∧ TBL w.heap.size gc n gs (fun _ _ => 0) w' ∧ Below w.heap.size w w' := by
  obtain ⟨i0, hi, hz0, hz1, hz2⟩ := info_parts info3
  obtain ⟨i23, hi23, hy0, hy1, hy2⟩ := info_parts info23
  go_enter Tryz.func79, Tryz.ntmps79
  go_wp2_with (at_make; refine wpList_make_full _ rfl _ _ 28 rfl w.heap.size 27 i23 (.slice none 0 0) 1 Tryz.underlying28 hi23 hy0 hy1 .i64 .i64 _ _ n rfl rfl rfl rfl (by rw [hy2]; omega) (by unfold maxLen; omega) (Nat.le_refl _) ?_)
  intro w2 hown hgrow
  have K0 : Hid (SQ w.heap.size w.heap.size n 0 (fun _ => 0) w w2) := ⟨by rw [tl_nil, toList_one]; exact hown, fun j hj => by omega, fun i j hi => by omega, ⟨hgrow.os, hgrow.tape, hgrow.output, hgrow.size, fun i hi => hgrow.block i hi (by simp)⟩, Nat.le_refl _, hgrow.size⟩
  clear hown hgrow
  generalize hgc : w.heap.size = gc at *
  obtain ⟨B, hB⟩ : ∃ B, B = gc := ⟨_, rfl⟩
  have K1 : Hid (SQ B gc n 0 (fun _ => 0) w w2) := by rw [hB]; exact K0
  clear K0
  have hgcB := Lib.hid hgc
  have hBB := Lib.hid hB
  clear hgc hB
  go_wp2
  go_loopw [9] (fun i wr => ∃ (a : Nat) (gs : Nat → Nat), a ≤ n ∧ i = .int .i64 a ∧ Hid (SQ B gc n a gs w wr)) (fun i _ => n - (intOf i).toNat)
  case atStart => exact ⟨0, fun _ => 0, by omega, rfl, K1⟩
  case round =>
    clear K1
    obtain ⟨a, gs0, ha, rfl, HC⟩ := hrel
    by_cases hal : a < n
    · have q1 : (a : Int) < (n : Int) := by omega
      have q2 : (0 : Int) ≤ (a : Int) := by omega
      obtain ⟨w3, hrun, hr3, hg3⟩ := run_make_full (P := Tryz.prog) wr B 27 3 i0 (.int .i64 0) 1 Tryz.underlying27 hi hz0 hz1 .i64 .i64 n (by rw [hz2]; omega) (by unfold maxLen; omega) HC.out.bs
      have hr4 : w3.ownsRow B 3 1 (.slice (some ⟨wr.heap.size, 0, none⟩) n n) n (rwv (fun _ _ => 0) n a) := by have := hr3; rw [Nat.mul_one] at this; rw [rwv_zero, toList_one]; exact this
      have HK0 := Lib.hid (HC.out.next hr4 hg3)
      have c3 : w3.cell? ⟨gc, a, none⟩ = some (.slice none 0 0) := by
        have := (HC.out.top.kept hg3 (.inr (by simp [Value.ownBlock]))).cellAt a (by omega)
        rw [this, tl_at _ _ _ _ hal, if_neg (by omega)]
      have f3 : w3.frozen? ⟨gc, a, none⟩ = false := (HC.out.top.kept hg3 (.inr (by simp [Value.ownBlock]))).frozenAt a
      clear hr3 hr4 hg3 HC
      go_wp2
      go_roundw
      case rel => exact ⟨a + 1, _, by omega, by go_num, HK0⟩
      case measure => simp [intOf]; omega
    · obtain rfl : a = n := by omega
      have FN := HC.out
      go_wp2
      go_ret
      exact ⟨gc, gs0, rfl, ⟨by rw [hgcB.out]; have := FN.top; rw [hBB.out] at this; exact this, fun j hj => by rw [hgcB.out]; have := FN.rows j hj; rw [hBB.out] at this; exact this, FN.inj⟩, FN.gone⟩
end Go.Proofs.YtegieoajjfodcaaGreatDoor
