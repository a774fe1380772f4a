/-
  What drawer.costs answers.
-/
import Derived.Test.YtnmolpogmkiikaaCs
namespace Go.Proofs.Ytnmolpogmkiikaa
open Go.RowKit
set_option linter.unusedVariables false
theorem info29 : (Try.prog.info? 29).map (fun i => (i.zero, i.size, i.bytes)) = some (some (.slice none 0 0), 1, 24) := by kernel_rfl
theorem tl_nil (gs : Nat → Nat) (n : Nat) : tl gs n 0 = List.replicate n (.slice none 0 0) := by unfold tl; apply List.ext_getElem <;> simp
theorem rl_nil (t : Bool) (m s : Int) (n a : Nat) : rl t m s n a 0 = List.replicate n (.int .i64 0) := by unfold rl; apply List.ext_getElem <;> simp
theorem toList_one (z : Value) (n : Nat) : List.replicate n z = (madeCells #[z] n).toList := (toList_madeCells_one z n).symm
def CPost (t : Bool) (m s : Int) (n g : Nat) (w : World) (e : Ending) (w' : World) : Prop := ∃ (gc : Nat) (gs : Nat → Nat), e = .returned (.slice (some ⟨gc, 0, none⟩) n n) ∧ w'.ownsRow w.heap.size 29 1 (.slice (some ⟨gc, 0, none⟩) n n) n (tl gs n n) ∧
  (∀ j, j < n → w'.ownsRow w.heap.size 3 1 (.slice (some ⟨gs j, 0, none⟩) n n) n (rl t m s n j n)) ∧ w.grownBy w' (some g)
set_option maxRecDepth 100000 in
set_option maxHeartbeats 4000000 in
theorem costs_two (m s : Int) (h0 : 0 ≤ m) (h1 : m ≤ 2147483647) (n : Nat) (n1 : 1 ≤ n) (n2 : n ≤ 24) (g : Nat) (w : World) (hd : w.heap[g]? = some (.cells #[.int .u64 (sd s 0), .int .i64 m] 42 (0, 0))) :
    Calls Try.prog 13 #[.pointer (some ⟨g, 0, none⟩), .int .i64 2, .int .i64 n] w (CPost false m s n g w) := by
  obtain ⟨i0, hi, hz0, hz1, hz2⟩ := info_parts info3
  obtain ⟨i29, hi29, hy0, hy1, hy2⟩ := info_parts info29
  go_enter Try.func13, Try.ntmps13
  go_wp2_with (at_make; refine wpList_make_full _ rfl _ _ 30 rfl w.heap.size 29 i29 (.slice none 0 0) 1 Try.underlying30 hi29 hy0 hy1 .i64 .i64 _ _ n rfl rfl rfl rfl (by rw [hy2]; omega) (by unfold maxLen; omega) (Nat.le_refl _) ?_)
  intro w2 hown hgrow
  have K0 : Hid (CR false m s n g w.heap.size w.heap.size w 0 (fun _ => 0) w2) := ⟨by rw [tl_nil, toList_one]; exact hown, fun j hj => by omega, by rw [bas_zero]; exact (hgrow.block g (lt_hp hd) (by simp)).trans hd, ⟨hgrow.os, hgrow.tape, hgrow.output, hgrow.size, fun i hi hne => hgrow.block i hi (by simp)⟩, Nat.le_refl _, hgrow.size⟩
  clear hown hgrow hd
  generalize hgc : w.heap.size = gc at *
  obtain ⟨B, hB⟩ : ∃ B, B = gc := ⟨_, rfl⟩
  have K1 : Hid (CR false m s n g gc B w 0 (fun _ => 0) w2) := by rw [hB]; exact K0
  clear K0
  have hgcB := Lib.hid hgc
  have hBB := Lib.hid hB
  clear hgc hB
  go_wp2
  go_loopw [14] (fun i wr => ∃ (a : Nat) (gs : Nat → Nat), a ≤ n ∧ i = .int .i64 a ∧ Hid (CR false m s n g gc B w a gs wr)) (fun i _ => n - (intOf i).toNat)
  case atStart => exact ⟨0, fun _ => 0, by omega, rfl, K1⟩
  case round =>
    clear K1
    obtain ⟨a, gs0, ha, rfl, HC⟩ := hrel
    by_cases hal : a < n
    · have q1 : (a : Int) < (n : Int) := by omega
      have q2 : (0 : Int) ≤ (a : Int) := by omega
      obtain ⟨w3, hrun, hr3, hg3⟩ := run_make_full (P := Try.prog) wr B 29 3 i0 (.int .i64 0) 1 Try.underlying29 hi hz0 hz1 .i64 .i64 n (by rw [hz2]; omega) (by unfold maxLen; omega) HC.out.bs
      have hr4 : w3.ownsRow B 3 1 (.slice (some ⟨wr.heap.size, 0, none⟩) n n) n (rl false m s n a 0) := by have := hr3; rw [Nat.mul_one] at this; rw [rl_nil, toList_one]; exact this
      have HK0 := Lib.hid (HC.out.begin hr4 hg3)
      have c3 : w3.cell? ⟨gc, a, none⟩ = some (.slice none 0 0) := by
        have := (HC.out.top.kept hg3 (.inr (by simp [Value.ownBlock]))).cellAt a (by omega)
        rw [this, tl_at _ _ _ _ hal, if_neg (by omega)]
      have f3 : w3.frozen? ⟨gc, a, none⟩ = false := (HC.out.top.kept hg3 (.inr (by simp [Value.ownBlock]))).frozenAt a
      have hgcz : gc < w3.heap.size := by have := (HC.out.top.lt gc rfl).2; have := hg3.size; omega
      clear hr3 hr4 hg3 HC
      generalize wr = wo at *
      obtain ⟨gs, hgs⟩ : ∃ gs : Nat → Nat, gs = fun j => if j = a then wo.heap.size else gs0 j := ⟨_, rfl⟩
      rw [← hgs] at HK0
      have hga : Hid (gs a = wo.heap.size) := by rw [hgs]; show (if a = a then _ else _) = _; simp
      clear hgs
      go_wp2
      generalize wo.heap.size = ga at *
      clear c3 f3 hrun
      go_loopw [27] (fun i wr2 => ∃ b : Nat, b ≤ n ∧ i = .int .i64 b ∧ Hid (CS false m s n g gc B w a b (bas false n a + ctn false a b) gs wr2)) (fun i _ => n - (intOf i).toNat)
      case atStart => exact ⟨0, by omega, rfl, by rw [ctn_zero]; exact HK0⟩
      case round =>
        clear HK0
        obtain ⟨b, hb, rfl, HK⟩ := hrel
        by_cases hbn : b < n
        · have hbl := hbn
          have q1 : (b : Int) < (n : Int) := by omega
          have q2 : (a : Int) < (n : Int) := by omega
          have q3 : (0 : Int) ≤ (a : Int) := by omega
          have q4 : (0 : Int) ≤ (b : Int) := by omega
          have HE := Lib.hid (ent_draw m s n (t := false) (a := a) (b := b) (by rfl))
          have HX := Lib.hid (show bas false n a + ctn false a (b + 1) = bas false n a + ctn false a b + 1 from by rw [ctn_next (by rfl)]; omega)
          go_wp2
          refine wp_region_held_drew (S := fun _ => True) (by kernel_rfl) trivial (fun hHeld => ?_)
          have HKd := Lib.hid HK.out.drew
          clear HK
          have HK := HKd
          clear HKd
          generalize World.drew _ = vu1 at *
          refine wpAnyH_take (i := 0) (v := ?vu2) (by rw [List.getElem?_toArray]; rfl) (by kernel_rfl) (by kernel_rfl) (by kernel_rfl) ?qu2 (Or.inl ⟨by rfl, ?yu2⟩) (by assumption) ?ru2
          case qu2 => exact fun _ _ _ h => h
          case yu2 => (intro wz hSw; go_simp; try (with_reducible rfl))
          simp only [Act.put, List.setIfInBounds_toArray, List.set_cons_zero, List.set_cons_succ]
          refine wpAnyH_take (i := 1) (v := ?vu3) (by rw [List.getElem?_toArray]; rfl) (by kernel_rfl) (by kernel_rfl) (by kernel_rfl) ?qu3 (Or.inl ⟨by rfl, ?yu3⟩) (by assumption) ?ru3
          case qu3 => exact fun _ _ _ h => h
          case yu3 => (intro wz hSw; go_simp; try (with_reducible rfl))
          simp only [Act.put, List.setIfInBounds_toArray, List.set_cons_zero, List.set_cons_succ]
          refine wpAnyH_take (i := 2) (v := ?vu4) (by rw [List.getElem?_toArray]; rfl) (by kernel_rfl) (by kernel_rfl) (by kernel_rfl) ?qu4 (Or.inl ⟨by rfl, ?yu4⟩) (by assumption) ?ru4
          case qu4 => exact fun _ _ _ h => h
          case yu4 => (intro wz hSw; go_simp; try (with_reducible rfl))
          simp only [Act.put, List.setIfInBounds_toArray, List.set_cons_zero, List.set_cons_succ]
          refine wpAnyH_take (i := 4) (v := ?vu5) (by rw [List.getElem?_toArray]; rfl) (by kernel_rfl) (by kernel_rfl) (by kernel_rfl) ?qu5 (Or.inl ⟨by rfl, ?yu5⟩) (by assumption) ?ru5
          case qu5 => exact fun _ _ _ h => h
          case yu5 => (intro wz hSw; go_simp; try (with_reducible rfl))
          simp only [Act.put, List.setIfInBounds_toArray, List.set_cons_zero, List.set_cons_succ]
          refine wpAnyH_take (i := 5) (v := ?vu6) (by rw [List.getElem?_toArray]; rfl) (by kernel_rfl) (by kernel_rfl) (by kernel_rfl) ?qu6 (Or.inl ⟨by rfl, ?yu6⟩) (by assumption) ?ru6
          case qu6 => exact fun _ _ _ h => h
          case yu6 => (intro wz hSw; go_simp; try (with_reducible rfl))
          simp only [Act.put, List.setIfInBounds_toArray, List.set_cons_zero, List.set_cons_succ]
          refine wpAnyH_ready (rs := [3, 6]) (by kernel_rfl) (by simp) ?_
          refine AllReadyH.cons (by rw [List.getElem?_toArray]; rfl) (fun K hK => ?_) (AllReadyH.cons (by rw [List.getElem?_toArray]; rfl) (fun K hK => ?_) AllReadyH.nil)
          · have c5 : vu1.cell? ⟨gc, a, none⟩ = some (.slice (some ⟨ga, 0, none⟩) n n) := by rw [HK.out.top.cellAt a (by omega), tl_at _ _ _ _ hal, if_pos (by omega), hga.out]
            clear hHeld
            go_simp
            refine hK.out _ _ trivial (fun hHeld => ?_)
            clear hK K c5
            refine wpAnyH_ready (rs := [6]) (by kernel_rfl) (by simp) ?_
            refine AllReadyH.cons (by rw [List.getElem?_toArray]; rfl) (fun K hK => ?_) AllReadyH.nil
            clear hHeld
            go_simp
            go_at_call 16; refine (next_any m s h0 h1 (bas false n a + ctn false a b) g _ HK.out.d).mono ?_; rintro e vu7 ⟨rfl, hd1, hg1⟩
            have HKd := Lib.hid (HK.out.call hg1 hd1)
            clear HK hd1 hg1
            have HK := HKd
            clear HKd
            go_wp2_with fail
            refine hK.out _ _ trivial (fun hHeld => ?_)
            clear hK K
            refine wpAnyH_take (i := 7) (v := ?vu9) (by rw [List.getElem?_toArray]; rfl) (by kernel_rfl) (by kernel_rfl) (by kernel_rfl) ?qu9 (Or.inl ⟨by rfl, ?yu9⟩) (by assumption) ?ru9
            case qu9 => exact fun _ _ _ h => h
            case yu9 => (intro wz hSw; go_simp; try (with_reducible rfl))
            simp only [Act.put, List.setIfInBounds_toArray, List.set_cons_zero, List.set_cons_succ]
            refine wpAnyH_ready (rs := [8]) (by kernel_rfl) (by simp) ?_
            refine AllReadyH.cons (by rw [List.getElem?_toArray]; rfl) (fun K hK => ?_) AllReadyH.nil
            clear hHeld
            have HN := Lib.hid (HK.out.store HE.out.symm)
            have c5 : vu7.cell? ⟨ga, b, none⟩ = some (.int .i64 (if b < b then ent false m s n a b else 0)) := by have := HK.out.cur.cellAt b (by omega); rw [hga.out] at this; rw [this]; exact rl_at false m s n a b b hbl
            have f5 : vu7.frozen? ⟨ga, b, none⟩ = false := by have := HK.out.cur.frozenAt b; rw [hga.out] at this; exact this
            rw [hga.out] at HN
            clear HK
            go_simp
            refine hK.out _ _ trivial (fun hHeld => ?_)
            clear hK K hHeld c5 f5
            refine wpAnyH_done (by kernel_rfl) ?_ _
            go_wp2
            go_roundw
            case rel => exact ⟨b + 1, by omega, by go_num, by rw [HX.out]; exact HN⟩
            case measure => simp [intOf]; omega
          · clear hHeld
            go_simp
            go_at_call 16; refine (next_any m s h0 h1 (bas false n a + ctn false a b) g _ HK.out.d).mono ?_; rintro e vu8 ⟨rfl, hd1, hg1⟩
            have HKd := Lib.hid (HK.out.call hg1 hd1)
            clear HK hd1 hg1
            have HK := HKd
            clear HKd
            go_wp2_with fail
            refine hK.out _ _ trivial (fun hHeld => ?_)
            clear hK K
            refine wpAnyH_ready (rs := [3]) (by kernel_rfl) (by simp) ?_
            refine AllReadyH.cons (by rw [List.getElem?_toArray]; rfl) (fun K hK => ?_) AllReadyH.nil
            have c5 : vu8.cell? ⟨gc, a, none⟩ = some (.slice (some ⟨ga, 0, none⟩) n n) := by rw [HK.out.top.cellAt a (by omega), tl_at _ _ _ _ hal, if_pos (by omega), hga.out]
            clear hHeld
            go_simp
            refine hK.out _ _ trivial (fun hHeld => ?_)
            clear hK K c5
            refine wpAnyH_take (i := 7) (v := ?vu10) (by rw [List.getElem?_toArray]; rfl) (by kernel_rfl) (by kernel_rfl) (by kernel_rfl) ?qu10 (Or.inl ⟨by rfl, ?yu10⟩) (by assumption) ?ru10
            case qu10 => exact fun _ _ _ h => h
            case yu10 => (intro wz hSw; go_simp; try (with_reducible rfl))
            simp only [Act.put, List.setIfInBounds_toArray, List.set_cons_zero, List.set_cons_succ]
            refine wpAnyH_ready (rs := [8]) (by kernel_rfl) (by simp) ?_
            refine AllReadyH.cons (by rw [List.getElem?_toArray]; rfl) (fun K hK => ?_) AllReadyH.nil
            clear hHeld
            have HN := Lib.hid (HK.out.store HE.out.symm)
            have c5 : vu8.cell? ⟨ga, b, none⟩ = some (.int .i64 (if b < b then ent false m s n a b else 0)) := by have := HK.out.cur.cellAt b (by omega); rw [hga.out] at this; rw [this]; exact rl_at false m s n a b b hbl
            have f5 : vu8.frozen? ⟨ga, b, none⟩ = false := by have := HK.out.cur.frozenAt b; rw [hga.out] at this; exact this
            rw [hga.out] at HN
            clear HK
            go_simp
            refine hK.out _ _ trivial (fun hHeld => ?_)
            clear hK K hHeld c5 f5
            refine wpAnyH_done (by kernel_rfl) ?_ _
            go_wp2
            go_roundw
            case rel => exact ⟨b + 1, by omega, by go_num, by rw [HX.out]; exact HN⟩
            case measure => simp [intOf]; omega
        · obtain rfl : b = n := by omega
          have HN := Lib.hid (show CR false m s b g gc B w (a + 1) gs _ from CS.done (by have := HK.out; rwa [bas_next false b a (by omega)] at this) (by have := HK.out.top.lt gc rfl; omega))
          clear HK
          go_wp2
          go_roundw
          case rel => exact ⟨a + 1, gs, by omega, by go_num, HN⟩
          case measure => simp [intOf]; omega
    · obtain rfl : a = n := by omega
      go_wp2
      go_ret
      exact ⟨gc, gs0, rfl, by rw [hgcB.out]; have := HC.out.top; rwa [hBB.out] at this, fun j hj => by rw [hgcB.out]; have := HC.out.rows j hj; rwa [hBB.out] at this, HC.out.gone⟩
set_option maxRecDepth 100000 in
set_option maxHeartbeats 4000000 in
theorem costs_three (m s : Int) (h0 : 0 ≤ m) (h1 : m ≤ 2147483647) (n : Nat) (n1 : 1 ≤ n) (n2 : n ≤ 24) (g : Nat) (w : World) (hd : w.heap[g]? = some (.cells #[.int .u64 (sd s 0), .int .i64 m] 42 (0, 0))) :
    Calls Try.prog 13 #[.pointer (some ⟨g, 0, none⟩), .int .i64 3, .int .i64 n] w (CPost true m s n g w) := by
  obtain ⟨i0, hi, hz0, hz1, hz2⟩ := info_parts info3
  obtain ⟨i29, hi29, hy0, hy1, hy2⟩ := info_parts info29
  go_enter Try.func13, Try.ntmps13
  go_wp2_with (at_make; refine wpList_make_full _ rfl _ _ 30 rfl w.heap.size 29 i29 (.slice none 0 0) 1 Try.underlying30 hi29 hy0 hy1 .i64 .i64 _ _ n rfl rfl rfl rfl (by rw [hy2]; omega) (by unfold maxLen; omega) (Nat.le_refl _) ?_)
  intro w2 hown hgrow
  have K0 : Hid (CR true m s n g w.heap.size w.heap.size w 0 (fun _ => 0) w2) := ⟨by rw [tl_nil, toList_one]; exact hown, fun j hj => by omega, by rw [bas_zero]; exact (hgrow.block g (lt_hp hd) (by simp)).trans hd, ⟨hgrow.os, hgrow.tape, hgrow.output, hgrow.size, fun i hi hne => hgrow.block i hi (by simp)⟩, Nat.le_refl _, hgrow.size⟩
  clear hown hgrow hd
  generalize hgc : w.heap.size = gc at *
  obtain ⟨B, hB⟩ : ∃ B, B = gc := ⟨_, rfl⟩
  have K1 : Hid (CR true m s n g gc B w 0 (fun _ => 0) w2) := by rw [hB]; exact K0
  clear K0
  have hgcB := Lib.hid hgc
  have hBB := Lib.hid hB
  clear hgc hB
  go_wp2
  go_loopw [14] (fun i wr => ∃ (a : Nat) (gs : Nat → Nat), a ≤ n ∧ i = .int .i64 a ∧ Hid (CR true m s n g gc B w a gs wr)) (fun i _ => n - (intOf i).toNat)
  case atStart => exact ⟨0, fun _ => 0, by omega, rfl, K1⟩
  case round =>
    clear K1
    obtain ⟨a, gs0, ha, rfl, HC⟩ := hrel
    by_cases hal : a < n
    · have q1 : (a : Int) < (n : Int) := by omega
      have q2 : (0 : Int) ≤ (a : Int) := by omega
      obtain ⟨w3, hrun, hr3, hg3⟩ := run_make_full (P := Try.prog) wr B 29 3 i0 (.int .i64 0) 1 Try.underlying29 hi hz0 hz1 .i64 .i64 n (by rw [hz2]; omega) (by unfold maxLen; omega) HC.out.bs
      have hr4 : w3.ownsRow B 3 1 (.slice (some ⟨wr.heap.size, 0, none⟩) n n) n (rl true m s n a 0) := by have := hr3; rw [Nat.mul_one] at this; rw [rl_nil, toList_one]; exact this
      have HK0 := Lib.hid (HC.out.begin hr4 hg3)
      have c3 : w3.cell? ⟨gc, a, none⟩ = some (.slice none 0 0) := by
        have := (HC.out.top.kept hg3 (.inr (by simp [Value.ownBlock]))).cellAt a (by omega)
        rw [this, tl_at _ _ _ _ hal, if_neg (by omega)]
      have f3 : w3.frozen? ⟨gc, a, none⟩ = false := (HC.out.top.kept hg3 (.inr (by simp [Value.ownBlock]))).frozenAt a
      have hgcz : gc < w3.heap.size := by have := (HC.out.top.lt gc rfl).2; have := hg3.size; omega
      clear hr3 hr4 hg3 HC
      generalize wr = wo at *
      obtain ⟨gs, hgs⟩ : ∃ gs : Nat → Nat, gs = fun j => if j = a then wo.heap.size else gs0 j := ⟨_, rfl⟩
      rw [← hgs] at HK0
      have hga : Hid (gs a = wo.heap.size) := by rw [hgs]; show (if a = a then _ else _) = _; simp
      clear hgs
      go_wp2
      generalize wo.heap.size = ga at *
      clear c3 f3 hrun
      go_loopw [27] (fun i wr2 => ∃ b : Nat, b ≤ n ∧ i = .int .i64 b ∧ Hid (CS true m s n g gc B w a b (bas true n a + ctn true a b) gs wr2)) (fun i _ => n - (intOf i).toNat)
      case atStart => exact ⟨0, by omega, rfl, by rw [ctn_zero]; exact HK0⟩
      case round =>
        clear HK0
        obtain ⟨b, hb, rfl, HK⟩ := hrel
        by_cases hbn : b < n
        · have hbl := hbn
          have q1 : (b : Int) < (n : Int) := by omega
          have q2 : (a : Int) < (n : Int) := by omega
          have q3 : (0 : Int) ≤ (a : Int) := by omega
          have q4 : (0 : Int) ≤ (b : Int) := by omega
          by_cases hab : a = b
          · have HE := Lib.hid (show ent true m s n a b = 0 from by rw [← hab]; exact ent_diag m s n a)
            have HX := Lib.hid (show bas true n a + ctn true a (b + 1) = bas true n a + ctn true a b from by rw [← hab, ctn_skip])
            have q5 : ((a : Int) != (b : Int)) = false := by simp; omega
            have HN := Lib.hid (HK.out.skip HE.out)
            clear HK
            go_wp2
            go_roundw
            case rel => exact ⟨b + 1, by omega, by go_num, by rw [HX.out]; exact HN⟩
            case measure => simp [intOf]; omega
          · have q5 : ((a : Int) != (b : Int)) = true := by simp; omega
            have HE := Lib.hid (ent_draw m s n (t := true) (a := a) (b := b) (by simp [hab]))
            have HX := Lib.hid (show bas true n a + ctn true a (b + 1) = bas true n a + ctn true a b + 1 from by rw [ctn_next (by simp [hab])]; omega)
            go_wp2
            refine wp_region_held_drew (S := fun _ => True) (by kernel_rfl) trivial (fun hHeld => ?_)
            have HKd := Lib.hid HK.out.drew
            clear HK
            have HK := HKd
            clear HKd
            generalize World.drew _ = vu11 at *
            refine wpAnyH_take (i := 0) (v := ?vu12) (by rw [List.getElem?_toArray]; rfl) (by kernel_rfl) (by kernel_rfl) (by kernel_rfl) ?qu12 (Or.inl ⟨by rfl, ?yu12⟩) (by assumption) ?ru12
            case qu12 => exact fun _ _ _ h => h
            case yu12 => (intro wz hSw; go_simp; try (with_reducible rfl))
            simp only [Act.put, List.setIfInBounds_toArray, List.set_cons_zero, List.set_cons_succ]
            refine wpAnyH_take (i := 1) (v := ?vu13) (by rw [List.getElem?_toArray]; rfl) (by kernel_rfl) (by kernel_rfl) (by kernel_rfl) ?qu13 (Or.inl ⟨by rfl, ?yu13⟩) (by assumption) ?ru13
            case qu13 => exact fun _ _ _ h => h
            case yu13 => (intro wz hSw; go_simp; try (with_reducible rfl))
            simp only [Act.put, List.setIfInBounds_toArray, List.set_cons_zero, List.set_cons_succ]
            refine wpAnyH_take (i := 2) (v := ?vu14) (by rw [List.getElem?_toArray]; rfl) (by kernel_rfl) (by kernel_rfl) (by kernel_rfl) ?qu14 (Or.inl ⟨by rfl, ?yu14⟩) (by assumption) ?ru14
            case qu14 => exact fun _ _ _ h => h
            case yu14 => (intro wz hSw; go_simp; try (with_reducible rfl))
            simp only [Act.put, List.setIfInBounds_toArray, List.set_cons_zero, List.set_cons_succ]
            refine wpAnyH_take (i := 4) (v := ?vu15) (by rw [List.getElem?_toArray]; rfl) (by kernel_rfl) (by kernel_rfl) (by kernel_rfl) ?qu15 (Or.inl ⟨by rfl, ?yu15⟩) (by assumption) ?ru15
            case qu15 => exact fun _ _ _ h => h
            case yu15 => (intro wz hSw; go_simp; try (with_reducible rfl))
            simp only [Act.put, List.setIfInBounds_toArray, List.set_cons_zero, List.set_cons_succ]
            refine wpAnyH_take (i := 5) (v := ?vu16) (by rw [List.getElem?_toArray]; rfl) (by kernel_rfl) (by kernel_rfl) (by kernel_rfl) ?qu16 (Or.inl ⟨by rfl, ?yu16⟩) (by assumption) ?ru16
            case qu16 => exact fun _ _ _ h => h
            case yu16 => (intro wz hSw; go_simp; try (with_reducible rfl))
            simp only [Act.put, List.setIfInBounds_toArray, List.set_cons_zero, List.set_cons_succ]
            refine wpAnyH_ready (rs := [3, 6]) (by kernel_rfl) (by simp) ?_
            refine AllReadyH.cons (by rw [List.getElem?_toArray]; rfl) (fun K hK => ?_) (AllReadyH.cons (by rw [List.getElem?_toArray]; rfl) (fun K hK => ?_) AllReadyH.nil)
            · have c5 : vu11.cell? ⟨gc, a, none⟩ = some (.slice (some ⟨ga, 0, none⟩) n n) := by rw [HK.out.top.cellAt a (by omega), tl_at _ _ _ _ hal, if_pos (by omega), hga.out]
              clear hHeld
              go_simp
              refine hK.out _ _ trivial (fun hHeld => ?_)
              clear hK K c5
              refine wpAnyH_ready (rs := [6]) (by kernel_rfl) (by simp) ?_
              refine AllReadyH.cons (by rw [List.getElem?_toArray]; rfl) (fun K hK => ?_) AllReadyH.nil
              clear hHeld
              go_simp
              go_at_call 16; refine (next_any m s h0 h1 (bas true n a + ctn true a b) g _ HK.out.d).mono ?_; rintro e vu17 ⟨rfl, hd1, hg1⟩
              have HKd := Lib.hid (HK.out.call hg1 hd1)
              clear HK hd1 hg1
              have HK := HKd
              clear HKd
              go_wp2_with fail
              refine hK.out _ _ trivial (fun hHeld => ?_)
              clear hK K
              refine wpAnyH_take (i := 7) (v := ?vu19) (by rw [List.getElem?_toArray]; rfl) (by kernel_rfl) (by kernel_rfl) (by kernel_rfl) ?qu19 (Or.inl ⟨by rfl, ?yu19⟩) (by assumption) ?ru19
              case qu19 => exact fun _ _ _ h => h
              case yu19 => (intro wz hSw; go_simp; try (with_reducible rfl))
              simp only [Act.put, List.setIfInBounds_toArray, List.set_cons_zero, List.set_cons_succ]
              refine wpAnyH_ready (rs := [8]) (by kernel_rfl) (by simp) ?_
              refine AllReadyH.cons (by rw [List.getElem?_toArray]; rfl) (fun K hK => ?_) AllReadyH.nil
              clear hHeld
              have HN := Lib.hid (HK.out.store HE.out.symm)
              have c5 : vu17.cell? ⟨ga, b, none⟩ = some (.int .i64 (if b < b then ent true m s n a b else 0)) := by have := HK.out.cur.cellAt b (by omega); rw [hga.out] at this; rw [this]; exact rl_at true m s n a b b hbl
              have f5 : vu17.frozen? ⟨ga, b, none⟩ = false := by have := HK.out.cur.frozenAt b; rw [hga.out] at this; exact this
              rw [hga.out] at HN
              clear HK
              go_simp
              refine hK.out _ _ trivial (fun hHeld => ?_)
              clear hK K hHeld c5 f5
              refine wpAnyH_done (by kernel_rfl) ?_ _
              go_wp2
              go_roundw
              case rel => exact ⟨b + 1, by omega, by go_num, by rw [HX.out]; exact HN⟩
              case measure => simp [intOf]; omega
            · clear hHeld
              go_simp
              go_at_call 16; refine (next_any m s h0 h1 (bas true n a + ctn true a b) g _ HK.out.d).mono ?_; rintro e vu18 ⟨rfl, hd1, hg1⟩
              have HKd := Lib.hid (HK.out.call hg1 hd1)
              clear HK hd1 hg1
              have HK := HKd
              clear HKd
              go_wp2_with fail
              refine hK.out _ _ trivial (fun hHeld => ?_)
              clear hK K
              refine wpAnyH_ready (rs := [3]) (by kernel_rfl) (by simp) ?_
              refine AllReadyH.cons (by rw [List.getElem?_toArray]; rfl) (fun K hK => ?_) AllReadyH.nil
              have c5 : vu18.cell? ⟨gc, a, none⟩ = some (.slice (some ⟨ga, 0, none⟩) n n) := by rw [HK.out.top.cellAt a (by omega), tl_at _ _ _ _ hal, if_pos (by omega), hga.out]
              clear hHeld
              go_simp
              refine hK.out _ _ trivial (fun hHeld => ?_)
              clear hK K c5
              refine wpAnyH_take (i := 7) (v := ?vu20) (by rw [List.getElem?_toArray]; rfl) (by kernel_rfl) (by kernel_rfl) (by kernel_rfl) ?qu20 (Or.inl ⟨by rfl, ?yu20⟩) (by assumption) ?ru20
              case qu20 => exact fun _ _ _ h => h
              case yu20 => (intro wz hSw; go_simp; try (with_reducible rfl))
              simp only [Act.put, List.setIfInBounds_toArray, List.set_cons_zero, List.set_cons_succ]
              refine wpAnyH_ready (rs := [8]) (by kernel_rfl) (by simp) ?_
              refine AllReadyH.cons (by rw [List.getElem?_toArray]; rfl) (fun K hK => ?_) AllReadyH.nil
              clear hHeld
              have HN := Lib.hid (HK.out.store HE.out.symm)
              have c5 : vu18.cell? ⟨ga, b, none⟩ = some (.int .i64 (if b < b then ent true m s n a b else 0)) := by have := HK.out.cur.cellAt b (by omega); rw [hga.out] at this; rw [this]; exact rl_at true m s n a b b hbl
              have f5 : vu18.frozen? ⟨ga, b, none⟩ = false := by have := HK.out.cur.frozenAt b; rw [hga.out] at this; exact this
              rw [hga.out] at HN
              clear HK
              go_simp
              refine hK.out _ _ trivial (fun hHeld => ?_)
              clear hK K hHeld c5 f5
              refine wpAnyH_done (by kernel_rfl) ?_ _
              go_wp2
              go_roundw
              case rel => exact ⟨b + 1, by omega, by go_num, by rw [HX.out]; exact HN⟩
              case measure => simp [intOf]; omega
        · obtain rfl : b = n := by omega
          have HN := Lib.hid (show CR true m s b g gc B w (a + 1) gs _ from CS.done (by have := HK.out; rwa [bas_next true b a (by omega)] at this) (by have := HK.out.top.lt gc rfl; omega))
          clear HK
          go_wp2
          go_roundw
          case rel => exact ⟨a + 1, gs, by omega, by go_num, HN⟩
          case measure => simp [intOf]; omega
    · obtain rfl : a = n := by omega
      go_wp2
      go_ret
      exact ⟨gc, gs0, rfl, by rw [hgcB.out]; have := HC.out.top; rwa [hBB.out] at this, fun j hj => by rw [hgcB.out]; have := HC.out.rows j hj; rwa [hBB.out] at this, HC.out.gone⟩
end Go.Proofs.Ytnmolpogmkiikaa
