/-
  What drawer.knapsack answers: its first loop.
-/
import Derived.Test.YtnmolpogmkiikaaKs
import Derived.Deep.RegionHeld3
import Derived.Lib.SmallJoins
import Derived.LoopTactic
namespace Go.Proofs.Ytnmolpogmkiikaa
open Go.RowKit
set_option linter.unusedVariables false
theorem info3 : (Try.prog.info? 3).map (fun i => (i.zero, i.size, i.bytes)) = some (some (.int .i64 0), 1, 8) := by kernel_rfl
theorem bl_al {a w : World} (h : Below a.heap.size a w) (o : Obj) : Below a.heap.size a (w.alloc o) := h.alloc h.size o
theorem ks_round {m s n : Int} {g gr gi B : Nat} {w : World} {k : Nat} {vW vV : Value} {wr : World} (h : KS m s n g gr gi B w (k + k + 1 + 1) (k + 1) (k + 1) vW vV wr) : KS m s n g gr gi B w ((k + 1) + (k + 1)) (k + 1) (k + 1) vW vV wr := by
  have e : k + 1 + (k + 1) = k + k + 1 + 1 := by omega
  rw [e]; exact h
/-- the sum of the numbers of even places -/
def ps (m s : Int) : Nat → Int
  | 0 => 0
  | k + 1 => ps m s k + dr m s (k + k)
theorem ps_zero (m s : Int) : ps m s 0 = 0 := rfl
theorem ps_succ (m s : Int) (k : Nat) : ps m s (k + 1) = ps m s k + dr m s (k + k) := rfl
theorem ps_bd (m s : Int) (h0 : 0 ≤ m) (h1 : m ≤ 2147483647) : ∀ k : Nat, 0 ≤ ps m s k ∧ ps m s k ≤ (k : Int) * 2147483647
  | 0 => by rw [ps_zero]; omega
  | k + 1 => by
    have ih := ps_bd m s h0 h1 k
    have hb := dr_bd m s (k + k) h0
    rw [ps_succ]
    omega
attribute [irreducible] ps
def capOf (m s : Int) (k : Nat) : Int := if ps m s k / 2 ≤ 2147483647 then ps m s k / 2 else 2147483647
theorem WL_at (m s : Int) (n j : Nat) (h : j < n) : (enc (WL m s n))[j]? = some (.int .i64 (dr m s (j + j))) := by unfold enc WL; simp [h]
theorem VL_at (m s : Int) (n j : Nat) (h : j < n) : (enc (VL m s n))[j]? = some (.int .i64 (dr m s (j + j + 1))) := by unfold enc VL; simp [h]
theorem six {w : World} {g : Nat} {u0 u1 u2 u3 u4 u5 : Value} (h : w.heap[g]? = some (.cells #[u0, u1, u2, u3, u4, u5] 32 (0, 0))) (v0 v1 v2 v3 v4 v5 : Value) :
    ((((((w.setCell ⟨g, 0, none⟩ v0).setCell ⟨g, 1, none⟩ v1).setCell ⟨g, 2, none⟩ v2).setCell ⟨g, 3, none⟩ v3).setCell ⟨g, 4, none⟩ v4).setCell ⟨g, 5, none⟩ v5).heap[g]? = some (.cells #[v0, v1, v2, v3, v4, v5] 32 (0, 0)) :=
  heap_setCell_same _ g 5 _ 32 v5 (heap_setCell_same _ g 4 _ 32 v4 (heap_setCell_same _ g 3 _ 32 v3 (heap_setCell_same _ g 2 _ 32 v2 (heap_setCell_same _ g 1 _ 32 v1 (heap_setCell_same w g 0 _ 32 v0 h)))))
theorem box6 {W : World} {b : Nat} {v0 v1 v2 v3 v4 v5 : Value} (q : W.heap[b]? = some (.cells #[v0, v1, v2, v3, v4, v5] 32 (0, 0))) :
    W.cell? ⟨b, 0, none⟩ = some v0 ∧ W.cell? ⟨b, 1, none⟩ = some v1 ∧ W.cell? ⟨b, 2, none⟩ = some v2 ∧ W.cell? ⟨b, 3, none⟩ = some v3 ∧ W.cell? ⟨b, 4, none⟩ = some v4 ∧ W.cell? ⟨b, 5, none⟩ = some v5 :=
  ⟨cell_of_row _ _ 0 _ _ _ q, cell_of_row _ _ 1 _ _ _ q, cell_of_row _ _ 2 _ _ _ q, cell_of_row _ _ 3 _ _ _ q, cell_of_row _ _ 4 _ _ _ q, cell_of_row _ _ 5 _ _ _ q⟩
theorem gone_set {w wr : World} {g b j : Nat} (h : w.grownBy wr (some g)) (hb : w.heap.size ≤ b) (v : Value) : w.grownBy (wr.setCell ⟨b, j, none⟩ v) (some g) :=
  ⟨h.os, h.tape, h.output, by simpa [World.setCell] using h.size, fun i hi hne => (heap_setCell_other wr ⟨b, j, none⟩ i v (by show i ≠ b; omega)).trans (h.block i hi hne)⟩
/-- what knapsack answers -/
def KPost (m s : Int) (nn g : Nat) (w : World) (e : Ending) (w' : World) : Prop := ∃ gw cw gv cv : Nat, e = .returned (.agg #[.int .i64 1, .int .i64 nn, .int .i64 (capOf m s nn), .slice (some ⟨gw, 0, none⟩) nn cw, .slice (some ⟨gv, 0, none⟩) nn cv, .slice none 0 0]) ∧
  w'.ownsRow w.heap.size 3 1 (.slice (some ⟨gw, 0, none⟩) nn cw) nn (enc (WL m s nn)) ∧ w'.ownsRow w.heap.size 3 1 (.slice (some ⟨gv, 0, none⟩) nn cv) nn (enc (VL m s nn)) ∧ w.grownBy w' (some g)
set_option maxRecDepth 100000 in
set_option maxHeartbeats 4000000 in
theorem ksack_any (m s : Int) (h0 : 0 ≤ m) (h1 : m ≤ 2147483647) (nn : Nat) (n1 : 1 ≤ nn) (n2 : nn ≤ 64) (g : Nat) (w : World) (hd : w.heap[g]? = some (.cells #[.int .u64 (sd s 0), .int .i64 m] 42 (0, 0))) :
    Calls Try.prog 12 #[.pointer (some ⟨g, 0, none⟩), .int .i64 nn] w (KPost m s nn g w) := by
  obtain ⟨i0, hi, hz0, hz1, hz2⟩ := info_parts info3
  have K0 : Hid (KS m s nn g w.heap.size (w.heap.size + 1) (w.heap.size + 2) w (0 + 0) 0 0 (.slice none 0 0) (.slice none 0 0) ((w.alloc (.cells #[.int .i64 0, .int .i64 0, .int .i64 0, .slice none 0 0, .slice none 0 0, .slice none 0 0] 32)).alloc (.cells #[.int .i64 1, .int .i64 nn, .int .i64 0, .slice none 0 0, .slice none 0 0, .slice none 0 0] 32))) := by
    have lg := lt_hp hd
    have W0 : enc (WL m s 0) = [] := List.eq_nil_of_length_eq_zero (by simp [enc, WL_len])
    have V0 : enc (VL m s 0) = [] := List.eq_nil_of_length_eq_zero (by simp [enc, VL_len])
    have b2 := bl_al (bl_al (Below.refl w.heap.size w) (.cells #[.int .i64 0, .int .i64 0, .int .i64 0, .slice none 0 0, .slice none 0 0, .slice none 0 0] 32)) (.cells #[.int .i64 1, .int .i64 nn, .int .i64 0, .slice none 0 0, .slice none 0 0, .slice none 0 0] 32)
    refine ⟨heap_alloc2_new w _ _, heap_alloc2_old w _ _, (b2.block _ lg).trans hd, by rw [W0]; exact World.ownsRow_nil _ _ _ _, by rw [V0]; exact World.ownsRow_nil _ _ _ _, fun x hx => (by cases hx), ⟨b2.os, b2.tape, b2.output, b2.size, fun i hi _ => b2.block i hi⟩, by simp, by omega, by omega, by omega⟩
  go_enter Try.func12, Try.ntmps12
  go_wp2
  generalize hgr : w.heap.size = gr at *
  generalize hgi : gr + 1 = gi at *
  generalize hB : gr + 2 = B at *
  go_loopw [12] (fun i wr => ∃ (k : Nat) (vW vV : Value), k ≤ nn ∧ i = .int .i64 k ∧ Hid (KS m s nn g gr gi B w (k + k) k k vW vV wr)) (fun i _ => nn - (intOf i).toNat)
  case atStart => exact ⟨0, _, _, by omega, rfl, K0⟩
  case round =>
    clear K0
    obtain ⟨k, vW, vV, hk, rfl, HK⟩ := hrel
    by_cases hlt : k < nn
    · have g1 : (k : Int) < (nn : Int) := by omega
      clear hd hgr hgi hB
      go_wp2
      refine wp_region_held_drew (S := fun _ => True) (by kernel_rfl) trivial (fun hHeld => ?_)
      have HKd := Lib.hid HK.out.drew
      clear HK
      have HK := HKd
      clear HKd
      generalize World.drew _ = vu1 at *
      refine wpAnyH_take (i := 0) (v := ?vu2) (by rw [List.getElem?_toArray]; rfl) (by kernel_rfl) (by kernel_rfl) (by kernel_rfl) ?qu2 (Or.inl ⟨by rfl, ?yu2⟩) (by assumption) ?ru2
      case qu2 => exact fun _ _ _ h => h
      case yu2 => (intro wz hSw; go_simp; try (with_reducible rfl))
      simp only [Act.put, List.setIfInBounds_toArray, List.set_cons_zero, List.set_cons_succ]
      refine wpAnyH_take (i := 2) (v := ?vu3) (by rw [List.getElem?_toArray]; rfl) (by kernel_rfl) (by kernel_rfl) (by kernel_rfl) ?qu3 (Or.inl ⟨by rfl, ?yu3⟩) (by assumption) ?ru3
      case qu3 => exact fun _ _ _ h => h
      case yu3 => (intro wz hSw; go_simp; try (with_reducible rfl))
      simp only [Act.put, List.setIfInBounds_toArray, List.set_cons_zero, List.set_cons_succ]
      refine wpAnyH_ready (rs := [1, 3]) (by kernel_rfl) (by simp) ?_
      refine AllReadyH.cons (by rw [List.getElem?_toArray]; rfl) (fun K hK => ?_) (AllReadyH.cons (by rw [List.getElem?_toArray]; rfl) (fun K hK => ?_) AllReadyH.nil)
      · have c5 : vu1.cell? ⟨gi, 3, none⟩ = some vW := cell_of_row _ gi 3 _ 32 _ HK.out.box
        clear hHeld
        go_simp
        refine hK.out _ _ trivial (fun hHeld => ?_)
        clear hK K c5
        refine wpAnyH_ready (rs := [3]) (by kernel_rfl) (by simp) ?_
        refine AllReadyH.cons (by rw [List.getElem?_toArray]; rfl) (fun K hK => ?_) AllReadyH.nil
        clear hHeld
        go_simp
        go_at_call 16; refine (next_any m s h0 h1 (k + k) g _ HK.out.d).mono ?_; rintro e vu4 ⟨rfl, hd1, hg1⟩
        have HKd := Lib.hid (HK.out.call hg1 hd1)
        clear HK hd1 hg1
        have HK := HKd
        clear HKd
        go_wp2_with fail
        refine hK.out _ _ trivial (fun hHeld => ?_)
        clear hK K
        refine wpAnyH_ready (rs := [4]) (by kernel_rfl) (by simp) ?_
        refine AllReadyH.cons (by rw [List.getElem?_toArray]; rfl) (fun K hK => ?_) AllReadyH.nil
        clear hHeld
        go_simp
        have hcn := Lib.hid (cell_one_new vu4 (.int .i64 (dr m s (k + k))) 3)
        have HKd := Lib.hid (HK.out.alloc (.cells #[(.int .i64 (dr m s (k + k)))] 3))
        clear HK
        have HK := HKd
        clear HKd
        refine hK.out _ _ trivial (fun hHeld => ?_)
        clear hK K
        refine wpAnyH_ready (rs := [5]) (by kernel_rfl) (by simp) ?_
        refine AllReadyH.cons (by rw [List.getElem?_toArray]; rfl) (fun K hK => ?_) AllReadyH.nil
        clear hHeld
        rw [if_pos (by rfl)]
        refine wp_append_lies _ _ _ 29 rfl B 3 i0 (.int .i64 0) 1 8 Try.underlying29 hi hz0 hz1 hz2 rfl (by decide) vW k _ rfl HK.out.rw ⟨vu4.heap.size, 0, none⟩ 1 1 [(.int .i64 (dr m s (k + k)))] rfl rfl hcn.out (by simp [Value.oneCell']) (by decide) (by unfold maxLen; omega) (by omega) HK.out.sz _ rfl ?_
        intro g5 cap5 w5 hown5 hgrow5 hl5 hlt5
        refine hK.out _ _ trivial (fun hHeld => ?_)
        clear hK K hcn hlt5
        refine wpAnyH_take (i := 6) (v := ?vu5) (by rw [List.getElem?_toArray]; rfl) (by kernel_rfl) (by kernel_rfl) (by kernel_rfl) ?qu5 (Or.inl ⟨by rfl, ?yu5⟩) (by assumption) ?ru5
        case qu5 => exact fun _ _ _ h => h
        case yu5 => (intro wz hSw; go_simp; try (with_reducible rfl))
        simp only [Act.put, List.setIfInBounds_toArray, List.set_cons_zero, List.set_cons_succ]
        refine wpAnyH_ready (rs := [7]) (by kernel_rfl) (by simp) ?_
        refine AllReadyH.cons (by rw [List.getElem?_toArray]; rfl) (fun K hK => ?_) AllReadyH.nil
        clear hHeld
        have HN := Lib.hid (HK.out.addW rfl hown5 hgrow5 hl5)
        have q5 := (hgrow5.block gi (lt_hp HK.out.box) (fun e => row_ne HK.out.rw HK.out.box (by decide) e.symm)).trans HK.out.box
        have c5 := cell_of_row _ gi 3 _ 32 _ q5
        have f5 : World.frozen? _ ⟨gi, 3, none⟩ = false := frozen_of_row _ gi 3 _ 32 q5
        simp at c5
        clear hown5 hgrow5 hl5 q5 HK
        go_simp
        refine hK.out _ _ trivial (fun hHeld => ?_)
        clear hK K hHeld c5 f5
        have HK := HN
        clear HN
        refine wpAnyH_done (by kernel_rfl) ?_ _
        go_wp2
        refine wp_region_held_drew (S := fun _ => True) (by kernel_rfl) trivial (fun hHeld => ?_)
        have HKd := Lib.hid HK.out.drew
        clear HK
        have HK := HKd
        clear HKd
        generalize World.drew _ = vu6 at *
        refine wpAnyH_take (i := 0) (v := ?vu7) (by rw [List.getElem?_toArray]; rfl) (by kernel_rfl) (by kernel_rfl) (by kernel_rfl) ?qu7 (Or.inl ⟨by rfl, ?yu7⟩) (by assumption) ?ru7
        case qu7 => exact fun _ _ _ h => h
        case yu7 => (intro wz hSw; go_simp; try (with_reducible rfl))
        simp only [Act.put, List.setIfInBounds_toArray, List.set_cons_zero, List.set_cons_succ]
        refine wpAnyH_take (i := 2) (v := ?vu8) (by rw [List.getElem?_toArray]; rfl) (by kernel_rfl) (by kernel_rfl) (by kernel_rfl) ?qu8 (Or.inl ⟨by rfl, ?yu8⟩) (by assumption) ?ru8
        case qu8 => exact fun _ _ _ h => h
        case yu8 => (intro wz hSw; go_simp; try (with_reducible rfl))
        simp only [Act.put, List.setIfInBounds_toArray, List.set_cons_zero, List.set_cons_succ]
        refine wpAnyH_ready (rs := [1, 3]) (by kernel_rfl) (by simp) ?_
        refine AllReadyH.cons (by rw [List.getElem?_toArray]; rfl) (fun K hK => ?_) (AllReadyH.cons (by rw [List.getElem?_toArray]; rfl) (fun K hK => ?_) AllReadyH.nil)
        · have c5 : vu6.cell? ⟨gi, 4, none⟩ = some vV := cell_of_row _ gi 4 _ 32 _ HK.out.box
          clear hHeld
          go_simp
          refine hK.out _ _ trivial (fun hHeld => ?_)
          clear hK K c5
          refine wpAnyH_ready (rs := [3]) (by kernel_rfl) (by simp) ?_
          refine AllReadyH.cons (by rw [List.getElem?_toArray]; rfl) (fun K hK => ?_) AllReadyH.nil
          clear hHeld
          go_simp
          go_at_call 16; refine (next_any m s h0 h1 (k + k + 1) g _ HK.out.d).mono ?_; rintro e vu9 ⟨rfl, hd1, hg1⟩
          have HKd := Lib.hid (HK.out.call hg1 hd1)
          clear HK hd1 hg1
          have HK := HKd
          clear HKd
          go_wp2_with fail
          refine hK.out _ _ trivial (fun hHeld => ?_)
          clear hK K
          refine wpAnyH_ready (rs := [4]) (by kernel_rfl) (by simp) ?_
          refine AllReadyH.cons (by rw [List.getElem?_toArray]; rfl) (fun K hK => ?_) AllReadyH.nil
          clear hHeld
          go_simp
          have hcn := Lib.hid (cell_one_new vu9 (.int .i64 (dr m s (k + k + 1))) 3)
          have HKd := Lib.hid (HK.out.alloc (.cells #[(.int .i64 (dr m s (k + k + 1)))] 3))
          clear HK
          have HK := HKd
          clear HKd
          refine hK.out _ _ trivial (fun hHeld => ?_)
          clear hK K
          refine wpAnyH_ready (rs := [5]) (by kernel_rfl) (by simp) ?_
          refine AllReadyH.cons (by rw [List.getElem?_toArray]; rfl) (fun K hK => ?_) AllReadyH.nil
          clear hHeld
          rw [if_pos (by rfl)]
          refine wp_append_lies _ _ _ 29 rfl B 3 i0 (.int .i64 0) 1 8 Try.underlying29 hi hz0 hz1 hz2 rfl (by decide) vV k _ rfl HK.out.rv ⟨vu9.heap.size, 0, none⟩ 1 1 [(.int .i64 (dr m s (k + k + 1)))] rfl rfl hcn.out (by simp [Value.oneCell']) (by decide) (by unfold maxLen; omega) (by omega) HK.out.sz _ rfl ?_
          intro g5 cap5 w5 hown5 hgrow5 hl5 hlt5
          refine hK.out _ _ trivial (fun hHeld => ?_)
          clear hK K hcn hlt5
          refine wpAnyH_take (i := 6) (v := ?vu10) (by rw [List.getElem?_toArray]; rfl) (by kernel_rfl) (by kernel_rfl) (by kernel_rfl) ?qu10 (Or.inl ⟨by rfl, ?yu10⟩) (by assumption) ?ru10
          case qu10 => exact fun _ _ _ h => h
          case yu10 => (intro wz hSw; go_simp; try (with_reducible rfl))
          simp only [Act.put, List.setIfInBounds_toArray, List.set_cons_zero, List.set_cons_succ]
          refine wpAnyH_ready (rs := [7]) (by kernel_rfl) (by simp) ?_
          refine AllReadyH.cons (by rw [List.getElem?_toArray]; rfl) (fun K hK => ?_) AllReadyH.nil
          clear hHeld
          have HN := Lib.hid (HK.out.addV rfl hown5 hgrow5 hl5)
          have q5 := (hgrow5.block gi (lt_hp HK.out.box) (fun e => row_ne HK.out.rv HK.out.box (by decide) e.symm)).trans HK.out.box
          have c5 := cell_of_row _ gi 4 _ 32 _ q5
          have f5 : World.frozen? _ ⟨gi, 4, none⟩ = false := frozen_of_row _ gi 4 _ 32 q5
          simp at c5
          clear hown5 hgrow5 hl5 q5 HK
          go_simp
          refine hK.out _ _ trivial (fun hHeld => ?_)
          clear hK K hHeld c5 f5
          have HK := HN
          clear HN
          refine wpAnyH_done (by kernel_rfl) ?_ _
          have HKe := Lib.hid (ks_round HK.out)
          clear HK
          go_wp2
          go_roundw
          case rel => exact ⟨k + 1, _, _, by omega, by go_num, HKe⟩
          case measure => simp [intOf]; omega
        · clear hHeld
          go_simp
          go_at_call 16; refine (next_any m s h0 h1 (k + k + 1) g _ HK.out.d).mono ?_; rintro e vu11 ⟨rfl, hd1, hg1⟩
          have HKd := Lib.hid (HK.out.call hg1 hd1)
          clear HK hd1 hg1
          have HK := HKd
          clear HKd
          go_wp2_with fail
          refine hK.out _ _ trivial (fun hHeld => ?_)
          clear hK K
          refine wpAnyH_ready (rs := [1, 4]) (by kernel_rfl) (by simp) ?_
          refine AllReadyH.cons (by rw [List.getElem?_toArray]; rfl) (fun K hK => ?_) (AllReadyH.cons (by rw [List.getElem?_toArray]; rfl) (fun K hK => ?_) AllReadyH.nil)
          · have c5 : vu11.cell? ⟨gi, 4, none⟩ = some vV := cell_of_row _ gi 4 _ 32 _ HK.out.box
            clear hHeld
            go_simp
            refine hK.out _ _ trivial (fun hHeld => ?_)
            clear hK K c5
            refine wpAnyH_ready (rs := [4]) (by kernel_rfl) (by simp) ?_
            refine AllReadyH.cons (by rw [List.getElem?_toArray]; rfl) (fun K hK => ?_) AllReadyH.nil
            clear hHeld
            go_simp
            have hcn := Lib.hid (cell_one_new vu11 (.int .i64 (dr m s (k + k + 1))) 3)
            have HKd := Lib.hid (HK.out.alloc (.cells #[(.int .i64 (dr m s (k + k + 1)))] 3))
            clear HK
            have HK := HKd
            clear HKd
            refine hK.out _ _ trivial (fun hHeld => ?_)
            clear hK K
            refine wpAnyH_ready (rs := [5]) (by kernel_rfl) (by simp) ?_
            refine AllReadyH.cons (by rw [List.getElem?_toArray]; rfl) (fun K hK => ?_) AllReadyH.nil
            clear hHeld
            rw [if_pos (by rfl)]
            refine wp_append_lies _ _ _ 29 rfl B 3 i0 (.int .i64 0) 1 8 Try.underlying29 hi hz0 hz1 hz2 rfl (by decide) vV k _ rfl HK.out.rv ⟨vu11.heap.size, 0, none⟩ 1 1 [(.int .i64 (dr m s (k + k + 1)))] rfl rfl hcn.out (by simp [Value.oneCell']) (by decide) (by unfold maxLen; omega) (by omega) HK.out.sz _ rfl ?_
            intro g5 cap5 w5 hown5 hgrow5 hl5 hlt5
            refine hK.out _ _ trivial (fun hHeld => ?_)
            clear hK K hcn hlt5
            refine wpAnyH_take (i := 6) (v := ?vu12) (by rw [List.getElem?_toArray]; rfl) (by kernel_rfl) (by kernel_rfl) (by kernel_rfl) ?qu12 (Or.inl ⟨by rfl, ?yu12⟩) (by assumption) ?ru12
            case qu12 => exact fun _ _ _ h => h
            case yu12 => (intro wz hSw; go_simp; try (with_reducible rfl))
            simp only [Act.put, List.setIfInBounds_toArray, List.set_cons_zero, List.set_cons_succ]
            refine wpAnyH_ready (rs := [7]) (by kernel_rfl) (by simp) ?_
            refine AllReadyH.cons (by rw [List.getElem?_toArray]; rfl) (fun K hK => ?_) AllReadyH.nil
            clear hHeld
            have HN := Lib.hid (HK.out.addV rfl hown5 hgrow5 hl5)
            have q5 := (hgrow5.block gi (lt_hp HK.out.box) (fun e => row_ne HK.out.rv HK.out.box (by decide) e.symm)).trans HK.out.box
            have c5 := cell_of_row _ gi 4 _ 32 _ q5
            have f5 : World.frozen? _ ⟨gi, 4, none⟩ = false := frozen_of_row _ gi 4 _ 32 q5
            simp at c5
            clear hown5 hgrow5 hl5 q5 HK
            go_simp
            refine hK.out _ _ trivial (fun hHeld => ?_)
            clear hK K hHeld c5 f5
            have HK := HN
            clear HN
            refine wpAnyH_done (by kernel_rfl) ?_ _
            have HKe := Lib.hid (ks_round HK.out)
            clear HK
            go_wp2
            go_roundw
            case rel => exact ⟨k + 1, _, _, by omega, by go_num, HKe⟩
            case measure => simp [intOf]; omega
          · clear hHeld
            go_simp
            have hcn := Lib.hid (cell_one_new vu11 (.int .i64 (dr m s (k + k + 1))) 3)
            have HKd := Lib.hid (HK.out.alloc (.cells #[(.int .i64 (dr m s (k + k + 1)))] 3))
            clear HK
            have HK := HKd
            clear HKd
            refine hK.out _ _ trivial (fun hHeld => ?_)
            clear hK K
            refine wpAnyH_ready (rs := [1]) (by kernel_rfl) (by simp) ?_
            refine AllReadyH.cons (by rw [List.getElem?_toArray]; rfl) (fun K hK => ?_) AllReadyH.nil
            have c5 : (vu11.alloc (.cells #[(.int .i64 (dr m s (k + k + 1)))] 3)).cell? ⟨gi, 4, none⟩ = some vV := cell_of_row _ gi 4 _ 32 _ HK.out.box
            clear hHeld
            go_simp
            refine hK.out _ _ trivial (fun hHeld => ?_)
            clear hK K c5
            refine wpAnyH_ready (rs := [5]) (by kernel_rfl) (by simp) ?_
            refine AllReadyH.cons (by rw [List.getElem?_toArray]; rfl) (fun K hK => ?_) AllReadyH.nil
            clear hHeld
            rw [if_pos (by rfl)]
            refine wp_append_lies _ _ _ 29 rfl B 3 i0 (.int .i64 0) 1 8 Try.underlying29 hi hz0 hz1 hz2 rfl (by decide) vV k _ rfl HK.out.rv ⟨vu11.heap.size, 0, none⟩ 1 1 [(.int .i64 (dr m s (k + k + 1)))] rfl rfl hcn.out (by simp [Value.oneCell']) (by decide) (by unfold maxLen; omega) (by omega) HK.out.sz _ rfl ?_
            intro g5 cap5 w5 hown5 hgrow5 hl5 hlt5
            refine hK.out _ _ trivial (fun hHeld => ?_)
            clear hK K hcn hlt5
            refine wpAnyH_take (i := 6) (v := ?vu13) (by rw [List.getElem?_toArray]; rfl) (by kernel_rfl) (by kernel_rfl) (by kernel_rfl) ?qu13 (Or.inl ⟨by rfl, ?yu13⟩) (by assumption) ?ru13
            case qu13 => exact fun _ _ _ h => h
            case yu13 => (intro wz hSw; go_simp; try (with_reducible rfl))
            simp only [Act.put, List.setIfInBounds_toArray, List.set_cons_zero, List.set_cons_succ]
            refine wpAnyH_ready (rs := [7]) (by kernel_rfl) (by simp) ?_
            refine AllReadyH.cons (by rw [List.getElem?_toArray]; rfl) (fun K hK => ?_) AllReadyH.nil
            clear hHeld
            have HN := Lib.hid (HK.out.addV rfl hown5 hgrow5 hl5)
            have q5 := (hgrow5.block gi (lt_hp HK.out.box) (fun e => row_ne HK.out.rv HK.out.box (by decide) e.symm)).trans HK.out.box
            have c5 := cell_of_row _ gi 4 _ 32 _ q5
            have f5 : World.frozen? _ ⟨gi, 4, none⟩ = false := frozen_of_row _ gi 4 _ 32 q5
            simp at c5
            clear hown5 hgrow5 hl5 q5 HK
            go_simp
            refine hK.out _ _ trivial (fun hHeld => ?_)
            clear hK K hHeld c5 f5
            have HK := HN
            clear HN
            refine wpAnyH_done (by kernel_rfl) ?_ _
            have HKe := Lib.hid (ks_round HK.out)
            clear HK
            go_wp2
            go_roundw
            case rel => exact ⟨k + 1, _, _, by omega, by go_num, HKe⟩
            case measure => simp [intOf]; omega
      · clear hHeld
        go_simp
        go_at_call 16; refine (next_any m s h0 h1 (k + k) g _ HK.out.d).mono ?_; rintro e vu14 ⟨rfl, hd1, hg1⟩
        have HKd := Lib.hid (HK.out.call hg1 hd1)
        clear HK hd1 hg1
        have HK := HKd
        clear HKd
        go_wp2_with fail
        refine hK.out _ _ trivial (fun hHeld => ?_)
        clear hK K
        refine wpAnyH_ready (rs := [1, 4]) (by kernel_rfl) (by simp) ?_
        refine AllReadyH.cons (by rw [List.getElem?_toArray]; rfl) (fun K hK => ?_) (AllReadyH.cons (by rw [List.getElem?_toArray]; rfl) (fun K hK => ?_) AllReadyH.nil)
        · have c5 : vu14.cell? ⟨gi, 3, none⟩ = some vW := cell_of_row _ gi 3 _ 32 _ HK.out.box
          clear hHeld
          go_simp
          refine hK.out _ _ trivial (fun hHeld => ?_)
          clear hK K c5
          refine wpAnyH_ready (rs := [4]) (by kernel_rfl) (by simp) ?_
          refine AllReadyH.cons (by rw [List.getElem?_toArray]; rfl) (fun K hK => ?_) AllReadyH.nil
          clear hHeld
          go_simp
          have hcn := Lib.hid (cell_one_new vu14 (.int .i64 (dr m s (k + k))) 3)
          have HKd := Lib.hid (HK.out.alloc (.cells #[(.int .i64 (dr m s (k + k)))] 3))
          clear HK
          have HK := HKd
          clear HKd
          refine hK.out _ _ trivial (fun hHeld => ?_)
          clear hK K
          refine wpAnyH_ready (rs := [5]) (by kernel_rfl) (by simp) ?_
          refine AllReadyH.cons (by rw [List.getElem?_toArray]; rfl) (fun K hK => ?_) AllReadyH.nil
          clear hHeld
          rw [if_pos (by rfl)]
          refine wp_append_lies _ _ _ 29 rfl B 3 i0 (.int .i64 0) 1 8 Try.underlying29 hi hz0 hz1 hz2 rfl (by decide) vW k _ rfl HK.out.rw ⟨vu14.heap.size, 0, none⟩ 1 1 [(.int .i64 (dr m s (k + k)))] rfl rfl hcn.out (by simp [Value.oneCell']) (by decide) (by unfold maxLen; omega) (by omega) HK.out.sz _ rfl ?_
          intro g5 cap5 w5 hown5 hgrow5 hl5 hlt5
          refine hK.out _ _ trivial (fun hHeld => ?_)
          clear hK K hcn hlt5
          refine wpAnyH_take (i := 6) (v := ?vu15) (by rw [List.getElem?_toArray]; rfl) (by kernel_rfl) (by kernel_rfl) (by kernel_rfl) ?qu15 (Or.inl ⟨by rfl, ?yu15⟩) (by assumption) ?ru15
          case qu15 => exact fun _ _ _ h => h
          case yu15 => (intro wz hSw; go_simp; try (with_reducible rfl))
          simp only [Act.put, List.setIfInBounds_toArray, List.set_cons_zero, List.set_cons_succ]
          refine wpAnyH_ready (rs := [7]) (by kernel_rfl) (by simp) ?_
          refine AllReadyH.cons (by rw [List.getElem?_toArray]; rfl) (fun K hK => ?_) AllReadyH.nil
          clear hHeld
          have HN := Lib.hid (HK.out.addW rfl hown5 hgrow5 hl5)
          have q5 := (hgrow5.block gi (lt_hp HK.out.box) (fun e => row_ne HK.out.rw HK.out.box (by decide) e.symm)).trans HK.out.box
          have c5 := cell_of_row _ gi 3 _ 32 _ q5
          have f5 : World.frozen? _ ⟨gi, 3, none⟩ = false := frozen_of_row _ gi 3 _ 32 q5
          simp at c5
          clear hown5 hgrow5 hl5 q5 HK
          go_simp
          refine hK.out _ _ trivial (fun hHeld => ?_)
          clear hK K hHeld c5 f5
          have HK := HN
          clear HN
          refine wpAnyH_done (by kernel_rfl) ?_ _
          go_wp2
          refine wp_region_held_drew (S := fun _ => True) (by kernel_rfl) trivial (fun hHeld => ?_)
          have HKd := Lib.hid HK.out.drew
          clear HK
          have HK := HKd
          clear HKd
          generalize World.drew _ = vu16 at *
          refine wpAnyH_take (i := 0) (v := ?vu17) (by rw [List.getElem?_toArray]; rfl) (by kernel_rfl) (by kernel_rfl) (by kernel_rfl) ?qu17 (Or.inl ⟨by rfl, ?yu17⟩) (by assumption) ?ru17
          case qu17 => exact fun _ _ _ h => h
          case yu17 => (intro wz hSw; go_simp; try (with_reducible rfl))
          simp only [Act.put, List.setIfInBounds_toArray, List.set_cons_zero, List.set_cons_succ]
          refine wpAnyH_take (i := 2) (v := ?vu18) (by rw [List.getElem?_toArray]; rfl) (by kernel_rfl) (by kernel_rfl) (by kernel_rfl) ?qu18 (Or.inl ⟨by rfl, ?yu18⟩) (by assumption) ?ru18
          case qu18 => exact fun _ _ _ h => h
          case yu18 => (intro wz hSw; go_simp; try (with_reducible rfl))
          simp only [Act.put, List.setIfInBounds_toArray, List.set_cons_zero, List.set_cons_succ]
          refine wpAnyH_ready (rs := [1, 3]) (by kernel_rfl) (by simp) ?_
          refine AllReadyH.cons (by rw [List.getElem?_toArray]; rfl) (fun K hK => ?_) (AllReadyH.cons (by rw [List.getElem?_toArray]; rfl) (fun K hK => ?_) AllReadyH.nil)
          · have c5 : vu16.cell? ⟨gi, 4, none⟩ = some vV := cell_of_row _ gi 4 _ 32 _ HK.out.box
            clear hHeld
            go_simp
            refine hK.out _ _ trivial (fun hHeld => ?_)
            clear hK K c5
            refine wpAnyH_ready (rs := [3]) (by kernel_rfl) (by simp) ?_
            refine AllReadyH.cons (by rw [List.getElem?_toArray]; rfl) (fun K hK => ?_) AllReadyH.nil
            clear hHeld
            go_simp
            go_at_call 16; refine (next_any m s h0 h1 (k + k + 1) g _ HK.out.d).mono ?_; rintro e vu19 ⟨rfl, hd1, hg1⟩
            have HKd := Lib.hid (HK.out.call hg1 hd1)
            clear HK hd1 hg1
            have HK := HKd
            clear HKd
            go_wp2_with fail
            refine hK.out _ _ trivial (fun hHeld => ?_)
            clear hK K
            refine wpAnyH_ready (rs := [4]) (by kernel_rfl) (by simp) ?_
            refine AllReadyH.cons (by rw [List.getElem?_toArray]; rfl) (fun K hK => ?_) AllReadyH.nil
            clear hHeld
            go_simp
            have hcn := Lib.hid (cell_one_new vu19 (.int .i64 (dr m s (k + k + 1))) 3)
            have HKd := Lib.hid (HK.out.alloc (.cells #[(.int .i64 (dr m s (k + k + 1)))] 3))
            clear HK
            have HK := HKd
            clear HKd
            refine hK.out _ _ trivial (fun hHeld => ?_)
            clear hK K
            refine wpAnyH_ready (rs := [5]) (by kernel_rfl) (by simp) ?_
            refine AllReadyH.cons (by rw [List.getElem?_toArray]; rfl) (fun K hK => ?_) AllReadyH.nil
            clear hHeld
            rw [if_pos (by rfl)]
            refine wp_append_lies _ _ _ 29 rfl B 3 i0 (.int .i64 0) 1 8 Try.underlying29 hi hz0 hz1 hz2 rfl (by decide) vV k _ rfl HK.out.rv ⟨vu19.heap.size, 0, none⟩ 1 1 [(.int .i64 (dr m s (k + k + 1)))] rfl rfl hcn.out (by simp [Value.oneCell']) (by decide) (by unfold maxLen; omega) (by omega) HK.out.sz _ rfl ?_
            intro g5 cap5 w5 hown5 hgrow5 hl5 hlt5
            refine hK.out _ _ trivial (fun hHeld => ?_)
            clear hK K hcn hlt5
            refine wpAnyH_take (i := 6) (v := ?vu20) (by rw [List.getElem?_toArray]; rfl) (by kernel_rfl) (by kernel_rfl) (by kernel_rfl) ?qu20 (Or.inl ⟨by rfl, ?yu20⟩) (by assumption) ?ru20
            case qu20 => exact fun _ _ _ h => h
            case yu20 => (intro wz hSw; go_simp; try (with_reducible rfl))
            simp only [Act.put, List.setIfInBounds_toArray, List.set_cons_zero, List.set_cons_succ]
            refine wpAnyH_ready (rs := [7]) (by kernel_rfl) (by simp) ?_
            refine AllReadyH.cons (by rw [List.getElem?_toArray]; rfl) (fun K hK => ?_) AllReadyH.nil
            clear hHeld
            have HN := Lib.hid (HK.out.addV rfl hown5 hgrow5 hl5)
            have q5 := (hgrow5.block gi (lt_hp HK.out.box) (fun e => row_ne HK.out.rv HK.out.box (by decide) e.symm)).trans HK.out.box
            have c5 := cell_of_row _ gi 4 _ 32 _ q5
            have f5 : World.frozen? _ ⟨gi, 4, none⟩ = false := frozen_of_row _ gi 4 _ 32 q5
            simp at c5
            clear hown5 hgrow5 hl5 q5 HK
            go_simp
            refine hK.out _ _ trivial (fun hHeld => ?_)
            clear hK K hHeld c5 f5
            have HK := HN
            clear HN
            refine wpAnyH_done (by kernel_rfl) ?_ _
            have HKe := Lib.hid (ks_round HK.out)
            clear HK
            go_wp2
            go_roundw
            case rel => exact ⟨k + 1, _, _, by omega, by go_num, HKe⟩
            case measure => simp [intOf]; omega
          · clear hHeld
            go_simp
            go_at_call 16; refine (next_any m s h0 h1 (k + k + 1) g _ HK.out.d).mono ?_; rintro e vu21 ⟨rfl, hd1, hg1⟩
            have HKd := Lib.hid (HK.out.call hg1 hd1)
            clear HK hd1 hg1
            have HK := HKd
            clear HKd
            go_wp2_with fail
            refine hK.out _ _ trivial (fun hHeld => ?_)
            clear hK K
            refine wpAnyH_ready (rs := [1, 4]) (by kernel_rfl) (by simp) ?_
            refine AllReadyH.cons (by rw [List.getElem?_toArray]; rfl) (fun K hK => ?_) (AllReadyH.cons (by rw [List.getElem?_toArray]; rfl) (fun K hK => ?_) AllReadyH.nil)
            · have c5 : vu21.cell? ⟨gi, 4, none⟩ = some vV := cell_of_row _ gi 4 _ 32 _ HK.out.box
              clear hHeld
              go_simp
              refine hK.out _ _ trivial (fun hHeld => ?_)
              clear hK K c5
              refine wpAnyH_ready (rs := [4]) (by kernel_rfl) (by simp) ?_
              refine AllReadyH.cons (by rw [List.getElem?_toArray]; rfl) (fun K hK => ?_) AllReadyH.nil
              clear hHeld
              go_simp
              have hcn := Lib.hid (cell_one_new vu21 (.int .i64 (dr m s (k + k + 1))) 3)
              have HKd := Lib.hid (HK.out.alloc (.cells #[(.int .i64 (dr m s (k + k + 1)))] 3))
              clear HK
              have HK := HKd
              clear HKd
              refine hK.out _ _ trivial (fun hHeld => ?_)
              clear hK K
              refine wpAnyH_ready (rs := [5]) (by kernel_rfl) (by simp) ?_
              refine AllReadyH.cons (by rw [List.getElem?_toArray]; rfl) (fun K hK => ?_) AllReadyH.nil
              clear hHeld
              rw [if_pos (by rfl)]
              refine wp_append_lies _ _ _ 29 rfl B 3 i0 (.int .i64 0) 1 8 Try.underlying29 hi hz0 hz1 hz2 rfl (by decide) vV k _ rfl HK.out.rv ⟨vu21.heap.size, 0, none⟩ 1 1 [(.int .i64 (dr m s (k + k + 1)))] rfl rfl hcn.out (by simp [Value.oneCell']) (by decide) (by unfold maxLen; omega) (by omega) HK.out.sz _ rfl ?_
              intro g5 cap5 w5 hown5 hgrow5 hl5 hlt5
              refine hK.out _ _ trivial (fun hHeld => ?_)
              clear hK K hcn hlt5
              refine wpAnyH_take (i := 6) (v := ?vu22) (by rw [List.getElem?_toArray]; rfl) (by kernel_rfl) (by kernel_rfl) (by kernel_rfl) ?qu22 (Or.inl ⟨by rfl, ?yu22⟩) (by assumption) ?ru22
              case qu22 => exact fun _ _ _ h => h
              case yu22 => (intro wz hSw; go_simp; try (with_reducible rfl))
              simp only [Act.put, List.setIfInBounds_toArray, List.set_cons_zero, List.set_cons_succ]
              refine wpAnyH_ready (rs := [7]) (by kernel_rfl) (by simp) ?_
              refine AllReadyH.cons (by rw [List.getElem?_toArray]; rfl) (fun K hK => ?_) AllReadyH.nil
              clear hHeld
              have HN := Lib.hid (HK.out.addV rfl hown5 hgrow5 hl5)
              have q5 := (hgrow5.block gi (lt_hp HK.out.box) (fun e => row_ne HK.out.rv HK.out.box (by decide) e.symm)).trans HK.out.box
              have c5 := cell_of_row _ gi 4 _ 32 _ q5
              have f5 : World.frozen? _ ⟨gi, 4, none⟩ = false := frozen_of_row _ gi 4 _ 32 q5
              simp at c5
              clear hown5 hgrow5 hl5 q5 HK
              go_simp
              refine hK.out _ _ trivial (fun hHeld => ?_)
              clear hK K hHeld c5 f5
              have HK := HN
              clear HN
              refine wpAnyH_done (by kernel_rfl) ?_ _
              have HKe := Lib.hid (ks_round HK.out)
              clear HK
              go_wp2
              go_roundw
              case rel => exact ⟨k + 1, _, _, by omega, by go_num, HKe⟩
              case measure => simp [intOf]; omega
            · clear hHeld
              go_simp
              have hcn := Lib.hid (cell_one_new vu21 (.int .i64 (dr m s (k + k + 1))) 3)
              have HKd := Lib.hid (HK.out.alloc (.cells #[(.int .i64 (dr m s (k + k + 1)))] 3))
              clear HK
              have HK := HKd
              clear HKd
              refine hK.out _ _ trivial (fun hHeld => ?_)
              clear hK K
              refine wpAnyH_ready (rs := [1]) (by kernel_rfl) (by simp) ?_
              refine AllReadyH.cons (by rw [List.getElem?_toArray]; rfl) (fun K hK => ?_) AllReadyH.nil
              have c5 : (vu21.alloc (.cells #[(.int .i64 (dr m s (k + k + 1)))] 3)).cell? ⟨gi, 4, none⟩ = some vV := cell_of_row _ gi 4 _ 32 _ HK.out.box
              clear hHeld
              go_simp
              refine hK.out _ _ trivial (fun hHeld => ?_)
              clear hK K c5
              refine wpAnyH_ready (rs := [5]) (by kernel_rfl) (by simp) ?_
              refine AllReadyH.cons (by rw [List.getElem?_toArray]; rfl) (fun K hK => ?_) AllReadyH.nil
              clear hHeld
              rw [if_pos (by rfl)]
              refine wp_append_lies _ _ _ 29 rfl B 3 i0 (.int .i64 0) 1 8 Try.underlying29 hi hz0 hz1 hz2 rfl (by decide) vV k _ rfl HK.out.rv ⟨vu21.heap.size, 0, none⟩ 1 1 [(.int .i64 (dr m s (k + k + 1)))] rfl rfl hcn.out (by simp [Value.oneCell']) (by decide) (by unfold maxLen; omega) (by omega) HK.out.sz _ rfl ?_
              intro g5 cap5 w5 hown5 hgrow5 hl5 hlt5
              refine hK.out _ _ trivial (fun hHeld => ?_)
              clear hK K hcn hlt5
              refine wpAnyH_take (i := 6) (v := ?vu23) (by rw [List.getElem?_toArray]; rfl) (by kernel_rfl) (by kernel_rfl) (by kernel_rfl) ?qu23 (Or.inl ⟨by rfl, ?yu23⟩) (by assumption) ?ru23
              case qu23 => exact fun _ _ _ h => h
              case yu23 => (intro wz hSw; go_simp; try (with_reducible rfl))
              simp only [Act.put, List.setIfInBounds_toArray, List.set_cons_zero, List.set_cons_succ]
              refine wpAnyH_ready (rs := [7]) (by kernel_rfl) (by simp) ?_
              refine AllReadyH.cons (by rw [List.getElem?_toArray]; rfl) (fun K hK => ?_) AllReadyH.nil
              clear hHeld
              have HN := Lib.hid (HK.out.addV rfl hown5 hgrow5 hl5)
              have q5 := (hgrow5.block gi (lt_hp HK.out.box) (fun e => row_ne HK.out.rv HK.out.box (by decide) e.symm)).trans HK.out.box
              have c5 := cell_of_row _ gi 4 _ 32 _ q5
              have f5 : World.frozen? _ ⟨gi, 4, none⟩ = false := frozen_of_row _ gi 4 _ 32 q5
              simp at c5
              clear hown5 hgrow5 hl5 q5 HK
              go_simp
              refine hK.out _ _ trivial (fun hHeld => ?_)
              clear hK K hHeld c5 f5
              have HK := HN
              clear HN
              refine wpAnyH_done (by kernel_rfl) ?_ _
              have HKe := Lib.hid (ks_round HK.out)
              clear HK
              go_wp2
              go_roundw
              case rel => exact ⟨k + 1, _, _, by omega, by go_num, HKe⟩
              case measure => simp [intOf]; omega
        · clear hHeld
          go_simp
          have hcn := Lib.hid (cell_one_new vu14 (.int .i64 (dr m s (k + k))) 3)
          have HKd := Lib.hid (HK.out.alloc (.cells #[(.int .i64 (dr m s (k + k)))] 3))
          clear HK
          have HK := HKd
          clear HKd
          refine hK.out _ _ trivial (fun hHeld => ?_)
          clear hK K
          refine wpAnyH_ready (rs := [1]) (by kernel_rfl) (by simp) ?_
          refine AllReadyH.cons (by rw [List.getElem?_toArray]; rfl) (fun K hK => ?_) AllReadyH.nil
          have c5 : (vu14.alloc (.cells #[(.int .i64 (dr m s (k + k)))] 3)).cell? ⟨gi, 3, none⟩ = some vW := cell_of_row _ gi 3 _ 32 _ HK.out.box
          clear hHeld
          go_simp
          refine hK.out _ _ trivial (fun hHeld => ?_)
          clear hK K c5
          refine wpAnyH_ready (rs := [5]) (by kernel_rfl) (by simp) ?_
          refine AllReadyH.cons (by rw [List.getElem?_toArray]; rfl) (fun K hK => ?_) AllReadyH.nil
          clear hHeld
          rw [if_pos (by rfl)]
          refine wp_append_lies _ _ _ 29 rfl B 3 i0 (.int .i64 0) 1 8 Try.underlying29 hi hz0 hz1 hz2 rfl (by decide) vW k _ rfl HK.out.rw ⟨vu14.heap.size, 0, none⟩ 1 1 [(.int .i64 (dr m s (k + k)))] rfl rfl hcn.out (by simp [Value.oneCell']) (by decide) (by unfold maxLen; omega) (by omega) HK.out.sz _ rfl ?_
          intro g5 cap5 w5 hown5 hgrow5 hl5 hlt5
          refine hK.out _ _ trivial (fun hHeld => ?_)
          clear hK K hcn hlt5
          refine wpAnyH_take (i := 6) (v := ?vu24) (by rw [List.getElem?_toArray]; rfl) (by kernel_rfl) (by kernel_rfl) (by kernel_rfl) ?qu24 (Or.inl ⟨by rfl, ?yu24⟩) (by assumption) ?ru24
          case qu24 => exact fun _ _ _ h => h
          case yu24 => (intro wz hSw; go_simp; try (with_reducible rfl))
          simp only [Act.put, List.setIfInBounds_toArray, List.set_cons_zero, List.set_cons_succ]
          refine wpAnyH_ready (rs := [7]) (by kernel_rfl) (by simp) ?_
          refine AllReadyH.cons (by rw [List.getElem?_toArray]; rfl) (fun K hK => ?_) AllReadyH.nil
          clear hHeld
          have HN := Lib.hid (HK.out.addW rfl hown5 hgrow5 hl5)
          have q5 := (hgrow5.block gi (lt_hp HK.out.box) (fun e => row_ne HK.out.rw HK.out.box (by decide) e.symm)).trans HK.out.box
          have c5 := cell_of_row _ gi 3 _ 32 _ q5
          have f5 : World.frozen? _ ⟨gi, 3, none⟩ = false := frozen_of_row _ gi 3 _ 32 q5
          simp at c5
          clear hown5 hgrow5 hl5 q5 HK
          go_simp
          refine hK.out _ _ trivial (fun hHeld => ?_)
          clear hK K hHeld c5 f5
          have HK := HN
          clear HN
          refine wpAnyH_done (by kernel_rfl) ?_ _
          go_wp2
          refine wp_region_held_drew (S := fun _ => True) (by kernel_rfl) trivial (fun hHeld => ?_)
          have HKd := Lib.hid HK.out.drew
          clear HK
          have HK := HKd
          clear HKd
          generalize World.drew _ = vu25 at *
          refine wpAnyH_take (i := 0) (v := ?vu26) (by rw [List.getElem?_toArray]; rfl) (by kernel_rfl) (by kernel_rfl) (by kernel_rfl) ?qu26 (Or.inl ⟨by rfl, ?yu26⟩) (by assumption) ?ru26
          case qu26 => exact fun _ _ _ h => h
          case yu26 => (intro wz hSw; go_simp; try (with_reducible rfl))
          simp only [Act.put, List.setIfInBounds_toArray, List.set_cons_zero, List.set_cons_succ]
          refine wpAnyH_take (i := 2) (v := ?vu27) (by rw [List.getElem?_toArray]; rfl) (by kernel_rfl) (by kernel_rfl) (by kernel_rfl) ?qu27 (Or.inl ⟨by rfl, ?yu27⟩) (by assumption) ?ru27
          case qu27 => exact fun _ _ _ h => h
          case yu27 => (intro wz hSw; go_simp; try (with_reducible rfl))
          simp only [Act.put, List.setIfInBounds_toArray, List.set_cons_zero, List.set_cons_succ]
          refine wpAnyH_ready (rs := [1, 3]) (by kernel_rfl) (by simp) ?_
          refine AllReadyH.cons (by rw [List.getElem?_toArray]; rfl) (fun K hK => ?_) (AllReadyH.cons (by rw [List.getElem?_toArray]; rfl) (fun K hK => ?_) AllReadyH.nil)
          · have c5 : vu25.cell? ⟨gi, 4, none⟩ = some vV := cell_of_row _ gi 4 _ 32 _ HK.out.box
            clear hHeld
            go_simp
            refine hK.out _ _ trivial (fun hHeld => ?_)
            clear hK K c5
            refine wpAnyH_ready (rs := [3]) (by kernel_rfl) (by simp) ?_
            refine AllReadyH.cons (by rw [List.getElem?_toArray]; rfl) (fun K hK => ?_) AllReadyH.nil
            clear hHeld
            go_simp
            go_at_call 16; refine (next_any m s h0 h1 (k + k + 1) g _ HK.out.d).mono ?_; rintro e vu28 ⟨rfl, hd1, hg1⟩
            have HKd := Lib.hid (HK.out.call hg1 hd1)
            clear HK hd1 hg1
            have HK := HKd
            clear HKd
            go_wp2_with fail
            refine hK.out _ _ trivial (fun hHeld => ?_)
            clear hK K
            refine wpAnyH_ready (rs := [4]) (by kernel_rfl) (by simp) ?_
            refine AllReadyH.cons (by rw [List.getElem?_toArray]; rfl) (fun K hK => ?_) AllReadyH.nil
            clear hHeld
            go_simp
            have hcn := Lib.hid (cell_one_new vu28 (.int .i64 (dr m s (k + k + 1))) 3)
            have HKd := Lib.hid (HK.out.alloc (.cells #[(.int .i64 (dr m s (k + k + 1)))] 3))
            clear HK
            have HK := HKd
            clear HKd
            refine hK.out _ _ trivial (fun hHeld => ?_)
            clear hK K
            refine wpAnyH_ready (rs := [5]) (by kernel_rfl) (by simp) ?_
            refine AllReadyH.cons (by rw [List.getElem?_toArray]; rfl) (fun K hK => ?_) AllReadyH.nil
            clear hHeld
            rw [if_pos (by rfl)]
            refine wp_append_lies _ _ _ 29 rfl B 3 i0 (.int .i64 0) 1 8 Try.underlying29 hi hz0 hz1 hz2 rfl (by decide) vV k _ rfl HK.out.rv ⟨vu28.heap.size, 0, none⟩ 1 1 [(.int .i64 (dr m s (k + k + 1)))] rfl rfl hcn.out (by simp [Value.oneCell']) (by decide) (by unfold maxLen; omega) (by omega) HK.out.sz _ rfl ?_
            intro g5 cap5 w5 hown5 hgrow5 hl5 hlt5
            refine hK.out _ _ trivial (fun hHeld => ?_)
            clear hK K hcn hlt5
            refine wpAnyH_take (i := 6) (v := ?vu29) (by rw [List.getElem?_toArray]; rfl) (by kernel_rfl) (by kernel_rfl) (by kernel_rfl) ?qu29 (Or.inl ⟨by rfl, ?yu29⟩) (by assumption) ?ru29
            case qu29 => exact fun _ _ _ h => h
            case yu29 => (intro wz hSw; go_simp; try (with_reducible rfl))
            simp only [Act.put, List.setIfInBounds_toArray, List.set_cons_zero, List.set_cons_succ]
            refine wpAnyH_ready (rs := [7]) (by kernel_rfl) (by simp) ?_
            refine AllReadyH.cons (by rw [List.getElem?_toArray]; rfl) (fun K hK => ?_) AllReadyH.nil
            clear hHeld
            have HN := Lib.hid (HK.out.addV rfl hown5 hgrow5 hl5)
            have q5 := (hgrow5.block gi (lt_hp HK.out.box) (fun e => row_ne HK.out.rv HK.out.box (by decide) e.symm)).trans HK.out.box
            have c5 := cell_of_row _ gi 4 _ 32 _ q5
            have f5 : World.frozen? _ ⟨gi, 4, none⟩ = false := frozen_of_row _ gi 4 _ 32 q5
            simp at c5
            clear hown5 hgrow5 hl5 q5 HK
            go_simp
            refine hK.out _ _ trivial (fun hHeld => ?_)
            clear hK K hHeld c5 f5
            have HK := HN
            clear HN
            refine wpAnyH_done (by kernel_rfl) ?_ _
            have HKe := Lib.hid (ks_round HK.out)
            clear HK
            go_wp2
            go_roundw
            case rel => exact ⟨k + 1, _, _, by omega, by go_num, HKe⟩
            case measure => simp [intOf]; omega
          · clear hHeld
            go_simp
            go_at_call 16; refine (next_any m s h0 h1 (k + k + 1) g _ HK.out.d).mono ?_; rintro e vu30 ⟨rfl, hd1, hg1⟩
            have HKd := Lib.hid (HK.out.call hg1 hd1)
            clear HK hd1 hg1
            have HK := HKd
            clear HKd
            go_wp2_with fail
            refine hK.out _ _ trivial (fun hHeld => ?_)
            clear hK K
            refine wpAnyH_ready (rs := [1, 4]) (by kernel_rfl) (by simp) ?_
            refine AllReadyH.cons (by rw [List.getElem?_toArray]; rfl) (fun K hK => ?_) (AllReadyH.cons (by rw [List.getElem?_toArray]; rfl) (fun K hK => ?_) AllReadyH.nil)
            · have c5 : vu30.cell? ⟨gi, 4, none⟩ = some vV := cell_of_row _ gi 4 _ 32 _ HK.out.box
              clear hHeld
              go_simp
              refine hK.out _ _ trivial (fun hHeld => ?_)
              clear hK K c5
              refine wpAnyH_ready (rs := [4]) (by kernel_rfl) (by simp) ?_
              refine AllReadyH.cons (by rw [List.getElem?_toArray]; rfl) (fun K hK => ?_) AllReadyH.nil
              clear hHeld
              go_simp
              have hcn := Lib.hid (cell_one_new vu30 (.int .i64 (dr m s (k + k + 1))) 3)
              have HKd := Lib.hid (HK.out.alloc (.cells #[(.int .i64 (dr m s (k + k + 1)))] 3))
              clear HK
              have HK := HKd
              clear HKd
              refine hK.out _ _ trivial (fun hHeld => ?_)
              clear hK K
              refine wpAnyH_ready (rs := [5]) (by kernel_rfl) (by simp) ?_
              refine AllReadyH.cons (by rw [List.getElem?_toArray]; rfl) (fun K hK => ?_) AllReadyH.nil
              clear hHeld
              rw [if_pos (by rfl)]
              refine wp_append_lies _ _ _ 29 rfl B 3 i0 (.int .i64 0) 1 8 Try.underlying29 hi hz0 hz1 hz2 rfl (by decide) vV k _ rfl HK.out.rv ⟨vu30.heap.size, 0, none⟩ 1 1 [(.int .i64 (dr m s (k + k + 1)))] rfl rfl hcn.out (by simp [Value.oneCell']) (by decide) (by unfold maxLen; omega) (by omega) HK.out.sz _ rfl ?_
              intro g5 cap5 w5 hown5 hgrow5 hl5 hlt5
              refine hK.out _ _ trivial (fun hHeld => ?_)
              clear hK K hcn hlt5
              refine wpAnyH_take (i := 6) (v := ?vu31) (by rw [List.getElem?_toArray]; rfl) (by kernel_rfl) (by kernel_rfl) (by kernel_rfl) ?qu31 (Or.inl ⟨by rfl, ?yu31⟩) (by assumption) ?ru31
              case qu31 => exact fun _ _ _ h => h
              case yu31 => (intro wz hSw; go_simp; try (with_reducible rfl))
              simp only [Act.put, List.setIfInBounds_toArray, List.set_cons_zero, List.set_cons_succ]
              refine wpAnyH_ready (rs := [7]) (by kernel_rfl) (by simp) ?_
              refine AllReadyH.cons (by rw [List.getElem?_toArray]; rfl) (fun K hK => ?_) AllReadyH.nil
              clear hHeld
              have HN := Lib.hid (HK.out.addV rfl hown5 hgrow5 hl5)
              have q5 := (hgrow5.block gi (lt_hp HK.out.box) (fun e => row_ne HK.out.rv HK.out.box (by decide) e.symm)).trans HK.out.box
              have c5 := cell_of_row _ gi 4 _ 32 _ q5
              have f5 : World.frozen? _ ⟨gi, 4, none⟩ = false := frozen_of_row _ gi 4 _ 32 q5
              simp at c5
              clear hown5 hgrow5 hl5 q5 HK
              go_simp
              refine hK.out _ _ trivial (fun hHeld => ?_)
              clear hK K hHeld c5 f5
              have HK := HN
              clear HN
              refine wpAnyH_done (by kernel_rfl) ?_ _
              have HKe := Lib.hid (ks_round HK.out)
              clear HK
              go_wp2
              go_roundw
              case rel => exact ⟨k + 1, _, _, by omega, by go_num, HKe⟩
              case measure => simp [intOf]; omega
            · clear hHeld
              go_simp
              have hcn := Lib.hid (cell_one_new vu30 (.int .i64 (dr m s (k + k + 1))) 3)
              have HKd := Lib.hid (HK.out.alloc (.cells #[(.int .i64 (dr m s (k + k + 1)))] 3))
              clear HK
              have HK := HKd
              clear HKd
              refine hK.out _ _ trivial (fun hHeld => ?_)
              clear hK K
              refine wpAnyH_ready (rs := [1]) (by kernel_rfl) (by simp) ?_
              refine AllReadyH.cons (by rw [List.getElem?_toArray]; rfl) (fun K hK => ?_) AllReadyH.nil
              have c5 : (vu30.alloc (.cells #[(.int .i64 (dr m s (k + k + 1)))] 3)).cell? ⟨gi, 4, none⟩ = some vV := cell_of_row _ gi 4 _ 32 _ HK.out.box
              clear hHeld
              go_simp
              refine hK.out _ _ trivial (fun hHeld => ?_)
              clear hK K c5
              refine wpAnyH_ready (rs := [5]) (by kernel_rfl) (by simp) ?_
              refine AllReadyH.cons (by rw [List.getElem?_toArray]; rfl) (fun K hK => ?_) AllReadyH.nil
              clear hHeld
              rw [if_pos (by rfl)]
              refine wp_append_lies _ _ _ 29 rfl B 3 i0 (.int .i64 0) 1 8 Try.underlying29 hi hz0 hz1 hz2 rfl (by decide) vV k _ rfl HK.out.rv ⟨vu30.heap.size, 0, none⟩ 1 1 [(.int .i64 (dr m s (k + k + 1)))] rfl rfl hcn.out (by simp [Value.oneCell']) (by decide) (by unfold maxLen; omega) (by omega) HK.out.sz _ rfl ?_
              intro g5 cap5 w5 hown5 hgrow5 hl5 hlt5
              refine hK.out _ _ trivial (fun hHeld => ?_)
              clear hK K hcn hlt5
              refine wpAnyH_take (i := 6) (v := ?vu32) (by rw [List.getElem?_toArray]; rfl) (by kernel_rfl) (by kernel_rfl) (by kernel_rfl) ?qu32 (Or.inl ⟨by rfl, ?yu32⟩) (by assumption) ?ru32
              case qu32 => exact fun _ _ _ h => h
              case yu32 => (intro wz hSw; go_simp; try (with_reducible rfl))
              simp only [Act.put, List.setIfInBounds_toArray, List.set_cons_zero, List.set_cons_succ]
              refine wpAnyH_ready (rs := [7]) (by kernel_rfl) (by simp) ?_
              refine AllReadyH.cons (by rw [List.getElem?_toArray]; rfl) (fun K hK => ?_) AllReadyH.nil
              clear hHeld
              have HN := Lib.hid (HK.out.addV rfl hown5 hgrow5 hl5)
              have q5 := (hgrow5.block gi (lt_hp HK.out.box) (fun e => row_ne HK.out.rv HK.out.box (by decide) e.symm)).trans HK.out.box
              have c5 := cell_of_row _ gi 4 _ 32 _ q5
              have f5 : World.frozen? _ ⟨gi, 4, none⟩ = false := frozen_of_row _ gi 4 _ 32 q5
              simp at c5
              clear hown5 hgrow5 hl5 q5 HK
              go_simp
              refine hK.out _ _ trivial (fun hHeld => ?_)
              clear hK K hHeld c5 f5
              have HK := HN
              clear HN
              refine wpAnyH_done (by kernel_rfl) ?_ _
              have HKe := Lib.hid (ks_round HK.out)
              clear HK
              go_wp2
              go_roundw
              case rel => exact ⟨k + 1, _, _, by omega, by go_num, HKe⟩
              case measure => simp [intOf]; omega
    · obtain rfl : k = nn := by omega
      obtain ⟨gw, cw, rfl, hbw, hlw⟩ := HK.out.rw.form (by omega)
      obtain ⟨gv, cv, rfl, hbv, hlv⟩ := HK.out.rv.form (by omega)
      have hgiB : gi < B := HK.out.lo
      have hgrB : gr < B := by omega
      have hgb : w.heap.size ≤ gi := HK.out.base
      have hrb : w.heap.size ≤ gr := by omega
      have pbd := ps_bd m s h0 h1 k
      obtain ⟨cp, hcp⟩ : ∃ c, c = capOf m s k := ⟨_, rfl⟩
      have FIN : Hid (∀ e, e = Ending.returned (.agg #[.int .i64 1, .int .i64 k, .int .i64 cp, .slice (some ⟨gw, 0, none⟩) k cw, .slice (some ⟨gv, 0, none⟩) k cv, .slice none 0 0]) → KPost m s k g w e (((((((wr.setCell ⟨gi, 2, none⟩ (.int .i64 cp)).setCell ⟨gr, 0, none⟩ (.int .i64 1)).setCell ⟨gr, 1, none⟩ (.int .i64 k)).setCell ⟨gr, 2, none⟩ (.int .i64 cp)).setCell ⟨gr, 3, none⟩ (.slice (some ⟨gw, 0, none⟩) k cw)).setCell ⟨gr, 4, none⟩ (.slice (some ⟨gv, 0, none⟩) k cv)).setCell ⟨gr, 5, none⟩ (.slice none 0 0))) := fun e he => by
        refine ⟨gw, cw, gv, cv, by rw [he, hcp], ?_, ?_, gone_set (j := 5) (gone_set (j := 4) (gone_set (j := 3) (gone_set (j := 2) (gone_set (j := 1) (gone_set (j := 0) (gone_set (j := 2) (HK.out.gone) hgb (.int .i64 cp)) hrb (.int .i64 1)) hrb (.int .i64 k)) hrb (.int .i64 cp)) hrb (.slice (some ⟨gw, 0, none⟩) k cw)) hrb (.slice (some ⟨gv, 0, none⟩) k cv)) hrb (.slice none 0 0)⟩
        · exact Go.Joins.ownsRow_le (Go.RowKit.ownsRow_setCell_below (a := ⟨gr, 5, none⟩) (Go.RowKit.ownsRow_setCell_below (a := ⟨gr, 4, none⟩) (Go.RowKit.ownsRow_setCell_below (a := ⟨gr, 3, none⟩) (Go.RowKit.ownsRow_setCell_below (a := ⟨gr, 2, none⟩) (Go.RowKit.ownsRow_setCell_below (a := ⟨gr, 1, none⟩) (Go.RowKit.ownsRow_setCell_below (a := ⟨gr, 0, none⟩) (Go.RowKit.ownsRow_setCell_below (a := ⟨gi, 2, none⟩) (HK.out.rw) hgiB (.int .i64 cp)) hgrB (.int .i64 1)) hgrB (.int .i64 k)) hgrB (.int .i64 cp)) hgrB (.slice (some ⟨gw, 0, none⟩) k cw)) hgrB (.slice (some ⟨gv, 0, none⟩) k cv)) hgrB (.slice none 0 0)) (by omega)
        · exact Go.Joins.ownsRow_le (Go.RowKit.ownsRow_setCell_below (a := ⟨gr, 5, none⟩) (Go.RowKit.ownsRow_setCell_below (a := ⟨gr, 4, none⟩) (Go.RowKit.ownsRow_setCell_below (a := ⟨gr, 3, none⟩) (Go.RowKit.ownsRow_setCell_below (a := ⟨gr, 2, none⟩) (Go.RowKit.ownsRow_setCell_below (a := ⟨gr, 1, none⟩) (Go.RowKit.ownsRow_setCell_below (a := ⟨gr, 0, none⟩) (Go.RowKit.ownsRow_setCell_below (a := ⟨gi, 2, none⟩) (HK.out.rv) hgiB (.int .i64 cp)) hgrB (.int .i64 1)) hgrB (.int .i64 k)) hgrB (.int .i64 cp)) hgrB (.slice (some ⟨gw, 0, none⟩) k cw)) hgrB (.slice (some ⟨gv, 0, none⟩) k cv)) hgrB (.slice none 0 0)) (by omega)
      have q1 : (wr.setCell ⟨gi, 2, none⟩ (.int .i64 cp)).heap[gi]? = some (.cells #[.int .i64 1, .int .i64 k, .int .i64 cp, .slice (some ⟨gw, 0, none⟩) k cw, .slice (some ⟨gv, 0, none⟩) k cv, .slice none 0 0] 32 (0, 0)) := heap_setCell_same wr gi 2 _ 32 (.int .i64 cp) HK.out.box
      have q2 : (wr.setCell ⟨gi, 2, none⟩ (.int .i64 cp)).heap[gr]? = some (.cells #[.int .i64 0, .int .i64 0, .int .i64 0, .slice none 0 0, .slice none 0 0, .slice none 0 0] 32 (0, 0)) := (heap_setCell_other wr ⟨gi, 2, none⟩ gr _ HK.out.ne).trans HK.out.res
      have q3 := six q2 (.int .i64 1) (.int .i64 k) (.int .i64 cp) (.slice (some ⟨gw, 0, none⟩) k cw) (.slice (some ⟨gv, 0, none⟩) k cv) (.slice none 0 0)
      have HC : Hid (∀ j, j < k → wr.cell? ⟨gw, j, none⟩ = some (.int .i64 (dr m s (j + j)))) := fun j hj => by
        rw [HK.out.rw.cellAt j (by omega)]; exact WL_at m s k j hj
      obtain ⟨b0, b1, b2, b3, b4, b5⟩ := box6 HK.out.box
      have bf : ∀ j, wr.frozen? ⟨gi, j, none⟩ = false := fun j => frozen_of_row _ _ _ _ _ HK.out.box
      have HB := Lib.hid (box6 q1)
      have HF2 : Hid (∀ j, (wr.setCell ⟨gi, 2, none⟩ (.int .i64 cp)).frozen? ⟨gr, j, none⟩ = false) := fun j => frozen_of_row _ _ _ _ _ q2
      have HZ := Lib.hid (box6 q2)
      have HR := Lib.hid (box6 q3)
      have HNE := Lib.hid HK.out.ne
      clear q1 q2 q3 hbw hlw hbv hlv HK hd hgr hgi hB hgiB hgrB hgb hrb
      have bf2 := bf 2
      clear bf
      go_wp2
      go_loop [6, 32] (fun q i => ∃ j : Nat, j ≤ k ∧ i = .int .i64 j ∧ q = .int .i64 (ps m s j)) (fun _ i => k - (intOf i).toNat)
      case atStart => exact ⟨0, by omega, rfl, by rw [ps_zero]⟩
      case round =>
        obtain ⟨j, hj, rfl, rfl⟩ := hrel
        have pj := ps_bd m s h0 h1 j
        have dj := dr_bd m s (j + j) h0
        by_cases hjl : j < k
        · have cj := HC.out j hjl
          have HS := Lib.hid (ps_succ m s j)
          go_wp2
          go_round
          case rel => exact ⟨j + 1, by omega, by go_num, by rw [HS.out]⟩
          case measure => simp [intOf]; omega
        · obtain rfl : j = k := by omega
          by_cases hp : ps m s j / 2 ≤ 2147483647
          · obtain rfl : cp = ps m s j / 2 := by rw [hcp]; unfold capOf; rw [if_pos hp]
            clear hcp HC
            obtain ⟨x0, x1, x2, x3, x4, x5⟩ := HB.out
            obtain ⟨y0, y1, y2, y3, y4, y5⟩ := HZ.out
            obtain ⟨r0, r1, r2, r3, r4, r5⟩ := HR.out
            have f0 := HF2.out 0
            have f1 := HF2.out 1
            have f2 := HF2.out 2
            have f3 := HF2.out 3
            have f4 := HF2.out 4
            have f5 := HF2.out 5
            clear HB HZ HR HF2
            go_wp2
            exact bodyPost_ret (v := .agg #[.int .i64 1, .int .i64 j, .int .i64 (ps m s j / 2), .slice (some ⟨gw, 0, none⟩) j cw, .slice (some ⟨gv, 0, none⟩) j cv, .slice none 0 0]) (by simp [results, Try.results12, go_sem, r0, r1, r2, r3, r4, r5]) rfl (FIN.out _ rfl)
          · obtain rfl : cp = 2147483647 := by rw [hcp]; unfold capOf; rw [if_neg hp]
            clear hcp HC
            obtain ⟨x0, x1, x2, x3, x4, x5⟩ := HB.out
            obtain ⟨y0, y1, y2, y3, y4, y5⟩ := HZ.out
            obtain ⟨r0, r1, r2, r3, r4, r5⟩ := HR.out
            have f0 := HF2.out 0
            have f1 := HF2.out 1
            have f2 := HF2.out 2
            have f3 := HF2.out 3
            have f4 := HF2.out 4
            have f5 := HF2.out 5
            have hp2 : 2147483647 < ps m s j / 2 := by omega
            clear hp
            clear HB HZ HR HF2
            go_wp2
            exact bodyPost_ret (v := .agg #[.int .i64 1, .int .i64 j, .int .i64 (2147483647), .slice (some ⟨gw, 0, none⟩) j cw, .slice (some ⟨gv, 0, none⟩) j cv, .slice none 0 0]) (by simp [results, Try.results12, go_sem, r0, r1, r2, r3, r4, r5]) rfl (FIN.out _ rfl)
end Go.Proofs.Ytnmolpogmkiikaa
