/-
  What the reader's knapsack answers.
-/
import Derived.Test.YtegieoajjfodcaaGreatDoorKs
namespace Go.Proofs.YtegieoajjfodcaaGreatDoor
open Go.RowKit
set_option linter.unusedVariables false
theorem ks_round {b g C : Nat} {T : List Tok} {S : St} {n cp : Int} {gr gi B : Nat} {w : World} {k : Nat} {vW vV : Value} {wr : World} (h : KS b g C T S n cp gr gi B w (1 + (k + k + 1) + 1) (k + 1) (k + 1) vW vV wr) : KS b g C T S n cp gr gi B w (1 + ((k + 1) + (k + 1))) (k + 1) (k + 1) vW vV wr := by
  have e : 1 + (k + 1 + (k + 1)) = 1 + (k + k + 1) + 1 := by omega
  rw [e]; exact h
theorem entry_t (b g C : Nat) (T : List Tok) (S : St) (t : Nat) (w : World) (h : RS b g C T (steps eK T S t) w) :
    Calls Tryz.prog 80 #[.pointer (some ⟨b, 0, none⟩)] w fun r w' => r = .returned (.int .i64 (vn eK T S t)) ∧ RS b g C T (steps eK T S (t + 1)) w' ∧ w.grownBy w' (some b) := entry_s b g C T _ w h
theorem own_slice {w : World} {B n size : Nat} {e : TypeId} {v : Value} {xs : List Value} (h : w.ownsRow B e size v n xs) : ∃ a c, v = .slice a n c := by
  rcases h.2 with ⟨rfl, rfl⟩ | ⟨g, cap, cur, rfl, _⟩
  · exact ⟨none, 0, rfl⟩
  · exact ⟨_, cap, rfl⟩
/-- what knapsack answers -/
def KPost (b g C : Nat) (T : List Tok) (S s' : St) (n : Nat) (w : World) (r : Ending) (w' : World) : Prop := ∃ (aw av : Option Addr) (cw cv : Nat), r = .returned (.agg #[.int .i64 1, .int .i64 n, .int .i64 (vn eK T S 0), .slice aw n cw, .slice av n cv, .slice none 0 0]) ∧
  w'.ownsRow w.heap.size 3 1 (.slice aw n cw) n (enc (WL T S n)) ∧ w'.ownsRow w.heap.size 3 1 (.slice av n cv) n (enc (VL T S n)) ∧ RS b g C T s' w' ∧ w.grownBy w' (some b)
theorem k_out {b g C : Nat} {T : List Tok} {S : St} {n : Nat} {cp : Int} {gr gi B : Nat} {w : World} {t : Nat} {vW vV : Value} {wr : World} (h : KS b g C T S n cp gr gi B w t n n vW vV wr) (h0 : w.heap.size ≤ gr) (hB : gr < B) (v0 v1 v2 v3 v4 v5 : Value) :
    ((((((wr.setCell ⟨gr, 0, none⟩ v0).setCell ⟨gr, 1, none⟩ v1).setCell ⟨gr, 2, none⟩ v2).setCell ⟨gr, 3, none⟩ v3).setCell ⟨gr, 4, none⟩ v4).setCell ⟨gr, 5, none⟩ v5).ownsRow w.heap.size 3 1 vW n (enc (WL T S n)) ∧
    ((((((wr.setCell ⟨gr, 0, none⟩ v0).setCell ⟨gr, 1, none⟩ v1).setCell ⟨gr, 2, none⟩ v2).setCell ⟨gr, 3, none⟩ v3).setCell ⟨gr, 4, none⟩ v4).setCell ⟨gr, 5, none⟩ v5).ownsRow w.heap.size 3 1 vV n (enc (VL T S n)) ∧
    RS b g C T (steps eK T S t) ((((((wr.setCell ⟨gr, 0, none⟩ v0).setCell ⟨gr, 1, none⟩ v1).setCell ⟨gr, 2, none⟩ v2).setCell ⟨gr, 3, none⟩ v3).setCell ⟨gr, 4, none⟩ v4).setCell ⟨gr, 5, none⟩ v5) ∧
    w.grownBy ((((((wr.setCell ⟨gr, 0, none⟩ v0).setCell ⟨gr, 1, none⟩ v1).setCell ⟨gr, 2, none⟩ v2).setCell ⟨gr, 3, none⟩ v3).setCell ⟨gr, 4, none⟩ v4).setCell ⟨gr, 5, none⟩ v5) (some b) := by
  obtain ⟨h1, h2⟩ := h.rd.far h.res (by decide) (by decide)
  have hb := h.base
  have hl := h.lo
  have pt : ∀ {v : Value} {xs : List Value}, wr.ownsRow B 3 1 v n xs → ((((((wr.setCell ⟨gr, 0, none⟩ v0).setCell ⟨gr, 1, none⟩ v1).setCell ⟨gr, 2, none⟩ v2).setCell ⟨gr, 3, none⟩ v3).setCell ⟨gr, 4, none⟩ v4).setCell ⟨gr, 5, none⟩ v5).ownsRow w.heap.size 3 1 v n xs := fun hv =>
    Go.Joins.ownsRow_le (ownsRow_setCell_below (a := ⟨gr, 5, none⟩) (ownsRow_setCell_below (a := ⟨gr, 4, none⟩) (ownsRow_setCell_below (a := ⟨gr, 3, none⟩) (ownsRow_setCell_below (a := ⟨gr, 2, none⟩) (ownsRow_setCell_below (a := ⟨gr, 1, none⟩) (ownsRow_setCell_below (a := ⟨gr, 0, none⟩) hv hB v0) hB v1) hB v2) hB v3) hB v4) hB v5) (by omega)
  refine ⟨pt h.rw, pt h.rv, ?_, ?_⟩
  · exact (((((h.rd.set h1 h2 0 v0).set h1 h2 1 v1).set h1 h2 2 v2).set h1 h2 3 v3).set h1 h2 4 v4).set h1 h2 5 v5
  · exact grown_set (grown_set (grown_set (grown_set (grown_set (grown_set h.gone h0 v0) h0 v1) h0 v2) h0 v3) h0 v4) h0 v5
set_option maxRecDepth 100000 in
set_option maxHeartbeats 4000000 in
theorem ksack_s (b g C : Nat) (T : List Tok) (s : St) (w : World) (hr : RS b g C T s w) :
    Calls Tryz.prog 44 #[.pointer (some ⟨b, 0, none⟩)] w (KPost b g C T (sz T s 64) (kSt T s) (nOf T s 64) w) := by
  obtain ⟨i0, hi, hz0, hz1, hz2⟩ := info_parts info3
  have HZ := Lib.hid (size_s b g C T s 64 (w.alloc zero6) (hr.alloc zero6))
  rw [nOf_int hr.form] at HZ
  have hq0 : (w.alloc zero6).heap[w.heap.size]? = some zero6 := heap_alloc_new w zero6
  have hg0 : w.grownBy (w.alloc zero6) (some b) := World.grownBy_alloc w _ _
  have hrb := hr.ltb.1
  have hn := nOf_le T s 64
  have hs0 : (w.alloc zero6).heap.size = w.heap.size + 1 := by simp
  unfold kSt
  obtain ⟨S, hS⟩ : ∃ S, S = sz T s 64 := ⟨_, rfl⟩
  rw [← hS]
  have HZ2 : Hid (Calls Tryz.prog 78 #[.pointer (some ⟨b, 0, none⟩), .int .i64 64] (w.alloc zero6) fun r w' => r = .returned (.int .i64 (nOf T s 64)) ∧ RS b g C T S w' ∧ (w.alloc zero6).grownBy w' (some b)) := by rw [hS]; exact HZ
  clear HZ hS hr
  generalize nOf T s 64 = n at *
  have Q0 : Hid ((w.alloc zero6).heap[w.heap.size]? = some zero6 ∧ w.grownBy (w.alloc zero6) (some b) ∧ b < w.heap.size ∧ (w.alloc zero6).heap.size = w.heap.size + 1) := ⟨hq0, hg0, hrb, hs0⟩
  clear hq0 hg0 hrb hs0
  unfold zero6 at HZ2 Q0
  go_enter Tryz.func44, Tryz.ntmps44
  go_wp2_with fail
  refine HZ2.out.mono ?_
  rintro r w1 ⟨rfl, hR1, hG1⟩
  have Q1 : Hid (w1.heap[w.heap.size]? = some (.cells #[.int .i64 0, .int .i64 0, .int .i64 0, .slice none 0 0, .slice none 0 0, .slice none 0 0] 30 (0, 0)) ∧ w.grownBy w1 (some b) ∧ w.heap.size < w1.heap.size ∧ w.heap.size ≠ b) := by
    obtain ⟨a1, a2, a3, a4⟩ := Q0.out
    exact ⟨(hG1.block _ (by omega) (fun e => by injection e with e; omega)).trans a1, a2.trans hG1, by have := hG1.size; omega, by omega⟩
  have HE := Lib.hid (entry_t b g C T S 0 w1 hR1)
  clear HZ2 Q0 hR1 hG1
  go_wp2_with fail
  refine HE.out.mono ?_
  rintro r w2 ⟨rfl, hR2, hG2⟩
  obtain ⟨gr, hgr⟩ : ∃ gr, gr = w.heap.size := ⟨_, rfl⟩
  obtain ⟨gi, hgi⟩ : ∃ gi, gi = w2.heap.size := ⟨_, rfl⟩
  obtain ⟨cp, hcp⟩ : ∃ cp, cp = vn eK T S 0 := ⟨_, rfl⟩
  have K0 : Hid (KS b g C T S n cp gr gi (gi + 1) w (1 + (0 + 0)) 0 0 (.slice none 0 0) (.slice none 0 0) (w2.alloc (.cells #[.int .i64 1, .int .i64 n, .int .i64 cp, .slice none 0 0, .slice none 0 0, .slice none 0 0] 30))) := by
    obtain ⟨a1, a2, a3, a4⟩ := Q1.out
    have hz := hG2.size
    have W0 : enc (WL T S 0) = [] := List.eq_nil_of_length_eq_zero (by simp [enc, WL_len])
    have V0 : enc (VL T S 0) = [] := List.eq_nil_of_length_eq_zero (by simp [enc, VL_len])
    have b2 := (a2.trans hG2).trans (World.grownBy_alloc w2 (.cells #[.int .i64 1, .int .i64 n, .int .i64 cp, .slice none 0 0, .slice none 0 0, .slice none 0 0] 30) (some b))
    refine ⟨by rw [hgi]; exact heap_alloc_new w2 _, by rw [hgr]; exact (Below.heap_alloc w2 _ _ (by omega)).trans ((hG2.block _ a3 (fun e => by injection e with e; exact a4 e)).trans a1), hR2.alloc _, by rw [W0]; exact World.ownsRow_nil _ _ _ _, by rw [V0]; exact World.ownsRow_nil _ _ _ _, fun x hx => (by cases hx), b2, by rw [hgi]; simp, by omega, by omega, by omega⟩
  have HG : Hid (gr = w.heap.size ∧ gr < gi) := ⟨hgr, by have := Q1.out.2.2.1; have := hG2.size; omega⟩
  rw [← hcp]
  have HCP := Lib.hid hcp
  have HGI := Lib.hid hgi
  clear HE Q1 hR2 hG2 hgr hcp
  go_wp2
  generalize hB : gi + 1 = B at *
  clear hB
  subst hgi
  generalize w2.heap.size = gi at *
  go_loopw [11] (fun i wr => ∃ (k : Nat) (vW vV : Value), k ≤ n ∧ i = .int .i64 k ∧ Hid (KS b g C T S n cp gr gi B w (1 + (k + k)) k k vW vV wr)) (fun i _ => n - (intOf i).toNat)
  case atStart => exact ⟨0, _, _, by omega, rfl, K0⟩
  case round =>
    clear K0
    obtain ⟨k, vW, vV, hk, rfl, HK⟩ := hrel
    by_cases hlt : k < n
    · have g1 : (k : Int) < (n : Int) := by omega
      go_wp2
      refine wp_region_held_drew (S := fun _ => True) (by kernel_rfl) trivial (fun hHeld => ?_)
      have HKd := Lib.hid HK.out.drew
      clear HK
      have HK := HKd
      clear HKd
      generalize World.drew _ = vu1 at *
      refine wpAnyH_take (i := 0) (v := ?vu2) (by rw [List.getElem?_toArray]; rfl) (by kernel_rfl) (by kernel_rfl) (by kernel_rfl) ?qu2 (Or.inl ⟨by rfl, ?yu2⟩) (by assumption) ?ru2
      case qu2 => exact fun _ _ _ h => h
      case yu2 => (intro wz hSw; go_simp; try (with_reducible rfl))
      simp only [Act.put, List.setIfInBounds_toArray, List.set_cons_zero, List.set_cons_succ]
      refine wpAnyH_take (i := 2) (v := ?vu3) (by rw [List.getElem?_toArray]; rfl) (by kernel_rfl) (by kernel_rfl) (by kernel_rfl) ?qu3 (Or.inl ⟨by rfl, ?yu3⟩) (by assumption) ?ru3
      case qu3 => exact fun _ _ _ h => h
      case yu3 => (intro wz hSw; go_simp; try (with_reducible rfl))
      simp only [Act.put, List.setIfInBounds_toArray, List.set_cons_zero, List.set_cons_succ]
      refine wpAnyH_ready (rs := [1, 3]) (by kernel_rfl) (by simp) ?_
      refine AllReadyH.cons (by rw [List.getElem?_toArray]; rfl) (fun K hK => ?_) (AllReadyH.cons (by rw [List.getElem?_toArray]; rfl) (fun K hK => ?_) AllReadyH.nil)
      · have c5 : vu1.cell? ⟨gi, 3, none⟩ = some vW := cell_of_row _ gi 3 _ 30 _ HK.out.box
        clear hHeld
        go_simp
        refine hK.out _ _ trivial (fun hHeld => ?_)
        clear hK K c5
        refine wpAnyH_ready (rs := [3]) (by kernel_rfl) (by simp) ?_
        refine AllReadyH.cons (by rw [List.getElem?_toArray]; rfl) (fun K hK => ?_) AllReadyH.nil
        clear hHeld
        go_simp
        go_at_call 80; refine (entry_t b g C T S (1 + (k + k)) _ HK.out.rd).mono ?_; rintro e vu4 ⟨rfl, hd1, hg1⟩
        have HKd := Lib.hid (HK.out.call hg1 hd1)
        clear HK hd1 hg1
        have HK := HKd
        clear HKd
        go_wp2_with fail
        refine hK.out _ _ trivial (fun hHeld => ?_)
        clear hK K
        refine wpAnyH_ready (rs := [4]) (by kernel_rfl) (by simp) ?_
        refine AllReadyH.cons (by rw [List.getElem?_toArray]; rfl) (fun K hK => ?_) AllReadyH.nil
        clear hHeld
        go_simp
        have hcn := Lib.hid (cell_one_new vu4 (.int .i64 (vn eK T S (1 + (k + k)))) 3)
        have HKd := Lib.hid (HK.out.alloc (.cells #[(.int .i64 (vn eK T S (1 + (k + k))))] 3))
        clear HK
        have HK := HKd
        clear HKd
        refine hK.out _ _ trivial (fun hHeld => ?_)
        clear hK K
        refine wpAnyH_ready (rs := [5]) (by kernel_rfl) (by simp) ?_
        refine AllReadyH.cons (by rw [List.getElem?_toArray]; rfl) (fun K hK => ?_) AllReadyH.nil
        clear hHeld
        rw [if_pos (by rfl)]
        refine wp_append_lies _ _ _ 27 rfl B 3 i0 (.int .i64 0) 1 8 Tryz.underlying27 hi hz0 hz1 hz2 rfl (by decide) vW k _ rfl HK.out.rw ⟨vu4.heap.size, 0, none⟩ 1 1 [(.int .i64 (vn eK T S (1 + (k + k))))] rfl rfl hcn.out (by simp [Value.oneCell']) (by decide) (by unfold maxLen; omega) (by omega) HK.out.sz _ rfl ?_
        intro g5 cap5 w5 hown5 hgrow5 hl5 hlt5
        refine hK.out _ _ trivial (fun hHeld => ?_)
        clear hK K hcn hlt5
        refine wpAnyH_take (i := 6) (v := ?vu5) (by rw [List.getElem?_toArray]; rfl) (by kernel_rfl) (by kernel_rfl) (by kernel_rfl) ?qu5 (Or.inl ⟨by rfl, ?yu5⟩) (by assumption) ?ru5
        case qu5 => exact fun _ _ _ h => h
        case yu5 => (intro wz hSw; go_simp; try (with_reducible rfl))
        simp only [Act.put, List.setIfInBounds_toArray, List.set_cons_zero, List.set_cons_succ]
        refine wpAnyH_ready (rs := [7]) (by kernel_rfl) (by simp) ?_
        refine AllReadyH.cons (by rw [List.getElem?_toArray]; rfl) (fun K hK => ?_) AllReadyH.nil
        clear hHeld
        have HN := Lib.hid (HK.out.addW rfl hown5 hgrow5 hl5)
        have q5 := (hgrow5.block gi (ip.lt_hp HK.out.box) (fun e => row_neE HK.out.rw HK.out.box (by decide) e.symm)).trans HK.out.box
        have c5 := cell_of_row _ gi 3 _ 30 _ q5
        have f5 : World.frozen? _ ⟨gi, 3, none⟩ = false := frozen_of_row _ gi 3 _ 30 q5
        simp at c5
        clear hown5 hgrow5 hl5 q5 HK
        go_simp
        refine hK.out _ _ trivial (fun hHeld => ?_)
        clear hK K hHeld c5 f5
        have HK := HN
        clear HN
        refine wpAnyH_done (by kernel_rfl) ?_ _
        go_wp2
        refine wp_region_held_drew (S := fun _ => True) (by kernel_rfl) trivial (fun hHeld => ?_)
        have HKd := Lib.hid HK.out.drew
        clear HK
        have HK := HKd
        clear HKd
        generalize World.drew _ = vu6 at *
        refine wpAnyH_take (i := 0) (v := ?vu7) (by rw [List.getElem?_toArray]; rfl) (by kernel_rfl) (by kernel_rfl) (by kernel_rfl) ?qu7 (Or.inl ⟨by rfl, ?yu7⟩) (by assumption) ?ru7
        case qu7 => exact fun _ _ _ h => h
        case yu7 => (intro wz hSw; go_simp; try (with_reducible rfl))
        simp only [Act.put, List.setIfInBounds_toArray, List.set_cons_zero, List.set_cons_succ]
        refine wpAnyH_take (i := 2) (v := ?vu8) (by rw [List.getElem?_toArray]; rfl) (by kernel_rfl) (by kernel_rfl) (by kernel_rfl) ?qu8 (Or.inl ⟨by rfl, ?yu8⟩) (by assumption) ?ru8
        case qu8 => exact fun _ _ _ h => h
        case yu8 => (intro wz hSw; go_simp; try (with_reducible rfl))
        simp only [Act.put, List.setIfInBounds_toArray, List.set_cons_zero, List.set_cons_succ]
        refine wpAnyH_ready (rs := [1, 3]) (by kernel_rfl) (by simp) ?_
        refine AllReadyH.cons (by rw [List.getElem?_toArray]; rfl) (fun K hK => ?_) (AllReadyH.cons (by rw [List.getElem?_toArray]; rfl) (fun K hK => ?_) AllReadyH.nil)
        · have c5 : vu6.cell? ⟨gi, 4, none⟩ = some vV := cell_of_row _ gi 4 _ 30 _ HK.out.box
          clear hHeld
          go_simp
          refine hK.out _ _ trivial (fun hHeld => ?_)
          clear hK K c5
          refine wpAnyH_ready (rs := [3]) (by kernel_rfl) (by simp) ?_
          refine AllReadyH.cons (by rw [List.getElem?_toArray]; rfl) (fun K hK => ?_) AllReadyH.nil
          clear hHeld
          go_simp
          go_at_call 80; refine (entry_t b g C T S (1 + (k + k + 1)) _ HK.out.rd).mono ?_; rintro e vu9 ⟨rfl, hd1, hg1⟩
          have HKd := Lib.hid (HK.out.call hg1 hd1)
          clear HK hd1 hg1
          have HK := HKd
          clear HKd
          go_wp2_with fail
          refine hK.out _ _ trivial (fun hHeld => ?_)
          clear hK K
          refine wpAnyH_ready (rs := [4]) (by kernel_rfl) (by simp) ?_
          refine AllReadyH.cons (by rw [List.getElem?_toArray]; rfl) (fun K hK => ?_) AllReadyH.nil
          clear hHeld
          go_simp
          have hcn := Lib.hid (cell_one_new vu9 (.int .i64 (vn eK T S (1 + (k + k + 1)))) 3)
          have HKd := Lib.hid (HK.out.alloc (.cells #[(.int .i64 (vn eK T S (1 + (k + k + 1))))] 3))
          clear HK
          have HK := HKd
          clear HKd
          refine hK.out _ _ trivial (fun hHeld => ?_)
          clear hK K
          refine wpAnyH_ready (rs := [5]) (by kernel_rfl) (by simp) ?_
          refine AllReadyH.cons (by rw [List.getElem?_toArray]; rfl) (fun K hK => ?_) AllReadyH.nil
          clear hHeld
          rw [if_pos (by rfl)]
          refine wp_append_lies _ _ _ 27 rfl B 3 i0 (.int .i64 0) 1 8 Tryz.underlying27 hi hz0 hz1 hz2 rfl (by decide) vV k _ rfl HK.out.rv ⟨vu9.heap.size, 0, none⟩ 1 1 [(.int .i64 (vn eK T S (1 + (k + k + 1))))] rfl rfl hcn.out (by simp [Value.oneCell']) (by decide) (by unfold maxLen; omega) (by omega) HK.out.sz _ rfl ?_
          intro g5 cap5 w5 hown5 hgrow5 hl5 hlt5
          refine hK.out _ _ trivial (fun hHeld => ?_)
          clear hK K hcn hlt5
          refine wpAnyH_take (i := 6) (v := ?vu10) (by rw [List.getElem?_toArray]; rfl) (by kernel_rfl) (by kernel_rfl) (by kernel_rfl) ?qu10 (Or.inl ⟨by rfl, ?yu10⟩) (by assumption) ?ru10
          case qu10 => exact fun _ _ _ h => h
          case yu10 => (intro wz hSw; go_simp; try (with_reducible rfl))
          simp only [Act.put, List.setIfInBounds_toArray, List.set_cons_zero, List.set_cons_succ]
          refine wpAnyH_ready (rs := [7]) (by kernel_rfl) (by simp) ?_
          refine AllReadyH.cons (by rw [List.getElem?_toArray]; rfl) (fun K hK => ?_) AllReadyH.nil
          clear hHeld
          have HN := Lib.hid (HK.out.addV rfl hown5 hgrow5 hl5)
          have q5 := (hgrow5.block gi (ip.lt_hp HK.out.box) (fun e => row_neE HK.out.rv HK.out.box (by decide) e.symm)).trans HK.out.box
          have c5 := cell_of_row _ gi 4 _ 30 _ q5
          have f5 : World.frozen? _ ⟨gi, 4, none⟩ = false := frozen_of_row _ gi 4 _ 30 q5
          simp at c5
          clear hown5 hgrow5 hl5 q5 HK
          go_simp
          refine hK.out _ _ trivial (fun hHeld => ?_)
          clear hK K hHeld c5 f5
          have HK := HN
          clear HN
          refine wpAnyH_done (by kernel_rfl) ?_ _
          have HKe := Lib.hid (ks_round HK.out)
          clear HK
          go_wp2
          go_roundw
          case rel => exact ⟨k + 1, _, _, by omega, by go_num, HKe⟩
          case measure => simp [intOf]; omega
        · clear hHeld
          go_simp
          go_at_call 80; refine (entry_t b g C T S (1 + (k + k + 1)) _ HK.out.rd).mono ?_; rintro e vu11 ⟨rfl, hd1, hg1⟩
          have HKd := Lib.hid (HK.out.call hg1 hd1)
          clear HK hd1 hg1
          have HK := HKd
          clear HKd
          go_wp2_with fail
          refine hK.out _ _ trivial (fun hHeld => ?_)
          clear hK K
          refine wpAnyH_ready (rs := [1, 4]) (by kernel_rfl) (by simp) ?_
          refine AllReadyH.cons (by rw [List.getElem?_toArray]; rfl) (fun K hK => ?_) (AllReadyH.cons (by rw [List.getElem?_toArray]; rfl) (fun K hK => ?_) AllReadyH.nil)
          · have c5 : vu11.cell? ⟨gi, 4, none⟩ = some vV := cell_of_row _ gi 4 _ 30 _ HK.out.box
            clear hHeld
            go_simp
            refine hK.out _ _ trivial (fun hHeld => ?_)
            clear hK K c5
            refine wpAnyH_ready (rs := [4]) (by kernel_rfl) (by simp) ?_
            refine AllReadyH.cons (by rw [List.getElem?_toArray]; rfl) (fun K hK => ?_) AllReadyH.nil
            clear hHeld
            go_simp
            have hcn := Lib.hid (cell_one_new vu11 (.int .i64 (vn eK T S (1 + (k + k + 1)))) 3)
            have HKd := Lib.hid (HK.out.alloc (.cells #[(.int .i64 (vn eK T S (1 + (k + k + 1))))] 3))
            clear HK
            have HK := HKd
            clear HKd
            refine hK.out _ _ trivial (fun hHeld => ?_)
            clear hK K
            refine wpAnyH_ready (rs := [5]) (by kernel_rfl) (by simp) ?_
            refine AllReadyH.cons (by rw [List.getElem?_toArray]; rfl) (fun K hK => ?_) AllReadyH.nil
            clear hHeld
            rw [if_pos (by rfl)]
            refine wp_append_lies _ _ _ 27 rfl B 3 i0 (.int .i64 0) 1 8 Tryz.underlying27 hi hz0 hz1 hz2 rfl (by decide) vV k _ rfl HK.out.rv ⟨vu11.heap.size, 0, none⟩ 1 1 [(.int .i64 (vn eK T S (1 + (k + k + 1))))] rfl rfl hcn.out (by simp [Value.oneCell']) (by decide) (by unfold maxLen; omega) (by omega) HK.out.sz _ rfl ?_
            intro g5 cap5 w5 hown5 hgrow5 hl5 hlt5
            refine hK.out _ _ trivial (fun hHeld => ?_)
            clear hK K hcn hlt5
            refine wpAnyH_take (i := 6) (v := ?vu12) (by rw [List.getElem?_toArray]; rfl) (by kernel_rfl) (by kernel_rfl) (by kernel_rfl) ?qu12 (Or.inl ⟨by rfl, ?yu12⟩) (by assumption) ?ru12
            case qu12 => exact fun _ _ _ h => h
            case yu12 => (intro wz hSw; go_simp; try (with_reducible rfl))
            simp only [Act.put, List.setIfInBounds_toArray, List.set_cons_zero, List.set_cons_succ]
            refine wpAnyH_ready (rs := [7]) (by kernel_rfl) (by simp) ?_
            refine AllReadyH.cons (by rw [List.getElem?_toArray]; rfl) (fun K hK => ?_) AllReadyH.nil
            clear hHeld
            have HN := Lib.hid (HK.out.addV rfl hown5 hgrow5 hl5)
            have q5 := (hgrow5.block gi (ip.lt_hp HK.out.box) (fun e => row_neE HK.out.rv HK.out.box (by decide) e.symm)).trans HK.out.box
            have c5 := cell_of_row _ gi 4 _ 30 _ q5
            have f5 : World.frozen? _ ⟨gi, 4, none⟩ = false := frozen_of_row _ gi 4 _ 30 q5
            simp at c5
            clear hown5 hgrow5 hl5 q5 HK
            go_simp
            refine hK.out _ _ trivial (fun hHeld => ?_)
            clear hK K hHeld c5 f5
            have HK := HN
            clear HN
            refine wpAnyH_done (by kernel_rfl) ?_ _
            have HKe := Lib.hid (ks_round HK.out)
            clear HK
            go_wp2
            go_roundw
            case rel => exact ⟨k + 1, _, _, by omega, by go_num, HKe⟩
            case measure => simp [intOf]; omega
          · clear hHeld
            go_simp
            have hcn := Lib.hid (cell_one_new vu11 (.int .i64 (vn eK T S (1 + (k + k + 1)))) 3)
            have HKd := Lib.hid (HK.out.alloc (.cells #[(.int .i64 (vn eK T S (1 + (k + k + 1))))] 3))
            clear HK
            have HK := HKd
            clear HKd
            refine hK.out _ _ trivial (fun hHeld => ?_)
            clear hK K
            refine wpAnyH_ready (rs := [1]) (by kernel_rfl) (by simp) ?_
            refine AllReadyH.cons (by rw [List.getElem?_toArray]; rfl) (fun K hK => ?_) AllReadyH.nil
            have c5 : (vu11.alloc (.cells #[(.int .i64 (vn eK T S (1 + (k + k + 1))))] 3)).cell? ⟨gi, 4, none⟩ = some vV := cell_of_row _ gi 4 _ 30 _ HK.out.box
            clear hHeld
            go_simp
            refine hK.out _ _ trivial (fun hHeld => ?_)
            clear hK K c5
            refine wpAnyH_ready (rs := [5]) (by kernel_rfl) (by simp) ?_
            refine AllReadyH.cons (by rw [List.getElem?_toArray]; rfl) (fun K hK => ?_) AllReadyH.nil
            clear hHeld
            rw [if_pos (by rfl)]
            refine wp_append_lies _ _ _ 27 rfl B 3 i0 (.int .i64 0) 1 8 Tryz.underlying27 hi hz0 hz1 hz2 rfl (by decide) vV k _ rfl HK.out.rv ⟨vu11.heap.size, 0, none⟩ 1 1 [(.int .i64 (vn eK T S (1 + (k + k + 1))))] rfl rfl hcn.out (by simp [Value.oneCell']) (by decide) (by unfold maxLen; omega) (by omega) HK.out.sz _ rfl ?_
            intro g5 cap5 w5 hown5 hgrow5 hl5 hlt5
            refine hK.out _ _ trivial (fun hHeld => ?_)
            clear hK K hcn hlt5
            refine wpAnyH_take (i := 6) (v := ?vu13) (by rw [List.getElem?_toArray]; rfl) (by kernel_rfl) (by kernel_rfl) (by kernel_rfl) ?qu13 (Or.inl ⟨by rfl, ?yu13⟩) (by assumption) ?ru13
            case qu13 => exact fun _ _ _ h => h
            case yu13 => (intro wz hSw; go_simp; try (with_reducible rfl))
            simp only [Act.put, List.setIfInBounds_toArray, List.set_cons_zero, List.set_cons_succ]
            refine wpAnyH_ready (rs := [7]) (by kernel_rfl) (by simp) ?_
            refine AllReadyH.cons (by rw [List.getElem?_toArray]; rfl) (fun K hK => ?_) AllReadyH.nil
            clear hHeld
            have HN := Lib.hid (HK.out.addV rfl hown5 hgrow5 hl5)
            have q5 := (hgrow5.block gi (ip.lt_hp HK.out.box) (fun e => row_neE HK.out.rv HK.out.box (by decide) e.symm)).trans HK.out.box
            have c5 := cell_of_row _ gi 4 _ 30 _ q5
            have f5 : World.frozen? _ ⟨gi, 4, none⟩ = false := frozen_of_row _ gi 4 _ 30 q5
            simp at c5
            clear hown5 hgrow5 hl5 q5 HK
            go_simp
            refine hK.out _ _ trivial (fun hHeld => ?_)
            clear hK K hHeld c5 f5
            have HK := HN
            clear HN
            refine wpAnyH_done (by kernel_rfl) ?_ _
            have HKe := Lib.hid (ks_round HK.out)
            clear HK
            go_wp2
            go_roundw
            case rel => exact ⟨k + 1, _, _, by omega, by go_num, HKe⟩
            case measure => simp [intOf]; omega
      · clear hHeld
        go_simp
        go_at_call 80; refine (entry_t b g C T S (1 + (k + k)) _ HK.out.rd).mono ?_; rintro e vu14 ⟨rfl, hd1, hg1⟩
        have HKd := Lib.hid (HK.out.call hg1 hd1)
        clear HK hd1 hg1
        have HK := HKd
        clear HKd
        go_wp2_with fail
        refine hK.out _ _ trivial (fun hHeld => ?_)
        clear hK K
        refine wpAnyH_ready (rs := [1, 4]) (by kernel_rfl) (by simp) ?_
        refine AllReadyH.cons (by rw [List.getElem?_toArray]; rfl) (fun K hK => ?_) (AllReadyH.cons (by rw [List.getElem?_toArray]; rfl) (fun K hK => ?_) AllReadyH.nil)
        · have c5 : vu14.cell? ⟨gi, 3, none⟩ = some vW := cell_of_row _ gi 3 _ 30 _ HK.out.box
          clear hHeld
          go_simp
          refine hK.out _ _ trivial (fun hHeld => ?_)
          clear hK K c5
          refine wpAnyH_ready (rs := [4]) (by kernel_rfl) (by simp) ?_
          refine AllReadyH.cons (by rw [List.getElem?_toArray]; rfl) (fun K hK => ?_) AllReadyH.nil
          clear hHeld
          go_simp
          have hcn := Lib.hid (cell_one_new vu14 (.int .i64 (vn eK T S (1 + (k + k)))) 3)
          have HKd := Lib.hid (HK.out.alloc (.cells #[(.int .i64 (vn eK T S (1 + (k + k))))] 3))
          clear HK
          have HK := HKd
          clear HKd
          refine hK.out _ _ trivial (fun hHeld => ?_)
          clear hK K
          refine wpAnyH_ready (rs := [5]) (by kernel_rfl) (by simp) ?_
          refine AllReadyH.cons (by rw [List.getElem?_toArray]; rfl) (fun K hK => ?_) AllReadyH.nil
          clear hHeld
          rw [if_pos (by rfl)]
          refine wp_append_lies _ _ _ 27 rfl B 3 i0 (.int .i64 0) 1 8 Tryz.underlying27 hi hz0 hz1 hz2 rfl (by decide) vW k _ rfl HK.out.rw ⟨vu14.heap.size, 0, none⟩ 1 1 [(.int .i64 (vn eK T S (1 + (k + k))))] rfl rfl hcn.out (by simp [Value.oneCell']) (by decide) (by unfold maxLen; omega) (by omega) HK.out.sz _ rfl ?_
          intro g5 cap5 w5 hown5 hgrow5 hl5 hlt5
          refine hK.out _ _ trivial (fun hHeld => ?_)
          clear hK K hcn hlt5
          refine wpAnyH_take (i := 6) (v := ?vu15) (by rw [List.getElem?_toArray]; rfl) (by kernel_rfl) (by kernel_rfl) (by kernel_rfl) ?qu15 (Or.inl ⟨by rfl, ?yu15⟩) (by assumption) ?ru15
          case qu15 => exact fun _ _ _ h => h
          case yu15 => (intro wz hSw; go_simp; try (with_reducible rfl))
          simp only [Act.put, List.setIfInBounds_toArray, List.set_cons_zero, List.set_cons_succ]
          refine wpAnyH_ready (rs := [7]) (by kernel_rfl) (by simp) ?_
          refine AllReadyH.cons (by rw [List.getElem?_toArray]; rfl) (fun K hK => ?_) AllReadyH.nil
          clear hHeld
          have HN := Lib.hid (HK.out.addW rfl hown5 hgrow5 hl5)
          have q5 := (hgrow5.block gi (ip.lt_hp HK.out.box) (fun e => row_neE HK.out.rw HK.out.box (by decide) e.symm)).trans HK.out.box
          have c5 := cell_of_row _ gi 3 _ 30 _ q5
          have f5 : World.frozen? _ ⟨gi, 3, none⟩ = false := frozen_of_row _ gi 3 _ 30 q5
          simp at c5
          clear hown5 hgrow5 hl5 q5 HK
          go_simp
          refine hK.out _ _ trivial (fun hHeld => ?_)
          clear hK K hHeld c5 f5
          have HK := HN
          clear HN
          refine wpAnyH_done (by kernel_rfl) ?_ _
          go_wp2
          refine wp_region_held_drew (S := fun _ => True) (by kernel_rfl) trivial (fun hHeld => ?_)
          have HKd := Lib.hid HK.out.drew
          clear HK
          have HK := HKd
          clear HKd
          generalize World.drew _ = vu16 at *
          refine wpAnyH_take (i := 0) (v := ?vu17) (by rw [List.getElem?_toArray]; rfl) (by kernel_rfl) (by kernel_rfl) (by kernel_rfl) ?qu17 (Or.inl ⟨by rfl, ?yu17⟩) (by assumption) ?ru17
          case qu17 => exact fun _ _ _ h => h
          case yu17 => (intro wz hSw; go_simp; try (with_reducible rfl))
          simp only [Act.put, List.setIfInBounds_toArray, List.set_cons_zero, List.set_cons_succ]
          refine wpAnyH_take (i := 2) (v := ?vu18) (by rw [List.getElem?_toArray]; rfl) (by kernel_rfl) (by kernel_rfl) (by kernel_rfl) ?qu18 (Or.inl ⟨by rfl, ?yu18⟩) (by assumption) ?ru18
          case qu18 => exact fun _ _ _ h => h
          case yu18 => (intro wz hSw; go_simp; try (with_reducible rfl))
          simp only [Act.put, List.setIfInBounds_toArray, List.set_cons_zero, List.set_cons_succ]
          refine wpAnyH_ready (rs := [1, 3]) (by kernel_rfl) (by simp) ?_
          refine AllReadyH.cons (by rw [List.getElem?_toArray]; rfl) (fun K hK => ?_) (AllReadyH.cons (by rw [List.getElem?_toArray]; rfl) (fun K hK => ?_) AllReadyH.nil)
          · have c5 : vu16.cell? ⟨gi, 4, none⟩ = some vV := cell_of_row _ gi 4 _ 30 _ HK.out.box
            clear hHeld
            go_simp
            refine hK.out _ _ trivial (fun hHeld => ?_)
            clear hK K c5
            refine wpAnyH_ready (rs := [3]) (by kernel_rfl) (by simp) ?_
            refine AllReadyH.cons (by rw [List.getElem?_toArray]; rfl) (fun K hK => ?_) AllReadyH.nil
            clear hHeld
            go_simp
            go_at_call 80; refine (entry_t b g C T S (1 + (k + k + 1)) _ HK.out.rd).mono ?_; rintro e vu19 ⟨rfl, hd1, hg1⟩
            have HKd := Lib.hid (HK.out.call hg1 hd1)
            clear HK hd1 hg1
            have HK := HKd
            clear HKd
            go_wp2_with fail
            refine hK.out _ _ trivial (fun hHeld => ?_)
            clear hK K
            refine wpAnyH_ready (rs := [4]) (by kernel_rfl) (by simp) ?_
            refine AllReadyH.cons (by rw [List.getElem?_toArray]; rfl) (fun K hK => ?_) AllReadyH.nil
            clear hHeld
            go_simp
            have hcn := Lib.hid (cell_one_new vu19 (.int .i64 (vn eK T S (1 + (k + k + 1)))) 3)
            have HKd := Lib.hid (HK.out.alloc (.cells #[(.int .i64 (vn eK T S (1 + (k + k + 1))))] 3))
            clear HK
            have HK := HKd
            clear HKd
            refine hK.out _ _ trivial (fun hHeld => ?_)
            clear hK K
            refine wpAnyH_ready (rs := [5]) (by kernel_rfl) (by simp) ?_
            refine AllReadyH.cons (by rw [List.getElem?_toArray]; rfl) (fun K hK => ?_) AllReadyH.nil
            clear hHeld
            rw [if_pos (by rfl)]
            refine wp_append_lies _ _ _ 27 rfl B 3 i0 (.int .i64 0) 1 8 Tryz.underlying27 hi hz0 hz1 hz2 rfl (by decide) vV k _ rfl HK.out.rv ⟨vu19.heap.size, 0, none⟩ 1 1 [(.int .i64 (vn eK T S (1 + (k + k + 1))))] rfl rfl hcn.out (by simp [Value.oneCell']) (by decide) (by unfold maxLen; omega) (by omega) HK.out.sz _ rfl ?_
            intro g5 cap5 w5 hown5 hgrow5 hl5 hlt5
            refine hK.out _ _ trivial (fun hHeld => ?_)
            clear hK K hcn hlt5
            refine wpAnyH_take (i := 6) (v := ?vu20) (by rw [List.getElem?_toArray]; rfl) (by kernel_rfl) (by kernel_rfl) (by kernel_rfl) ?qu20 (Or.inl ⟨by rfl, ?yu20⟩) (by assumption) ?ru20
            case qu20 => exact fun _ _ _ h => h
            case yu20 => (intro wz hSw; go_simp; try (with_reducible rfl))
            simp only [Act.put, List.setIfInBounds_toArray, List.set_cons_zero, List.set_cons_succ]
            refine wpAnyH_ready (rs := [7]) (by kernel_rfl) (by simp) ?_
            refine AllReadyH.cons (by rw [List.getElem?_toArray]; rfl) (fun K hK => ?_) AllReadyH.nil
            clear hHeld
            have HN := Lib.hid (HK.out.addV rfl hown5 hgrow5 hl5)
            have q5 := (hgrow5.block gi (ip.lt_hp HK.out.box) (fun e => row_neE HK.out.rv HK.out.box (by decide) e.symm)).trans HK.out.box
            have c5 := cell_of_row _ gi 4 _ 30 _ q5
            have f5 : World.frozen? _ ⟨gi, 4, none⟩ = false := frozen_of_row _ gi 4 _ 30 q5
            simp at c5
            clear hown5 hgrow5 hl5 q5 HK
            go_simp
            refine hK.out _ _ trivial (fun hHeld => ?_)
            clear hK K hHeld c5 f5
            have HK := HN
            clear HN
            refine wpAnyH_done (by kernel_rfl) ?_ _
            have HKe := Lib.hid (ks_round HK.out)
            clear HK
            go_wp2
            go_roundw
            case rel => exact ⟨k + 1, _, _, by omega, by go_num, HKe⟩
            case measure => simp [intOf]; omega
          · clear hHeld
            go_simp
            go_at_call 80; refine (entry_t b g C T S (1 + (k + k + 1)) _ HK.out.rd).mono ?_; rintro e vu21 ⟨rfl, hd1, hg1⟩
            have HKd := Lib.hid (HK.out.call hg1 hd1)
            clear HK hd1 hg1
            have HK := HKd
            clear HKd
            go_wp2_with fail
            refine hK.out _ _ trivial (fun hHeld => ?_)
            clear hK K
            refine wpAnyH_ready (rs := [1, 4]) (by kernel_rfl) (by simp) ?_
            refine AllReadyH.cons (by rw [List.getElem?_toArray]; rfl) (fun K hK => ?_) (AllReadyH.cons (by rw [List.getElem?_toArray]; rfl) (fun K hK => ?_) AllReadyH.nil)
            · have c5 : vu21.cell? ⟨gi, 4, none⟩ = some vV := cell_of_row _ gi 4 _ 30 _ HK.out.box
              clear hHeld
              go_simp
              refine hK.out _ _ trivial (fun hHeld => ?_)
              clear hK K c5
              refine wpAnyH_ready (rs := [4]) (by kernel_rfl) (by simp) ?_
              refine AllReadyH.cons (by rw [List.getElem?_toArray]; rfl) (fun K hK => ?_) AllReadyH.nil
              clear hHeld
              go_simp
              have hcn := Lib.hid (cell_one_new vu21 (.int .i64 (vn eK T S (1 + (k + k + 1)))) 3)
              have HKd := Lib.hid (HK.out.alloc (.cells #[(.int .i64 (vn eK T S (1 + (k + k + 1))))] 3))
              clear HK
              have HK := HKd
              clear HKd
              refine hK.out _ _ trivial (fun hHeld => ?_)
              clear hK K
              refine wpAnyH_ready (rs := [5]) (by kernel_rfl) (by simp) ?_
              refine AllReadyH.cons (by rw [List.getElem?_toArray]; rfl) (fun K hK => ?_) AllReadyH.nil
              clear hHeld
              rw [if_pos (by rfl)]
              refine wp_append_lies _ _ _ 27 rfl B 3 i0 (.int .i64 0) 1 8 Tryz.underlying27 hi hz0 hz1 hz2 rfl (by decide) vV k _ rfl HK.out.rv ⟨vu21.heap.size, 0, none⟩ 1 1 [(.int .i64 (vn eK T S (1 + (k + k + 1))))] rfl rfl hcn.out (by simp [Value.oneCell']) (by decide) (by unfold maxLen; omega) (by omega) HK.out.sz _ rfl ?_
              intro g5 cap5 w5 hown5 hgrow5 hl5 hlt5
              refine hK.out _ _ trivial (fun hHeld => ?_)
              clear hK K hcn hlt5
              refine wpAnyH_take (i := 6) (v := ?vu22) (by rw [List.getElem?_toArray]; rfl) (by kernel_rfl) (by kernel_rfl) (by kernel_rfl) ?qu22 (Or.inl ⟨by rfl, ?yu22⟩) (by assumption) ?ru22
              case qu22 => exact fun _ _ _ h => h
              case yu22 => (intro wz hSw; go_simp; try (with_reducible rfl))
              simp only [Act.put, List.setIfInBounds_toArray, List.set_cons_zero, List.set_cons_succ]
              refine wpAnyH_ready (rs := [7]) (by kernel_rfl) (by simp) ?_
              refine AllReadyH.cons (by rw [List.getElem?_toArray]; rfl) (fun K hK => ?_) AllReadyH.nil
              clear hHeld
              have HN := Lib.hid (HK.out.addV rfl hown5 hgrow5 hl5)
              have q5 := (hgrow5.block gi (ip.lt_hp HK.out.box) (fun e => row_neE HK.out.rv HK.out.box (by decide) e.symm)).trans HK.out.box
              have c5 := cell_of_row _ gi 4 _ 30 _ q5
              have f5 : World.frozen? _ ⟨gi, 4, none⟩ = false := frozen_of_row _ gi 4 _ 30 q5
              simp at c5
              clear hown5 hgrow5 hl5 q5 HK
              go_simp
              refine hK.out _ _ trivial (fun hHeld => ?_)
              clear hK K hHeld c5 f5
              have HK := HN
              clear HN
              refine wpAnyH_done (by kernel_rfl) ?_ _
              have HKe := Lib.hid (ks_round HK.out)
              clear HK
              go_wp2
              go_roundw
              case rel => exact ⟨k + 1, _, _, by omega, by go_num, HKe⟩
              case measure => simp [intOf]; omega
            · clear hHeld
              go_simp
              have hcn := Lib.hid (cell_one_new vu21 (.int .i64 (vn eK T S (1 + (k + k + 1)))) 3)
              have HKd := Lib.hid (HK.out.alloc (.cells #[(.int .i64 (vn eK T S (1 + (k + k + 1))))] 3))
              clear HK
              have HK := HKd
              clear HKd
              refine hK.out _ _ trivial (fun hHeld => ?_)
              clear hK K
              refine wpAnyH_ready (rs := [1]) (by kernel_rfl) (by simp) ?_
              refine AllReadyH.cons (by rw [List.getElem?_toArray]; rfl) (fun K hK => ?_) AllReadyH.nil
              have c5 : (vu21.alloc (.cells #[(.int .i64 (vn eK T S (1 + (k + k + 1))))] 3)).cell? ⟨gi, 4, none⟩ = some vV := cell_of_row _ gi 4 _ 30 _ HK.out.box
              clear hHeld
              go_simp
              refine hK.out _ _ trivial (fun hHeld => ?_)
              clear hK K c5
              refine wpAnyH_ready (rs := [5]) (by kernel_rfl) (by simp) ?_
              refine AllReadyH.cons (by rw [List.getElem?_toArray]; rfl) (fun K hK => ?_) AllReadyH.nil
              clear hHeld
              rw [if_pos (by rfl)]
              refine wp_append_lies _ _ _ 27 rfl B 3 i0 (.int .i64 0) 1 8 Tryz.underlying27 hi hz0 hz1 hz2 rfl (by decide) vV k _ rfl HK.out.rv ⟨vu21.heap.size, 0, none⟩ 1 1 [(.int .i64 (vn eK T S (1 + (k + k + 1))))] rfl rfl hcn.out (by simp [Value.oneCell']) (by decide) (by unfold maxLen; omega) (by omega) HK.out.sz _ rfl ?_
              intro g5 cap5 w5 hown5 hgrow5 hl5 hlt5
              refine hK.out _ _ trivial (fun hHeld => ?_)
              clear hK K hcn hlt5
              refine wpAnyH_take (i := 6) (v := ?vu23) (by rw [List.getElem?_toArray]; rfl) (by kernel_rfl) (by kernel_rfl) (by kernel_rfl) ?qu23 (Or.inl ⟨by rfl, ?yu23⟩) (by assumption) ?ru23
              case qu23 => exact fun _ _ _ h => h
              case yu23 => (intro wz hSw; go_simp; try (with_reducible rfl))
              simp only [Act.put, List.setIfInBounds_toArray, List.set_cons_zero, List.set_cons_succ]
              refine wpAnyH_ready (rs := [7]) (by kernel_rfl) (by simp) ?_
              refine AllReadyH.cons (by rw [List.getElem?_toArray]; rfl) (fun K hK => ?_) AllReadyH.nil
              clear hHeld
              have HN := Lib.hid (HK.out.addV rfl hown5 hgrow5 hl5)
              have q5 := (hgrow5.block gi (ip.lt_hp HK.out.box) (fun e => row_neE HK.out.rv HK.out.box (by decide) e.symm)).trans HK.out.box
              have c5 := cell_of_row _ gi 4 _ 30 _ q5
              have f5 : World.frozen? _ ⟨gi, 4, none⟩ = false := frozen_of_row _ gi 4 _ 30 q5
              simp at c5
              clear hown5 hgrow5 hl5 q5 HK
              go_simp
              refine hK.out _ _ trivial (fun hHeld => ?_)
              clear hK K hHeld c5 f5
              have HK := HN
              clear HN
              refine wpAnyH_done (by kernel_rfl) ?_ _
              have HKe := Lib.hid (ks_round HK.out)
              clear HK
              go_wp2
              go_roundw
              case rel => exact ⟨k + 1, _, _, by omega, by go_num, HKe⟩
              case measure => simp [intOf]; omega
        · clear hHeld
          go_simp
          have hcn := Lib.hid (cell_one_new vu14 (.int .i64 (vn eK T S (1 + (k + k)))) 3)
          have HKd := Lib.hid (HK.out.alloc (.cells #[(.int .i64 (vn eK T S (1 + (k + k))))] 3))
          clear HK
          have HK := HKd
          clear HKd
          refine hK.out _ _ trivial (fun hHeld => ?_)
          clear hK K
          refine wpAnyH_ready (rs := [1]) (by kernel_rfl) (by simp) ?_
          refine AllReadyH.cons (by rw [List.getElem?_toArray]; rfl) (fun K hK => ?_) AllReadyH.nil
          have c5 : (vu14.alloc (.cells #[(.int .i64 (vn eK T S (1 + (k + k))))] 3)).cell? ⟨gi, 3, none⟩ = some vW := cell_of_row _ gi 3 _ 30 _ HK.out.box
          clear hHeld
          go_simp
          refine hK.out _ _ trivial (fun hHeld => ?_)
          clear hK K c5
          refine wpAnyH_ready (rs := [5]) (by kernel_rfl) (by simp) ?_
          refine AllReadyH.cons (by rw [List.getElem?_toArray]; rfl) (fun K hK => ?_) AllReadyH.nil
          clear hHeld
          rw [if_pos (by rfl)]
          refine wp_append_lies _ _ _ 27 rfl B 3 i0 (.int .i64 0) 1 8 Tryz.underlying27 hi hz0 hz1 hz2 rfl (by decide) vW k _ rfl HK.out.rw ⟨vu14.heap.size, 0, none⟩ 1 1 [(.int .i64 (vn eK T S (1 + (k + k))))] rfl rfl hcn.out (by simp [Value.oneCell']) (by decide) (by unfold maxLen; omega) (by omega) HK.out.sz _ rfl ?_
          intro g5 cap5 w5 hown5 hgrow5 hl5 hlt5
          refine hK.out _ _ trivial (fun hHeld => ?_)
          clear hK K hcn hlt5
          refine wpAnyH_take (i := 6) (v := ?vu24) (by rw [List.getElem?_toArray]; rfl) (by kernel_rfl) (by kernel_rfl) (by kernel_rfl) ?qu24 (Or.inl ⟨by rfl, ?yu24⟩) (by assumption) ?ru24
          case qu24 => exact fun _ _ _ h => h
          case yu24 => (intro wz hSw; go_simp; try (with_reducible rfl))
          simp only [Act.put, List.setIfInBounds_toArray, List.set_cons_zero, List.set_cons_succ]
          refine wpAnyH_ready (rs := [7]) (by kernel_rfl) (by simp) ?_
          refine AllReadyH.cons (by rw [List.getElem?_toArray]; rfl) (fun K hK => ?_) AllReadyH.nil
          clear hHeld
          have HN := Lib.hid (HK.out.addW rfl hown5 hgrow5 hl5)
          have q5 := (hgrow5.block gi (ip.lt_hp HK.out.box) (fun e => row_neE HK.out.rw HK.out.box (by decide) e.symm)).trans HK.out.box
          have c5 := cell_of_row _ gi 3 _ 30 _ q5
          have f5 : World.frozen? _ ⟨gi, 3, none⟩ = false := frozen_of_row _ gi 3 _ 30 q5
          simp at c5
          clear hown5 hgrow5 hl5 q5 HK
          go_simp
          refine hK.out _ _ trivial (fun hHeld => ?_)
          clear hK K hHeld c5 f5
          have HK := HN
          clear HN
          refine wpAnyH_done (by kernel_rfl) ?_ _
          go_wp2
          refine wp_region_held_drew (S := fun _ => True) (by kernel_rfl) trivial (fun hHeld => ?_)
          have HKd := Lib.hid HK.out.drew
          clear HK
          have HK := HKd
          clear HKd
          generalize World.drew _ = vu25 at *
          refine wpAnyH_take (i := 0) (v := ?vu26) (by rw [List.getElem?_toArray]; rfl) (by kernel_rfl) (by kernel_rfl) (by kernel_rfl) ?qu26 (Or.inl ⟨by rfl, ?yu26⟩) (by assumption) ?ru26
          case qu26 => exact fun _ _ _ h => h
          case yu26 => (intro wz hSw; go_simp; try (with_reducible rfl))
          simp only [Act.put, List.setIfInBounds_toArray, List.set_cons_zero, List.set_cons_succ]
          refine wpAnyH_take (i := 2) (v := ?vu27) (by rw [List.getElem?_toArray]; rfl) (by kernel_rfl) (by kernel_rfl) (by kernel_rfl) ?qu27 (Or.inl ⟨by rfl, ?yu27⟩) (by assumption) ?ru27
          case qu27 => exact fun _ _ _ h => h
          case yu27 => (intro wz hSw; go_simp; try (with_reducible rfl))
          simp only [Act.put, List.setIfInBounds_toArray, List.set_cons_zero, List.set_cons_succ]
          refine wpAnyH_ready (rs := [1, 3]) (by kernel_rfl) (by simp) ?_
          refine AllReadyH.cons (by rw [List.getElem?_toArray]; rfl) (fun K hK => ?_) (AllReadyH.cons (by rw [List.getElem?_toArray]; rfl) (fun K hK => ?_) AllReadyH.nil)
          · have c5 : vu25.cell? ⟨gi, 4, none⟩ = some vV := cell_of_row _ gi 4 _ 30 _ HK.out.box
            clear hHeld
            go_simp
            refine hK.out _ _ trivial (fun hHeld => ?_)
            clear hK K c5
            refine wpAnyH_ready (rs := [3]) (by kernel_rfl) (by simp) ?_
            refine AllReadyH.cons (by rw [List.getElem?_toArray]; rfl) (fun K hK => ?_) AllReadyH.nil
            clear hHeld
            go_simp
            go_at_call 80; refine (entry_t b g C T S (1 + (k + k + 1)) _ HK.out.rd).mono ?_; rintro e vu28 ⟨rfl, hd1, hg1⟩
            have HKd := Lib.hid (HK.out.call hg1 hd1)
            clear HK hd1 hg1
            have HK := HKd
            clear HKd
            go_wp2_with fail
            refine hK.out _ _ trivial (fun hHeld => ?_)
            clear hK K
            refine wpAnyH_ready (rs := [4]) (by kernel_rfl) (by simp) ?_
            refine AllReadyH.cons (by rw [List.getElem?_toArray]; rfl) (fun K hK => ?_) AllReadyH.nil
            clear hHeld
            go_simp
            have hcn := Lib.hid (cell_one_new vu28 (.int .i64 (vn eK T S (1 + (k + k + 1)))) 3)
            have HKd := Lib.hid (HK.out.alloc (.cells #[(.int .i64 (vn eK T S (1 + (k + k + 1))))] 3))
            clear HK
            have HK := HKd
            clear HKd
            refine hK.out _ _ trivial (fun hHeld => ?_)
            clear hK K
            refine wpAnyH_ready (rs := [5]) (by kernel_rfl) (by simp) ?_
            refine AllReadyH.cons (by rw [List.getElem?_toArray]; rfl) (fun K hK => ?_) AllReadyH.nil
            clear hHeld
            rw [if_pos (by rfl)]
            refine wp_append_lies _ _ _ 27 rfl B 3 i0 (.int .i64 0) 1 8 Tryz.underlying27 hi hz0 hz1 hz2 rfl (by decide) vV k _ rfl HK.out.rv ⟨vu28.heap.size, 0, none⟩ 1 1 [(.int .i64 (vn eK T S (1 + (k + k + 1))))] rfl rfl hcn.out (by simp [Value.oneCell']) (by decide) (by unfold maxLen; omega) (by omega) HK.out.sz _ rfl ?_
            intro g5 cap5 w5 hown5 hgrow5 hl5 hlt5
            refine hK.out _ _ trivial (fun hHeld => ?_)
            clear hK K hcn hlt5
            refine wpAnyH_take (i := 6) (v := ?vu29) (by rw [List.getElem?_toArray]; rfl) (by kernel_rfl) (by kernel_rfl) (by kernel_rfl) ?qu29 (Or.inl ⟨by rfl, ?yu29⟩) (by assumption) ?ru29
            case qu29 => exact fun _ _ _ h => h
            case yu29 => (intro wz hSw; go_simp; try (with_reducible rfl))
            simp only [Act.put, List.setIfInBounds_toArray, List.set_cons_zero, List.set_cons_succ]
            refine wpAnyH_ready (rs := [7]) (by kernel_rfl) (by simp) ?_
            refine AllReadyH.cons (by rw [List.getElem?_toArray]; rfl) (fun K hK => ?_) AllReadyH.nil
            clear hHeld
            have HN := Lib.hid (HK.out.addV rfl hown5 hgrow5 hl5)
            have q5 := (hgrow5.block gi (ip.lt_hp HK.out.box) (fun e => row_neE HK.out.rv HK.out.box (by decide) e.symm)).trans HK.out.box
            have c5 := cell_of_row _ gi 4 _ 30 _ q5
            have f5 : World.frozen? _ ⟨gi, 4, none⟩ = false := frozen_of_row _ gi 4 _ 30 q5
            simp at c5
            clear hown5 hgrow5 hl5 q5 HK
            go_simp
            refine hK.out _ _ trivial (fun hHeld => ?_)
            clear hK K hHeld c5 f5
            have HK := HN
            clear HN
            refine wpAnyH_done (by kernel_rfl) ?_ _
            have HKe := Lib.hid (ks_round HK.out)
            clear HK
            go_wp2
            go_roundw
            case rel => exact ⟨k + 1, _, _, by omega, by go_num, HKe⟩
            case measure => simp [intOf]; omega
          · clear hHeld
            go_simp
            go_at_call 80; refine (entry_t b g C T S (1 + (k + k + 1)) _ HK.out.rd).mono ?_; rintro e vu30 ⟨rfl, hd1, hg1⟩
            have HKd := Lib.hid (HK.out.call hg1 hd1)
            clear HK hd1 hg1
            have HK := HKd
            clear HKd
            go_wp2_with fail
            refine hK.out _ _ trivial (fun hHeld => ?_)
            clear hK K
            refine wpAnyH_ready (rs := [1, 4]) (by kernel_rfl) (by simp) ?_
            refine AllReadyH.cons (by rw [List.getElem?_toArray]; rfl) (fun K hK => ?_) (AllReadyH.cons (by rw [List.getElem?_toArray]; rfl) (fun K hK => ?_) AllReadyH.nil)
            · have c5 : vu30.cell? ⟨gi, 4, none⟩ = some vV := cell_of_row _ gi 4 _ 30 _ HK.out.box
              clear hHeld
              go_simp
              refine hK.out _ _ trivial (fun hHeld => ?_)
              clear hK K c5
              refine wpAnyH_ready (rs := [4]) (by kernel_rfl) (by simp) ?_
              refine AllReadyH.cons (by rw [List.getElem?_toArray]; rfl) (fun K hK => ?_) AllReadyH.nil
              clear hHeld
              go_simp
              have hcn := Lib.hid (cell_one_new vu30 (.int .i64 (vn eK T S (1 + (k + k + 1)))) 3)
              have HKd := Lib.hid (HK.out.alloc (.cells #[(.int .i64 (vn eK T S (1 + (k + k + 1))))] 3))
              clear HK
              have HK := HKd
              clear HKd
              refine hK.out _ _ trivial (fun hHeld => ?_)
              clear hK K
              refine wpAnyH_ready (rs := [5]) (by kernel_rfl) (by simp) ?_
              refine AllReadyH.cons (by rw [List.getElem?_toArray]; rfl) (fun K hK => ?_) AllReadyH.nil
              clear hHeld
              rw [if_pos (by rfl)]
              refine wp_append_lies _ _ _ 27 rfl B 3 i0 (.int .i64 0) 1 8 Tryz.underlying27 hi hz0 hz1 hz2 rfl (by decide) vV k _ rfl HK.out.rv ⟨vu30.heap.size, 0, none⟩ 1 1 [(.int .i64 (vn eK T S (1 + (k + k + 1))))] rfl rfl hcn.out (by simp [Value.oneCell']) (by decide) (by unfold maxLen; omega) (by omega) HK.out.sz _ rfl ?_
              intro g5 cap5 w5 hown5 hgrow5 hl5 hlt5
              refine hK.out _ _ trivial (fun hHeld => ?_)
              clear hK K hcn hlt5
              refine wpAnyH_take (i := 6) (v := ?vu31) (by rw [List.getElem?_toArray]; rfl) (by kernel_rfl) (by kernel_rfl) (by kernel_rfl) ?qu31 (Or.inl ⟨by rfl, ?yu31⟩) (by assumption) ?ru31
              case qu31 => exact fun _ _ _ h => h
              case yu31 => (intro wz hSw; go_simp; try (with_reducible rfl))
              simp only [Act.put, List.setIfInBounds_toArray, List.set_cons_zero, List.set_cons_succ]
              refine wpAnyH_ready (rs := [7]) (by kernel_rfl) (by simp) ?_
              refine AllReadyH.cons (by rw [List.getElem?_toArray]; rfl) (fun K hK => ?_) AllReadyH.nil
              clear hHeld
              have HN := Lib.hid (HK.out.addV rfl hown5 hgrow5 hl5)
              have q5 := (hgrow5.block gi (ip.lt_hp HK.out.box) (fun e => row_neE HK.out.rv HK.out.box (by decide) e.symm)).trans HK.out.box
              have c5 := cell_of_row _ gi 4 _ 30 _ q5
              have f5 : World.frozen? _ ⟨gi, 4, none⟩ = false := frozen_of_row _ gi 4 _ 30 q5
              simp at c5
              clear hown5 hgrow5 hl5 q5 HK
              go_simp
              refine hK.out _ _ trivial (fun hHeld => ?_)
              clear hK K hHeld c5 f5
              have HK := HN
              clear HN
              refine wpAnyH_done (by kernel_rfl) ?_ _
              have HKe := Lib.hid (ks_round HK.out)
              clear HK
              go_wp2
              go_roundw
              case rel => exact ⟨k + 1, _, _, by omega, by go_num, HKe⟩
              case measure => simp [intOf]; omega
            · clear hHeld
              go_simp
              have hcn := Lib.hid (cell_one_new vu30 (.int .i64 (vn eK T S (1 + (k + k + 1)))) 3)
              have HKd := Lib.hid (HK.out.alloc (.cells #[(.int .i64 (vn eK T S (1 + (k + k + 1))))] 3))
              clear HK
              have HK := HKd
              clear HKd
              refine hK.out _ _ trivial (fun hHeld => ?_)
              clear hK K
              refine wpAnyH_ready (rs := [1]) (by kernel_rfl) (by simp) ?_
              refine AllReadyH.cons (by rw [List.getElem?_toArray]; rfl) (fun K hK => ?_) AllReadyH.nil
              have c5 : (vu30.alloc (.cells #[(.int .i64 (vn eK T S (1 + (k + k + 1))))] 3)).cell? ⟨gi, 4, none⟩ = some vV := cell_of_row _ gi 4 _ 30 _ HK.out.box
              clear hHeld
              go_simp
              refine hK.out _ _ trivial (fun hHeld => ?_)
              clear hK K c5
              refine wpAnyH_ready (rs := [5]) (by kernel_rfl) (by simp) ?_
              refine AllReadyH.cons (by rw [List.getElem?_toArray]; rfl) (fun K hK => ?_) AllReadyH.nil
              clear hHeld
              rw [if_pos (by rfl)]
              refine wp_append_lies _ _ _ 27 rfl B 3 i0 (.int .i64 0) 1 8 Tryz.underlying27 hi hz0 hz1 hz2 rfl (by decide) vV k _ rfl HK.out.rv ⟨vu30.heap.size, 0, none⟩ 1 1 [(.int .i64 (vn eK T S (1 + (k + k + 1))))] rfl rfl hcn.out (by simp [Value.oneCell']) (by decide) (by unfold maxLen; omega) (by omega) HK.out.sz _ rfl ?_
              intro g5 cap5 w5 hown5 hgrow5 hl5 hlt5
              refine hK.out _ _ trivial (fun hHeld => ?_)
              clear hK K hcn hlt5
              refine wpAnyH_take (i := 6) (v := ?vu32) (by rw [List.getElem?_toArray]; rfl) (by kernel_rfl) (by kernel_rfl) (by kernel_rfl) ?qu32 (Or.inl ⟨by rfl, ?yu32⟩) (by assumption) ?ru32
              case qu32 => exact fun _ _ _ h => h
              case yu32 => (intro wz hSw; go_simp; try (with_reducible rfl))
              simp only [Act.put, List.setIfInBounds_toArray, List.set_cons_zero, List.set_cons_succ]
              refine wpAnyH_ready (rs := [7]) (by kernel_rfl) (by simp) ?_
              refine AllReadyH.cons (by rw [List.getElem?_toArray]; rfl) (fun K hK => ?_) AllReadyH.nil
              clear hHeld
              have HN := Lib.hid (HK.out.addV rfl hown5 hgrow5 hl5)
              have q5 := (hgrow5.block gi (ip.lt_hp HK.out.box) (fun e => row_neE HK.out.rv HK.out.box (by decide) e.symm)).trans HK.out.box
              have c5 := cell_of_row _ gi 4 _ 30 _ q5
              have f5 : World.frozen? _ ⟨gi, 4, none⟩ = false := frozen_of_row _ gi 4 _ 30 q5
              simp at c5
              clear hown5 hgrow5 hl5 q5 HK
              go_simp
              refine hK.out _ _ trivial (fun hHeld => ?_)
              clear hK K hHeld c5 f5
              have HK := HN
              clear HN
              refine wpAnyH_done (by kernel_rfl) ?_ _
              have HKe := Lib.hid (ks_round HK.out)
              clear HK
              go_wp2
              go_roundw
              case rel => exact ⟨k + 1, _, _, by omega, by go_num, HKe⟩
              case measure => simp [intOf]; omega
    · obtain rfl : k = n := by omega
      obtain ⟨aw, cw, rfl⟩ := own_slice HK.out.rw
      obtain ⟨av, cv, rfl⟩ := own_slice HK.out.rv
      have hgiB := HK.out.lo
      have HO := Lib.hid (k_out HK.out (by rw [HG.out.1]; omega) (by have := HG.out.2; omega) (.int .i64 1) (.int .i64 k) (.int .i64 cp) (.slice aw k cw) (.slice av k cv) (.slice none 0 0))
      obtain ⟨b0, b1, b2, b3, b4, b5⟩ := ip.box6 HK.out.box
      have zf := ip.fr6 HK.out.res
      have f0 := zf 0; have f1 := zf 1; have f2 := zf 2; have f3 := zf 3; have f4 := zf 4; have f5 := zf 5
      obtain ⟨z0, z1, z2, z3, z4, z5⟩ := ip.box6 HK.out.res
      have R6 := Lib.hid (ip.box6 (ip.six HK.out.res (.int .i64 1) (.int .i64 k) (.int .i64 cp) (.slice aw k cw) (.slice av k cv) (.slice none 0 0)))
      have hgr := HG.out.1
      subst hgr
      have e2 : k + k = 2 * k := by omega
      rw [e2] at HO
      clear HK zf hgiB e2 HG
      go_wp2
      obtain ⟨r0, r1, r2, r3, r4, r5⟩ := R6.out
      exact bodyPost_ret (v := .agg #[.int .i64 1, .int .i64 k, .int .i64 cp, .slice aw k cw, .slice av k cv, .slice none 0 0]) (by simp [results, Tryz.results44, go_sem, r0, r1, r2, r3, r4, r5]) rfl ⟨aw, av, cw, cv, by rw [HCP.out], HO.out⟩
end Go.Proofs.YtegieoajjfodcaaGreatDoor
