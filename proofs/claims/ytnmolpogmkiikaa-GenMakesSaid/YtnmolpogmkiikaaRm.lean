/-
  What the reference's Make answers: errors, knapsacks.
-/
import Derived.Test.YtnmolpogmkiikaaMk
import Derived.Test.YtnmolpogmkiikaaR14
namespace Go.Proofs.Ytnmolpogmkiikaa
open Go.RowKit
set_option linter.unusedVariables false
theorem rmake_kind (K n m s : Int) (h1 : K ≠ 1) (h2 : K ≠ 2) (h3 : K ≠ 3) (w : World) : Calls Try.prog 9 #[.int .i64 K, .int .i64 n, .int .i64 m, .int .u64 s] w (MkP 14 0 0 0 [] [] [] w) := by
  have B := Lib.hid (mk_none 14 (bl_al (Below.refl w.heap.size w) (.cells #[.int .i64 0, .int .i64 0, .int .i64 0, .slice none 0 0, .slice none 0 0, .slice none 0 0] 32)))
  by_cases hk : K < 1
  · clear h1 h2 h3
    go_enter Try.func9, Try.ntmps9
    go_wp2
    exact bodyPost_ret (v := .tuple #[.agg #[.int .i64 0, .int .i64 0, .int .i64 0, .slice none 0 0, .slice none 0 0, .slice none 0 0], .int .i64 14]) (by simp [results, Try.results9, go_sem]) rfl B.out
  · have g1 : 3 < K := by omega
    clear h1 h2 h3
    go_enter Try.func9, Try.ntmps9
    go_wp2
    exact bodyPost_ret (v := .tuple #[.agg #[.int .i64 0, .int .i64 0, .int .i64 0, .slice none 0 0, .slice none 0 0, .slice none 0 0], .int .i64 14]) (by simp [results, Try.results9, go_sem]) rfl B.out
theorem rmake_arg1 (n m s : Int) (h : n < 1 ∨ m < 0 ∨ 2147483647 < m) (w : World) : Calls Try.prog 9 #[.int .i64 1, .int .i64 n, .int .i64 m, .int .u64 s] w (MkP 1 0 0 0 [] [] [] w) := by
  have B := Lib.hid (mk_none 1 (bl_al (Below.refl w.heap.size w) (.cells #[.int .i64 0, .int .i64 0, .int .i64 0, .slice none 0 0, .slice none 0 0, .slice none 0 0] 32)))
  by_cases hn : n < 1
  · clear h
    go_enter Try.func9, Try.ntmps9
    go_wp2
    exact bodyPost_ret (v := .tuple #[.agg #[.int .i64 0, .int .i64 0, .int .i64 0, .slice none 0 0, .slice none 0 0, .slice none 0 0], .int .i64 1]) (by simp [results, Try.results9, go_sem]) rfl B.out
  · by_cases hm : m < 0
    · clear h
      go_enter Try.func9, Try.ntmps9
      go_wp2
      exact bodyPost_ret (v := .tuple #[.agg #[.int .i64 0, .int .i64 0, .int .i64 0, .slice none 0 0, .slice none 0 0, .slice none 0 0], .int .i64 1]) (by simp [results, Try.results9, go_sem]) rfl B.out
    · have hm2 : 2147483647 < m := by omega
      clear h
      go_enter Try.func9, Try.ntmps9
      go_wp2
      exact bodyPost_ret (v := .tuple #[.agg #[.int .i64 0, .int .i64 0, .int .i64 0, .slice none 0 0, .slice none 0 0, .slice none 0 0], .int .i64 1]) (by simp [results, Try.results9, go_sem]) rfl B.out
theorem rmake_big1 (n m s : Int) (h : 64 < n) (h0 : 0 ≤ m) (h1 : m ≤ 2147483647) (w : World) : Calls Try.prog 9 #[.int .i64 1, .int .i64 n, .int .i64 m, .int .u64 s] w (MkP 5 0 0 0 [] [] [] w) := by
  have B := Lib.hid (mk_none 5 (bl_al (Below.refl w.heap.size w) (.cells #[.int .i64 0, .int .i64 0, .int .i64 0, .slice none 0 0, .slice none 0 0, .slice none 0 0] 32)))
  have hn : ¬ n < 1 := by omega
  go_enter Try.func9, Try.ntmps9
  go_wp2
  exact bodyPost_ret (v := .tuple #[.agg #[.int .i64 0, .int .i64 0, .int .i64 0, .slice none 0 0, .slice none 0 0, .slice none 0 0], .int .i64 5]) (by simp [results, Try.results9, go_sem]) rfl B.out
theorem rmake_arg2 (n m s : Int) (h : n < 1 ∨ m < 0 ∨ 2147483647 < m) (w : World) : Calls Try.prog 9 #[.int .i64 2, .int .i64 n, .int .i64 m, .int .u64 s] w (MkP 1 0 0 0 [] [] [] w) := by
  have B := Lib.hid (mk_none 1 (bl_al (Below.refl w.heap.size w) (.cells #[.int .i64 0, .int .i64 0, .int .i64 0, .slice none 0 0, .slice none 0 0, .slice none 0 0] 32)))
  by_cases hn : n < 1
  · clear h
    go_enter Try.func9, Try.ntmps9
    go_wp2
    exact bodyPost_ret (v := .tuple #[.agg #[.int .i64 0, .int .i64 0, .int .i64 0, .slice none 0 0, .slice none 0 0, .slice none 0 0], .int .i64 1]) (by simp [results, Try.results9, go_sem]) rfl B.out
  · by_cases hm : m < 0
    · clear h
      go_enter Try.func9, Try.ntmps9
      go_wp2
      exact bodyPost_ret (v := .tuple #[.agg #[.int .i64 0, .int .i64 0, .int .i64 0, .slice none 0 0, .slice none 0 0, .slice none 0 0], .int .i64 1]) (by simp [results, Try.results9, go_sem]) rfl B.out
    · have hm2 : 2147483647 < m := by omega
      clear h
      go_enter Try.func9, Try.ntmps9
      go_wp2
      exact bodyPost_ret (v := .tuple #[.agg #[.int .i64 0, .int .i64 0, .int .i64 0, .slice none 0 0, .slice none 0 0, .slice none 0 0], .int .i64 1]) (by simp [results, Try.results9, go_sem]) rfl B.out
theorem rmake_big2 (n m s : Int) (h : 24 < n) (h0 : 0 ≤ m) (h1 : m ≤ 2147483647) (w : World) : Calls Try.prog 9 #[.int .i64 2, .int .i64 n, .int .i64 m, .int .u64 s] w (MkP 5 0 0 0 [] [] [] w) := by
  have B := Lib.hid (mk_none 5 (bl_al (Below.refl w.heap.size w) (.cells #[.int .i64 0, .int .i64 0, .int .i64 0, .slice none 0 0, .slice none 0 0, .slice none 0 0] 32)))
  have hn : ¬ n < 1 := by omega
  by_cases h64 : 64 < n
  · go_enter Try.func9, Try.ntmps9
    go_wp2
    exact bodyPost_ret (v := .tuple #[.agg #[.int .i64 0, .int .i64 0, .int .i64 0, .slice none 0 0, .slice none 0 0, .slice none 0 0], .int .i64 5]) (by simp [results, Try.results9, go_sem]) rfl B.out
  · have h24 : 24 < n := by omega
    go_enter Try.func9, Try.ntmps9
    go_wp2
    exact bodyPost_ret (v := .tuple #[.agg #[.int .i64 0, .int .i64 0, .int .i64 0, .slice none 0 0, .slice none 0 0, .slice none 0 0], .int .i64 5]) (by simp [results, Try.results9, go_sem]) rfl B.out
theorem rmake_arg3 (n m s : Int) (h : n < 1 ∨ m < 0 ∨ 2147483647 < m) (w : World) : Calls Try.prog 9 #[.int .i64 3, .int .i64 n, .int .i64 m, .int .u64 s] w (MkP 1 0 0 0 [] [] [] w) := by
  have B := Lib.hid (mk_none 1 (bl_al (Below.refl w.heap.size w) (.cells #[.int .i64 0, .int .i64 0, .int .i64 0, .slice none 0 0, .slice none 0 0, .slice none 0 0] 32)))
  by_cases hn : n < 1
  · clear h
    go_enter Try.func9, Try.ntmps9
    go_wp2
    exact bodyPost_ret (v := .tuple #[.agg #[.int .i64 0, .int .i64 0, .int .i64 0, .slice none 0 0, .slice none 0 0, .slice none 0 0], .int .i64 1]) (by simp [results, Try.results9, go_sem]) rfl B.out
  · by_cases hm : m < 0
    · clear h
      go_enter Try.func9, Try.ntmps9
      go_wp2
      exact bodyPost_ret (v := .tuple #[.agg #[.int .i64 0, .int .i64 0, .int .i64 0, .slice none 0 0, .slice none 0 0, .slice none 0 0], .int .i64 1]) (by simp [results, Try.results9, go_sem]) rfl B.out
    · have hm2 : 2147483647 < m := by omega
      clear h
      go_enter Try.func9, Try.ntmps9
      go_wp2
      exact bodyPost_ret (v := .tuple #[.agg #[.int .i64 0, .int .i64 0, .int .i64 0, .slice none 0 0, .slice none 0 0, .slice none 0 0], .int .i64 1]) (by simp [results, Try.results9, go_sem]) rfl B.out
theorem rmake_big3 (n m s : Int) (h : 24 < n) (h0 : 0 ≤ m) (h1 : m ≤ 2147483647) (w : World) : Calls Try.prog 9 #[.int .i64 3, .int .i64 n, .int .i64 m, .int .u64 s] w (MkP 5 0 0 0 [] [] [] w) := by
  have B := Lib.hid (mk_none 5 (bl_al (Below.refl w.heap.size w) (.cells #[.int .i64 0, .int .i64 0, .int .i64 0, .slice none 0 0, .slice none 0 0, .slice none 0 0] 32)))
  have hn : ¬ n < 1 := by omega
  by_cases h64 : 64 < n
  · go_enter Try.func9, Try.ntmps9
    go_wp2
    exact bodyPost_ret (v := .tuple #[.agg #[.int .i64 0, .int .i64 0, .int .i64 0, .slice none 0 0, .slice none 0 0, .slice none 0 0], .int .i64 5]) (by simp [results, Try.results9, go_sem]) rfl B.out
  · have h24 : 24 < n := by omega
    go_enter Try.func9, Try.ntmps9
    go_wp2
    exact bodyPost_ret (v := .tuple #[.agg #[.int .i64 0, .int .i64 0, .int .i64 0, .slice none 0 0, .slice none 0 0, .slice none 0 0], .int .i64 5]) (by simp [results, Try.results9, go_sem]) rfl B.out
set_option maxRecDepth 100000 in
set_option maxHeartbeats 4000000 in
theorem rmake_knap (nn : Nat) (n1 : 1 ≤ nn) (n2 : nn ≤ 64) (m s : Int) (h0 : 0 ≤ m) (h1 : m ≤ 2147483647) (w : World) : Calls Try.prog 9 #[.int .i64 1, .int .i64 nn, .int .i64 m, .int .u64 s] w (MkP 0 1 nn (capOf m s nn) (WL m s nn) (VL m s nn) [] w) := by
  have HN := Lib.hid (fun W => numbers_any m s h0 h1 (2 * nn) (by omega) W)
  rw [show ((2 * nn : Nat) : Int) = 2 * (nn : Int) from by omega] at HN
  have hq : ((w.alloc (.cells #[.int .i64 0, .int .i64 0, .int .i64 0, .slice none 0 0, .slice none 0 0, .slice none 0 0] 32)).alloc (.cells #[.int .i64 1, .int .i64 nn, .int .i64 0, .slice none 0 0, .slice none 0 0, .slice none 0 0] 32)).heap[w.heap.size]? = some (.cells #[.int .i64 0, .int .i64 0, .int .i64 0, .slice none 0 0, .slice none 0 0, .slice none 0 0] 32 (0, 0)) := heap_alloc2_old w _ _
  have hi2 : ((w.alloc (.cells #[.int .i64 0, .int .i64 0, .int .i64 0, .slice none 0 0, .slice none 0 0, .slice none 0 0] 32)).alloc (.cells #[.int .i64 1, .int .i64 nn, .int .i64 0, .slice none 0 0, .slice none 0 0, .slice none 0 0] 32)).heap[w.heap.size + 1]? = some (.cells #[.int .i64 1, .int .i64 nn, .int .i64 0, .slice none 0 0, .slice none 0 0, .slice none 0 0] 32) := heap_alloc2_new w _ _
  have hb : Below w.heap.size w ((w.alloc (.cells #[.int .i64 0, .int .i64 0, .int .i64 0, .slice none 0 0, .slice none 0 0, .slice none 0 0] 32)).alloc (.cells #[.int .i64 1, .int .i64 nn, .int .i64 0, .slice none 0 0, .slice none 0 0, .slice none 0 0] 32)) := bl_al (bl_al (Below.refl w.heap.size w) _) _
  have hsz : ((w.alloc (.cells #[.int .i64 0, .int .i64 0, .int .i64 0, .slice none 0 0, .slice none 0 0, .slice none 0 0] 32)).alloc (.cells #[.int .i64 1, .int .i64 nn, .int .i64 0, .slice none 0 0, .slice none 0 0, .slice none 0 0] 32)).heap.size = w.heap.size + 1 + 1 := by simp
  have G1 : ¬ (nn : Int) < 1 := by omega
  have G2 : ¬ (64 : Int) < (nn : Int) := by omega
  have HX := Lib.hid hb
  have HQ := Lib.hid hq
  have HI := Lib.hid hi2
  have HSZ := Lib.hid hsz
  clear hb hq hi2 hsz
  go_enter Try.func9, Try.ntmps9
  go_wp2_with fail
  refine (HN.out _).mono ?_; rintro e w1 ⟨v, rfl, hr, hb1⟩
  obtain ⟨gl, cl1, rfl, hbl, hll⟩ := hr.form (by omega)
  obtain ⟨cl, hcl⟩ := row_kind hr rfl
  have hat : ∀ j, j < 2 * nn → cl[j]? = some (.int .i64 (dr m s j)) := fun j hj => by
    have := hr.cellAt j (by omega)
    rw [cell_of_row _ _ _ _ _ _ hcl] at this
    rw [this]; exact DL_at m s (2 * nn) j hj
  have W0 : enc (WL m s 0) = [] := List.eq_nil_of_length_eq_zero (by simp [enc, WL_len])
  have V0 : enc (VL m s 0) = [] := List.eq_nil_of_length_eq_zero (by simp [enc, VL_len])
  obtain ⟨B, hB⟩ : ∃ B, B = w1.heap.size := ⟨_, rfl⟩
  have hs1 := hb1.size
  have hsq := HSZ.out
  have K0 : Hid (RS m s nn gl w.heap.size (w.heap.size + 1) B cl w 0 0 (.slice none 0 0) (.slice none 0 0) (.slice none 0 0) (.slice none 0 0) w1) :=
    ⟨(hb1.block _ (by omega)).trans HI.out, (hb1.block _ (by omega)).trans HQ.out, hcl, by rw [W0]; exact World.ownsRow_nil _ _ _ _, by rw [V0]; exact World.ownsRow_nil _ _ _ _, fun x hx => (by cases hx), HX.out.trans (hb1.mono HX.out.size), by omega, by omega, by omega, by omega, by omega⟩
  clear hr hb1 hbl hll hcl HX HQ HI HSZ HN hs1 hsq hB W0 V0
  have HA := Lib.hid hat
  clear hat
  go_wp2
  generalize hgr : w.heap.size = gr at *
  generalize hgi : gr + 1 = gi at *
  go_loopw [13, 14] (fun q i wr => ∃ (k : Nat) (vW vV : Value), k ≤ nn ∧ i = .int .i64 k ∧ q = .int .i64 (ps m s k) ∧ Hid (RS m s nn gl gr gi B cl w k k vW vV vW vV wr)) (fun _ i _ => nn - (intOf i).toNat)
  case atStart => exact ⟨0, _, _, by omega, rfl, by rw [ps_zero], K0⟩
  case round =>
    clear K0
    obtain ⟨k, vW, vV, hk, rfl, rfl, HK⟩ := hrel
    by_cases hlt : k < nn
    · have g1 : (k : Int) < (nn : Int) := by omega
      have pb := ps_bd m s h0 h1 k
      have db := dr_bd m s (2 * k) h0
      have HS := Lib.hid (show ps m s (k + 1) = ps m s k + dr m s (2 * k) from by rw [ps_succ, Nat.two_mul])
      go_wp2
      rename_i K0 aK
      refine ref14 m s nn k n2 hlt gl cl1 gr gi B cl HA.out w vW vV wr HK.out _ _ _ _ _ _ _ _ _ _ _ _ _ _ _ _ _ _ _ _ _ _ _ _ _ _ _ _ _ _ _ _ _ _ _ _ _ _ _ _ _ _ _ _ _ _ _ _ _ _ _ _ _ _ _ _ _ _ _ _ _ _ _ _ _ _ _ _ _ _ _ _ _ _ _ _ _ _ _ _ _ _ _ _ _ _ _ _ _ _ _ _ _ _ _ _ _ _ _ _ _ _ _ _ _ _ _ _ _ _ _ _ _ _ _ _ _ _ _ _ _ _ _ _ _ _ _ _ _ _ _ _ _ _ _ _ _ (fun c a d v w h => by cases d <;> exact h) ?_
      intro g5 cap5 g6 cap6 W q67 q68 q69 q70 q71 q72 q73 q74 q75 q76 q77 q78 q79 q80 q81 q82 q83 q84 q85 q86 q87 hR
      refine aK _ _ ?_
      clear aK
      have HKd := Lib.hid hR
      clear hR HK
      have cz := (cell_of_row _ gl (2 * k) _ 3 _ HKd.out.l).trans (HA.out (2 * k) (by omega))
      go_wp2
      go_roundw
      case rel => exact ⟨k + 1, _, _, by omega, by go_num, by rw [HS.out], HKd⟩
      case measure => simp [intOf]; omega
    · skip
      obtain rfl : k = nn := by omega
      obtain ⟨gw, cw, rfl, hbw, hlw⟩ := HK.out.rw.form (by omega)
      obtain ⟨gv, cv, rfl, hbv, hlv⟩ := HK.out.rv.form (by omega)
      have hgiB : gi < B := HK.out.lo
      have hgrB : gr < B := by omega
      have hgb : w.heap.size ≤ gi := HK.out.base
      have hrb : w.heap.size ≤ gr := by omega
      obtain ⟨cp, hcp⟩ : ∃ c, c = capOf m s k := ⟨_, rfl⟩
      have FIN : Hid (∀ e, e = Ending.returned (.tuple #[.agg #[.int .i64 1, .int .i64 k, .int .i64 cp, .slice (some ⟨gw, 0, none⟩) k cw, .slice (some ⟨gv, 0, none⟩) k cv, .slice none 0 0], .int .i64 0]) → MkP 0 1 k (capOf m s k) (WL m s k) (VL m s k) [] w e (((((((wr.setCell ⟨gi, 2, none⟩ (.int .i64 cp)).setCell ⟨gr, 0, none⟩ (.int .i64 1)).setCell ⟨gr, 1, none⟩ (.int .i64 k)).setCell ⟨gr, 2, none⟩ (.int .i64 cp)).setCell ⟨gr, 3, none⟩ (.slice (some ⟨gw, 0, none⟩) k cw)).setCell ⟨gr, 4, none⟩ (.slice (some ⟨gv, 0, none⟩) k cv)).setCell ⟨gr, 5, none⟩ (.slice none 0 0))) := fun e he => by
        refine ⟨some ⟨gw, 0, none⟩, some ⟨gv, 0, none⟩, none, cw, cv, 0, by rw [he, hcp, WL_len, VL_len]; rfl, ints_row (WL_len _ _ _) (Go.RowKit.ownsRow_setCell_below (a := ⟨gr, 5, none⟩) (Go.RowKit.ownsRow_setCell_below (a := ⟨gr, 4, none⟩) (Go.RowKit.ownsRow_setCell_below (a := ⟨gr, 3, none⟩) (Go.RowKit.ownsRow_setCell_below (a := ⟨gr, 2, none⟩) (Go.RowKit.ownsRow_setCell_below (a := ⟨gr, 1, none⟩) (Go.RowKit.ownsRow_setCell_below (a := ⟨gr, 0, none⟩) (Go.RowKit.ownsRow_setCell_below (a := ⟨gi, 2, none⟩) (HK.out.rw) hgiB (.int .i64 cp)) hgrB (.int .i64 1)) hgrB (.int .i64 k)) hgrB (.int .i64 cp)) hgrB (.slice (some ⟨gw, 0, none⟩) k cw)) hgrB (.slice (some ⟨gv, 0, none⟩) k cv)) hgrB (.slice none 0 0)), ints_row (VL_len _ _ _) (Go.RowKit.ownsRow_setCell_below (a := ⟨gr, 5, none⟩) (Go.RowKit.ownsRow_setCell_below (a := ⟨gr, 4, none⟩) (Go.RowKit.ownsRow_setCell_below (a := ⟨gr, 3, none⟩) (Go.RowKit.ownsRow_setCell_below (a := ⟨gr, 2, none⟩) (Go.RowKit.ownsRow_setCell_below (a := ⟨gr, 1, none⟩) (Go.RowKit.ownsRow_setCell_below (a := ⟨gr, 0, none⟩) (Go.RowKit.ownsRow_setCell_below (a := ⟨gi, 2, none⟩) (HK.out.rv) hgiB (.int .i64 cp)) hgrB (.int .i64 1)) hgrB (.int .i64 k)) hgrB (.int .i64 cp)) hgrB (.slice (some ⟨gw, 0, none⟩) k cw)) hgrB (.slice (some ⟨gv, 0, none⟩) k cv)) hgrB (.slice none 0 0)), fun j hj => by simp at hj, Below.setCell (p := ⟨gr, 5, none⟩) (Below.setCell (p := ⟨gr, 4, none⟩) (Below.setCell (p := ⟨gr, 3, none⟩) (Below.setCell (p := ⟨gr, 2, none⟩) (Below.setCell (p := ⟨gr, 1, none⟩) (Below.setCell (p := ⟨gr, 0, none⟩) (Below.setCell (p := ⟨gi, 2, none⟩) (HK.out.below) hgb (.int .i64 cp)) hrb (.int .i64 1)) hrb (.int .i64 k)) hrb (.int .i64 cp)) hrb (.slice (some ⟨gw, 0, none⟩) k cw)) hrb (.slice (some ⟨gv, 0, none⟩) k cv)) hrb (.slice none 0 0)⟩
      have q1 : (wr.setCell ⟨gi, 2, none⟩ (.int .i64 cp)).heap[gi]? = some (.cells #[.int .i64 1, .int .i64 k, .int .i64 cp, .slice (some ⟨gw, 0, none⟩) k cw, .slice (some ⟨gv, 0, none⟩) k cv, .slice none 0 0] 32 (0, 0)) := heap_setCell_same wr gi 2 _ 32 (.int .i64 cp) HK.out.box
      have q2 : (wr.setCell ⟨gi, 2, none⟩ (.int .i64 cp)).heap[gr]? = some (.cells #[.int .i64 0, .int .i64 0, .int .i64 0, .slice none 0 0, .slice none 0 0, .slice none 0 0] 32 (0, 0)) := (heap_setCell_other wr ⟨gi, 2, none⟩ gr _ HK.out.ne).trans HK.out.res
      have q3 := six q2 (.int .i64 1) (.int .i64 k) (.int .i64 cp) (.slice (some ⟨gw, 0, none⟩) k cw) (.slice (some ⟨gv, 0, none⟩) k cv) (.slice none 0 0)
      obtain ⟨b0, b1, b2, b3, b4, b5⟩ := box6 HK.out.box
      have bf2 : wr.frozen? ⟨gi, 2, none⟩ = false := frozen_of_row _ _ _ _ _ HK.out.box
      have HB := Lib.hid (box6 q1)
      have HF2 : Hid (∀ j, (wr.setCell ⟨gi, 2, none⟩ (.int .i64 cp)).frozen? ⟨gr, j, none⟩ = false) := fun j => frozen_of_row _ _ _ _ _ q2
      have HZ := Lib.hid (box6 q2)
      have HR := Lib.hid (box6 q3)
      have pb := ps_bd m s h0 h1 k
      clear q1 q2 q3 hbw hlw hbv hlv HK hgiB hgrB hgb hrb
      by_cases hp : ps m s k / 2 ≤ 2147483647
      · obtain rfl : cp = ps m s k / 2 := by rw [hcp]; unfold capOf; rw [if_pos hp]
        clear hcp
        obtain ⟨x0, x1, x2, x3, x4, x5⟩ := HB.out
        obtain ⟨y0, y1, y2, y3, y4, y5⟩ := HZ.out
        obtain ⟨r0, r1, r2, r3, r4, r5⟩ := HR.out
        have f0 := HF2.out 0
        have f1 := HF2.out 1
        have f2 := HF2.out 2
        have f3 := HF2.out 3
        have f4 := HF2.out 4
        have f5 := HF2.out 5
        clear HB HZ HR HF2
        go_wp2
        exact bodyPost_ret (v := .tuple #[.agg #[.int .i64 1, .int .i64 k, .int .i64 (ps m s k / 2), .slice (some ⟨gw, 0, none⟩) k cw, .slice (some ⟨gv, 0, none⟩) k cv, .slice none 0 0], .int .i64 0]) (by simp [results, Try.results9, go_sem, r0, r1, r2, r3, r4, r5]) rfl (FIN.out _ rfl)
      · obtain rfl : cp = 2147483647 := by rw [hcp]; unfold capOf; rw [if_neg hp]
        clear hcp
        obtain ⟨x0, x1, x2, x3, x4, x5⟩ := HB.out
        obtain ⟨y0, y1, y2, y3, y4, y5⟩ := HZ.out
        obtain ⟨r0, r1, r2, r3, r4, r5⟩ := HR.out
        have f0 := HF2.out 0
        have f1 := HF2.out 1
        have f2 := HF2.out 2
        have f3 := HF2.out 3
        have f4 := HF2.out 4
        have f5 := HF2.out 5
        have hp2 : 2147483647 < ps m s k / 2 := by omega
        clear hp
        clear HB HZ HR HF2
        go_wp2
        exact bodyPost_ret (v := .tuple #[.agg #[.int .i64 1, .int .i64 k, .int .i64 (2147483647), .slice (some ⟨gw, 0, none⟩) k cw, .slice (some ⟨gv, 0, none⟩) k cv, .slice none 0 0], .int .i64 0]) (by simp [results, Try.results9, go_sem, r0, r1, r2, r3, r4, r5]) rfl (FIN.out _ rfl)
end Go.Proofs.Ytnmolpogmkiikaa
