/-
  What the reference's Make answers: assignments, tours.
-/
import Derived.Test.YtnmolpogmkiikaaRc
import Derived.Test.YtnmolpogmkiikaaR14
namespace Go.Proofs.Ytnmolpogmkiikaa
open Go.RowKit
set_option linter.unusedVariables false
theorem rws_two {W : World} {B n c gc : Nat} {gs cs : Nat → Nat} {t : Bool} {m s : Int} (hn : n ≤ 1000) (h1 : W.ownsRow B 29 1 (.slice (some ⟨gc, 0, none⟩) n c) n (tl2 gs cs n n)) (h2 : ∀ j, j < n → W.ownsRow B 3 1 (.slice (some ⟨gs j, 0, none⟩) n (cs j)) n (enc (EL t m s n j))) : Rws W (some ⟨gc, 0, none⟩) (CL t m s n) := fun j hj => by
  have hj' : j < n := by rw [CL_len] at hj; exact hj
  refine ⟨gc, 0, some ⟨gs j, 0, none⟩, cs j, rfl, (h1.lt gc rfl).2, ?_, ?_, ?_⟩
  · rw [Nat.zero_add, h1.cellAt j (by omega), tl2_at _ _ _ _ _ hj', CL_at _ _ _ _ _ hj', EL_len]
  · rw [CL_at _ _ _ _ _ hj']
    exact ints_row (EL_len _ _ _ _ _) (h2 j hj')
  · rw [CL_at _ _ _ _ _ hj', EL_len]; exact hn
set_option maxRecDepth 100000 in
set_option maxHeartbeats 4000000 in
theorem rmake_two (nn : Nat) (n1 : 1 ≤ nn) (n2 : nn ≤ 24) (m s : Int) (h0 : 0 ≤ m) (h1 : m ≤ 2147483647) (w : World) : Calls Try.prog 9 #[.int .i64 2, .int .i64 nn, .int .i64 m, .int .u64 s] w (MkP 0 2 nn 0 [] [] (CL false m s nn) w) := by
  obtain ⟨i0, hi, hz0, hz1, hz2⟩ := info_parts info3
  obtain ⟨i29, hi29, hy0, hy1, hy2⟩ := info_parts info29
  have HD := Lib.hid (fun k W => (refdraw_any m s h0 h1 k W).mono (R' := fun e w' => e = .returned (.tuple #[.int .i64 (dr m s k), .int .u64 (sd s (k + 1))]) ∧ W = w') (fun e w' h => ⟨h.1, h.2.symm⟩))
  have hb : Below w.heap.size w ((w.alloc (.cells #[.int .i64 0, .int .i64 0, .int .i64 0, .slice none 0 0, .slice none 0 0, .slice none 0 0] 32)).alloc (.cells #[.int .i64 2, .int .i64 nn, .int .i64 0, .slice none 0 0, .slice none 0 0, .slice none 0 0] 32)) := bl_al (bl_al (Below.refl w.heap.size w) _) _
  have hsz : ((w.alloc (.cells #[.int .i64 0, .int .i64 0, .int .i64 0, .slice none 0 0, .slice none 0 0, .slice none 0 0] 32)).alloc (.cells #[.int .i64 2, .int .i64 nn, .int .i64 0, .slice none 0 0, .slice none 0 0, .slice none 0 0] 32)).heap.size = w.heap.size + 1 + 1 := by simp
  obtain ⟨B, hB⟩ : ∃ B, B = w.heap.size + 1 + 1 := ⟨_, rfl⟩
  have K0 : Hid (RC false m s 2 nn w.heap.size (w.heap.size + 1) B w 0 (.slice none 0 0) (fun _ => 0) (fun _ => 0) ((w.alloc (.cells #[.int .i64 0, .int .i64 0, .int .i64 0, .slice none 0 0, .slice none 0 0, .slice none 0 0] 32)).alloc (.cells #[.int .i64 2, .int .i64 nn, .int .i64 0, .slice none 0 0, .slice none 0 0, .slice none 0 0] 32))) :=
    ⟨heap_alloc2_new w _ _, heap_alloc2_old w _ _, by rw [tl2_zero]; exact World.ownsRow_nil _ _ _ _, fun j hj => by omega, hb, by rw [hsz, hB]; exact Nat.le_refl _, by omega, by omega, by omega, by omega, by omega⟩
  have hs0 : Hid (sd s 0 = s) := sd_zero s
  clear hb hsz hB
  have G1 : ¬ (nn : Int) < 1 := by omega
  have G2 : ¬ (64 : Int) < (nn : Int) := by omega
  have G3 : ¬ (24 : Int) < (nn : Int) := by omega
  go_enter Try.func9, Try.ntmps9
  go_wp2
  generalize ((w.alloc (.cells #[.int .i64 0, .int .i64 0, .int .i64 0, .slice none 0 0, .slice none 0 0, .slice none 0 0] 32)).alloc (.cells #[.int .i64 2, .int .i64 nn, .int .i64 0, .slice none 0 0, .slice none 0 0, .slice none 0 0] 32)) = X at *
  generalize hgr : w.heap.size = gr at *
  generalize hgi : gr + 1 = gi at *
  have hgrH := Lib.hid hgr
  have hgiH := Lib.hid hgi
  clear hgr hgi
  go_loopw [3, 15] (fun q i wr => ∃ (a : Nat) (vC : Value) (gs cs : Nat → Nat), a ≤ nn ∧ i = .int .i64 a ∧ q = .int .u64 (sd s (bas false nn a)) ∧ Hid (RC false m s 2 nn gr gi B w a vC gs cs wr)) (fun _ i _ => nn - (intOf i).toNat)
  case atStart => exact ⟨0, _, _, _, by omega, rfl, by rw [bas_zero, hs0.out], K0⟩
  case round =>
    clear K0
    obtain ⟨a, vC, gs, cs, ha, rfl, rfl, HC⟩ := hrel
    by_cases hal : a < nn
    · have g1 : (a : Int) < (nn : Int) := by omega
      have R0 : Hid ((wr.alloc (.cells #[] 3)).ownsRow B 3 1 (.slice (some ⟨wr.heap.size, 0, none⟩) 0 0) 0 (rp false m s nn a 0)) := by
        rw [rp_zero]; exact World.ownsRow_lit (base := B) (e := 3) (size := 1) wr #[] 0 HC.out.sz (by decide) rfl
      have C0 := Lib.hid (HC.out.alloc (.cells #[] 3))
      have P0 : Hid (∀ j, j < a → Value.ownBlock (.slice (some ⟨wr.heap.size, 0, none⟩) 0 0) ≠ some (gs j)) := fun j hj e => by
        injection e with e
        have h1 := ((HC.out.rows j hj).lt (gs j) rfl).2
        have h2 : wr.heap.size = gs j := e
        omega
      clear HC
      generalize wr = wo at *
      go_wp2
      go_loopw [3, 16, 17] (fun q vR i wi => ∃ b : Nat, b ≤ nn ∧ i = .int .i64 b ∧ q = .int .u64 (sd s (bas false nn a + ctn false a b)) ∧ Hid (RC false m s 2 nn gr gi B w a vC gs cs wi) ∧ Hid (wi.ownsRow B 3 1 vR b (rp false m s nn a b)) ∧ Hid (∀ j, j < a → vR.ownBlock ≠ some (gs j))) (fun _ _ i _ => nn - (intOf i).toNat)
      case atStart => exact ⟨0, by omega, rfl, by rw [ctn_zero]; rfl, C0, R0, P0⟩
      case round =>
        clear C0 R0 P0
        obtain ⟨b, hb, rfl, rfl, HC, HR, HP⟩ := hrel
        by_cases hbn : b < nn
        · have g2 : (b : Int) < (nn : Int) := by omega
          have HE := Lib.hid (ent_draw m s nn (t := false) (a := a) (b := b) (by rfl))
          have HX := Lib.hid (show bas false nn a + ctn false a (b + 1) = bas false nn a + ctn false a b + 1 from by rw [ctn_next (by rfl)]; omega)
          go_wp2_with fail
          refine (HD.out (bas false nn a + ctn false a b) _).mono ?_; rintro e w1 ⟨rfl, rfl⟩
          obtain ⟨x, hx⟩ : ∃ x, x = dr m s (bas false nn a + ctn false a b) := ⟨_, rfl⟩
          have HXX := Lib.hid (hx.trans HE.out.symm)
          rw [← hx]
          clear hx HE
          have hbs : B ≤ (wr.alloc (.cells #[.int .i64 (x)] 3)).heap.size := by rw [World.size_alloc]; have := HC.out.sz; omega
          go_wp2_with (at_builtin; refine wpList_append_lies _ rfl _ _ 29 rfl B 3 i0 (.int .i64 0) 1 8 Try.underlying29 hi hz0 hz1 hz2 rfl (by decide) u16 b _ rfl (HR.out.alloc _) ⟨wr.heap.size, 0, none⟩ 1 1 [.int .i64 (x)] rfl rfl (cell_one_new _ _ _) (by simp [Value.oneCell']) (by decide) (by unfold maxLen; omega) (by omega) hbs _ rfl ?_)
          intro g5 cap5 w5 hown5 hgrow5 hl5 hlt5
          have HR2 : Hid (w5.ownsRow B 3 1 (.slice (some ⟨g5, 0, none⟩) (b + 1) cap5) (b + 1) (rp false m s nn a (b + 1))) := by rw [rp_next]; rw [← HXX.out]; exact hown5
          have HC2 := Lib.hid ((HC.out.alloc (.cells #[.int .i64 (x)] 3)).grow (HR.out.alloc _) hgrow5 HP.out)
          have HP2 : Hid (∀ j, j < a → Value.ownBlock (.slice (some ⟨g5, 0, none⟩) (b + 1) cap5) ≠ some (gs j)) := fun j hj e => by
            rcases hl5 with hl5 | hl5
            · exact HP.out j hj (hl5.trans e)
            · injection e with e
              have h1 := ((HC.out.rows j hj).lt (gs j) rfl).2
              have h2 : g5 = gs j := e
              omega
          clear hown5 hgrow5 hl5 hlt5 HR HC HP hbs
          go_wp2
          go_roundw
          case rel => exact ⟨b + 1, by omega, by go_num, by rw [HX.out], HC2, HR2, HP2⟩
          case measure => simp [intOf]; omega
        · obtain rfl : b = nn := by omega
          obtain ⟨gR, cR, rfl, hgR, hlR⟩ := HR.out.form (by omega)
          have HRR := HR.out
          rw [rp_all] at HRR
          have c5 : wr.cell? ⟨gi, 5, none⟩ = some vC := cell_of_row _ gi 5 _ 32 _ HC.out.box
          have hbs : B ≤ (wr.alloc (.cells #[.slice (some ⟨gR, 0, none⟩) b cR] 29)).heap.size := by rw [World.size_alloc]; have := HC.out.sz; omega
          go_wp2_with (at_builtin; refine wpList_append_own _ rfl _ _ 30 rfl B 29 i29 (.slice none 0 0) 1 24 Try.underlying30 hi29 hy0 hy1 hy2 rfl (by decide) vC a _ rfl (HC.out.top.alloc _) ⟨wr.heap.size, 0, none⟩ 1 1 [.slice (some ⟨gR, 0, none⟩) b cR] rfl rfl (cell_one_new _ _ _) (by simp [Value.oneCell']) (by unfold maxLen; omega) (by omega) hbs ?_)
          intro v' w5 hown5 hgrow5 _
          obtain ⟨g6, cap6, rfl, -, -⟩ := hown5.form (by omega)
          have HA := HC.out.alloc (.cells #[.slice (some ⟨gR, 0, none⟩) b cR] 29)
          have q5 := (hgrow5.block gi (lt_hp HA.box) (fun e => row_neE HA.top HA.box (by decide) e.symm)).trans HA.box
          have c6 : w5.cell? ⟨gi, 5, none⟩ = some vC := cell_of_row _ gi 5 _ 32 _ q5
          have f6 : w5.frozen? ⟨gi, 5, none⟩ = false := frozen_of_row _ gi 5 _ 32 q5
          have HN := Lib.hid (HA.put (HRR.alloc _) hown5 hgrow5)
          have HX := Lib.hid (bas_next false b a (by omega))
          clear hown5 hgrow5 HA q5 HRR hbs c5 HC HR HP
          go_wp2
          go_roundw
          case rel => exact ⟨a + 1, _, _, _, by omega, by go_num, by rw [HX.out], HN⟩
          case measure => simp [intOf]; omega
    · skip
      obtain rfl : a = nn := by omega
      obtain ⟨gC, cC, rfl, hbC, hlC⟩ : ∃ g c, vC = .slice (some ⟨g, 0, none⟩) a c ∧ B ≤ g ∧ g < wr.heap.size := by
        obtain ⟨g, c, h1, h2, h3⟩ := HC.out.top.form (by omega); exact ⟨g, c, h1, h2, h3⟩
      have hlr := HC.out.lor
      have hbr := HC.out.baser
      have FIN : Hid (∀ e, e = Ending.returned (.tuple #[.agg #[.int .i64 2, .int .i64 a, .int .i64 0, .slice none 0 0, .slice none 0 0, .slice (some ⟨gC, 0, none⟩) a cC], .int .i64 0]) → MkP 0 2 a 0 [] [] (CL false m s a) w e ((((((wr.setCell ⟨gr, 0, none⟩ (.int .i64 2)).setCell ⟨gr, 1, none⟩ (.int .i64 a)).setCell ⟨gr, 2, none⟩ (.int .i64 0)).setCell ⟨gr, 3, none⟩ (.slice none 0 0)).setCell ⟨gr, 4, none⟩ (.slice none 0 0)).setCell ⟨gr, 5, none⟩ (.slice (some ⟨gC, 0, none⟩) a cC))) := fun e he => by
        refine ⟨none, none, some ⟨gC, 0, none⟩, 0, 0, cC, by rw [he, CL_len]; rfl, fun j hj => by simp at hj, fun j hj => by simp at hj, rws_two (by omega) (Go.RowKit.ownsRow_setCell_below (a := ⟨gr, 5, none⟩) (Go.RowKit.ownsRow_setCell_below (a := ⟨gr, 4, none⟩) (Go.RowKit.ownsRow_setCell_below (a := ⟨gr, 3, none⟩) (Go.RowKit.ownsRow_setCell_below (a := ⟨gr, 2, none⟩) (Go.RowKit.ownsRow_setCell_below (a := ⟨gr, 1, none⟩) (Go.RowKit.ownsRow_setCell_below (a := ⟨gr, 0, none⟩) (HC.out.top) hlr (.int .i64 2)) hlr (.int .i64 a)) hlr (.int .i64 0)) hlr (.slice none 0 0)) hlr (.slice none 0 0)) hlr (.slice (some ⟨gC, 0, none⟩) a cC)) (fun j hj => Go.RowKit.ownsRow_setCell_below (a := ⟨gr, 5, none⟩) (Go.RowKit.ownsRow_setCell_below (a := ⟨gr, 4, none⟩) (Go.RowKit.ownsRow_setCell_below (a := ⟨gr, 3, none⟩) (Go.RowKit.ownsRow_setCell_below (a := ⟨gr, 2, none⟩) (Go.RowKit.ownsRow_setCell_below (a := ⟨gr, 1, none⟩) (Go.RowKit.ownsRow_setCell_below (a := ⟨gr, 0, none⟩) (HC.out.rows j hj) hlr (.int .i64 2)) hlr (.int .i64 a)) hlr (.int .i64 0)) hlr (.slice none 0 0)) hlr (.slice none 0 0)) hlr (.slice (some ⟨gC, 0, none⟩) a cC)), Below.setCell (p := ⟨gr, 5, none⟩) (Below.setCell (p := ⟨gr, 4, none⟩) (Below.setCell (p := ⟨gr, 3, none⟩) (Below.setCell (p := ⟨gr, 2, none⟩) (Below.setCell (p := ⟨gr, 1, none⟩) (Below.setCell (p := ⟨gr, 0, none⟩) (HC.out.below) hbr (.int .i64 2)) hbr (.int .i64 a)) hbr (.int .i64 0)) hbr (.slice none 0 0)) hbr (.slice none 0 0)) hbr (.slice (some ⟨gC, 0, none⟩) a cC)⟩
      obtain ⟨b0, b1, b2, b3, b4, b5⟩ := box6 HC.out.box
      obtain ⟨y0, y1, y2, y3, y4, y5⟩ := box6 HC.out.res
      have ff : ∀ j, wr.frozen? ⟨gr, j, none⟩ = false := fun j => frozen_of_row _ _ _ _ _ HC.out.res
      have f0 := ff 0
      have f1 := ff 1
      have f2 := ff 2
      have f3 := ff 3
      have f4 := ff 4
      have f5 := ff 5
      have HR := Lib.hid (box6 (six HC.out.res (.int .i64 2) (.int .i64 a) (.int .i64 0) (.slice none 0 0) (.slice none 0 0) (.slice (some ⟨gC, 0, none⟩) a cC)))
      clear ff HC hlr hbr hbC hlC
      obtain ⟨r0, r1, r2, r3, r4, r5⟩ := HR.out
      clear HR
      go_wp2
      exact bodyPost_ret (v := .tuple #[.agg #[.int .i64 2, .int .i64 a, .int .i64 0, .slice none 0 0, .slice none 0 0, .slice (some ⟨gC, 0, none⟩) a cC], .int .i64 0]) (by simp [results, Try.results9, go_sem, r0, r1, r2, r3, r4, r5]) rfl (FIN.out _ rfl)
set_option maxRecDepth 100000 in
set_option maxHeartbeats 4000000 in
theorem rmake_three (nn : Nat) (n1 : 1 ≤ nn) (n2 : nn ≤ 24) (m s : Int) (h0 : 0 ≤ m) (h1 : m ≤ 2147483647) (w : World) : Calls Try.prog 9 #[.int .i64 3, .int .i64 nn, .int .i64 m, .int .u64 s] w (MkP 0 3 nn 0 [] [] (CL true m s nn) w) := by
  obtain ⟨i0, hi, hz0, hz1, hz2⟩ := info_parts info3
  obtain ⟨i29, hi29, hy0, hy1, hy2⟩ := info_parts info29
  have HD := Lib.hid (fun k W => (refdraw_any m s h0 h1 k W).mono (R' := fun e w' => e = .returned (.tuple #[.int .i64 (dr m s k), .int .u64 (sd s (k + 1))]) ∧ W = w') (fun e w' h => ⟨h.1, h.2.symm⟩))
  have hb : Below w.heap.size w ((w.alloc (.cells #[.int .i64 0, .int .i64 0, .int .i64 0, .slice none 0 0, .slice none 0 0, .slice none 0 0] 32)).alloc (.cells #[.int .i64 3, .int .i64 nn, .int .i64 0, .slice none 0 0, .slice none 0 0, .slice none 0 0] 32)) := bl_al (bl_al (Below.refl w.heap.size w) _) _
  have hsz : ((w.alloc (.cells #[.int .i64 0, .int .i64 0, .int .i64 0, .slice none 0 0, .slice none 0 0, .slice none 0 0] 32)).alloc (.cells #[.int .i64 3, .int .i64 nn, .int .i64 0, .slice none 0 0, .slice none 0 0, .slice none 0 0] 32)).heap.size = w.heap.size + 1 + 1 := by simp
  obtain ⟨B, hB⟩ : ∃ B, B = w.heap.size + 1 + 1 := ⟨_, rfl⟩
  have K0 : Hid (RC true m s 3 nn w.heap.size (w.heap.size + 1) B w 0 (.slice none 0 0) (fun _ => 0) (fun _ => 0) ((w.alloc (.cells #[.int .i64 0, .int .i64 0, .int .i64 0, .slice none 0 0, .slice none 0 0, .slice none 0 0] 32)).alloc (.cells #[.int .i64 3, .int .i64 nn, .int .i64 0, .slice none 0 0, .slice none 0 0, .slice none 0 0] 32))) :=
    ⟨heap_alloc2_new w _ _, heap_alloc2_old w _ _, by rw [tl2_zero]; exact World.ownsRow_nil _ _ _ _, fun j hj => by omega, hb, by rw [hsz, hB]; exact Nat.le_refl _, by omega, by omega, by omega, by omega, by omega⟩
  have hs0 : Hid (sd s 0 = s) := sd_zero s
  clear hb hsz hB
  have G1 : ¬ (nn : Int) < 1 := by omega
  have G2 : ¬ (64 : Int) < (nn : Int) := by omega
  have G3 : ¬ (24 : Int) < (nn : Int) := by omega
  go_enter Try.func9, Try.ntmps9
  go_wp2
  generalize ((w.alloc (.cells #[.int .i64 0, .int .i64 0, .int .i64 0, .slice none 0 0, .slice none 0 0, .slice none 0 0] 32)).alloc (.cells #[.int .i64 3, .int .i64 nn, .int .i64 0, .slice none 0 0, .slice none 0 0, .slice none 0 0] 32)) = X at *
  generalize hgr : w.heap.size = gr at *
  generalize hgi : gr + 1 = gi at *
  have hgrH := Lib.hid hgr
  have hgiH := Lib.hid hgi
  clear hgr hgi
  go_loopw [3, 15] (fun q i wr => ∃ (a : Nat) (vC : Value) (gs cs : Nat → Nat), a ≤ nn ∧ i = .int .i64 a ∧ q = .int .u64 (sd s (bas true nn a)) ∧ Hid (RC true m s 3 nn gr gi B w a vC gs cs wr)) (fun _ i _ => nn - (intOf i).toNat)
  case atStart => exact ⟨0, _, _, _, by omega, rfl, by rw [bas_zero, hs0.out], K0⟩
  case round =>
    clear K0
    obtain ⟨a, vC, gs, cs, ha, rfl, rfl, HC⟩ := hrel
    by_cases hal : a < nn
    · have g1 : (a : Int) < (nn : Int) := by omega
      have R0 : Hid ((wr.alloc (.cells #[] 3)).ownsRow B 3 1 (.slice (some ⟨wr.heap.size, 0, none⟩) 0 0) 0 (rp true m s nn a 0)) := by
        rw [rp_zero]; exact World.ownsRow_lit (base := B) (e := 3) (size := 1) wr #[] 0 HC.out.sz (by decide) rfl
      have C0 := Lib.hid (HC.out.alloc (.cells #[] 3))
      have P0 : Hid (∀ j, j < a → Value.ownBlock (.slice (some ⟨wr.heap.size, 0, none⟩) 0 0) ≠ some (gs j)) := fun j hj e => by
        injection e with e
        have h1 := ((HC.out.rows j hj).lt (gs j) rfl).2
        have h2 : wr.heap.size = gs j := e
        omega
      clear HC
      generalize wr = wo at *
      go_wp2
      go_loopw [3, 16, 17] (fun q vR i wi => ∃ b : Nat, b ≤ nn ∧ i = .int .i64 b ∧ q = .int .u64 (sd s (bas true nn a + ctn true a b)) ∧ Hid (RC true m s 3 nn gr gi B w a vC gs cs wi) ∧ Hid (wi.ownsRow B 3 1 vR b (rp true m s nn a b)) ∧ Hid (∀ j, j < a → vR.ownBlock ≠ some (gs j))) (fun _ _ i _ => nn - (intOf i).toNat)
      case atStart => exact ⟨0, by omega, rfl, by rw [ctn_zero]; rfl, C0, R0, P0⟩
      case round =>
        clear C0 R0 P0
        obtain ⟨b, hb, rfl, rfl, HC, HR, HP⟩ := hrel
        by_cases hbn : b < nn
        · have g2 : (b : Int) < (nn : Int) := by omega
          by_cases hab : a = b
          · have HE := Lib.hid (show ent true m s nn a b = 0 from by rw [← hab]; exact ent_diag m s nn a)
            have HX := Lib.hid (show bas true nn a + ctn true a (b + 1) = bas true nn a + ctn true a b from by rw [← hab, ctn_skip])
            have q5 : ((a : Int) == (b : Int)) = true := by simp; omega
            clear hab
            have hbs : B ≤ (wr.alloc (.cells #[.int .i64 (0)] 3)).heap.size := by rw [World.size_alloc]; have := HC.out.sz; omega
            go_wp2_with (at_builtin; refine wpList_append_lies _ rfl _ _ 29 rfl B 3 i0 (.int .i64 0) 1 8 Try.underlying29 hi hz0 hz1 hz2 rfl (by decide) u16 b _ rfl (HR.out.alloc _) ⟨wr.heap.size, 0, none⟩ 1 1 [.int .i64 (0)] rfl rfl (cell_one_new _ _ _) (by simp [Value.oneCell']) (by decide) (by unfold maxLen; omega) (by omega) hbs _ rfl ?_)
            intro g5 cap5 w5 hown5 hgrow5 hl5 hlt5
            have HR2 : Hid (w5.ownsRow B 3 1 (.slice (some ⟨g5, 0, none⟩) (b + 1) cap5) (b + 1) (rp true m s nn a (b + 1))) := by rw [rp_next]; rw [HE.out]; exact hown5
            have HC2 := Lib.hid ((HC.out.alloc (.cells #[.int .i64 (0)] 3)).grow (HR.out.alloc _) hgrow5 HP.out)
            have HP2 : Hid (∀ j, j < a → Value.ownBlock (.slice (some ⟨g5, 0, none⟩) (b + 1) cap5) ≠ some (gs j)) := fun j hj e => by
              rcases hl5 with hl5 | hl5
              · exact HP.out j hj (hl5.trans e)
              · injection e with e
                have h1 := ((HC.out.rows j hj).lt (gs j) rfl).2
                have h2 : g5 = gs j := e
                omega
            clear hown5 hgrow5 hl5 hlt5 HR HC HP hbs
            go_wp2
            go_roundw
            case rel => exact ⟨b + 1, by omega, by go_num, by rw [HX.out], HC2, HR2, HP2⟩
            case measure => simp [intOf]; omega
          · have q5 : ((a : Int) == (b : Int)) = false := by simp; omega
            have HE := Lib.hid (ent_draw m s nn (t := true) (a := a) (b := b) (by simp [hab]))
            have HX := Lib.hid (show bas true nn a + ctn true a (b + 1) = bas true nn a + ctn true a b + 1 from by rw [ctn_next (by simp [hab])]; omega)
            go_wp2_with fail
            refine (HD.out (bas true nn a + ctn true a b) _).mono ?_; rintro e w1 ⟨rfl, rfl⟩
            obtain ⟨x, hx⟩ : ∃ x, x = dr m s (bas true nn a + ctn true a b) := ⟨_, rfl⟩
            have HXX := Lib.hid (hx.trans HE.out.symm)
            rw [← hx]
            clear hx HE
            have hbs : B ≤ (wr.alloc (.cells #[.int .i64 (x)] 3)).heap.size := by rw [World.size_alloc]; have := HC.out.sz; omega
            go_wp2_with (at_builtin; refine wpList_append_lies _ rfl _ _ 29 rfl B 3 i0 (.int .i64 0) 1 8 Try.underlying29 hi hz0 hz1 hz2 rfl (by decide) u16 b _ rfl (HR.out.alloc _) ⟨wr.heap.size, 0, none⟩ 1 1 [.int .i64 (x)] rfl rfl (cell_one_new _ _ _) (by simp [Value.oneCell']) (by decide) (by unfold maxLen; omega) (by omega) hbs _ rfl ?_)
            intro g5 cap5 w5 hown5 hgrow5 hl5 hlt5
            have HR2 : Hid (w5.ownsRow B 3 1 (.slice (some ⟨g5, 0, none⟩) (b + 1) cap5) (b + 1) (rp true m s nn a (b + 1))) := by rw [rp_next]; rw [← HXX.out]; exact hown5
            have HC2 := Lib.hid ((HC.out.alloc (.cells #[.int .i64 (x)] 3)).grow (HR.out.alloc _) hgrow5 HP.out)
            have HP2 : Hid (∀ j, j < a → Value.ownBlock (.slice (some ⟨g5, 0, none⟩) (b + 1) cap5) ≠ some (gs j)) := fun j hj e => by
              rcases hl5 with hl5 | hl5
              · exact HP.out j hj (hl5.trans e)
              · injection e with e
                have h1 := ((HC.out.rows j hj).lt (gs j) rfl).2
                have h2 : g5 = gs j := e
                omega
            clear hown5 hgrow5 hl5 hlt5 HR HC HP hbs
            go_wp2
            go_roundw
            case rel => exact ⟨b + 1, by omega, by go_num, by rw [HX.out], HC2, HR2, HP2⟩
            case measure => simp [intOf]; omega
        · obtain rfl : b = nn := by omega
          obtain ⟨gR, cR, rfl, hgR, hlR⟩ := HR.out.form (by omega)
          have HRR := HR.out
          rw [rp_all] at HRR
          have c5 : wr.cell? ⟨gi, 5, none⟩ = some vC := cell_of_row _ gi 5 _ 32 _ HC.out.box
          have hbs : B ≤ (wr.alloc (.cells #[.slice (some ⟨gR, 0, none⟩) b cR] 29)).heap.size := by rw [World.size_alloc]; have := HC.out.sz; omega
          go_wp2_with (at_builtin; refine wpList_append_own _ rfl _ _ 30 rfl B 29 i29 (.slice none 0 0) 1 24 Try.underlying30 hi29 hy0 hy1 hy2 rfl (by decide) vC a _ rfl (HC.out.top.alloc _) ⟨wr.heap.size, 0, none⟩ 1 1 [.slice (some ⟨gR, 0, none⟩) b cR] rfl rfl (cell_one_new _ _ _) (by simp [Value.oneCell']) (by unfold maxLen; omega) (by omega) hbs ?_)
          intro v' w5 hown5 hgrow5 _
          obtain ⟨g6, cap6, rfl, -, -⟩ := hown5.form (by omega)
          have HA := HC.out.alloc (.cells #[.slice (some ⟨gR, 0, none⟩) b cR] 29)
          have q5 := (hgrow5.block gi (lt_hp HA.box) (fun e => row_neE HA.top HA.box (by decide) e.symm)).trans HA.box
          have c6 : w5.cell? ⟨gi, 5, none⟩ = some vC := cell_of_row _ gi 5 _ 32 _ q5
          have f6 : w5.frozen? ⟨gi, 5, none⟩ = false := frozen_of_row _ gi 5 _ 32 q5
          have HN := Lib.hid (HA.put (HRR.alloc _) hown5 hgrow5)
          have HX := Lib.hid (bas_next true b a (by omega))
          clear hown5 hgrow5 HA q5 HRR hbs c5 HC HR HP
          go_wp2
          go_roundw
          case rel => exact ⟨a + 1, _, _, _, by omega, by go_num, by rw [HX.out], HN⟩
          case measure => simp [intOf]; omega
    · skip
      obtain rfl : a = nn := by omega
      obtain ⟨gC, cC, rfl, hbC, hlC⟩ : ∃ g c, vC = .slice (some ⟨g, 0, none⟩) a c ∧ B ≤ g ∧ g < wr.heap.size := by
        obtain ⟨g, c, h1, h2, h3⟩ := HC.out.top.form (by omega); exact ⟨g, c, h1, h2, h3⟩
      have hlr := HC.out.lor
      have hbr := HC.out.baser
      have FIN : Hid (∀ e, e = Ending.returned (.tuple #[.agg #[.int .i64 3, .int .i64 a, .int .i64 0, .slice none 0 0, .slice none 0 0, .slice (some ⟨gC, 0, none⟩) a cC], .int .i64 0]) → MkP 0 3 a 0 [] [] (CL true m s a) w e ((((((wr.setCell ⟨gr, 0, none⟩ (.int .i64 3)).setCell ⟨gr, 1, none⟩ (.int .i64 a)).setCell ⟨gr, 2, none⟩ (.int .i64 0)).setCell ⟨gr, 3, none⟩ (.slice none 0 0)).setCell ⟨gr, 4, none⟩ (.slice none 0 0)).setCell ⟨gr, 5, none⟩ (.slice (some ⟨gC, 0, none⟩) a cC))) := fun e he => by
        refine ⟨none, none, some ⟨gC, 0, none⟩, 0, 0, cC, by rw [he, CL_len]; rfl, fun j hj => by simp at hj, fun j hj => by simp at hj, rws_two (by omega) (Go.RowKit.ownsRow_setCell_below (a := ⟨gr, 5, none⟩) (Go.RowKit.ownsRow_setCell_below (a := ⟨gr, 4, none⟩) (Go.RowKit.ownsRow_setCell_below (a := ⟨gr, 3, none⟩) (Go.RowKit.ownsRow_setCell_below (a := ⟨gr, 2, none⟩) (Go.RowKit.ownsRow_setCell_below (a := ⟨gr, 1, none⟩) (Go.RowKit.ownsRow_setCell_below (a := ⟨gr, 0, none⟩) (HC.out.top) hlr (.int .i64 3)) hlr (.int .i64 a)) hlr (.int .i64 0)) hlr (.slice none 0 0)) hlr (.slice none 0 0)) hlr (.slice (some ⟨gC, 0, none⟩) a cC)) (fun j hj => Go.RowKit.ownsRow_setCell_below (a := ⟨gr, 5, none⟩) (Go.RowKit.ownsRow_setCell_below (a := ⟨gr, 4, none⟩) (Go.RowKit.ownsRow_setCell_below (a := ⟨gr, 3, none⟩) (Go.RowKit.ownsRow_setCell_below (a := ⟨gr, 2, none⟩) (Go.RowKit.ownsRow_setCell_below (a := ⟨gr, 1, none⟩) (Go.RowKit.ownsRow_setCell_below (a := ⟨gr, 0, none⟩) (HC.out.rows j hj) hlr (.int .i64 3)) hlr (.int .i64 a)) hlr (.int .i64 0)) hlr (.slice none 0 0)) hlr (.slice none 0 0)) hlr (.slice (some ⟨gC, 0, none⟩) a cC)), Below.setCell (p := ⟨gr, 5, none⟩) (Below.setCell (p := ⟨gr, 4, none⟩) (Below.setCell (p := ⟨gr, 3, none⟩) (Below.setCell (p := ⟨gr, 2, none⟩) (Below.setCell (p := ⟨gr, 1, none⟩) (Below.setCell (p := ⟨gr, 0, none⟩) (HC.out.below) hbr (.int .i64 3)) hbr (.int .i64 a)) hbr (.int .i64 0)) hbr (.slice none 0 0)) hbr (.slice none 0 0)) hbr (.slice (some ⟨gC, 0, none⟩) a cC)⟩
      obtain ⟨b0, b1, b2, b3, b4, b5⟩ := box6 HC.out.box
      obtain ⟨y0, y1, y2, y3, y4, y5⟩ := box6 HC.out.res
      have ff : ∀ j, wr.frozen? ⟨gr, j, none⟩ = false := fun j => frozen_of_row _ _ _ _ _ HC.out.res
      have f0 := ff 0
      have f1 := ff 1
      have f2 := ff 2
      have f3 := ff 3
      have f4 := ff 4
      have f5 := ff 5
      have HR := Lib.hid (box6 (six HC.out.res (.int .i64 3) (.int .i64 a) (.int .i64 0) (.slice none 0 0) (.slice none 0 0) (.slice (some ⟨gC, 0, none⟩) a cC)))
      clear ff HC hlr hbr hbC hlC
      obtain ⟨r0, r1, r2, r3, r4, r5⟩ := HR.out
      clear HR
      go_wp2
      exact bodyPost_ret (v := .tuple #[.agg #[.int .i64 3, .int .i64 a, .int .i64 0, .slice none 0 0, .slice none 0 0, .slice (some ⟨gC, 0, none⟩) a cC], .int .i64 0]) (by simp [results, Try.results9, go_sem, r0, r1, r2, r3, r4, r5]) rfl (FIN.out _ rfl)
end Go.Proofs.Ytnmolpogmkiikaa
