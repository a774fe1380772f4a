/-
  The reference's Make: a round of its first loop puts one number behind each of two lists.
-/
import Derived.Test.YtnmolpogmkiikaaRs
import Derived.Deep.RegionHeld3
import Derived.IntWalk
namespace Go.Proofs.Ytnmolpogmkiikaa
open Go.RowKit
set_option linter.unusedVariables false
def findReg (i : Nat) : Code → Option Code
  | .region j ops b => if j = i then some (.region j ops b) else none
  | .seq a b => match findReg i a with
    | some c => some c
    | none => findReg i b
  | .block _ c => findReg i c
  | .loop c => findReg i c
  | .scope c => findReg i c
  | .cond _ a b => match findReg i a with
    | some c => some c
    | none => findReg i b
  | _ => none
noncomputable def reg14 : Code := ((Try.f9.body.bind (findReg 14)).getD .skip)
set_option maxRecDepth 100000 in
set_option maxHeartbeats 16000000 in
theorem ref14 (m s : Int) (nn k : Nat) (n2 : nn ≤ 64) (hk : k < nn) (gl cl1 gr gi B : Nat) (cl : Array Value) (hcl : ∀ j, j < 2 * nn → cl[j]? = some (.int .i64 (dr m s j))) (w : World) (vW vV : Value) (wr : World) (h : RS m s nn gl gr gi B cl w k k vW vV vW vV wr)
    (Q : Exit → Act → World → Prop) (z0 z1 z2 z3 z4 z5 z6 z7 z8 z9 z12 z13 z15 z16 z17 z18 z19 z20 z21 z22 z23 z24 z25 z26 z27 z28 z29 z30 z31 z32 z33 z34 z35 z36 z37 z38 z39 z40 z41 z42 z43 z44 z45 z46 z47 z48 z49 z50 z51 z52 z53 z54 z55 z56 z57 z58 z59 z60 z61 z62 z63 z64 z65 z66 z67 z68 z69 z70 z71 z72 z73 z74 z75 z76 z77 z78 z79 z80 z81 z82 z83 z84 z85 z86 z87 z88 z89 z90 z91 z92 z93 z94 z95 z96 z97 z98 z99 z100 z101 z102 z103 z104 z105 z106 z107 z108 z109 z110 z111 z112 z113 z114 z115 z116 z117 z118 z119 z120 z121 z122 z123 z124 z125 z126 z127 z128 z129 z130 z131 z132 z133 z134 z135 z136 z137 z138 : Value) (hP : ∀ c a d v w, Q (.panic c) (Act.put a d v) w → Q (.panic c) a w)
    (hQ : ∀ (g5 cap5 g6 cap6 : Nat) (W : World) (q67 q68 q69 q70 q71 q72 q73 q74 q75 q76 q77 q78 q79 q80 q81 q82 q83 q84 q85 q86 q87 : Value), RS m s nn gl gr gi B cl w (k + 1) (k + 1) (.slice (some ⟨g5, 0, none⟩) (k + 1) cap5) (.slice (some ⟨g6, 0, none⟩) (k + 1) cap6) (.slice (some ⟨g5, 0, none⟩) (k + 1) cap5) (.slice (some ⟨g6, 0, none⟩) (k + 1) cap6) W → Q .normal ⟨#[z0, z1, z2, z3, z4, z5, z6, z7, z8, z9, .pointer (some ⟨gi, 0, none⟩), .slice (some ⟨gl, 0, none⟩) (2 * nn) cl1, z12, z13, .int .i64 k, z15, z16, z17, z18, z19, z20, z21, z22, z23, z24, z25, z26, z27, z28, z29, z30, z31, z32, z33, z34, z35, z36, z37, z38, z39, z40, z41, z42, z43, z44, z45, z46, z47, z48, z49, z50, z51, z52, z53, z54, z55, z56, z57, z58, z59, z60, z61, z62, z63, z64, z65, z66, q67, q68, q69, q70, q71, q72, q73, q74, q75, q76, q77, q78, q79, q80, q81, q82, q83, q84, q85, q86, q87, z88, z89, z90, z91, z92, z93, z94, z95, z96, z97, z98, z99, z100, z101, z102, z103, z104, z105, z106, z107, z108, z109, z110, z111, z112, z113, z114, z115, z116, z117, z118, z119, z120, z121, z122, z123, z124, z125, z126, z127, z128, z129, z130, z131, z132, z133, z134, z135, z136, z137, z138], []⟩ W) :
    Code.wp Try.prog reg14 Q ⟨#[z0, z1, z2, z3, z4, z5, z6, z7, z8, z9, .pointer (some ⟨gi, 0, none⟩), .slice (some ⟨gl, 0, none⟩) (2 * nn) cl1, z12, z13, .int .i64 k, z15, z16, z17, z18, z19, z20, z21, z22, z23, z24, z25, z26, z27, z28, z29, z30, z31, z32, z33, z34, z35, z36, z37, z38, z39, z40, z41, z42, z43, z44, z45, z46, z47, z48, z49, z50, z51, z52, z53, z54, z55, z56, z57, z58, z59, z60, z61, z62, z63, z64, z65, z66, z67, z68, z69, z70, z71, z72, z73, z74, z75, z76, z77, z78, z79, z80, z81, z82, z83, z84, z85, z86, z87, z88, z89, z90, z91, z92, z93, z94, z95, z96, z97, z98, z99, z100, z101, z102, z103, z104, z105, z106, z107, z108, z109, z110, z111, z112, z113, z114, z115, z116, z117, z118, z119, z120, z121, z122, z123, z124, z125, z126, z127, z128, z129, z130, z131, z132, z133, z134, z135, z136, z137, z138], []⟩ wr := by
  obtain ⟨i0, hi, hz0, hz1, hz2⟩ := info_parts info3
  have HCl := Lib.hid hcl
  have HRT := Lib.hid hQ
  have HK := Lib.hid h
  clear hcl hQ h
  have g0 : (0 : Int) ≤ (k : Int) := by omega
  have g1 : (k : Int) < (nn : Int) := by omega
  have g2 : 2 * (k : Int) < 2 * (nn : Int) := by omega
  have g3 : 2 * (k : Int) + 1 < 2 * (nn : Int) := by omega
  have g4 : (0 : Int) ≤ 2 * (k : Int) := by omega
  have g5 : (0 : Int) ≤ 2 * (k : Int) + 1 := by omega
  have e1 : IntKind.i64.wrap (2 * (k : Int)) = 2 * (k : Int) := IntWalk.i64_in _ (by omega)
  have e2 : IntKind.i64.wrap (2 * (k : Int) + 1) = 2 * (k : Int) + 1 := IntWalk.i64_in _ (by omega)
  have e3 : (2 * (k : Int)).toNat = 2 * k := by omega
  have e4 : (2 * (k : Int) + 1).toNat = 2 * k + 1 := by omega
  unfold reg14
  conv => arg 2; whnf
  refine wp_region_held_drew (S := fun w' => w'.heap[gl]? = some (.cells cl 3 (0, 0))) (by kernel_rfl) HK.out.drew.l (fun hHeld => ?_)
  have HKd := Lib.hid HK.out.drew
  clear HK
  have HK := HKd
  clear HKd
  generalize World.drew _ = vu1 at *
  refine wpAnyH_take (i := 0) (v := ?vu2) (by rw [List.getElem?_toArray]; rfl) (by kernel_rfl) (by kernel_rfl) (by kernel_rfl) ?qu2 (Or.inl ⟨by rfl, ?yu2⟩) (by assumption) ?ru2
  case qu2 => exact fun c a w h => hP c a _ _ w h
  case yu2 => (intro wz hSw; go_simp; try (with_reducible rfl))
  simp only [Act.put, List.setIfInBounds_toArray, List.set_cons_zero, List.set_cons_succ]
  refine wpAnyH_take (i := 2) (v := ?vu3) (by rw [List.getElem?_toArray]; rfl) (by kernel_rfl) (by kernel_rfl) (by kernel_rfl) ?qu3 (Or.inl ⟨by rfl, ?yu3⟩) (by assumption) ?ru3
  case qu3 => exact fun c a w h => hP c a _ _ w h
  case yu3 => (intro wz hSw; go_simp; try (with_reducible rfl))
  simp only [Act.put, List.setIfInBounds_toArray, List.set_cons_zero, List.set_cons_succ]
  refine wpAnyH_take (i := 3) (v := ?vu4) (by rw [List.getElem?_toArray]; rfl) (by kernel_rfl) (by kernel_rfl) (by kernel_rfl) ?qu4 (Or.inl ⟨by rfl, ?yu4⟩) (by assumption) ?ru4
  case qu4 => exact fun c a w h => hP c a _ _ w h
  case yu4 => (intro wz hSw; go_simp; try (with_reducible rfl))
  simp only [Act.put, List.setIfInBounds_toArray, List.set_cons_zero, List.set_cons_succ]
  refine wpAnyH_take (i := 4) (v := ?vu5) (by rw [List.getElem?_toArray]; rfl) (by kernel_rfl) (by kernel_rfl) (by kernel_rfl) ?qu5 (Or.inl ⟨by rfl, ?yu5⟩) (by assumption) ?ru5
  case qu5 => exact fun c a w h => hP c a _ _ w h
  case yu5 => (intro wz hSw; go_simp; try (with_reducible rfl))
  simp only [Act.put, List.setIfInBounds_toArray, List.set_cons_zero, List.set_cons_succ]
  refine wpAnyH_take (i := 5) (v := ?vu6) (by rw [List.getElem?_toArray]; rfl) (by kernel_rfl) (by kernel_rfl) (by kernel_rfl) ?qu6 (Or.inl ⟨by rfl, ?yu6⟩) (by assumption) ?ru6
  case qu6 => exact fun c a w h => hP c a _ _ w h
  case yu6 => (intro wz hSw; go_simp; try (with_reducible rfl))
  simp only [Act.put, List.setIfInBounds_toArray, List.set_cons_zero, List.set_cons_succ]
  refine wpAnyH_take (i := 6) (v := ?vu7) (by rw [List.getElem?_toArray]; rfl) (by kernel_rfl) (by kernel_rfl) (by kernel_rfl) ?qu7 (Or.inl ⟨by rfl, ?yu7⟩) (by assumption) ?ru7
  case qu7 => exact fun c a w h => hP c a _ _ w h
  case yu7 => (intro wz hSw; have cz := (cell_of_row wz gl (2 * k) _ 3 _ hSw).trans (HCl.out (2 * k) (by omega)); go_simp; try (with_reducible rfl))
  simp only [Act.put, List.setIfInBounds_toArray, List.set_cons_zero, List.set_cons_succ]
  refine wpAnyH_take (i := 9) (v := ?vu8) (by rw [List.getElem?_toArray]; rfl) (by kernel_rfl) (by kernel_rfl) (by kernel_rfl) ?qu8 (Or.inl ⟨by rfl, ?yu8⟩) (by assumption) ?ru8
  case qu8 => exact fun c a w h => hP c a _ _ w h
  case yu8 => (intro wz hSw; go_simp; try (with_reducible rfl))
  simp only [Act.put, List.setIfInBounds_toArray, List.set_cons_zero, List.set_cons_succ]
  refine wpAnyH_take (i := 11) (v := ?vu9) (by rw [List.getElem?_toArray]; rfl) (by kernel_rfl) (by kernel_rfl) (by kernel_rfl) ?qu9 (Or.inl ⟨by rfl, ?yu9⟩) (by assumption) ?ru9
  case qu9 => exact fun c a w h => hP c a _ _ w h
  case yu9 => (intro wz hSw; go_simp; try (with_reducible rfl))
  simp only [Act.put, List.setIfInBounds_toArray, List.set_cons_zero, List.set_cons_succ]
  refine wpAnyH_take (i := 12) (v := ?vu10) (by rw [List.getElem?_toArray]; rfl) (by kernel_rfl) (by kernel_rfl) (by kernel_rfl) ?qu10 (Or.inl ⟨by rfl, ?yu10⟩) (by assumption) ?ru10
  case qu10 => exact fun c a w h => hP c a _ _ w h
  case yu10 => (intro wz hSw; go_simp; try (with_reducible rfl))
  simp only [Act.put, List.setIfInBounds_toArray, List.set_cons_zero, List.set_cons_succ]
  refine wpAnyH_take (i := 13) (v := ?vu11) (by rw [List.getElem?_toArray]; rfl) (by kernel_rfl) (by kernel_rfl) (by kernel_rfl) ?qu11 (Or.inl ⟨by rfl, ?yu11⟩) (by assumption) ?ru11
  case qu11 => exact fun c a w h => hP c a _ _ w h
  case yu11 => (intro wz hSw; go_simp; try (with_reducible rfl))
  simp only [Act.put, List.setIfInBounds_toArray, List.set_cons_zero, List.set_cons_succ]
  refine wpAnyH_take (i := 14) (v := ?vu12) (by rw [List.getElem?_toArray]; rfl) (by kernel_rfl) (by kernel_rfl) (by kernel_rfl) ?qu12 (Or.inl ⟨by rfl, ?yu12⟩) (by assumption) ?ru12
  case qu12 => exact fun c a w h => hP c a _ _ w h
  case yu12 => (intro wz hSw; go_simp; try (with_reducible rfl))
  simp only [Act.put, List.setIfInBounds_toArray, List.set_cons_zero, List.set_cons_succ]
  refine wpAnyH_take (i := 15) (v := ?vu13) (by rw [List.getElem?_toArray]; rfl) (by kernel_rfl) (by kernel_rfl) (by kernel_rfl) ?qu13 (Or.inl ⟨by rfl, ?yu13⟩) (by assumption) ?ru13
  case qu13 => exact fun c a w h => hP c a _ _ w h
  case yu13 => (intro wz hSw; go_simp; try (with_reducible rfl))
  simp only [Act.put, List.setIfInBounds_toArray, List.set_cons_zero, List.set_cons_succ]
  refine wpAnyH_take (i := 16) (v := ?vu14) (by rw [List.getElem?_toArray]; rfl) (by kernel_rfl) (by kernel_rfl) (by kernel_rfl) ?qu14 (Or.inl ⟨by rfl, ?yu14⟩) (by assumption) ?ru14
  case qu14 => exact fun c a w h => hP c a _ _ w h
  case yu14 => (intro wz hSw; have cz := (cell_of_row wz gl (2 * k + 1) _ 3 _ hSw).trans (HCl.out (2 * k + 1) (by omega)); go_simp; try (with_reducible rfl))
  simp only [Act.put, List.setIfInBounds_toArray, List.set_cons_zero, List.set_cons_succ]
  refine wpAnyH_ready (rs := [1, 7, 10, 17]) (by kernel_rfl) (by simp) ?_
  refine AllReadyH.cons (by rw [List.getElem?_toArray]; rfl) (fun K hK => ?_) (AllReadyH.cons (by rw [List.getElem?_toArray]; rfl) (fun K hK => ?_) (AllReadyH.cons (by rw [List.getElem?_toArray]; rfl) (fun K hK => ?_) (AllReadyH.cons (by rw [List.getElem?_toArray]; rfl) (fun K hK => ?_) AllReadyH.nil)))
  · have c5 : vu1.cell? ⟨gi, 3, none⟩ = some vW := cell_of_row _ gi 3 _ 32 _ HK.out.box
    clear hHeld
    go_simp
    refine hK.out _ _ HK.out.l (fun hHeld => ?_)
    clear hK K c5
    refine wpAnyH_ready (rs := [7, 10, 17]) (by kernel_rfl) (by simp) ?_
    refine AllReadyH.cons (by rw [List.getElem?_toArray]; rfl) (fun K hK => ?_) (AllReadyH.cons (by rw [List.getElem?_toArray]; rfl) (fun K hK => ?_) (AllReadyH.cons (by rw [List.getElem?_toArray]; rfl) (fun K hK => ?_) AllReadyH.nil))
    · clear hHeld
      go_simp
      have c7 := Lib.hid (one_new vu1 (.int .i64 (dr m s (2 * k))))
      have HKd := Lib.hid (HK.out.alloc (.cells #[(.int .i64 (dr m s (2 * k)))] 3))
      clear HK
      have HK := HKd
      clear HKd
      refine hK.out _ _ HK.out.l (fun hHeld => ?_)
      clear hK K
      generalize (vu1.alloc (.cells #[(.int .i64 (dr m s (2 * k)))] 3)) = vu15 at *
      generalize vu1.heap.size = p7 at *
      refine wpAnyH_ready (rs := [8, 10, 17]) (by kernel_rfl) (by simp) ?_
      refine AllReadyH.cons (by rw [List.getElem?_toArray]; rfl) (fun K hK => ?_) (AllReadyH.cons (by rw [List.getElem?_toArray]; rfl) (fun K hK => ?_) (AllReadyH.cons (by rw [List.getElem?_toArray]; rfl) (fun K hK => ?_) AllReadyH.nil))
      · clear hHeld
        rw [if_pos (by rfl)]
        refine wp_append_lies _ _ _ 29 rfl B 3 i0 (.int .i64 0) 1 8 Try.underlying29 hi hz0 hz1 hz2 rfl (by decide) vW k _ rfl HK.out.rw ⟨p7, 0, none⟩ 1 1 [(.int .i64 (dr m s (2 * k)))] rfl rfl (one_news c7.out) (by simp [Value.oneCell']) (by decide) (by unfold maxLen; omega) (by omega) HK.out.sz _ rfl ?_
        intro g5 cap5 w5 hown5 hgrow5 hl5 hlt5
        have HKd := Lib.hid (HK.out.addW (by rw [show 2 * k = k + k by omega]) hown5 hgrow5 hl5)
        clear HK
        have HK := HKd
        clear HKd c7
        clear hown5 hgrow5 hl5 hlt5
        refine hK.out _ _ HK.out.l (fun hHeld => ?_)
        clear hK K
        refine wpAnyH_ready (rs := [10, 17]) (by kernel_rfl) (by simp) ?_
        refine AllReadyH.cons (by rw [List.getElem?_toArray]; rfl) (fun K hK => ?_) (AllReadyH.cons (by rw [List.getElem?_toArray]; rfl) (fun K hK => ?_) AllReadyH.nil)
        · have c5 : w5.cell? ⟨gi, 4, none⟩ = some vV := cell_of_row _ gi 4 _ 32 _ HK.out.box
          clear hHeld
          go_simp
          refine hK.out _ _ HK.out.l (fun hHeld => ?_)
          clear hK K c5
          refine wpAnyH_take (i := 19) (v := ?vu16) (by rw [List.getElem?_toArray]; rfl) (by kernel_rfl) (by kernel_rfl) (by kernel_rfl) ?qu16 (Or.inl ⟨by rfl, ?yu16⟩) (by assumption) ?ru16
          case qu16 => exact fun c a w h => hP c a _ _ w h
          case yu16 => (intro wz hSw; go_simp; try (with_reducible rfl))
          simp only [Act.put, List.setIfInBounds_toArray, List.set_cons_zero, List.set_cons_succ]
          refine wpAnyH_ready (rs := [17]) (by kernel_rfl) (by simp) ?_
          refine AllReadyH.cons (by rw [List.getElem?_toArray]; rfl) (fun K hK => ?_) AllReadyH.nil
          clear hHeld
          go_simp
          have c17 := Lib.hid (one_new w5 (.int .i64 (dr m s (2 * k + 1))))
          have HKd := Lib.hid (HK.out.alloc (.cells #[(.int .i64 (dr m s (2 * k + 1)))] 3))
          clear HK
          have HK := HKd
          clear HKd
          refine hK.out _ _ HK.out.l (fun hHeld => ?_)
          clear hK K
          generalize (w5.alloc (.cells #[(.int .i64 (dr m s (2 * k + 1)))] 3)) = vu17 at *
          generalize w5.heap.size = p17 at *
          refine wpAnyH_ready (rs := [18]) (by kernel_rfl) (by simp) ?_
          refine AllReadyH.cons (by rw [List.getElem?_toArray]; rfl) (fun K hK => ?_) AllReadyH.nil
          clear hHeld
          rw [if_pos (by rfl)]
          refine wp_append_lies _ _ _ 29 rfl B 3 i0 (.int .i64 0) 1 8 Try.underlying29 hi hz0 hz1 hz2 rfl (by decide) vV k _ rfl HK.out.rv ⟨p17, 0, none⟩ 1 1 [(.int .i64 (dr m s (2 * k + 1)))] rfl rfl (one_news c17.out) (by simp [Value.oneCell']) (by decide) (by unfold maxLen; omega) (by omega) HK.out.sz _ rfl ?_
          intro g6 cap6 w6 hown6 hgrow6 hl6 hlt6
          have HKd := Lib.hid (HK.out.addV (by rw [show 2 * k = k + k by omega]) hown6 hgrow6 hl6)
          clear HK
          have HK := HKd
          clear HKd c17
          clear hown6 hgrow6 hl6 hlt6
          refine hK.out _ _ HK.out.l (fun hHeld => ?_)
          clear hK K
          refine wpAnyH_ready (rs := [20]) (by kernel_rfl) (by simp) ?_
          refine AllReadyH.cons (by rw [List.getElem?_toArray]; rfl) (fun K hK => ?_) AllReadyH.nil
          have c5 := cell_of_row _ gi 3 _ 32 _ HK.out.box
          have f5 : World.frozen? _ ⟨gi, 3, none⟩ = false := frozen_of_row _ gi 3 _ 32 HK.out.box
          simp at c5
          clear hHeld
          go_simp
          have HKd := Lib.hid (rs_put HK.out 3 (.slice (some ⟨g5, 0, none⟩) (k + 1) cap5) rfl)
          clear HK
          have HK := HKd
          clear HKd
          refine hK.out _ _ HK.out.l (fun hHeld => ?_)
          clear hK K c5 f5
          refine wpAnyH_take (i := 21) (v := ?vu18) (by rw [List.getElem?_toArray]; rfl) (by kernel_rfl) (by kernel_rfl) (by kernel_rfl) ?qu18 (Or.inl ⟨by rfl, ?yu18⟩) (by assumption) ?ru18
          case qu18 => exact fun c a w h => hP c a _ _ w h
          case yu18 => (intro wz hSw; go_simp; try (with_reducible rfl))
          simp only [Act.put, List.setIfInBounds_toArray, List.set_cons_zero, List.set_cons_succ]
          refine wpAnyH_ready (rs := [22]) (by kernel_rfl) (by simp) ?_
          refine AllReadyH.cons (by rw [List.getElem?_toArray]; rfl) (fun K hK => ?_) AllReadyH.nil
          have c5 := cell_of_row _ gi 4 _ 32 _ HK.out.box
          have f5 : World.frozen? _ ⟨gi, 4, none⟩ = false := frozen_of_row _ gi 4 _ 32 HK.out.box
          simp at c5
          clear hHeld
          go_simp
          have HKd := Lib.hid (rs_put HK.out 4 (.slice (some ⟨g6, 0, none⟩) (k + 1) cap6) rfl)
          clear HK
          have HK := HKd
          clear HKd
          refine hK.out _ _ HK.out.l (fun hHeld => ?_)
          clear hK K c5 f5 hHeld
          refine wpAnyH_done (by kernel_rfl) ?_ _
          exact HRT.out _ _ _ _ _ _ _ _ _ _ _ _ _ _ _ _ _ _ _ _ _ _ _ _ _ _ HK.out
        · clear hHeld
          go_simp
          have c17 := Lib.hid (one_new w5 (.int .i64 (dr m s (2 * k + 1))))
          have HKd := Lib.hid (HK.out.alloc (.cells #[(.int .i64 (dr m s (2 * k + 1)))] 3))
          clear HK
          have HK := HKd
          clear HKd
          refine hK.out _ _ HK.out.l (fun hHeld => ?_)
          clear hK K
          generalize (w5.alloc (.cells #[(.int .i64 (dr m s (2 * k + 1)))] 3)) = vu19 at *
          generalize w5.heap.size = p17 at *
          refine wpAnyH_ready (rs := [10]) (by kernel_rfl) (by simp) ?_
          refine AllReadyH.cons (by rw [List.getElem?_toArray]; rfl) (fun K hK => ?_) AllReadyH.nil
          have c5 : vu19.cell? ⟨gi, 4, none⟩ = some vV := cell_of_row _ gi 4 _ 32 _ HK.out.box
          clear hHeld
          go_simp
          refine hK.out _ _ HK.out.l (fun hHeld => ?_)
          clear hK K c5
          refine wpAnyH_take (i := 19) (v := ?vu20) (by rw [List.getElem?_toArray]; rfl) (by kernel_rfl) (by kernel_rfl) (by kernel_rfl) ?qu20 (Or.inl ⟨by rfl, ?yu20⟩) (by assumption) ?ru20
          case qu20 => exact fun c a w h => hP c a _ _ w h
          case yu20 => (intro wz hSw; go_simp; try (with_reducible rfl))
          simp only [Act.put, List.setIfInBounds_toArray, List.set_cons_zero, List.set_cons_succ]
          refine wpAnyH_ready (rs := [18]) (by kernel_rfl) (by simp) ?_
          refine AllReadyH.cons (by rw [List.getElem?_toArray]; rfl) (fun K hK => ?_) AllReadyH.nil
          clear hHeld
          rw [if_pos (by rfl)]
          refine wp_append_lies _ _ _ 29 rfl B 3 i0 (.int .i64 0) 1 8 Try.underlying29 hi hz0 hz1 hz2 rfl (by decide) vV k _ rfl HK.out.rv ⟨p17, 0, none⟩ 1 1 [(.int .i64 (dr m s (2 * k + 1)))] rfl rfl (one_news c17.out) (by simp [Value.oneCell']) (by decide) (by unfold maxLen; omega) (by omega) HK.out.sz _ rfl ?_
          intro g6 cap6 w6 hown6 hgrow6 hl6 hlt6
          have HKd := Lib.hid (HK.out.addV (by rw [show 2 * k = k + k by omega]) hown6 hgrow6 hl6)
          clear HK
          have HK := HKd
          clear HKd c17
          clear hown6 hgrow6 hl6 hlt6
          refine hK.out _ _ HK.out.l (fun hHeld => ?_)
          clear hK K
          refine wpAnyH_ready (rs := [20]) (by kernel_rfl) (by simp) ?_
          refine AllReadyH.cons (by rw [List.getElem?_toArray]; rfl) (fun K hK => ?_) AllReadyH.nil
          have c5 := cell_of_row _ gi 3 _ 32 _ HK.out.box
          have f5 : World.frozen? _ ⟨gi, 3, none⟩ = false := frozen_of_row _ gi 3 _ 32 HK.out.box
          simp at c5
          clear hHeld
          go_simp
          have HKd := Lib.hid (rs_put HK.out 3 (.slice (some ⟨g5, 0, none⟩) (k + 1) cap5) rfl)
          clear HK
          have HK := HKd
          clear HKd
          refine hK.out _ _ HK.out.l (fun hHeld => ?_)
          clear hK K c5 f5
          refine wpAnyH_take (i := 21) (v := ?vu21) (by rw [List.getElem?_toArray]; rfl) (by kernel_rfl) (by kernel_rfl) (by kernel_rfl) ?qu21 (Or.inl ⟨by rfl, ?yu21⟩) (by assumption) ?ru21
          case qu21 => exact fun c a w h => hP c a _ _ w h
          case yu21 => (intro wz hSw; go_simp; try (with_reducible rfl))
          simp only [Act.put, List.setIfInBounds_toArray, List.set_cons_zero, List.set_cons_succ]
          refine wpAnyH_ready (rs := [22]) (by kernel_rfl) (by simp) ?_
          refine AllReadyH.cons (by rw [List.getElem?_toArray]; rfl) (fun K hK => ?_) AllReadyH.nil
          have c5 := cell_of_row _ gi 4 _ 32 _ HK.out.box
          have f5 : World.frozen? _ ⟨gi, 4, none⟩ = false := frozen_of_row _ gi 4 _ 32 HK.out.box
          simp at c5
          clear hHeld
          go_simp
          have HKd := Lib.hid (rs_put HK.out 4 (.slice (some ⟨g6, 0, none⟩) (k + 1) cap6) rfl)
          clear HK
          have HK := HKd
          clear HKd
          refine hK.out _ _ HK.out.l (fun hHeld => ?_)
          clear hK K c5 f5 hHeld
          refine wpAnyH_done (by kernel_rfl) ?_ _
          exact HRT.out _ _ _ _ _ _ _ _ _ _ _ _ _ _ _ _ _ _ _ _ _ _ _ _ _ _ HK.out
      · have c5 : vu15.cell? ⟨gi, 4, none⟩ = some vV := cell_of_row _ gi 4 _ 32 _ HK.out.box
        clear hHeld
        go_simp
        refine hK.out _ _ HK.out.l (fun hHeld => ?_)
        clear hK K c5
        refine wpAnyH_ready (rs := [8, 17]) (by kernel_rfl) (by simp) ?_
        refine AllReadyH.cons (by rw [List.getElem?_toArray]; rfl) (fun K hK => ?_) (AllReadyH.cons (by rw [List.getElem?_toArray]; rfl) (fun K hK => ?_) AllReadyH.nil)
        · clear hHeld
          rw [if_pos (by rfl)]
          refine wp_append_lies _ _ _ 29 rfl B 3 i0 (.int .i64 0) 1 8 Try.underlying29 hi hz0 hz1 hz2 rfl (by decide) vW k _ rfl HK.out.rw ⟨p7, 0, none⟩ 1 1 [(.int .i64 (dr m s (2 * k)))] rfl rfl (one_news c7.out) (by simp [Value.oneCell']) (by decide) (by unfold maxLen; omega) (by omega) HK.out.sz _ rfl ?_
          intro g5 cap5 w5 hown5 hgrow5 hl5 hlt5
          have HKd := Lib.hid (HK.out.addW (by rw [show 2 * k = k + k by omega]) hown5 hgrow5 hl5)
          clear HK
          have HK := HKd
          clear HKd c7
          clear hown5 hgrow5 hl5 hlt5
          refine hK.out _ _ HK.out.l (fun hHeld => ?_)
          clear hK K
          refine wpAnyH_take (i := 19) (v := ?vu22) (by rw [List.getElem?_toArray]; rfl) (by kernel_rfl) (by kernel_rfl) (by kernel_rfl) ?qu22 (Or.inl ⟨by rfl, ?yu22⟩) (by assumption) ?ru22
          case qu22 => exact fun c a w h => hP c a _ _ w h
          case yu22 => (intro wz hSw; go_simp; try (with_reducible rfl))
          simp only [Act.put, List.setIfInBounds_toArray, List.set_cons_zero, List.set_cons_succ]
          refine wpAnyH_ready (rs := [17]) (by kernel_rfl) (by simp) ?_
          refine AllReadyH.cons (by rw [List.getElem?_toArray]; rfl) (fun K hK => ?_) AllReadyH.nil
          clear hHeld
          go_simp
          have c17 := Lib.hid (one_new w5 (.int .i64 (dr m s (2 * k + 1))))
          have HKd := Lib.hid (HK.out.alloc (.cells #[(.int .i64 (dr m s (2 * k + 1)))] 3))
          clear HK
          have HK := HKd
          clear HKd
          refine hK.out _ _ HK.out.l (fun hHeld => ?_)
          clear hK K
          generalize (w5.alloc (.cells #[(.int .i64 (dr m s (2 * k + 1)))] 3)) = vu23 at *
          generalize w5.heap.size = p17 at *
          refine wpAnyH_ready (rs := [18]) (by kernel_rfl) (by simp) ?_
          refine AllReadyH.cons (by rw [List.getElem?_toArray]; rfl) (fun K hK => ?_) AllReadyH.nil
          clear hHeld
          rw [if_pos (by rfl)]
          refine wp_append_lies _ _ _ 29 rfl B 3 i0 (.int .i64 0) 1 8 Try.underlying29 hi hz0 hz1 hz2 rfl (by decide) vV k _ rfl HK.out.rv ⟨p17, 0, none⟩ 1 1 [(.int .i64 (dr m s (2 * k + 1)))] rfl rfl (one_news c17.out) (by simp [Value.oneCell']) (by decide) (by unfold maxLen; omega) (by omega) HK.out.sz _ rfl ?_
          intro g6 cap6 w6 hown6 hgrow6 hl6 hlt6
          have HKd := Lib.hid (HK.out.addV (by rw [show 2 * k = k + k by omega]) hown6 hgrow6 hl6)
          clear HK
          have HK := HKd
          clear HKd c17
          clear hown6 hgrow6 hl6 hlt6
          refine hK.out _ _ HK.out.l (fun hHeld => ?_)
          clear hK K
          refine wpAnyH_ready (rs := [20]) (by kernel_rfl) (by simp) ?_
          refine AllReadyH.cons (by rw [List.getElem?_toArray]; rfl) (fun K hK => ?_) AllReadyH.nil
          have c5 := cell_of_row _ gi 3 _ 32 _ HK.out.box
          have f5 : World.frozen? _ ⟨gi, 3, none⟩ = false := frozen_of_row _ gi 3 _ 32 HK.out.box
          simp at c5
          clear hHeld
          go_simp
          have HKd := Lib.hid (rs_put HK.out 3 (.slice (some ⟨g5, 0, none⟩) (k + 1) cap5) rfl)
          clear HK
          have HK := HKd
          clear HKd
          refine hK.out _ _ HK.out.l (fun hHeld => ?_)
          clear hK K c5 f5
          refine wpAnyH_take (i := 21) (v := ?vu24) (by rw [List.getElem?_toArray]; rfl) (by kernel_rfl) (by kernel_rfl) (by kernel_rfl) ?qu24 (Or.inl ⟨by rfl, ?yu24⟩) (by assumption) ?ru24
          case qu24 => exact fun c a w h => hP c a _ _ w h
          case yu24 => (intro wz hSw; go_simp; try (with_reducible rfl))
          simp only [Act.put, List.setIfInBounds_toArray, List.set_cons_zero, List.set_cons_succ]
          refine wpAnyH_ready (rs := [22]) (by kernel_rfl) (by simp) ?_
          refine AllReadyH.cons (by rw [List.getElem?_toArray]; rfl) (fun K hK => ?_) AllReadyH.nil
          have c5 := cell_of_row _ gi 4 _ 32 _ HK.out.box
          have f5 : World.frozen? _ ⟨gi, 4, none⟩ = false := frozen_of_row _ gi 4 _ 32 HK.out.box
          simp at c5
          clear hHeld
          go_simp
          have HKd := Lib.hid (rs_put HK.out 4 (.slice (some ⟨g6, 0, none⟩) (k + 1) cap6) rfl)
          clear HK
          have HK := HKd
          clear HKd
          refine hK.out _ _ HK.out.l (fun hHeld => ?_)
          clear hK K c5 f5 hHeld
          refine wpAnyH_done (by kernel_rfl) ?_ _
          exact HRT.out _ _ _ _ _ _ _ _ _ _ _ _ _ _ _ _ _ _ _ _ _ _ _ _ _ _ HK.out
        · clear hHeld
          go_simp
          have n17 := Lib.hid (row_fresh HK.out.rw)
          have c17 := Lib.hid (one_new vu15 (.int .i64 (dr m s (2 * k + 1))))
          have c7x := Lib.hid (one_alloc c7.out (.cells #[(.int .i64 (dr m s (2 * k + 1)))] 3))
          clear c7
          have c7 := c7x
          clear c7x
          have HKd := Lib.hid (HK.out.alloc (.cells #[(.int .i64 (dr m s (2 * k + 1)))] 3))
          clear HK
          have HK := HKd
          clear HKd
          refine hK.out _ _ HK.out.l (fun hHeld => ?_)
          clear hK K
          generalize (vu15.alloc (.cells #[(.int .i64 (dr m s (2 * k + 1)))] 3)) = vu25 at *
          generalize vu15.heap.size = p17 at *
          refine wpAnyH_ready (rs := [8]) (by kernel_rfl) (by simp) ?_
          refine AllReadyH.cons (by rw [List.getElem?_toArray]; rfl) (fun K hK => ?_) AllReadyH.nil
          clear hHeld
          rw [if_pos (by rfl)]
          refine wp_append_lies _ _ _ 29 rfl B 3 i0 (.int .i64 0) 1 8 Try.underlying29 hi hz0 hz1 hz2 rfl (by decide) vW k _ rfl HK.out.rw ⟨p7, 0, none⟩ 1 1 [(.int .i64 (dr m s (2 * k)))] rfl rfl (one_news c7.out) (by simp [Value.oneCell']) (by decide) (by unfold maxLen; omega) (by omega) HK.out.sz _ rfl ?_
          intro g5 cap5 w5 hown5 hgrow5 hl5 hlt5
          have HKd := Lib.hid (HK.out.addW (by rw [show 2 * k = k + k by omega]) hown5 hgrow5 hl5)
          clear HK
          have HK := HKd
          clear HKd c7
          have c17x := Lib.hid (one_kept c17.out hgrow5 n17.out)
          clear c17 n17
          have c17 := c17x
          clear c17x
          clear hown5 hgrow5 hl5 hlt5
          refine hK.out _ _ HK.out.l (fun hHeld => ?_)
          clear hK K
          refine wpAnyH_take (i := 19) (v := ?vu26) (by rw [List.getElem?_toArray]; rfl) (by kernel_rfl) (by kernel_rfl) (by kernel_rfl) ?qu26 (Or.inl ⟨by rfl, ?yu26⟩) (by assumption) ?ru26
          case qu26 => exact fun c a w h => hP c a _ _ w h
          case yu26 => (intro wz hSw; go_simp; try (with_reducible rfl))
          simp only [Act.put, List.setIfInBounds_toArray, List.set_cons_zero, List.set_cons_succ]
          refine wpAnyH_ready (rs := [18]) (by kernel_rfl) (by simp) ?_
          refine AllReadyH.cons (by rw [List.getElem?_toArray]; rfl) (fun K hK => ?_) AllReadyH.nil
          clear hHeld
          rw [if_pos (by rfl)]
          refine wp_append_lies _ _ _ 29 rfl B 3 i0 (.int .i64 0) 1 8 Try.underlying29 hi hz0 hz1 hz2 rfl (by decide) vV k _ rfl HK.out.rv ⟨p17, 0, none⟩ 1 1 [(.int .i64 (dr m s (2 * k + 1)))] rfl rfl (one_news c17.out) (by simp [Value.oneCell']) (by decide) (by unfold maxLen; omega) (by omega) HK.out.sz _ rfl ?_
          intro g6 cap6 w6 hown6 hgrow6 hl6 hlt6
          have HKd := Lib.hid (HK.out.addV (by rw [show 2 * k = k + k by omega]) hown6 hgrow6 hl6)
          clear HK
          have HK := HKd
          clear HKd c17
          clear hown6 hgrow6 hl6 hlt6
          refine hK.out _ _ HK.out.l (fun hHeld => ?_)
          clear hK K
          refine wpAnyH_ready (rs := [20]) (by kernel_rfl) (by simp) ?_
          refine AllReadyH.cons (by rw [List.getElem?_toArray]; rfl) (fun K hK => ?_) AllReadyH.nil
          have c5 := cell_of_row _ gi 3 _ 32 _ HK.out.box
          have f5 : World.frozen? _ ⟨gi, 3, none⟩ = false := frozen_of_row _ gi 3 _ 32 HK.out.box
          simp at c5
          clear hHeld
          go_simp
          have HKd := Lib.hid (rs_put HK.out 3 (.slice (some ⟨g5, 0, none⟩) (k + 1) cap5) rfl)
          clear HK
          have HK := HKd
          clear HKd
          refine hK.out _ _ HK.out.l (fun hHeld => ?_)
          clear hK K c5 f5
          refine wpAnyH_take (i := 21) (v := ?vu27) (by rw [List.getElem?_toArray]; rfl) (by kernel_rfl) (by kernel_rfl) (by kernel_rfl) ?qu27 (Or.inl ⟨by rfl, ?yu27⟩) (by assumption) ?ru27
          case qu27 => exact fun c a w h => hP c a _ _ w h
          case yu27 => (intro wz hSw; go_simp; try (with_reducible rfl))
          simp only [Act.put, List.setIfInBounds_toArray, List.set_cons_zero, List.set_cons_succ]
          refine wpAnyH_ready (rs := [22]) (by kernel_rfl) (by simp) ?_
          refine AllReadyH.cons (by rw [List.getElem?_toArray]; rfl) (fun K hK => ?_) AllReadyH.nil
          have c5 := cell_of_row _ gi 4 _ 32 _ HK.out.box
          have f5 : World.frozen? _ ⟨gi, 4, none⟩ = false := frozen_of_row _ gi 4 _ 32 HK.out.box
          simp at c5
          clear hHeld
          go_simp
          have HKd := Lib.hid (rs_put HK.out 4 (.slice (some ⟨g6, 0, none⟩) (k + 1) cap6) rfl)
          clear HK
          have HK := HKd
          clear HKd
          refine hK.out _ _ HK.out.l (fun hHeld => ?_)
          clear hK K c5 f5 hHeld
          refine wpAnyH_done (by kernel_rfl) ?_ _
          exact HRT.out _ _ _ _ _ _ _ _ _ _ _ _ _ _ _ _ _ _ _ _ _ _ _ _ _ _ HK.out
      · clear hHeld
        go_simp
        have n17 := Lib.hid (row_fresh HK.out.rw)
        have c17 := Lib.hid (one_new vu15 (.int .i64 (dr m s (2 * k + 1))))
        have c7x := Lib.hid (one_alloc c7.out (.cells #[(.int .i64 (dr m s (2 * k + 1)))] 3))
        clear c7
        have c7 := c7x
        clear c7x
        have HKd := Lib.hid (HK.out.alloc (.cells #[(.int .i64 (dr m s (2 * k + 1)))] 3))
        clear HK
        have HK := HKd
        clear HKd
        refine hK.out _ _ HK.out.l (fun hHeld => ?_)
        clear hK K
        generalize (vu15.alloc (.cells #[(.int .i64 (dr m s (2 * k + 1)))] 3)) = vu28 at *
        generalize vu15.heap.size = p17 at *
        refine wpAnyH_ready (rs := [8, 10]) (by kernel_rfl) (by simp) ?_
        refine AllReadyH.cons (by rw [List.getElem?_toArray]; rfl) (fun K hK => ?_) (AllReadyH.cons (by rw [List.getElem?_toArray]; rfl) (fun K hK => ?_) AllReadyH.nil)
        · clear hHeld
          rw [if_pos (by rfl)]
          refine wp_append_lies _ _ _ 29 rfl B 3 i0 (.int .i64 0) 1 8 Try.underlying29 hi hz0 hz1 hz2 rfl (by decide) vW k _ rfl HK.out.rw ⟨p7, 0, none⟩ 1 1 [(.int .i64 (dr m s (2 * k)))] rfl rfl (one_news c7.out) (by simp [Value.oneCell']) (by decide) (by unfold maxLen; omega) (by omega) HK.out.sz _ rfl ?_
          intro g5 cap5 w5 hown5 hgrow5 hl5 hlt5
          have HKd := Lib.hid (HK.out.addW (by rw [show 2 * k = k + k by omega]) hown5 hgrow5 hl5)
          clear HK
          have HK := HKd
          clear HKd c7
          have c17x := Lib.hid (one_kept c17.out hgrow5 n17.out)
          clear c17 n17
          have c17 := c17x
          clear c17x
          clear hown5 hgrow5 hl5 hlt5
          refine hK.out _ _ HK.out.l (fun hHeld => ?_)
          clear hK K
          refine wpAnyH_ready (rs := [10]) (by kernel_rfl) (by simp) ?_
          refine AllReadyH.cons (by rw [List.getElem?_toArray]; rfl) (fun K hK => ?_) AllReadyH.nil
          have c5 : w5.cell? ⟨gi, 4, none⟩ = some vV := cell_of_row _ gi 4 _ 32 _ HK.out.box
          clear hHeld
          go_simp
          refine hK.out _ _ HK.out.l (fun hHeld => ?_)
          clear hK K c5
          refine wpAnyH_take (i := 19) (v := ?vu29) (by rw [List.getElem?_toArray]; rfl) (by kernel_rfl) (by kernel_rfl) (by kernel_rfl) ?qu29 (Or.inl ⟨by rfl, ?yu29⟩) (by assumption) ?ru29
          case qu29 => exact fun c a w h => hP c a _ _ w h
          case yu29 => (intro wz hSw; go_simp; try (with_reducible rfl))
          simp only [Act.put, List.setIfInBounds_toArray, List.set_cons_zero, List.set_cons_succ]
          refine wpAnyH_ready (rs := [18]) (by kernel_rfl) (by simp) ?_
          refine AllReadyH.cons (by rw [List.getElem?_toArray]; rfl) (fun K hK => ?_) AllReadyH.nil
          clear hHeld
          rw [if_pos (by rfl)]
          refine wp_append_lies _ _ _ 29 rfl B 3 i0 (.int .i64 0) 1 8 Try.underlying29 hi hz0 hz1 hz2 rfl (by decide) vV k _ rfl HK.out.rv ⟨p17, 0, none⟩ 1 1 [(.int .i64 (dr m s (2 * k + 1)))] rfl rfl (one_news c17.out) (by simp [Value.oneCell']) (by decide) (by unfold maxLen; omega) (by omega) HK.out.sz _ rfl ?_
          intro g6 cap6 w6 hown6 hgrow6 hl6 hlt6
          have HKd := Lib.hid (HK.out.addV (by rw [show 2 * k = k + k by omega]) hown6 hgrow6 hl6)
          clear HK
          have HK := HKd
          clear HKd c17
          clear hown6 hgrow6 hl6 hlt6
          refine hK.out _ _ HK.out.l (fun hHeld => ?_)
          clear hK K
          refine wpAnyH_ready (rs := [20]) (by kernel_rfl) (by simp) ?_
          refine AllReadyH.cons (by rw [List.getElem?_toArray]; rfl) (fun K hK => ?_) AllReadyH.nil
          have c5 := cell_of_row _ gi 3 _ 32 _ HK.out.box
          have f5 : World.frozen? _ ⟨gi, 3, none⟩ = false := frozen_of_row _ gi 3 _ 32 HK.out.box
          simp at c5
          clear hHeld
          go_simp
          have HKd := Lib.hid (rs_put HK.out 3 (.slice (some ⟨g5, 0, none⟩) (k + 1) cap5) rfl)
          clear HK
          have HK := HKd
          clear HKd
          refine hK.out _ _ HK.out.l (fun hHeld => ?_)
          clear hK K c5 f5
          refine wpAnyH_take (i := 21) (v := ?vu30) (by rw [List.getElem?_toArray]; rfl) (by kernel_rfl) (by kernel_rfl) (by kernel_rfl) ?qu30 (Or.inl ⟨by rfl, ?yu30⟩) (by assumption) ?ru30
          case qu30 => exact fun c a w h => hP c a _ _ w h
          case yu30 => (intro wz hSw; go_simp; try (with_reducible rfl))
          simp only [Act.put, List.setIfInBounds_toArray, List.set_cons_zero, List.set_cons_succ]
          refine wpAnyH_ready (rs := [22]) (by kernel_rfl) (by simp) ?_
          refine AllReadyH.cons (by rw [List.getElem?_toArray]; rfl) (fun K hK => ?_) AllReadyH.nil
          have c5 := cell_of_row _ gi 4 _ 32 _ HK.out.box
          have f5 : World.frozen? _ ⟨gi, 4, none⟩ = false := frozen_of_row _ gi 4 _ 32 HK.out.box
          simp at c5
          clear hHeld
          go_simp
          have HKd := Lib.hid (rs_put HK.out 4 (.slice (some ⟨g6, 0, none⟩) (k + 1) cap6) rfl)
          clear HK
          have HK := HKd
          clear HKd
          refine hK.out _ _ HK.out.l (fun hHeld => ?_)
          clear hK K c5 f5 hHeld
          refine wpAnyH_done (by kernel_rfl) ?_ _
          exact HRT.out _ _ _ _ _ _ _ _ _ _ _ _ _ _ _ _ _ _ _ _ _ _ _ _ _ _ HK.out
        · have c5 : vu28.cell? ⟨gi, 4, none⟩ = some vV := cell_of_row _ gi 4 _ 32 _ HK.out.box
          clear hHeld
          go_simp
          refine hK.out _ _ HK.out.l (fun hHeld => ?_)
          clear hK K c5
          refine wpAnyH_ready (rs := [8]) (by kernel_rfl) (by simp) ?_
          refine AllReadyH.cons (by rw [List.getElem?_toArray]; rfl) (fun K hK => ?_) AllReadyH.nil
          clear hHeld
          rw [if_pos (by rfl)]
          refine wp_append_lies _ _ _ 29 rfl B 3 i0 (.int .i64 0) 1 8 Try.underlying29 hi hz0 hz1 hz2 rfl (by decide) vW k _ rfl HK.out.rw ⟨p7, 0, none⟩ 1 1 [(.int .i64 (dr m s (2 * k)))] rfl rfl (one_news c7.out) (by simp [Value.oneCell']) (by decide) (by unfold maxLen; omega) (by omega) HK.out.sz _ rfl ?_
          intro g5 cap5 w5 hown5 hgrow5 hl5 hlt5
          have HKd := Lib.hid (HK.out.addW (by rw [show 2 * k = k + k by omega]) hown5 hgrow5 hl5)
          clear HK
          have HK := HKd
          clear HKd c7
          have c17x := Lib.hid (one_kept c17.out hgrow5 n17.out)
          clear c17 n17
          have c17 := c17x
          clear c17x
          clear hown5 hgrow5 hl5 hlt5
          refine hK.out _ _ HK.out.l (fun hHeld => ?_)
          clear hK K
          refine wpAnyH_take (i := 19) (v := ?vu31) (by rw [List.getElem?_toArray]; rfl) (by kernel_rfl) (by kernel_rfl) (by kernel_rfl) ?qu31 (Or.inl ⟨by rfl, ?yu31⟩) (by assumption) ?ru31
          case qu31 => exact fun c a w h => hP c a _ _ w h
          case yu31 => (intro wz hSw; go_simp; try (with_reducible rfl))
          simp only [Act.put, List.setIfInBounds_toArray, List.set_cons_zero, List.set_cons_succ]
          refine wpAnyH_ready (rs := [18]) (by kernel_rfl) (by simp) ?_
          refine AllReadyH.cons (by rw [List.getElem?_toArray]; rfl) (fun K hK => ?_) AllReadyH.nil
          clear hHeld
          rw [if_pos (by rfl)]
          refine wp_append_lies _ _ _ 29 rfl B 3 i0 (.int .i64 0) 1 8 Try.underlying29 hi hz0 hz1 hz2 rfl (by decide) vV k _ rfl HK.out.rv ⟨p17, 0, none⟩ 1 1 [(.int .i64 (dr m s (2 * k + 1)))] rfl rfl (one_news c17.out) (by simp [Value.oneCell']) (by decide) (by unfold maxLen; omega) (by omega) HK.out.sz _ rfl ?_
          intro g6 cap6 w6 hown6 hgrow6 hl6 hlt6
          have HKd := Lib.hid (HK.out.addV (by rw [show 2 * k = k + k by omega]) hown6 hgrow6 hl6)
          clear HK
          have HK := HKd
          clear HKd c17
          clear hown6 hgrow6 hl6 hlt6
          refine hK.out _ _ HK.out.l (fun hHeld => ?_)
          clear hK K
          refine wpAnyH_ready (rs := [20]) (by kernel_rfl) (by simp) ?_
          refine AllReadyH.cons (by rw [List.getElem?_toArray]; rfl) (fun K hK => ?_) AllReadyH.nil
          have c5 := cell_of_row _ gi 3 _ 32 _ HK.out.box
          have f5 : World.frozen? _ ⟨gi, 3, none⟩ = false := frozen_of_row _ gi 3 _ 32 HK.out.box
          simp at c5
          clear hHeld
          go_simp
          have HKd := Lib.hid (rs_put HK.out 3 (.slice (some ⟨g5, 0, none⟩) (k + 1) cap5) rfl)
          clear HK
          have HK := HKd
          clear HKd
          refine hK.out _ _ HK.out.l (fun hHeld => ?_)
          clear hK K c5 f5
          refine wpAnyH_take (i := 21) (v := ?vu32) (by rw [List.getElem?_toArray]; rfl) (by kernel_rfl) (by kernel_rfl) (by kernel_rfl) ?qu32 (Or.inl ⟨by rfl, ?yu32⟩) (by assumption) ?ru32
          case qu32 => exact fun c a w h => hP c a _ _ w h
          case yu32 => (intro wz hSw; go_simp; try (with_reducible rfl))
          simp only [Act.put, List.setIfInBounds_toArray, List.set_cons_zero, List.set_cons_succ]
          refine wpAnyH_ready (rs := [22]) (by kernel_rfl) (by simp) ?_
          refine AllReadyH.cons (by rw [List.getElem?_toArray]; rfl) (fun K hK => ?_) AllReadyH.nil
          have c5 := cell_of_row _ gi 4 _ 32 _ HK.out.box
          have f5 : World.frozen? _ ⟨gi, 4, none⟩ = false := frozen_of_row _ gi 4 _ 32 HK.out.box
          simp at c5
          clear hHeld
          go_simp
          have HKd := Lib.hid (rs_put HK.out 4 (.slice (some ⟨g6, 0, none⟩) (k + 1) cap6) rfl)
          clear HK
          have HK := HKd
          clear HKd
          refine hK.out _ _ HK.out.l (fun hHeld => ?_)
          clear hK K c5 f5 hHeld
          refine wpAnyH_done (by kernel_rfl) ?_ _
          exact HRT.out _ _ _ _ _ _ _ _ _ _ _ _ _ _ _ _ _ _ _ _ _ _ _ _ _ _ HK.out
    · have c5 : vu1.cell? ⟨gi, 4, none⟩ = some vV := cell_of_row _ gi 4 _ 32 _ HK.out.box
      clear hHeld
      go_simp
      refine hK.out _ _ HK.out.l (fun hHeld => ?_)
      clear hK K c5
      refine wpAnyH_ready (rs := [7, 17]) (by kernel_rfl) (by simp) ?_
      refine AllReadyH.cons (by rw [List.getElem?_toArray]; rfl) (fun K hK => ?_) (AllReadyH.cons (by rw [List.getElem?_toArray]; rfl) (fun K hK => ?_) AllReadyH.nil)
      · clear hHeld
        go_simp
        have c7 := Lib.hid (one_new vu1 (.int .i64 (dr m s (2 * k))))
        have HKd := Lib.hid (HK.out.alloc (.cells #[(.int .i64 (dr m s (2 * k)))] 3))
        clear HK
        have HK := HKd
        clear HKd
        refine hK.out _ _ HK.out.l (fun hHeld => ?_)
        clear hK K
        generalize (vu1.alloc (.cells #[(.int .i64 (dr m s (2 * k)))] 3)) = vu33 at *
        generalize vu1.heap.size = p7 at *
        refine wpAnyH_ready (rs := [8, 17]) (by kernel_rfl) (by simp) ?_
        refine AllReadyH.cons (by rw [List.getElem?_toArray]; rfl) (fun K hK => ?_) (AllReadyH.cons (by rw [List.getElem?_toArray]; rfl) (fun K hK => ?_) AllReadyH.nil)
        · clear hHeld
          rw [if_pos (by rfl)]
          refine wp_append_lies _ _ _ 29 rfl B 3 i0 (.int .i64 0) 1 8 Try.underlying29 hi hz0 hz1 hz2 rfl (by decide) vW k _ rfl HK.out.rw ⟨p7, 0, none⟩ 1 1 [(.int .i64 (dr m s (2 * k)))] rfl rfl (one_news c7.out) (by simp [Value.oneCell']) (by decide) (by unfold maxLen; omega) (by omega) HK.out.sz _ rfl ?_
          intro g5 cap5 w5 hown5 hgrow5 hl5 hlt5
          have HKd := Lib.hid (HK.out.addW (by rw [show 2 * k = k + k by omega]) hown5 hgrow5 hl5)
          clear HK
          have HK := HKd
          clear HKd c7
          clear hown5 hgrow5 hl5 hlt5
          refine hK.out _ _ HK.out.l (fun hHeld => ?_)
          clear hK K
          refine wpAnyH_take (i := 19) (v := ?vu34) (by rw [List.getElem?_toArray]; rfl) (by kernel_rfl) (by kernel_rfl) (by kernel_rfl) ?qu34 (Or.inl ⟨by rfl, ?yu34⟩) (by assumption) ?ru34
          case qu34 => exact fun c a w h => hP c a _ _ w h
          case yu34 => (intro wz hSw; go_simp; try (with_reducible rfl))
          simp only [Act.put, List.setIfInBounds_toArray, List.set_cons_zero, List.set_cons_succ]
          refine wpAnyH_ready (rs := [17]) (by kernel_rfl) (by simp) ?_
          refine AllReadyH.cons (by rw [List.getElem?_toArray]; rfl) (fun K hK => ?_) AllReadyH.nil
          clear hHeld
          go_simp
          have c17 := Lib.hid (one_new w5 (.int .i64 (dr m s (2 * k + 1))))
          have HKd := Lib.hid (HK.out.alloc (.cells #[(.int .i64 (dr m s (2 * k + 1)))] 3))
          clear HK
          have HK := HKd
          clear HKd
          refine hK.out _ _ HK.out.l (fun hHeld => ?_)
          clear hK K
          generalize (w5.alloc (.cells #[(.int .i64 (dr m s (2 * k + 1)))] 3)) = vu35 at *
          generalize w5.heap.size = p17 at *
          refine wpAnyH_ready (rs := [18]) (by kernel_rfl) (by simp) ?_
          refine AllReadyH.cons (by rw [List.getElem?_toArray]; rfl) (fun K hK => ?_) AllReadyH.nil
          clear hHeld
          rw [if_pos (by rfl)]
          refine wp_append_lies _ _ _ 29 rfl B 3 i0 (.int .i64 0) 1 8 Try.underlying29 hi hz0 hz1 hz2 rfl (by decide) vV k _ rfl HK.out.rv ⟨p17, 0, none⟩ 1 1 [(.int .i64 (dr m s (2 * k + 1)))] rfl rfl (one_news c17.out) (by simp [Value.oneCell']) (by decide) (by unfold maxLen; omega) (by omega) HK.out.sz _ rfl ?_
          intro g6 cap6 w6 hown6 hgrow6 hl6 hlt6
          have HKd := Lib.hid (HK.out.addV (by rw [show 2 * k = k + k by omega]) hown6 hgrow6 hl6)
          clear HK
          have HK := HKd
          clear HKd c17
          clear hown6 hgrow6 hl6 hlt6
          refine hK.out _ _ HK.out.l (fun hHeld => ?_)
          clear hK K
          refine wpAnyH_ready (rs := [20]) (by kernel_rfl) (by simp) ?_
          refine AllReadyH.cons (by rw [List.getElem?_toArray]; rfl) (fun K hK => ?_) AllReadyH.nil
          have c5 := cell_of_row _ gi 3 _ 32 _ HK.out.box
          have f5 : World.frozen? _ ⟨gi, 3, none⟩ = false := frozen_of_row _ gi 3 _ 32 HK.out.box
          simp at c5
          clear hHeld
          go_simp
          have HKd := Lib.hid (rs_put HK.out 3 (.slice (some ⟨g5, 0, none⟩) (k + 1) cap5) rfl)
          clear HK
          have HK := HKd
          clear HKd
          refine hK.out _ _ HK.out.l (fun hHeld => ?_)
          clear hK K c5 f5
          refine wpAnyH_take (i := 21) (v := ?vu36) (by rw [List.getElem?_toArray]; rfl) (by kernel_rfl) (by kernel_rfl) (by kernel_rfl) ?qu36 (Or.inl ⟨by rfl, ?yu36⟩) (by assumption) ?ru36
          case qu36 => exact fun c a w h => hP c a _ _ w h
          case yu36 => (intro wz hSw; go_simp; try (with_reducible rfl))
          simp only [Act.put, List.setIfInBounds_toArray, List.set_cons_zero, List.set_cons_succ]
          refine wpAnyH_ready (rs := [22]) (by kernel_rfl) (by simp) ?_
          refine AllReadyH.cons (by rw [List.getElem?_toArray]; rfl) (fun K hK => ?_) AllReadyH.nil
          have c5 := cell_of_row _ gi 4 _ 32 _ HK.out.box
          have f5 : World.frozen? _ ⟨gi, 4, none⟩ = false := frozen_of_row _ gi 4 _ 32 HK.out.box
          simp at c5
          clear hHeld
          go_simp
          have HKd := Lib.hid (rs_put HK.out 4 (.slice (some ⟨g6, 0, none⟩) (k + 1) cap6) rfl)
          clear HK
          have HK := HKd
          clear HKd
          refine hK.out _ _ HK.out.l (fun hHeld => ?_)
          clear hK K c5 f5 hHeld
          refine wpAnyH_done (by kernel_rfl) ?_ _
          exact HRT.out _ _ _ _ _ _ _ _ _ _ _ _ _ _ _ _ _ _ _ _ _ _ _ _ _ _ HK.out
        · clear hHeld
          go_simp
          have n17 := Lib.hid (row_fresh HK.out.rw)
          have c17 := Lib.hid (one_new vu33 (.int .i64 (dr m s (2 * k + 1))))
          have c7x := Lib.hid (one_alloc c7.out (.cells #[(.int .i64 (dr m s (2 * k + 1)))] 3))
          clear c7
          have c7 := c7x
          clear c7x
          have HKd := Lib.hid (HK.out.alloc (.cells #[(.int .i64 (dr m s (2 * k + 1)))] 3))
          clear HK
          have HK := HKd
          clear HKd
          refine hK.out _ _ HK.out.l (fun hHeld => ?_)
          clear hK K
          generalize (vu33.alloc (.cells #[(.int .i64 (dr m s (2 * k + 1)))] 3)) = vu37 at *
          generalize vu33.heap.size = p17 at *
          refine wpAnyH_ready (rs := [8]) (by kernel_rfl) (by simp) ?_
          refine AllReadyH.cons (by rw [List.getElem?_toArray]; rfl) (fun K hK => ?_) AllReadyH.nil
          clear hHeld
          rw [if_pos (by rfl)]
          refine wp_append_lies _ _ _ 29 rfl B 3 i0 (.int .i64 0) 1 8 Try.underlying29 hi hz0 hz1 hz2 rfl (by decide) vW k _ rfl HK.out.rw ⟨p7, 0, none⟩ 1 1 [(.int .i64 (dr m s (2 * k)))] rfl rfl (one_news c7.out) (by simp [Value.oneCell']) (by decide) (by unfold maxLen; omega) (by omega) HK.out.sz _ rfl ?_
          intro g5 cap5 w5 hown5 hgrow5 hl5 hlt5
          have HKd := Lib.hid (HK.out.addW (by rw [show 2 * k = k + k by omega]) hown5 hgrow5 hl5)
          clear HK
          have HK := HKd
          clear HKd c7
          have c17x := Lib.hid (one_kept c17.out hgrow5 n17.out)
          clear c17 n17
          have c17 := c17x
          clear c17x
          clear hown5 hgrow5 hl5 hlt5
          refine hK.out _ _ HK.out.l (fun hHeld => ?_)
          clear hK K
          refine wpAnyH_take (i := 19) (v := ?vu38) (by rw [List.getElem?_toArray]; rfl) (by kernel_rfl) (by kernel_rfl) (by kernel_rfl) ?qu38 (Or.inl ⟨by rfl, ?yu38⟩) (by assumption) ?ru38
          case qu38 => exact fun c a w h => hP c a _ _ w h
          case yu38 => (intro wz hSw; go_simp; try (with_reducible rfl))
          simp only [Act.put, List.setIfInBounds_toArray, List.set_cons_zero, List.set_cons_succ]
          refine wpAnyH_ready (rs := [18]) (by kernel_rfl) (by simp) ?_
          refine AllReadyH.cons (by rw [List.getElem?_toArray]; rfl) (fun K hK => ?_) AllReadyH.nil
          clear hHeld
          rw [if_pos (by rfl)]
          refine wp_append_lies _ _ _ 29 rfl B 3 i0 (.int .i64 0) 1 8 Try.underlying29 hi hz0 hz1 hz2 rfl (by decide) vV k _ rfl HK.out.rv ⟨p17, 0, none⟩ 1 1 [(.int .i64 (dr m s (2 * k + 1)))] rfl rfl (one_news c17.out) (by simp [Value.oneCell']) (by decide) (by unfold maxLen; omega) (by omega) HK.out.sz _ rfl ?_
          intro g6 cap6 w6 hown6 hgrow6 hl6 hlt6
          have HKd := Lib.hid (HK.out.addV (by rw [show 2 * k = k + k by omega]) hown6 hgrow6 hl6)
          clear HK
          have HK := HKd
          clear HKd c17
          clear hown6 hgrow6 hl6 hlt6
          refine hK.out _ _ HK.out.l (fun hHeld => ?_)
          clear hK K
          refine wpAnyH_ready (rs := [20]) (by kernel_rfl) (by simp) ?_
          refine AllReadyH.cons (by rw [List.getElem?_toArray]; rfl) (fun K hK => ?_) AllReadyH.nil
          have c5 := cell_of_row _ gi 3 _ 32 _ HK.out.box
          have f5 : World.frozen? _ ⟨gi, 3, none⟩ = false := frozen_of_row _ gi 3 _ 32 HK.out.box
          simp at c5
          clear hHeld
          go_simp
          have HKd := Lib.hid (rs_put HK.out 3 (.slice (some ⟨g5, 0, none⟩) (k + 1) cap5) rfl)
          clear HK
          have HK := HKd
          clear HKd
          refine hK.out _ _ HK.out.l (fun hHeld => ?_)
          clear hK K c5 f5
          refine wpAnyH_take (i := 21) (v := ?vu39) (by rw [List.getElem?_toArray]; rfl) (by kernel_rfl) (by kernel_rfl) (by kernel_rfl) ?qu39 (Or.inl ⟨by rfl, ?yu39⟩) (by assumption) ?ru39
          case qu39 => exact fun c a w h => hP c a _ _ w h
          case yu39 => (intro wz hSw; go_simp; try (with_reducible rfl))
          simp only [Act.put, List.setIfInBounds_toArray, List.set_cons_zero, List.set_cons_succ]
          refine wpAnyH_ready (rs := [22]) (by kernel_rfl) (by simp) ?_
          refine AllReadyH.cons (by rw [List.getElem?_toArray]; rfl) (fun K hK => ?_) AllReadyH.nil
          have c5 := cell_of_row _ gi 4 _ 32 _ HK.out.box
          have f5 : World.frozen? _ ⟨gi, 4, none⟩ = false := frozen_of_row _ gi 4 _ 32 HK.out.box
          simp at c5
          clear hHeld
          go_simp
          have HKd := Lib.hid (rs_put HK.out 4 (.slice (some ⟨g6, 0, none⟩) (k + 1) cap6) rfl)
          clear HK
          have HK := HKd
          clear HKd
          refine hK.out _ _ HK.out.l (fun hHeld => ?_)
          clear hK K c5 f5 hHeld
          refine wpAnyH_done (by kernel_rfl) ?_ _
          exact HRT.out _ _ _ _ _ _ _ _ _ _ _ _ _ _ _ _ _ _ _ _ _ _ _ _ _ _ HK.out
      · clear hHeld
        go_simp
        have n17 := Lib.hid (row_fresh HK.out.rw)
        have c17 := Lib.hid (one_new vu1 (.int .i64 (dr m s (2 * k + 1))))
        have HKd := Lib.hid (HK.out.alloc (.cells #[(.int .i64 (dr m s (2 * k + 1)))] 3))
        clear HK
        have HK := HKd
        clear HKd
        refine hK.out _ _ HK.out.l (fun hHeld => ?_)
        clear hK K
        generalize (vu1.alloc (.cells #[(.int .i64 (dr m s (2 * k + 1)))] 3)) = vu40 at *
        generalize vu1.heap.size = p17 at *
        refine wpAnyH_ready (rs := [7]) (by kernel_rfl) (by simp) ?_
        refine AllReadyH.cons (by rw [List.getElem?_toArray]; rfl) (fun K hK => ?_) AllReadyH.nil
        clear hHeld
        go_simp
        have c7 := Lib.hid (one_new vu40 (.int .i64 (dr m s (2 * k))))
        have c17x := Lib.hid (one_alloc c17.out (.cells #[(.int .i64 (dr m s (2 * k)))] 3))
        clear c17
        have c17 := c17x
        clear c17x
        have HKd := Lib.hid (HK.out.alloc (.cells #[(.int .i64 (dr m s (2 * k)))] 3))
        clear HK
        have HK := HKd
        clear HKd
        refine hK.out _ _ HK.out.l (fun hHeld => ?_)
        clear hK K
        generalize (vu40.alloc (.cells #[(.int .i64 (dr m s (2 * k)))] 3)) = vu41 at *
        generalize vu40.heap.size = p7 at *
        refine wpAnyH_ready (rs := [8]) (by kernel_rfl) (by simp) ?_
        refine AllReadyH.cons (by rw [List.getElem?_toArray]; rfl) (fun K hK => ?_) AllReadyH.nil
        clear hHeld
        rw [if_pos (by rfl)]
        refine wp_append_lies _ _ _ 29 rfl B 3 i0 (.int .i64 0) 1 8 Try.underlying29 hi hz0 hz1 hz2 rfl (by decide) vW k _ rfl HK.out.rw ⟨p7, 0, none⟩ 1 1 [(.int .i64 (dr m s (2 * k)))] rfl rfl (one_news c7.out) (by simp [Value.oneCell']) (by decide) (by unfold maxLen; omega) (by omega) HK.out.sz _ rfl ?_
        intro g5 cap5 w5 hown5 hgrow5 hl5 hlt5
        have HKd := Lib.hid (HK.out.addW (by rw [show 2 * k = k + k by omega]) hown5 hgrow5 hl5)
        clear HK
        have HK := HKd
        clear HKd c7
        have c17x := Lib.hid (one_kept c17.out hgrow5 n17.out)
        clear c17 n17
        have c17 := c17x
        clear c17x
        clear hown5 hgrow5 hl5 hlt5
        refine hK.out _ _ HK.out.l (fun hHeld => ?_)
        clear hK K
        refine wpAnyH_take (i := 19) (v := ?vu42) (by rw [List.getElem?_toArray]; rfl) (by kernel_rfl) (by kernel_rfl) (by kernel_rfl) ?qu42 (Or.inl ⟨by rfl, ?yu42⟩) (by assumption) ?ru42
        case qu42 => exact fun c a w h => hP c a _ _ w h
        case yu42 => (intro wz hSw; go_simp; try (with_reducible rfl))
        simp only [Act.put, List.setIfInBounds_toArray, List.set_cons_zero, List.set_cons_succ]
        refine wpAnyH_ready (rs := [18]) (by kernel_rfl) (by simp) ?_
        refine AllReadyH.cons (by rw [List.getElem?_toArray]; rfl) (fun K hK => ?_) AllReadyH.nil
        clear hHeld
        rw [if_pos (by rfl)]
        refine wp_append_lies _ _ _ 29 rfl B 3 i0 (.int .i64 0) 1 8 Try.underlying29 hi hz0 hz1 hz2 rfl (by decide) vV k _ rfl HK.out.rv ⟨p17, 0, none⟩ 1 1 [(.int .i64 (dr m s (2 * k + 1)))] rfl rfl (one_news c17.out) (by simp [Value.oneCell']) (by decide) (by unfold maxLen; omega) (by omega) HK.out.sz _ rfl ?_
        intro g6 cap6 w6 hown6 hgrow6 hl6 hlt6
        have HKd := Lib.hid (HK.out.addV (by rw [show 2 * k = k + k by omega]) hown6 hgrow6 hl6)
        clear HK
        have HK := HKd
        clear HKd c17
        clear hown6 hgrow6 hl6 hlt6
        refine hK.out _ _ HK.out.l (fun hHeld => ?_)
        clear hK K
        refine wpAnyH_ready (rs := [20]) (by kernel_rfl) (by simp) ?_
        refine AllReadyH.cons (by rw [List.getElem?_toArray]; rfl) (fun K hK => ?_) AllReadyH.nil
        have c5 := cell_of_row _ gi 3 _ 32 _ HK.out.box
        have f5 : World.frozen? _ ⟨gi, 3, none⟩ = false := frozen_of_row _ gi 3 _ 32 HK.out.box
        simp at c5
        clear hHeld
        go_simp
        have HKd := Lib.hid (rs_put HK.out 3 (.slice (some ⟨g5, 0, none⟩) (k + 1) cap5) rfl)
        clear HK
        have HK := HKd
        clear HKd
        refine hK.out _ _ HK.out.l (fun hHeld => ?_)
        clear hK K c5 f5
        refine wpAnyH_take (i := 21) (v := ?vu43) (by rw [List.getElem?_toArray]; rfl) (by kernel_rfl) (by kernel_rfl) (by kernel_rfl) ?qu43 (Or.inl ⟨by rfl, ?yu43⟩) (by assumption) ?ru43
        case qu43 => exact fun c a w h => hP c a _ _ w h
        case yu43 => (intro wz hSw; go_simp; try (with_reducible rfl))
        simp only [Act.put, List.setIfInBounds_toArray, List.set_cons_zero, List.set_cons_succ]
        refine wpAnyH_ready (rs := [22]) (by kernel_rfl) (by simp) ?_
        refine AllReadyH.cons (by rw [List.getElem?_toArray]; rfl) (fun K hK => ?_) AllReadyH.nil
        have c5 := cell_of_row _ gi 4 _ 32 _ HK.out.box
        have f5 : World.frozen? _ ⟨gi, 4, none⟩ = false := frozen_of_row _ gi 4 _ 32 HK.out.box
        simp at c5
        clear hHeld
        go_simp
        have HKd := Lib.hid (rs_put HK.out 4 (.slice (some ⟨g6, 0, none⟩) (k + 1) cap6) rfl)
        clear HK
        have HK := HKd
        clear HKd
        refine hK.out _ _ HK.out.l (fun hHeld => ?_)
        clear hK K c5 f5 hHeld
        refine wpAnyH_done (by kernel_rfl) ?_ _
        exact HRT.out _ _ _ _ _ _ _ _ _ _ _ _ _ _ _ _ _ _ _ _ _ _ _ _ _ _ HK.out
    · clear hHeld
      go_simp
      have n17 := Lib.hid (row_fresh HK.out.rw)
      have c17 := Lib.hid (one_new vu1 (.int .i64 (dr m s (2 * k + 1))))
      have HKd := Lib.hid (HK.out.alloc (.cells #[(.int .i64 (dr m s (2 * k + 1)))] 3))
      clear HK
      have HK := HKd
      clear HKd
      refine hK.out _ _ HK.out.l (fun hHeld => ?_)
      clear hK K
      generalize (vu1.alloc (.cells #[(.int .i64 (dr m s (2 * k + 1)))] 3)) = vu44 at *
      generalize vu1.heap.size = p17 at *
      refine wpAnyH_ready (rs := [7, 10]) (by kernel_rfl) (by simp) ?_
      refine AllReadyH.cons (by rw [List.getElem?_toArray]; rfl) (fun K hK => ?_) (AllReadyH.cons (by rw [List.getElem?_toArray]; rfl) (fun K hK => ?_) AllReadyH.nil)
      · clear hHeld
        go_simp
        have c7 := Lib.hid (one_new vu44 (.int .i64 (dr m s (2 * k))))
        have c17x := Lib.hid (one_alloc c17.out (.cells #[(.int .i64 (dr m s (2 * k)))] 3))
        clear c17
        have c17 := c17x
        clear c17x
        have HKd := Lib.hid (HK.out.alloc (.cells #[(.int .i64 (dr m s (2 * k)))] 3))
        clear HK
        have HK := HKd
        clear HKd
        refine hK.out _ _ HK.out.l (fun hHeld => ?_)
        clear hK K
        generalize (vu44.alloc (.cells #[(.int .i64 (dr m s (2 * k)))] 3)) = vu45 at *
        generalize vu44.heap.size = p7 at *
        refine wpAnyH_ready (rs := [8, 10]) (by kernel_rfl) (by simp) ?_
        refine AllReadyH.cons (by rw [List.getElem?_toArray]; rfl) (fun K hK => ?_) (AllReadyH.cons (by rw [List.getElem?_toArray]; rfl) (fun K hK => ?_) AllReadyH.nil)
        · clear hHeld
          rw [if_pos (by rfl)]
          refine wp_append_lies _ _ _ 29 rfl B 3 i0 (.int .i64 0) 1 8 Try.underlying29 hi hz0 hz1 hz2 rfl (by decide) vW k _ rfl HK.out.rw ⟨p7, 0, none⟩ 1 1 [(.int .i64 (dr m s (2 * k)))] rfl rfl (one_news c7.out) (by simp [Value.oneCell']) (by decide) (by unfold maxLen; omega) (by omega) HK.out.sz _ rfl ?_
          intro g5 cap5 w5 hown5 hgrow5 hl5 hlt5
          have HKd := Lib.hid (HK.out.addW (by rw [show 2 * k = k + k by omega]) hown5 hgrow5 hl5)
          clear HK
          have HK := HKd
          clear HKd c7
          have c17x := Lib.hid (one_kept c17.out hgrow5 n17.out)
          clear c17 n17
          have c17 := c17x
          clear c17x
          clear hown5 hgrow5 hl5 hlt5
          refine hK.out _ _ HK.out.l (fun hHeld => ?_)
          clear hK K
          refine wpAnyH_ready (rs := [10]) (by kernel_rfl) (by simp) ?_
          refine AllReadyH.cons (by rw [List.getElem?_toArray]; rfl) (fun K hK => ?_) AllReadyH.nil
          have c5 : w5.cell? ⟨gi, 4, none⟩ = some vV := cell_of_row _ gi 4 _ 32 _ HK.out.box
          clear hHeld
          go_simp
          refine hK.out _ _ HK.out.l (fun hHeld => ?_)
          clear hK K c5
          refine wpAnyH_take (i := 19) (v := ?vu46) (by rw [List.getElem?_toArray]; rfl) (by kernel_rfl) (by kernel_rfl) (by kernel_rfl) ?qu46 (Or.inl ⟨by rfl, ?yu46⟩) (by assumption) ?ru46
          case qu46 => exact fun c a w h => hP c a _ _ w h
          case yu46 => (intro wz hSw; go_simp; try (with_reducible rfl))
          simp only [Act.put, List.setIfInBounds_toArray, List.set_cons_zero, List.set_cons_succ]
          refine wpAnyH_ready (rs := [18]) (by kernel_rfl) (by simp) ?_
          refine AllReadyH.cons (by rw [List.getElem?_toArray]; rfl) (fun K hK => ?_) AllReadyH.nil
          clear hHeld
          rw [if_pos (by rfl)]
          refine wp_append_lies _ _ _ 29 rfl B 3 i0 (.int .i64 0) 1 8 Try.underlying29 hi hz0 hz1 hz2 rfl (by decide) vV k _ rfl HK.out.rv ⟨p17, 0, none⟩ 1 1 [(.int .i64 (dr m s (2 * k + 1)))] rfl rfl (one_news c17.out) (by simp [Value.oneCell']) (by decide) (by unfold maxLen; omega) (by omega) HK.out.sz _ rfl ?_
          intro g6 cap6 w6 hown6 hgrow6 hl6 hlt6
          have HKd := Lib.hid (HK.out.addV (by rw [show 2 * k = k + k by omega]) hown6 hgrow6 hl6)
          clear HK
          have HK := HKd
          clear HKd c17
          clear hown6 hgrow6 hl6 hlt6
          refine hK.out _ _ HK.out.l (fun hHeld => ?_)
          clear hK K
          refine wpAnyH_ready (rs := [20]) (by kernel_rfl) (by simp) ?_
          refine AllReadyH.cons (by rw [List.getElem?_toArray]; rfl) (fun K hK => ?_) AllReadyH.nil
          have c5 := cell_of_row _ gi 3 _ 32 _ HK.out.box
          have f5 : World.frozen? _ ⟨gi, 3, none⟩ = false := frozen_of_row _ gi 3 _ 32 HK.out.box
          simp at c5
          clear hHeld
          go_simp
          have HKd := Lib.hid (rs_put HK.out 3 (.slice (some ⟨g5, 0, none⟩) (k + 1) cap5) rfl)
          clear HK
          have HK := HKd
          clear HKd
          refine hK.out _ _ HK.out.l (fun hHeld => ?_)
          clear hK K c5 f5
          refine wpAnyH_take (i := 21) (v := ?vu47) (by rw [List.getElem?_toArray]; rfl) (by kernel_rfl) (by kernel_rfl) (by kernel_rfl) ?qu47 (Or.inl ⟨by rfl, ?yu47⟩) (by assumption) ?ru47
          case qu47 => exact fun c a w h => hP c a _ _ w h
          case yu47 => (intro wz hSw; go_simp; try (with_reducible rfl))
          simp only [Act.put, List.setIfInBounds_toArray, List.set_cons_zero, List.set_cons_succ]
          refine wpAnyH_ready (rs := [22]) (by kernel_rfl) (by simp) ?_
          refine AllReadyH.cons (by rw [List.getElem?_toArray]; rfl) (fun K hK => ?_) AllReadyH.nil
          have c5 := cell_of_row _ gi 4 _ 32 _ HK.out.box
          have f5 : World.frozen? _ ⟨gi, 4, none⟩ = false := frozen_of_row _ gi 4 _ 32 HK.out.box
          simp at c5
          clear hHeld
          go_simp
          have HKd := Lib.hid (rs_put HK.out 4 (.slice (some ⟨g6, 0, none⟩) (k + 1) cap6) rfl)
          clear HK
          have HK := HKd
          clear HKd
          refine hK.out _ _ HK.out.l (fun hHeld => ?_)
          clear hK K c5 f5 hHeld
          refine wpAnyH_done (by kernel_rfl) ?_ _
          exact HRT.out _ _ _ _ _ _ _ _ _ _ _ _ _ _ _ _ _ _ _ _ _ _ _ _ _ _ HK.out
        · have c5 : vu45.cell? ⟨gi, 4, none⟩ = some vV := cell_of_row _ gi 4 _ 32 _ HK.out.box
          clear hHeld
          go_simp
          refine hK.out _ _ HK.out.l (fun hHeld => ?_)
          clear hK K c5
          refine wpAnyH_ready (rs := [8]) (by kernel_rfl) (by simp) ?_
          refine AllReadyH.cons (by rw [List.getElem?_toArray]; rfl) (fun K hK => ?_) AllReadyH.nil
          clear hHeld
          rw [if_pos (by rfl)]
          refine wp_append_lies _ _ _ 29 rfl B 3 i0 (.int .i64 0) 1 8 Try.underlying29 hi hz0 hz1 hz2 rfl (by decide) vW k _ rfl HK.out.rw ⟨p7, 0, none⟩ 1 1 [(.int .i64 (dr m s (2 * k)))] rfl rfl (one_news c7.out) (by simp [Value.oneCell']) (by decide) (by unfold maxLen; omega) (by omega) HK.out.sz _ rfl ?_
          intro g5 cap5 w5 hown5 hgrow5 hl5 hlt5
          have HKd := Lib.hid (HK.out.addW (by rw [show 2 * k = k + k by omega]) hown5 hgrow5 hl5)
          clear HK
          have HK := HKd
          clear HKd c7
          have c17x := Lib.hid (one_kept c17.out hgrow5 n17.out)
          clear c17 n17
          have c17 := c17x
          clear c17x
          clear hown5 hgrow5 hl5 hlt5
          refine hK.out _ _ HK.out.l (fun hHeld => ?_)
          clear hK K
          refine wpAnyH_take (i := 19) (v := ?vu48) (by rw [List.getElem?_toArray]; rfl) (by kernel_rfl) (by kernel_rfl) (by kernel_rfl) ?qu48 (Or.inl ⟨by rfl, ?yu48⟩) (by assumption) ?ru48
          case qu48 => exact fun c a w h => hP c a _ _ w h
          case yu48 => (intro wz hSw; go_simp; try (with_reducible rfl))
          simp only [Act.put, List.setIfInBounds_toArray, List.set_cons_zero, List.set_cons_succ]
          refine wpAnyH_ready (rs := [18]) (by kernel_rfl) (by simp) ?_
          refine AllReadyH.cons (by rw [List.getElem?_toArray]; rfl) (fun K hK => ?_) AllReadyH.nil
          clear hHeld
          rw [if_pos (by rfl)]
          refine wp_append_lies _ _ _ 29 rfl B 3 i0 (.int .i64 0) 1 8 Try.underlying29 hi hz0 hz1 hz2 rfl (by decide) vV k _ rfl HK.out.rv ⟨p17, 0, none⟩ 1 1 [(.int .i64 (dr m s (2 * k + 1)))] rfl rfl (one_news c17.out) (by simp [Value.oneCell']) (by decide) (by unfold maxLen; omega) (by omega) HK.out.sz _ rfl ?_
          intro g6 cap6 w6 hown6 hgrow6 hl6 hlt6
          have HKd := Lib.hid (HK.out.addV (by rw [show 2 * k = k + k by omega]) hown6 hgrow6 hl6)
          clear HK
          have HK := HKd
          clear HKd c17
          clear hown6 hgrow6 hl6 hlt6
          refine hK.out _ _ HK.out.l (fun hHeld => ?_)
          clear hK K
          refine wpAnyH_ready (rs := [20]) (by kernel_rfl) (by simp) ?_
          refine AllReadyH.cons (by rw [List.getElem?_toArray]; rfl) (fun K hK => ?_) AllReadyH.nil
          have c5 := cell_of_row _ gi 3 _ 32 _ HK.out.box
          have f5 : World.frozen? _ ⟨gi, 3, none⟩ = false := frozen_of_row _ gi 3 _ 32 HK.out.box
          simp at c5
          clear hHeld
          go_simp
          have HKd := Lib.hid (rs_put HK.out 3 (.slice (some ⟨g5, 0, none⟩) (k + 1) cap5) rfl)
          clear HK
          have HK := HKd
          clear HKd
          refine hK.out _ _ HK.out.l (fun hHeld => ?_)
          clear hK K c5 f5
          refine wpAnyH_take (i := 21) (v := ?vu49) (by rw [List.getElem?_toArray]; rfl) (by kernel_rfl) (by kernel_rfl) (by kernel_rfl) ?qu49 (Or.inl ⟨by rfl, ?yu49⟩) (by assumption) ?ru49
          case qu49 => exact fun c a w h => hP c a _ _ w h
          case yu49 => (intro wz hSw; go_simp; try (with_reducible rfl))
          simp only [Act.put, List.setIfInBounds_toArray, List.set_cons_zero, List.set_cons_succ]
          refine wpAnyH_ready (rs := [22]) (by kernel_rfl) (by simp) ?_
          refine AllReadyH.cons (by rw [List.getElem?_toArray]; rfl) (fun K hK => ?_) AllReadyH.nil
          have c5 := cell_of_row _ gi 4 _ 32 _ HK.out.box
          have f5 : World.frozen? _ ⟨gi, 4, none⟩ = false := frozen_of_row _ gi 4 _ 32 HK.out.box
          simp at c5
          clear hHeld
          go_simp
          have HKd := Lib.hid (rs_put HK.out 4 (.slice (some ⟨g6, 0, none⟩) (k + 1) cap6) rfl)
          clear HK
          have HK := HKd
          clear HKd
          refine hK.out _ _ HK.out.l (fun hHeld => ?_)
          clear hK K c5 f5 hHeld
          refine wpAnyH_done (by kernel_rfl) ?_ _
          exact HRT.out _ _ _ _ _ _ _ _ _ _ _ _ _ _ _ _ _ _ _ _ _ _ _ _ _ _ HK.out
      · have c5 : vu44.cell? ⟨gi, 4, none⟩ = some vV := cell_of_row _ gi 4 _ 32 _ HK.out.box
        clear hHeld
        go_simp
        refine hK.out _ _ HK.out.l (fun hHeld => ?_)
        clear hK K c5
        refine wpAnyH_ready (rs := [7]) (by kernel_rfl) (by simp) ?_
        refine AllReadyH.cons (by rw [List.getElem?_toArray]; rfl) (fun K hK => ?_) AllReadyH.nil
        clear hHeld
        go_simp
        have c7 := Lib.hid (one_new vu44 (.int .i64 (dr m s (2 * k))))
        have c17x := Lib.hid (one_alloc c17.out (.cells #[(.int .i64 (dr m s (2 * k)))] 3))
        clear c17
        have c17 := c17x
        clear c17x
        have HKd := Lib.hid (HK.out.alloc (.cells #[(.int .i64 (dr m s (2 * k)))] 3))
        clear HK
        have HK := HKd
        clear HKd
        refine hK.out _ _ HK.out.l (fun hHeld => ?_)
        clear hK K
        generalize (vu44.alloc (.cells #[(.int .i64 (dr m s (2 * k)))] 3)) = vu50 at *
        generalize vu44.heap.size = p7 at *
        refine wpAnyH_ready (rs := [8]) (by kernel_rfl) (by simp) ?_
        refine AllReadyH.cons (by rw [List.getElem?_toArray]; rfl) (fun K hK => ?_) AllReadyH.nil
        clear hHeld
        rw [if_pos (by rfl)]
        refine wp_append_lies _ _ _ 29 rfl B 3 i0 (.int .i64 0) 1 8 Try.underlying29 hi hz0 hz1 hz2 rfl (by decide) vW k _ rfl HK.out.rw ⟨p7, 0, none⟩ 1 1 [(.int .i64 (dr m s (2 * k)))] rfl rfl (one_news c7.out) (by simp [Value.oneCell']) (by decide) (by unfold maxLen; omega) (by omega) HK.out.sz _ rfl ?_
        intro g5 cap5 w5 hown5 hgrow5 hl5 hlt5
        have HKd := Lib.hid (HK.out.addW (by rw [show 2 * k = k + k by omega]) hown5 hgrow5 hl5)
        clear HK
        have HK := HKd
        clear HKd c7
        have c17x := Lib.hid (one_kept c17.out hgrow5 n17.out)
        clear c17 n17
        have c17 := c17x
        clear c17x
        clear hown5 hgrow5 hl5 hlt5
        refine hK.out _ _ HK.out.l (fun hHeld => ?_)
        clear hK K
        refine wpAnyH_take (i := 19) (v := ?vu51) (by rw [List.getElem?_toArray]; rfl) (by kernel_rfl) (by kernel_rfl) (by kernel_rfl) ?qu51 (Or.inl ⟨by rfl, ?yu51⟩) (by assumption) ?ru51
        case qu51 => exact fun c a w h => hP c a _ _ w h
        case yu51 => (intro wz hSw; go_simp; try (with_reducible rfl))
        simp only [Act.put, List.setIfInBounds_toArray, List.set_cons_zero, List.set_cons_succ]
        refine wpAnyH_ready (rs := [18]) (by kernel_rfl) (by simp) ?_
        refine AllReadyH.cons (by rw [List.getElem?_toArray]; rfl) (fun K hK => ?_) AllReadyH.nil
        clear hHeld
        rw [if_pos (by rfl)]
        refine wp_append_lies _ _ _ 29 rfl B 3 i0 (.int .i64 0) 1 8 Try.underlying29 hi hz0 hz1 hz2 rfl (by decide) vV k _ rfl HK.out.rv ⟨p17, 0, none⟩ 1 1 [(.int .i64 (dr m s (2 * k + 1)))] rfl rfl (one_news c17.out) (by simp [Value.oneCell']) (by decide) (by unfold maxLen; omega) (by omega) HK.out.sz _ rfl ?_
        intro g6 cap6 w6 hown6 hgrow6 hl6 hlt6
        have HKd := Lib.hid (HK.out.addV (by rw [show 2 * k = k + k by omega]) hown6 hgrow6 hl6)
        clear HK
        have HK := HKd
        clear HKd c17
        clear hown6 hgrow6 hl6 hlt6
        refine hK.out _ _ HK.out.l (fun hHeld => ?_)
        clear hK K
        refine wpAnyH_ready (rs := [20]) (by kernel_rfl) (by simp) ?_
        refine AllReadyH.cons (by rw [List.getElem?_toArray]; rfl) (fun K hK => ?_) AllReadyH.nil
        have c5 := cell_of_row _ gi 3 _ 32 _ HK.out.box
        have f5 : World.frozen? _ ⟨gi, 3, none⟩ = false := frozen_of_row _ gi 3 _ 32 HK.out.box
        simp at c5
        clear hHeld
        go_simp
        have HKd := Lib.hid (rs_put HK.out 3 (.slice (some ⟨g5, 0, none⟩) (k + 1) cap5) rfl)
        clear HK
        have HK := HKd
        clear HKd
        refine hK.out _ _ HK.out.l (fun hHeld => ?_)
        clear hK K c5 f5
        refine wpAnyH_take (i := 21) (v := ?vu52) (by rw [List.getElem?_toArray]; rfl) (by kernel_rfl) (by kernel_rfl) (by kernel_rfl) ?qu52 (Or.inl ⟨by rfl, ?yu52⟩) (by assumption) ?ru52
        case qu52 => exact fun c a w h => hP c a _ _ w h
        case yu52 => (intro wz hSw; go_simp; try (with_reducible rfl))
        simp only [Act.put, List.setIfInBounds_toArray, List.set_cons_zero, List.set_cons_succ]
        refine wpAnyH_ready (rs := [22]) (by kernel_rfl) (by simp) ?_
        refine AllReadyH.cons (by rw [List.getElem?_toArray]; rfl) (fun K hK => ?_) AllReadyH.nil
        have c5 := cell_of_row _ gi 4 _ 32 _ HK.out.box
        have f5 : World.frozen? _ ⟨gi, 4, none⟩ = false := frozen_of_row _ gi 4 _ 32 HK.out.box
        simp at c5
        clear hHeld
        go_simp
        have HKd := Lib.hid (rs_put HK.out 4 (.slice (some ⟨g6, 0, none⟩) (k + 1) cap6) rfl)
        clear HK
        have HK := HKd
        clear HKd
        refine hK.out _ _ HK.out.l (fun hHeld => ?_)
        clear hK K c5 f5 hHeld
        refine wpAnyH_done (by kernel_rfl) ?_ _
        exact HRT.out _ _ _ _ _ _ _ _ _ _ _ _ _ _ _ _ _ _ _ _ _ _ _ _ _ _ HK.out
  · clear hHeld
    go_simp
    have c7 := Lib.hid (one_new vu1 (.int .i64 (dr m s (2 * k))))
    have HKd := Lib.hid (HK.out.alloc (.cells #[(.int .i64 (dr m s (2 * k)))] 3))
    clear HK
    have HK := HKd
    clear HKd
    refine hK.out _ _ HK.out.l (fun hHeld => ?_)
    clear hK K
    generalize (vu1.alloc (.cells #[(.int .i64 (dr m s (2 * k)))] 3)) = vu53 at *
    generalize vu1.heap.size = p7 at *
    refine wpAnyH_ready (rs := [1, 10, 17]) (by kernel_rfl) (by simp) ?_
    refine AllReadyH.cons (by rw [List.getElem?_toArray]; rfl) (fun K hK => ?_) (AllReadyH.cons (by rw [List.getElem?_toArray]; rfl) (fun K hK => ?_) (AllReadyH.cons (by rw [List.getElem?_toArray]; rfl) (fun K hK => ?_) AllReadyH.nil))
    · have c5 : vu53.cell? ⟨gi, 3, none⟩ = some vW := cell_of_row _ gi 3 _ 32 _ HK.out.box
      clear hHeld
      go_simp
      refine hK.out _ _ HK.out.l (fun hHeld => ?_)
      clear hK K c5
      refine wpAnyH_ready (rs := [8, 10, 17]) (by kernel_rfl) (by simp) ?_
      refine AllReadyH.cons (by rw [List.getElem?_toArray]; rfl) (fun K hK => ?_) (AllReadyH.cons (by rw [List.getElem?_toArray]; rfl) (fun K hK => ?_) (AllReadyH.cons (by rw [List.getElem?_toArray]; rfl) (fun K hK => ?_) AllReadyH.nil))
      · clear hHeld
        rw [if_pos (by rfl)]
        refine wp_append_lies _ _ _ 29 rfl B 3 i0 (.int .i64 0) 1 8 Try.underlying29 hi hz0 hz1 hz2 rfl (by decide) vW k _ rfl HK.out.rw ⟨p7, 0, none⟩ 1 1 [(.int .i64 (dr m s (2 * k)))] rfl rfl (one_news c7.out) (by simp [Value.oneCell']) (by decide) (by unfold maxLen; omega) (by omega) HK.out.sz _ rfl ?_
        intro g5 cap5 w5 hown5 hgrow5 hl5 hlt5
        have HKd := Lib.hid (HK.out.addW (by rw [show 2 * k = k + k by omega]) hown5 hgrow5 hl5)
        clear HK
        have HK := HKd
        clear HKd c7
        clear hown5 hgrow5 hl5 hlt5
        refine hK.out _ _ HK.out.l (fun hHeld => ?_)
        clear hK K
        refine wpAnyH_ready (rs := [10, 17]) (by kernel_rfl) (by simp) ?_
        refine AllReadyH.cons (by rw [List.getElem?_toArray]; rfl) (fun K hK => ?_) (AllReadyH.cons (by rw [List.getElem?_toArray]; rfl) (fun K hK => ?_) AllReadyH.nil)
        · have c5 : w5.cell? ⟨gi, 4, none⟩ = some vV := cell_of_row _ gi 4 _ 32 _ HK.out.box
          clear hHeld
          go_simp
          refine hK.out _ _ HK.out.l (fun hHeld => ?_)
          clear hK K c5
          refine wpAnyH_take (i := 19) (v := ?vu54) (by rw [List.getElem?_toArray]; rfl) (by kernel_rfl) (by kernel_rfl) (by kernel_rfl) ?qu54 (Or.inl ⟨by rfl, ?yu54⟩) (by assumption) ?ru54
          case qu54 => exact fun c a w h => hP c a _ _ w h
          case yu54 => (intro wz hSw; go_simp; try (with_reducible rfl))
          simp only [Act.put, List.setIfInBounds_toArray, List.set_cons_zero, List.set_cons_succ]
          refine wpAnyH_ready (rs := [17]) (by kernel_rfl) (by simp) ?_
          refine AllReadyH.cons (by rw [List.getElem?_toArray]; rfl) (fun K hK => ?_) AllReadyH.nil
          clear hHeld
          go_simp
          have c17 := Lib.hid (one_new w5 (.int .i64 (dr m s (2 * k + 1))))
          have HKd := Lib.hid (HK.out.alloc (.cells #[(.int .i64 (dr m s (2 * k + 1)))] 3))
          clear HK
          have HK := HKd
          clear HKd
          refine hK.out _ _ HK.out.l (fun hHeld => ?_)
          clear hK K
          generalize (w5.alloc (.cells #[(.int .i64 (dr m s (2 * k + 1)))] 3)) = vu55 at *
          generalize w5.heap.size = p17 at *
          refine wpAnyH_ready (rs := [18]) (by kernel_rfl) (by simp) ?_
          refine AllReadyH.cons (by rw [List.getElem?_toArray]; rfl) (fun K hK => ?_) AllReadyH.nil
          clear hHeld
          rw [if_pos (by rfl)]
          refine wp_append_lies _ _ _ 29 rfl B 3 i0 (.int .i64 0) 1 8 Try.underlying29 hi hz0 hz1 hz2 rfl (by decide) vV k _ rfl HK.out.rv ⟨p17, 0, none⟩ 1 1 [(.int .i64 (dr m s (2 * k + 1)))] rfl rfl (one_news c17.out) (by simp [Value.oneCell']) (by decide) (by unfold maxLen; omega) (by omega) HK.out.sz _ rfl ?_
          intro g6 cap6 w6 hown6 hgrow6 hl6 hlt6
          have HKd := Lib.hid (HK.out.addV (by rw [show 2 * k = k + k by omega]) hown6 hgrow6 hl6)
          clear HK
          have HK := HKd
          clear HKd c17
          clear hown6 hgrow6 hl6 hlt6
          refine hK.out _ _ HK.out.l (fun hHeld => ?_)
          clear hK K
          refine wpAnyH_ready (rs := [20]) (by kernel_rfl) (by simp) ?_
          refine AllReadyH.cons (by rw [List.getElem?_toArray]; rfl) (fun K hK => ?_) AllReadyH.nil
          have c5 := cell_of_row _ gi 3 _ 32 _ HK.out.box
          have f5 : World.frozen? _ ⟨gi, 3, none⟩ = false := frozen_of_row _ gi 3 _ 32 HK.out.box
          simp at c5
          clear hHeld
          go_simp
          have HKd := Lib.hid (rs_put HK.out 3 (.slice (some ⟨g5, 0, none⟩) (k + 1) cap5) rfl)
          clear HK
          have HK := HKd
          clear HKd
          refine hK.out _ _ HK.out.l (fun hHeld => ?_)
          clear hK K c5 f5
          refine wpAnyH_take (i := 21) (v := ?vu56) (by rw [List.getElem?_toArray]; rfl) (by kernel_rfl) (by kernel_rfl) (by kernel_rfl) ?qu56 (Or.inl ⟨by rfl, ?yu56⟩) (by assumption) ?ru56
          case qu56 => exact fun c a w h => hP c a _ _ w h
          case yu56 => (intro wz hSw; go_simp; try (with_reducible rfl))
          simp only [Act.put, List.setIfInBounds_toArray, List.set_cons_zero, List.set_cons_succ]
          refine wpAnyH_ready (rs := [22]) (by kernel_rfl) (by simp) ?_
          refine AllReadyH.cons (by rw [List.getElem?_toArray]; rfl) (fun K hK => ?_) AllReadyH.nil
          have c5 := cell_of_row _ gi 4 _ 32 _ HK.out.box
          have f5 : World.frozen? _ ⟨gi, 4, none⟩ = false := frozen_of_row _ gi 4 _ 32 HK.out.box
          simp at c5
          clear hHeld
          go_simp
          have HKd := Lib.hid (rs_put HK.out 4 (.slice (some ⟨g6, 0, none⟩) (k + 1) cap6) rfl)
          clear HK
          have HK := HKd
          clear HKd
          refine hK.out _ _ HK.out.l (fun hHeld => ?_)
          clear hK K c5 f5 hHeld
          refine wpAnyH_done (by kernel_rfl) ?_ _
          exact HRT.out _ _ _ _ _ _ _ _ _ _ _ _ _ _ _ _ _ _ _ _ _ _ _ _ _ _ HK.out
        · clear hHeld
          go_simp
          have c17 := Lib.hid (one_new w5 (.int .i64 (dr m s (2 * k + 1))))
          have HKd := Lib.hid (HK.out.alloc (.cells #[(.int .i64 (dr m s (2 * k + 1)))] 3))
          clear HK
          have HK := HKd
          clear HKd
          refine hK.out _ _ HK.out.l (fun hHeld => ?_)
          clear hK K
          generalize (w5.alloc (.cells #[(.int .i64 (dr m s (2 * k + 1)))] 3)) = vu57 at *
          generalize w5.heap.size = p17 at *
          refine wpAnyH_ready (rs := [10]) (by kernel_rfl) (by simp) ?_
          refine AllReadyH.cons (by rw [List.getElem?_toArray]; rfl) (fun K hK => ?_) AllReadyH.nil
          have c5 : vu57.cell? ⟨gi, 4, none⟩ = some vV := cell_of_row _ gi 4 _ 32 _ HK.out.box
          clear hHeld
          go_simp
          refine hK.out _ _ HK.out.l (fun hHeld => ?_)
          clear hK K c5
          refine wpAnyH_take (i := 19) (v := ?vu58) (by rw [List.getElem?_toArray]; rfl) (by kernel_rfl) (by kernel_rfl) (by kernel_rfl) ?qu58 (Or.inl ⟨by rfl, ?yu58⟩) (by assumption) ?ru58
          case qu58 => exact fun c a w h => hP c a _ _ w h
          case yu58 => (intro wz hSw; go_simp; try (with_reducible rfl))
          simp only [Act.put, List.setIfInBounds_toArray, List.set_cons_zero, List.set_cons_succ]
          refine wpAnyH_ready (rs := [18]) (by kernel_rfl) (by simp) ?_
          refine AllReadyH.cons (by rw [List.getElem?_toArray]; rfl) (fun K hK => ?_) AllReadyH.nil
          clear hHeld
          rw [if_pos (by rfl)]
          refine wp_append_lies _ _ _ 29 rfl B 3 i0 (.int .i64 0) 1 8 Try.underlying29 hi hz0 hz1 hz2 rfl (by decide) vV k _ rfl HK.out.rv ⟨p17, 0, none⟩ 1 1 [(.int .i64 (dr m s (2 * k + 1)))] rfl rfl (one_news c17.out) (by simp [Value.oneCell']) (by decide) (by unfold maxLen; omega) (by omega) HK.out.sz _ rfl ?_
          intro g6 cap6 w6 hown6 hgrow6 hl6 hlt6
          have HKd := Lib.hid (HK.out.addV (by rw [show 2 * k = k + k by omega]) hown6 hgrow6 hl6)
          clear HK
          have HK := HKd
          clear HKd c17
          clear hown6 hgrow6 hl6 hlt6
          refine hK.out _ _ HK.out.l (fun hHeld => ?_)
          clear hK K
          refine wpAnyH_ready (rs := [20]) (by kernel_rfl) (by simp) ?_
          refine AllReadyH.cons (by rw [List.getElem?_toArray]; rfl) (fun K hK => ?_) AllReadyH.nil
          have c5 := cell_of_row _ gi 3 _ 32 _ HK.out.box
          have f5 : World.frozen? _ ⟨gi, 3, none⟩ = false := frozen_of_row _ gi 3 _ 32 HK.out.box
          simp at c5
          clear hHeld
          go_simp
          have HKd := Lib.hid (rs_put HK.out 3 (.slice (some ⟨g5, 0, none⟩) (k + 1) cap5) rfl)
          clear HK
          have HK := HKd
          clear HKd
          refine hK.out _ _ HK.out.l (fun hHeld => ?_)
          clear hK K c5 f5
          refine wpAnyH_take (i := 21) (v := ?vu59) (by rw [List.getElem?_toArray]; rfl) (by kernel_rfl) (by kernel_rfl) (by kernel_rfl) ?qu59 (Or.inl ⟨by rfl, ?yu59⟩) (by assumption) ?ru59
          case qu59 => exact fun c a w h => hP c a _ _ w h
          case yu59 => (intro wz hSw; go_simp; try (with_reducible rfl))
          simp only [Act.put, List.setIfInBounds_toArray, List.set_cons_zero, List.set_cons_succ]
          refine wpAnyH_ready (rs := [22]) (by kernel_rfl) (by simp) ?_
          refine AllReadyH.cons (by rw [List.getElem?_toArray]; rfl) (fun K hK => ?_) AllReadyH.nil
          have c5 := cell_of_row _ gi 4 _ 32 _ HK.out.box
          have f5 : World.frozen? _ ⟨gi, 4, none⟩ = false := frozen_of_row _ gi 4 _ 32 HK.out.box
          simp at c5
          clear hHeld
          go_simp
          have HKd := Lib.hid (rs_put HK.out 4 (.slice (some ⟨g6, 0, none⟩) (k + 1) cap6) rfl)
          clear HK
          have HK := HKd
          clear HKd
          refine hK.out _ _ HK.out.l (fun hHeld => ?_)
          clear hK K c5 f5 hHeld
          refine wpAnyH_done (by kernel_rfl) ?_ _
          exact HRT.out _ _ _ _ _ _ _ _ _ _ _ _ _ _ _ _ _ _ _ _ _ _ _ _ _ _ HK.out
      · have c5 : vu53.cell? ⟨gi, 4, none⟩ = some vV := cell_of_row _ gi 4 _ 32 _ HK.out.box
        clear hHeld
        go_simp
        refine hK.out _ _ HK.out.l (fun hHeld => ?_)
        clear hK K c5
        refine wpAnyH_ready (rs := [8, 17]) (by kernel_rfl) (by simp) ?_
        refine AllReadyH.cons (by rw [List.getElem?_toArray]; rfl) (fun K hK => ?_) (AllReadyH.cons (by rw [List.getElem?_toArray]; rfl) (fun K hK => ?_) AllReadyH.nil)
        · clear hHeld
          rw [if_pos (by rfl)]
          refine wp_append_lies _ _ _ 29 rfl B 3 i0 (.int .i64 0) 1 8 Try.underlying29 hi hz0 hz1 hz2 rfl (by decide) vW k _ rfl HK.out.rw ⟨p7, 0, none⟩ 1 1 [(.int .i64 (dr m s (2 * k)))] rfl rfl (one_news c7.out) (by simp [Value.oneCell']) (by decide) (by unfold maxLen; omega) (by omega) HK.out.sz _ rfl ?_
          intro g5 cap5 w5 hown5 hgrow5 hl5 hlt5
          have HKd := Lib.hid (HK.out.addW (by rw [show 2 * k = k + k by omega]) hown5 hgrow5 hl5)
          clear HK
          have HK := HKd
          clear HKd c7
          clear hown5 hgrow5 hl5 hlt5
          refine hK.out _ _ HK.out.l (fun hHeld => ?_)
          clear hK K
          refine wpAnyH_take (i := 19) (v := ?vu60) (by rw [List.getElem?_toArray]; rfl) (by kernel_rfl) (by kernel_rfl) (by kernel_rfl) ?qu60 (Or.inl ⟨by rfl, ?yu60⟩) (by assumption) ?ru60
          case qu60 => exact fun c a w h => hP c a _ _ w h
          case yu60 => (intro wz hSw; go_simp; try (with_reducible rfl))
          simp only [Act.put, List.setIfInBounds_toArray, List.set_cons_zero, List.set_cons_succ]
          refine wpAnyH_ready (rs := [17]) (by kernel_rfl) (by simp) ?_
          refine AllReadyH.cons (by rw [List.getElem?_toArray]; rfl) (fun K hK => ?_) AllReadyH.nil
          clear hHeld
          go_simp
          have c17 := Lib.hid (one_new w5 (.int .i64 (dr m s (2 * k + 1))))
          have HKd := Lib.hid (HK.out.alloc (.cells #[(.int .i64 (dr m s (2 * k + 1)))] 3))
          clear HK
          have HK := HKd
          clear HKd
          refine hK.out _ _ HK.out.l (fun hHeld => ?_)
          clear hK K
          generalize (w5.alloc (.cells #[(.int .i64 (dr m s (2 * k + 1)))] 3)) = vu61 at *
          generalize w5.heap.size = p17 at *
          refine wpAnyH_ready (rs := [18]) (by kernel_rfl) (by simp) ?_
          refine AllReadyH.cons (by rw [List.getElem?_toArray]; rfl) (fun K hK => ?_) AllReadyH.nil
          clear hHeld
          rw [if_pos (by rfl)]
          refine wp_append_lies _ _ _ 29 rfl B 3 i0 (.int .i64 0) 1 8 Try.underlying29 hi hz0 hz1 hz2 rfl (by decide) vV k _ rfl HK.out.rv ⟨p17, 0, none⟩ 1 1 [(.int .i64 (dr m s (2 * k + 1)))] rfl rfl (one_news c17.out) (by simp [Value.oneCell']) (by decide) (by unfold maxLen; omega) (by omega) HK.out.sz _ rfl ?_
          intro g6 cap6 w6 hown6 hgrow6 hl6 hlt6
          have HKd := Lib.hid (HK.out.addV (by rw [show 2 * k = k + k by omega]) hown6 hgrow6 hl6)
          clear HK
          have HK := HKd
          clear HKd c17
          clear hown6 hgrow6 hl6 hlt6
          refine hK.out _ _ HK.out.l (fun hHeld => ?_)
          clear hK K
          refine wpAnyH_ready (rs := [20]) (by kernel_rfl) (by simp) ?_
          refine AllReadyH.cons (by rw [List.getElem?_toArray]; rfl) (fun K hK => ?_) AllReadyH.nil
          have c5 := cell_of_row _ gi 3 _ 32 _ HK.out.box
          have f5 : World.frozen? _ ⟨gi, 3, none⟩ = false := frozen_of_row _ gi 3 _ 32 HK.out.box
          simp at c5
          clear hHeld
          go_simp
          have HKd := Lib.hid (rs_put HK.out 3 (.slice (some ⟨g5, 0, none⟩) (k + 1) cap5) rfl)
          clear HK
          have HK := HKd
          clear HKd
          refine hK.out _ _ HK.out.l (fun hHeld => ?_)
          clear hK K c5 f5
          refine wpAnyH_take (i := 21) (v := ?vu62) (by rw [List.getElem?_toArray]; rfl) (by kernel_rfl) (by kernel_rfl) (by kernel_rfl) ?qu62 (Or.inl ⟨by rfl, ?yu62⟩) (by assumption) ?ru62
          case qu62 => exact fun c a w h => hP c a _ _ w h
          case yu62 => (intro wz hSw; go_simp; try (with_reducible rfl))
          simp only [Act.put, List.setIfInBounds_toArray, List.set_cons_zero, List.set_cons_succ]
          refine wpAnyH_ready (rs := [22]) (by kernel_rfl) (by simp) ?_
          refine AllReadyH.cons (by rw [List.getElem?_toArray]; rfl) (fun K hK => ?_) AllReadyH.nil
          have c5 := cell_of_row _ gi 4 _ 32 _ HK.out.box
          have f5 : World.frozen? _ ⟨gi, 4, none⟩ = false := frozen_of_row _ gi 4 _ 32 HK.out.box
          simp at c5
          clear hHeld
          go_simp
          have HKd := Lib.hid (rs_put HK.out 4 (.slice (some ⟨g6, 0, none⟩) (k + 1) cap6) rfl)
          clear HK
          have HK := HKd
          clear HKd
          refine hK.out _ _ HK.out.l (fun hHeld => ?_)
          clear hK K c5 f5 hHeld
          refine wpAnyH_done (by kernel_rfl) ?_ _
          exact HRT.out _ _ _ _ _ _ _ _ _ _ _ _ _ _ _ _ _ _ _ _ _ _ _ _ _ _ HK.out
        · clear hHeld
          go_simp
          have n17 := Lib.hid (row_fresh HK.out.rw)
          have c17 := Lib.hid (one_new vu53 (.int .i64 (dr m s (2 * k + 1))))
          have c7x := Lib.hid (one_alloc c7.out (.cells #[(.int .i64 (dr m s (2 * k + 1)))] 3))
          clear c7
          have c7 := c7x
          clear c7x
          have HKd := Lib.hid (HK.out.alloc (.cells #[(.int .i64 (dr m s (2 * k + 1)))] 3))
          clear HK
          have HK := HKd
          clear HKd
          refine hK.out _ _ HK.out.l (fun hHeld => ?_)
          clear hK K
          generalize (vu53.alloc (.cells #[(.int .i64 (dr m s (2 * k + 1)))] 3)) = vu63 at *
          generalize vu53.heap.size = p17 at *
          refine wpAnyH_ready (rs := [8]) (by kernel_rfl) (by simp) ?_
          refine AllReadyH.cons (by rw [List.getElem?_toArray]; rfl) (fun K hK => ?_) AllReadyH.nil
          clear hHeld
          rw [if_pos (by rfl)]
          refine wp_append_lies _ _ _ 29 rfl B 3 i0 (.int .i64 0) 1 8 Try.underlying29 hi hz0 hz1 hz2 rfl (by decide) vW k _ rfl HK.out.rw ⟨p7, 0, none⟩ 1 1 [(.int .i64 (dr m s (2 * k)))] rfl rfl (one_news c7.out) (by simp [Value.oneCell']) (by decide) (by unfold maxLen; omega) (by omega) HK.out.sz _ rfl ?_
          intro g5 cap5 w5 hown5 hgrow5 hl5 hlt5
          have HKd := Lib.hid (HK.out.addW (by rw [show 2 * k = k + k by omega]) hown5 hgrow5 hl5)
          clear HK
          have HK := HKd
          clear HKd c7
          have c17x := Lib.hid (one_kept c17.out hgrow5 n17.out)
          clear c17 n17
          have c17 := c17x
          clear c17x
          clear hown5 hgrow5 hl5 hlt5
          refine hK.out _ _ HK.out.l (fun hHeld => ?_)
          clear hK K
          refine wpAnyH_take (i := 19) (v := ?vu64) (by rw [List.getElem?_toArray]; rfl) (by kernel_rfl) (by kernel_rfl) (by kernel_rfl) ?qu64 (Or.inl ⟨by rfl, ?yu64⟩) (by assumption) ?ru64
          case qu64 => exact fun c a w h => hP c a _ _ w h
          case yu64 => (intro wz hSw; go_simp; try (with_reducible rfl))
          simp only [Act.put, List.setIfInBounds_toArray, List.set_cons_zero, List.set_cons_succ]
          refine wpAnyH_ready (rs := [18]) (by kernel_rfl) (by simp) ?_
          refine AllReadyH.cons (by rw [List.getElem?_toArray]; rfl) (fun K hK => ?_) AllReadyH.nil
          clear hHeld
          rw [if_pos (by rfl)]
          refine wp_append_lies _ _ _ 29 rfl B 3 i0 (.int .i64 0) 1 8 Try.underlying29 hi hz0 hz1 hz2 rfl (by decide) vV k _ rfl HK.out.rv ⟨p17, 0, none⟩ 1 1 [(.int .i64 (dr m s (2 * k + 1)))] rfl rfl (one_news c17.out) (by simp [Value.oneCell']) (by decide) (by unfold maxLen; omega) (by omega) HK.out.sz _ rfl ?_
          intro g6 cap6 w6 hown6 hgrow6 hl6 hlt6
          have HKd := Lib.hid (HK.out.addV (by rw [show 2 * k = k + k by omega]) hown6 hgrow6 hl6)
          clear HK
          have HK := HKd
          clear HKd c17
          clear hown6 hgrow6 hl6 hlt6
          refine hK.out _ _ HK.out.l (fun hHeld => ?_)
          clear hK K
          refine wpAnyH_ready (rs := [20]) (by kernel_rfl) (by simp) ?_
          refine AllReadyH.cons (by rw [List.getElem?_toArray]; rfl) (fun K hK => ?_) AllReadyH.nil
          have c5 := cell_of_row _ gi 3 _ 32 _ HK.out.box
          have f5 : World.frozen? _ ⟨gi, 3, none⟩ = false := frozen_of_row _ gi 3 _ 32 HK.out.box
          simp at c5
          clear hHeld
          go_simp
          have HKd := Lib.hid (rs_put HK.out 3 (.slice (some ⟨g5, 0, none⟩) (k + 1) cap5) rfl)
          clear HK
          have HK := HKd
          clear HKd
          refine hK.out _ _ HK.out.l (fun hHeld => ?_)
          clear hK K c5 f5
          refine wpAnyH_take (i := 21) (v := ?vu65) (by rw [List.getElem?_toArray]; rfl) (by kernel_rfl) (by kernel_rfl) (by kernel_rfl) ?qu65 (Or.inl ⟨by rfl, ?yu65⟩) (by assumption) ?ru65
          case qu65 => exact fun c a w h => hP c a _ _ w h
          case yu65 => (intro wz hSw; go_simp; try (with_reducible rfl))
          simp only [Act.put, List.setIfInBounds_toArray, List.set_cons_zero, List.set_cons_succ]
          refine wpAnyH_ready (rs := [22]) (by kernel_rfl) (by simp) ?_
          refine AllReadyH.cons (by rw [List.getElem?_toArray]; rfl) (fun K hK => ?_) AllReadyH.nil
          have c5 := cell_of_row _ gi 4 _ 32 _ HK.out.box
          have f5 : World.frozen? _ ⟨gi, 4, none⟩ = false := frozen_of_row _ gi 4 _ 32 HK.out.box
          simp at c5
          clear hHeld
          go_simp
          have HKd := Lib.hid (rs_put HK.out 4 (.slice (some ⟨g6, 0, none⟩) (k + 1) cap6) rfl)
          clear HK
          have HK := HKd
          clear HKd
          refine hK.out _ _ HK.out.l (fun hHeld => ?_)
          clear hK K c5 f5 hHeld
          refine wpAnyH_done (by kernel_rfl) ?_ _
          exact HRT.out _ _ _ _ _ _ _ _ _ _ _ _ _ _ _ _ _ _ _ _ _ _ _ _ _ _ HK.out
      · clear hHeld
        go_simp
        have n17 := Lib.hid (row_fresh HK.out.rw)
        have c17 := Lib.hid (one_new vu53 (.int .i64 (dr m s (2 * k + 1))))
        have c7x := Lib.hid (one_alloc c7.out (.cells #[(.int .i64 (dr m s (2 * k + 1)))] 3))
        clear c7
        have c7 := c7x
        clear c7x
        have HKd := Lib.hid (HK.out.alloc (.cells #[(.int .i64 (dr m s (2 * k + 1)))] 3))
        clear HK
        have HK := HKd
        clear HKd
        refine hK.out _ _ HK.out.l (fun hHeld => ?_)
        clear hK K
        generalize (vu53.alloc (.cells #[(.int .i64 (dr m s (2 * k + 1)))] 3)) = vu66 at *
        generalize vu53.heap.size = p17 at *
        refine wpAnyH_ready (rs := [8, 10]) (by kernel_rfl) (by simp) ?_
        refine AllReadyH.cons (by rw [List.getElem?_toArray]; rfl) (fun K hK => ?_) (AllReadyH.cons (by rw [List.getElem?_toArray]; rfl) (fun K hK => ?_) AllReadyH.nil)
        · clear hHeld
          rw [if_pos (by rfl)]
          refine wp_append_lies _ _ _ 29 rfl B 3 i0 (.int .i64 0) 1 8 Try.underlying29 hi hz0 hz1 hz2 rfl (by decide) vW k _ rfl HK.out.rw ⟨p7, 0, none⟩ 1 1 [(.int .i64 (dr m s (2 * k)))] rfl rfl (one_news c7.out) (by simp [Value.oneCell']) (by decide) (by unfold maxLen; omega) (by omega) HK.out.sz _ rfl ?_
          intro g5 cap5 w5 hown5 hgrow5 hl5 hlt5
          have HKd := Lib.hid (HK.out.addW (by rw [show 2 * k = k + k by omega]) hown5 hgrow5 hl5)
          clear HK
          have HK := HKd
          clear HKd c7
          have c17x := Lib.hid (one_kept c17.out hgrow5 n17.out)
          clear c17 n17
          have c17 := c17x
          clear c17x
          clear hown5 hgrow5 hl5 hlt5
          refine hK.out _ _ HK.out.l (fun hHeld => ?_)
          clear hK K
          refine wpAnyH_ready (rs := [10]) (by kernel_rfl) (by simp) ?_
          refine AllReadyH.cons (by rw [List.getElem?_toArray]; rfl) (fun K hK => ?_) AllReadyH.nil
          have c5 : w5.cell? ⟨gi, 4, none⟩ = some vV := cell_of_row _ gi 4 _ 32 _ HK.out.box
          clear hHeld
          go_simp
          refine hK.out _ _ HK.out.l (fun hHeld => ?_)
          clear hK K c5
          refine wpAnyH_take (i := 19) (v := ?vu67) (by rw [List.getElem?_toArray]; rfl) (by kernel_rfl) (by kernel_rfl) (by kernel_rfl) ?qu67 (Or.inl ⟨by rfl, ?yu67⟩) (by assumption) ?ru67
          case qu67 => exact fun c a w h => hP c a _ _ w h
          case yu67 => (intro wz hSw; go_simp; try (with_reducible rfl))
          simp only [Act.put, List.setIfInBounds_toArray, List.set_cons_zero, List.set_cons_succ]
          refine wpAnyH_ready (rs := [18]) (by kernel_rfl) (by simp) ?_
          refine AllReadyH.cons (by rw [List.getElem?_toArray]; rfl) (fun K hK => ?_) AllReadyH.nil
          clear hHeld
          rw [if_pos (by rfl)]
          refine wp_append_lies _ _ _ 29 rfl B 3 i0 (.int .i64 0) 1 8 Try.underlying29 hi hz0 hz1 hz2 rfl (by decide) vV k _ rfl HK.out.rv ⟨p17, 0, none⟩ 1 1 [(.int .i64 (dr m s (2 * k + 1)))] rfl rfl (one_news c17.out) (by simp [Value.oneCell']) (by decide) (by unfold maxLen; omega) (by omega) HK.out.sz _ rfl ?_
          intro g6 cap6 w6 hown6 hgrow6 hl6 hlt6
          have HKd := Lib.hid (HK.out.addV (by rw [show 2 * k = k + k by omega]) hown6 hgrow6 hl6)
          clear HK
          have HK := HKd
          clear HKd c17
          clear hown6 hgrow6 hl6 hlt6
          refine hK.out _ _ HK.out.l (fun hHeld => ?_)
          clear hK K
          refine wpAnyH_ready (rs := [20]) (by kernel_rfl) (by simp) ?_
          refine AllReadyH.cons (by rw [List.getElem?_toArray]; rfl) (fun K hK => ?_) AllReadyH.nil
          have c5 := cell_of_row _ gi 3 _ 32 _ HK.out.box
          have f5 : World.frozen? _ ⟨gi, 3, none⟩ = false := frozen_of_row _ gi 3 _ 32 HK.out.box
          simp at c5
          clear hHeld
          go_simp
          have HKd := Lib.hid (rs_put HK.out 3 (.slice (some ⟨g5, 0, none⟩) (k + 1) cap5) rfl)
          clear HK
          have HK := HKd
          clear HKd
          refine hK.out _ _ HK.out.l (fun hHeld => ?_)
          clear hK K c5 f5
          refine wpAnyH_take (i := 21) (v := ?vu68) (by rw [List.getElem?_toArray]; rfl) (by kernel_rfl) (by kernel_rfl) (by kernel_rfl) ?qu68 (Or.inl ⟨by rfl, ?yu68⟩) (by assumption) ?ru68
          case qu68 => exact fun c a w h => hP c a _ _ w h
          case yu68 => (intro wz hSw; go_simp; try (with_reducible rfl))
          simp only [Act.put, List.setIfInBounds_toArray, List.set_cons_zero, List.set_cons_succ]
          refine wpAnyH_ready (rs := [22]) (by kernel_rfl) (by simp) ?_
          refine AllReadyH.cons (by rw [List.getElem?_toArray]; rfl) (fun K hK => ?_) AllReadyH.nil
          have c5 := cell_of_row _ gi 4 _ 32 _ HK.out.box
          have f5 : World.frozen? _ ⟨gi, 4, none⟩ = false := frozen_of_row _ gi 4 _ 32 HK.out.box
          simp at c5
          clear hHeld
          go_simp
          have HKd := Lib.hid (rs_put HK.out 4 (.slice (some ⟨g6, 0, none⟩) (k + 1) cap6) rfl)
          clear HK
          have HK := HKd
          clear HKd
          refine hK.out _ _ HK.out.l (fun hHeld => ?_)
          clear hK K c5 f5 hHeld
          refine wpAnyH_done (by kernel_rfl) ?_ _
          exact HRT.out _ _ _ _ _ _ _ _ _ _ _ _ _ _ _ _ _ _ _ _ _ _ _ _ _ _ HK.out
        · have c5 : vu66.cell? ⟨gi, 4, none⟩ = some vV := cell_of_row _ gi 4 _ 32 _ HK.out.box
          clear hHeld
          go_simp
          refine hK.out _ _ HK.out.l (fun hHeld => ?_)
          clear hK K c5
          refine wpAnyH_ready (rs := [8]) (by kernel_rfl) (by simp) ?_
          refine AllReadyH.cons (by rw [List.getElem?_toArray]; rfl) (fun K hK => ?_) AllReadyH.nil
          clear hHeld
          rw [if_pos (by rfl)]
          refine wp_append_lies _ _ _ 29 rfl B 3 i0 (.int .i64 0) 1 8 Try.underlying29 hi hz0 hz1 hz2 rfl (by decide) vW k _ rfl HK.out.rw ⟨p7, 0, none⟩ 1 1 [(.int .i64 (dr m s (2 * k)))] rfl rfl (one_news c7.out) (by simp [Value.oneCell']) (by decide) (by unfold maxLen; omega) (by omega) HK.out.sz _ rfl ?_
          intro g5 cap5 w5 hown5 hgrow5 hl5 hlt5
          have HKd := Lib.hid (HK.out.addW (by rw [show 2 * k = k + k by omega]) hown5 hgrow5 hl5)
          clear HK
          have HK := HKd
          clear HKd c7
          have c17x := Lib.hid (one_kept c17.out hgrow5 n17.out)
          clear c17 n17
          have c17 := c17x
          clear c17x
          clear hown5 hgrow5 hl5 hlt5
          refine hK.out _ _ HK.out.l (fun hHeld => ?_)
          clear hK K
          refine wpAnyH_take (i := 19) (v := ?vu69) (by rw [List.getElem?_toArray]; rfl) (by kernel_rfl) (by kernel_rfl) (by kernel_rfl) ?qu69 (Or.inl ⟨by rfl, ?yu69⟩) (by assumption) ?ru69
          case qu69 => exact fun c a w h => hP c a _ _ w h
          case yu69 => (intro wz hSw; go_simp; try (with_reducible rfl))
          simp only [Act.put, List.setIfInBounds_toArray, List.set_cons_zero, List.set_cons_succ]
          refine wpAnyH_ready (rs := [18]) (by kernel_rfl) (by simp) ?_
          refine AllReadyH.cons (by rw [List.getElem?_toArray]; rfl) (fun K hK => ?_) AllReadyH.nil
          clear hHeld
          rw [if_pos (by rfl)]
          refine wp_append_lies _ _ _ 29 rfl B 3 i0 (.int .i64 0) 1 8 Try.underlying29 hi hz0 hz1 hz2 rfl (by decide) vV k _ rfl HK.out.rv ⟨p17, 0, none⟩ 1 1 [(.int .i64 (dr m s (2 * k + 1)))] rfl rfl (one_news c17.out) (by simp [Value.oneCell']) (by decide) (by unfold maxLen; omega) (by omega) HK.out.sz _ rfl ?_
          intro g6 cap6 w6 hown6 hgrow6 hl6 hlt6
          have HKd := Lib.hid (HK.out.addV (by rw [show 2 * k = k + k by omega]) hown6 hgrow6 hl6)
          clear HK
          have HK := HKd
          clear HKd c17
          clear hown6 hgrow6 hl6 hlt6
          refine hK.out _ _ HK.out.l (fun hHeld => ?_)
          clear hK K
          refine wpAnyH_ready (rs := [20]) (by kernel_rfl) (by simp) ?_
          refine AllReadyH.cons (by rw [List.getElem?_toArray]; rfl) (fun K hK => ?_) AllReadyH.nil
          have c5 := cell_of_row _ gi 3 _ 32 _ HK.out.box
          have f5 : World.frozen? _ ⟨gi, 3, none⟩ = false := frozen_of_row _ gi 3 _ 32 HK.out.box
          simp at c5
          clear hHeld
          go_simp
          have HKd := Lib.hid (rs_put HK.out 3 (.slice (some ⟨g5, 0, none⟩) (k + 1) cap5) rfl)
          clear HK
          have HK := HKd
          clear HKd
          refine hK.out _ _ HK.out.l (fun hHeld => ?_)
          clear hK K c5 f5
          refine wpAnyH_take (i := 21) (v := ?vu70) (by rw [List.getElem?_toArray]; rfl) (by kernel_rfl) (by kernel_rfl) (by kernel_rfl) ?qu70 (Or.inl ⟨by rfl, ?yu70⟩) (by assumption) ?ru70
          case qu70 => exact fun c a w h => hP c a _ _ w h
          case yu70 => (intro wz hSw; go_simp; try (with_reducible rfl))
          simp only [Act.put, List.setIfInBounds_toArray, List.set_cons_zero, List.set_cons_succ]
          refine wpAnyH_ready (rs := [22]) (by kernel_rfl) (by simp) ?_
          refine AllReadyH.cons (by rw [List.getElem?_toArray]; rfl) (fun K hK => ?_) AllReadyH.nil
          have c5 := cell_of_row _ gi 4 _ 32 _ HK.out.box
          have f5 : World.frozen? _ ⟨gi, 4, none⟩ = false := frozen_of_row _ gi 4 _ 32 HK.out.box
          simp at c5
          clear hHeld
          go_simp
          have HKd := Lib.hid (rs_put HK.out 4 (.slice (some ⟨g6, 0, none⟩) (k + 1) cap6) rfl)
          clear HK
          have HK := HKd
          clear HKd
          refine hK.out _ _ HK.out.l (fun hHeld => ?_)
          clear hK K c5 f5 hHeld
          refine wpAnyH_done (by kernel_rfl) ?_ _
          exact HRT.out _ _ _ _ _ _ _ _ _ _ _ _ _ _ _ _ _ _ _ _ _ _ _ _ _ _ HK.out
    · have c5 : vu53.cell? ⟨gi, 4, none⟩ = some vV := cell_of_row _ gi 4 _ 32 _ HK.out.box
      clear hHeld
      go_simp
      refine hK.out _ _ HK.out.l (fun hHeld => ?_)
      clear hK K c5
      refine wpAnyH_ready (rs := [1, 17]) (by kernel_rfl) (by simp) ?_
      refine AllReadyH.cons (by rw [List.getElem?_toArray]; rfl) (fun K hK => ?_) (AllReadyH.cons (by rw [List.getElem?_toArray]; rfl) (fun K hK => ?_) AllReadyH.nil)
      · have c5 : vu53.cell? ⟨gi, 3, none⟩ = some vW := cell_of_row _ gi 3 _ 32 _ HK.out.box
        clear hHeld
        go_simp
        refine hK.out _ _ HK.out.l (fun hHeld => ?_)
        clear hK K c5
        refine wpAnyH_ready (rs := [8, 17]) (by kernel_rfl) (by simp) ?_
        refine AllReadyH.cons (by rw [List.getElem?_toArray]; rfl) (fun K hK => ?_) (AllReadyH.cons (by rw [List.getElem?_toArray]; rfl) (fun K hK => ?_) AllReadyH.nil)
        · clear hHeld
          rw [if_pos (by rfl)]
          refine wp_append_lies _ _ _ 29 rfl B 3 i0 (.int .i64 0) 1 8 Try.underlying29 hi hz0 hz1 hz2 rfl (by decide) vW k _ rfl HK.out.rw ⟨p7, 0, none⟩ 1 1 [(.int .i64 (dr m s (2 * k)))] rfl rfl (one_news c7.out) (by simp [Value.oneCell']) (by decide) (by unfold maxLen; omega) (by omega) HK.out.sz _ rfl ?_
          intro g5 cap5 w5 hown5 hgrow5 hl5 hlt5
          have HKd := Lib.hid (HK.out.addW (by rw [show 2 * k = k + k by omega]) hown5 hgrow5 hl5)
          clear HK
          have HK := HKd
          clear HKd c7
          clear hown5 hgrow5 hl5 hlt5
          refine hK.out _ _ HK.out.l (fun hHeld => ?_)
          clear hK K
          refine wpAnyH_take (i := 19) (v := ?vu71) (by rw [List.getElem?_toArray]; rfl) (by kernel_rfl) (by kernel_rfl) (by kernel_rfl) ?qu71 (Or.inl ⟨by rfl, ?yu71⟩) (by assumption) ?ru71
          case qu71 => exact fun c a w h => hP c a _ _ w h
          case yu71 => (intro wz hSw; go_simp; try (with_reducible rfl))
          simp only [Act.put, List.setIfInBounds_toArray, List.set_cons_zero, List.set_cons_succ]
          refine wpAnyH_ready (rs := [17]) (by kernel_rfl) (by simp) ?_
          refine AllReadyH.cons (by rw [List.getElem?_toArray]; rfl) (fun K hK => ?_) AllReadyH.nil
          clear hHeld
          go_simp
          have c17 := Lib.hid (one_new w5 (.int .i64 (dr m s (2 * k + 1))))
          have HKd := Lib.hid (HK.out.alloc (.cells #[(.int .i64 (dr m s (2 * k + 1)))] 3))
          clear HK
          have HK := HKd
          clear HKd
          refine hK.out _ _ HK.out.l (fun hHeld => ?_)
          clear hK K
          generalize (w5.alloc (.cells #[(.int .i64 (dr m s (2 * k + 1)))] 3)) = vu72 at *
          generalize w5.heap.size = p17 at *
          refine wpAnyH_ready (rs := [18]) (by kernel_rfl) (by simp) ?_
          refine AllReadyH.cons (by rw [List.getElem?_toArray]; rfl) (fun K hK => ?_) AllReadyH.nil
          clear hHeld
          rw [if_pos (by rfl)]
          refine wp_append_lies _ _ _ 29 rfl B 3 i0 (.int .i64 0) 1 8 Try.underlying29 hi hz0 hz1 hz2 rfl (by decide) vV k _ rfl HK.out.rv ⟨p17, 0, none⟩ 1 1 [(.int .i64 (dr m s (2 * k + 1)))] rfl rfl (one_news c17.out) (by simp [Value.oneCell']) (by decide) (by unfold maxLen; omega) (by omega) HK.out.sz _ rfl ?_
          intro g6 cap6 w6 hown6 hgrow6 hl6 hlt6
          have HKd := Lib.hid (HK.out.addV (by rw [show 2 * k = k + k by omega]) hown6 hgrow6 hl6)
          clear HK
          have HK := HKd
          clear HKd c17
          clear hown6 hgrow6 hl6 hlt6
          refine hK.out _ _ HK.out.l (fun hHeld => ?_)
          clear hK K
          refine wpAnyH_ready (rs := [20]) (by kernel_rfl) (by simp) ?_
          refine AllReadyH.cons (by rw [List.getElem?_toArray]; rfl) (fun K hK => ?_) AllReadyH.nil
          have c5 := cell_of_row _ gi 3 _ 32 _ HK.out.box
          have f5 : World.frozen? _ ⟨gi, 3, none⟩ = false := frozen_of_row _ gi 3 _ 32 HK.out.box
          simp at c5
          clear hHeld
          go_simp
          have HKd := Lib.hid (rs_put HK.out 3 (.slice (some ⟨g5, 0, none⟩) (k + 1) cap5) rfl)
          clear HK
          have HK := HKd
          clear HKd
          refine hK.out _ _ HK.out.l (fun hHeld => ?_)
          clear hK K c5 f5
          refine wpAnyH_take (i := 21) (v := ?vu73) (by rw [List.getElem?_toArray]; rfl) (by kernel_rfl) (by kernel_rfl) (by kernel_rfl) ?qu73 (Or.inl ⟨by rfl, ?yu73⟩) (by assumption) ?ru73
          case qu73 => exact fun c a w h => hP c a _ _ w h
          case yu73 => (intro wz hSw; go_simp; try (with_reducible rfl))
          simp only [Act.put, List.setIfInBounds_toArray, List.set_cons_zero, List.set_cons_succ]
          refine wpAnyH_ready (rs := [22]) (by kernel_rfl) (by simp) ?_
          refine AllReadyH.cons (by rw [List.getElem?_toArray]; rfl) (fun K hK => ?_) AllReadyH.nil
          have c5 := cell_of_row _ gi 4 _ 32 _ HK.out.box
          have f5 : World.frozen? _ ⟨gi, 4, none⟩ = false := frozen_of_row _ gi 4 _ 32 HK.out.box
          simp at c5
          clear hHeld
          go_simp
          have HKd := Lib.hid (rs_put HK.out 4 (.slice (some ⟨g6, 0, none⟩) (k + 1) cap6) rfl)
          clear HK
          have HK := HKd
          clear HKd
          refine hK.out _ _ HK.out.l (fun hHeld => ?_)
          clear hK K c5 f5 hHeld
          refine wpAnyH_done (by kernel_rfl) ?_ _
          exact HRT.out _ _ _ _ _ _ _ _ _ _ _ _ _ _ _ _ _ _ _ _ _ _ _ _ _ _ HK.out
        · clear hHeld
          go_simp
          have n17 := Lib.hid (row_fresh HK.out.rw)
          have c17 := Lib.hid (one_new vu53 (.int .i64 (dr m s (2 * k + 1))))
          have c7x := Lib.hid (one_alloc c7.out (.cells #[(.int .i64 (dr m s (2 * k + 1)))] 3))
          clear c7
          have c7 := c7x
          clear c7x
          have HKd := Lib.hid (HK.out.alloc (.cells #[(.int .i64 (dr m s (2 * k + 1)))] 3))
          clear HK
          have HK := HKd
          clear HKd
          refine hK.out _ _ HK.out.l (fun hHeld => ?_)
          clear hK K
          generalize (vu53.alloc (.cells #[(.int .i64 (dr m s (2 * k + 1)))] 3)) = vu74 at *
          generalize vu53.heap.size = p17 at *
          refine wpAnyH_ready (rs := [8]) (by kernel_rfl) (by simp) ?_
          refine AllReadyH.cons (by rw [List.getElem?_toArray]; rfl) (fun K hK => ?_) AllReadyH.nil
          clear hHeld
          rw [if_pos (by rfl)]
          refine wp_append_lies _ _ _ 29 rfl B 3 i0 (.int .i64 0) 1 8 Try.underlying29 hi hz0 hz1 hz2 rfl (by decide) vW k _ rfl HK.out.rw ⟨p7, 0, none⟩ 1 1 [(.int .i64 (dr m s (2 * k)))] rfl rfl (one_news c7.out) (by simp [Value.oneCell']) (by decide) (by unfold maxLen; omega) (by omega) HK.out.sz _ rfl ?_
          intro g5 cap5 w5 hown5 hgrow5 hl5 hlt5
          have HKd := Lib.hid (HK.out.addW (by rw [show 2 * k = k + k by omega]) hown5 hgrow5 hl5)
          clear HK
          have HK := HKd
          clear HKd c7
          have c17x := Lib.hid (one_kept c17.out hgrow5 n17.out)
          clear c17 n17
          have c17 := c17x
          clear c17x
          clear hown5 hgrow5 hl5 hlt5
          refine hK.out _ _ HK.out.l (fun hHeld => ?_)
          clear hK K
          refine wpAnyH_take (i := 19) (v := ?vu75) (by rw [List.getElem?_toArray]; rfl) (by kernel_rfl) (by kernel_rfl) (by kernel_rfl) ?qu75 (Or.inl ⟨by rfl, ?yu75⟩) (by assumption) ?ru75
          case qu75 => exact fun c a w h => hP c a _ _ w h
          case yu75 => (intro wz hSw; go_simp; try (with_reducible rfl))
          simp only [Act.put, List.setIfInBounds_toArray, List.set_cons_zero, List.set_cons_succ]
          refine wpAnyH_ready (rs := [18]) (by kernel_rfl) (by simp) ?_
          refine AllReadyH.cons (by rw [List.getElem?_toArray]; rfl) (fun K hK => ?_) AllReadyH.nil
          clear hHeld
          rw [if_pos (by rfl)]
          refine wp_append_lies _ _ _ 29 rfl B 3 i0 (.int .i64 0) 1 8 Try.underlying29 hi hz0 hz1 hz2 rfl (by decide) vV k _ rfl HK.out.rv ⟨p17, 0, none⟩ 1 1 [(.int .i64 (dr m s (2 * k + 1)))] rfl rfl (one_news c17.out) (by simp [Value.oneCell']) (by decide) (by unfold maxLen; omega) (by omega) HK.out.sz _ rfl ?_
          intro g6 cap6 w6 hown6 hgrow6 hl6 hlt6
          have HKd := Lib.hid (HK.out.addV (by rw [show 2 * k = k + k by omega]) hown6 hgrow6 hl6)
          clear HK
          have HK := HKd
          clear HKd c17
          clear hown6 hgrow6 hl6 hlt6
          refine hK.out _ _ HK.out.l (fun hHeld => ?_)
          clear hK K
          refine wpAnyH_ready (rs := [20]) (by kernel_rfl) (by simp) ?_
          refine AllReadyH.cons (by rw [List.getElem?_toArray]; rfl) (fun K hK => ?_) AllReadyH.nil
          have c5 := cell_of_row _ gi 3 _ 32 _ HK.out.box
          have f5 : World.frozen? _ ⟨gi, 3, none⟩ = false := frozen_of_row _ gi 3 _ 32 HK.out.box
          simp at c5
          clear hHeld
          go_simp
          have HKd := Lib.hid (rs_put HK.out 3 (.slice (some ⟨g5, 0, none⟩) (k + 1) cap5) rfl)
          clear HK
          have HK := HKd
          clear HKd
          refine hK.out _ _ HK.out.l (fun hHeld => ?_)
          clear hK K c5 f5
          refine wpAnyH_take (i := 21) (v := ?vu76) (by rw [List.getElem?_toArray]; rfl) (by kernel_rfl) (by kernel_rfl) (by kernel_rfl) ?qu76 (Or.inl ⟨by rfl, ?yu76⟩) (by assumption) ?ru76
          case qu76 => exact fun c a w h => hP c a _ _ w h
          case yu76 => (intro wz hSw; go_simp; try (with_reducible rfl))
          simp only [Act.put, List.setIfInBounds_toArray, List.set_cons_zero, List.set_cons_succ]
          refine wpAnyH_ready (rs := [22]) (by kernel_rfl) (by simp) ?_
          refine AllReadyH.cons (by rw [List.getElem?_toArray]; rfl) (fun K hK => ?_) AllReadyH.nil
          have c5 := cell_of_row _ gi 4 _ 32 _ HK.out.box
          have f5 : World.frozen? _ ⟨gi, 4, none⟩ = false := frozen_of_row _ gi 4 _ 32 HK.out.box
          simp at c5
          clear hHeld
          go_simp
          have HKd := Lib.hid (rs_put HK.out 4 (.slice (some ⟨g6, 0, none⟩) (k + 1) cap6) rfl)
          clear HK
          have HK := HKd
          clear HKd
          refine hK.out _ _ HK.out.l (fun hHeld => ?_)
          clear hK K c5 f5 hHeld
          refine wpAnyH_done (by kernel_rfl) ?_ _
          exact HRT.out _ _ _ _ _ _ _ _ _ _ _ _ _ _ _ _ _ _ _ _ _ _ _ _ _ _ HK.out
      · clear hHeld
        go_simp
        have n17 := Lib.hid (row_fresh HK.out.rw)
        have c17 := Lib.hid (one_new vu53 (.int .i64 (dr m s (2 * k + 1))))
        have c7x := Lib.hid (one_alloc c7.out (.cells #[(.int .i64 (dr m s (2 * k + 1)))] 3))
        clear c7
        have c7 := c7x
        clear c7x
        have HKd := Lib.hid (HK.out.alloc (.cells #[(.int .i64 (dr m s (2 * k + 1)))] 3))
        clear HK
        have HK := HKd
        clear HKd
        refine hK.out _ _ HK.out.l (fun hHeld => ?_)
        clear hK K
        generalize (vu53.alloc (.cells #[(.int .i64 (dr m s (2 * k + 1)))] 3)) = vu77 at *
        generalize vu53.heap.size = p17 at *
        refine wpAnyH_ready (rs := [1]) (by kernel_rfl) (by simp) ?_
        refine AllReadyH.cons (by rw [List.getElem?_toArray]; rfl) (fun K hK => ?_) AllReadyH.nil
        have c5 : vu77.cell? ⟨gi, 3, none⟩ = some vW := cell_of_row _ gi 3 _ 32 _ HK.out.box
        clear hHeld
        go_simp
        refine hK.out _ _ HK.out.l (fun hHeld => ?_)
        clear hK K c5
        refine wpAnyH_ready (rs := [8]) (by kernel_rfl) (by simp) ?_
        refine AllReadyH.cons (by rw [List.getElem?_toArray]; rfl) (fun K hK => ?_) AllReadyH.nil
        clear hHeld
        rw [if_pos (by rfl)]
        refine wp_append_lies _ _ _ 29 rfl B 3 i0 (.int .i64 0) 1 8 Try.underlying29 hi hz0 hz1 hz2 rfl (by decide) vW k _ rfl HK.out.rw ⟨p7, 0, none⟩ 1 1 [(.int .i64 (dr m s (2 * k)))] rfl rfl (one_news c7.out) (by simp [Value.oneCell']) (by decide) (by unfold maxLen; omega) (by omega) HK.out.sz _ rfl ?_
        intro g5 cap5 w5 hown5 hgrow5 hl5 hlt5
        have HKd := Lib.hid (HK.out.addW (by rw [show 2 * k = k + k by omega]) hown5 hgrow5 hl5)
        clear HK
        have HK := HKd
        clear HKd c7
        have c17x := Lib.hid (one_kept c17.out hgrow5 n17.out)
        clear c17 n17
        have c17 := c17x
        clear c17x
        clear hown5 hgrow5 hl5 hlt5
        refine hK.out _ _ HK.out.l (fun hHeld => ?_)
        clear hK K
        refine wpAnyH_take (i := 19) (v := ?vu78) (by rw [List.getElem?_toArray]; rfl) (by kernel_rfl) (by kernel_rfl) (by kernel_rfl) ?qu78 (Or.inl ⟨by rfl, ?yu78⟩) (by assumption) ?ru78
        case qu78 => exact fun c a w h => hP c a _ _ w h
        case yu78 => (intro wz hSw; go_simp; try (with_reducible rfl))
        simp only [Act.put, List.setIfInBounds_toArray, List.set_cons_zero, List.set_cons_succ]
        refine wpAnyH_ready (rs := [18]) (by kernel_rfl) (by simp) ?_
        refine AllReadyH.cons (by rw [List.getElem?_toArray]; rfl) (fun K hK => ?_) AllReadyH.nil
        clear hHeld
        rw [if_pos (by rfl)]
        refine wp_append_lies _ _ _ 29 rfl B 3 i0 (.int .i64 0) 1 8 Try.underlying29 hi hz0 hz1 hz2 rfl (by decide) vV k _ rfl HK.out.rv ⟨p17, 0, none⟩ 1 1 [(.int .i64 (dr m s (2 * k + 1)))] rfl rfl (one_news c17.out) (by simp [Value.oneCell']) (by decide) (by unfold maxLen; omega) (by omega) HK.out.sz _ rfl ?_
        intro g6 cap6 w6 hown6 hgrow6 hl6 hlt6
        have HKd := Lib.hid (HK.out.addV (by rw [show 2 * k = k + k by omega]) hown6 hgrow6 hl6)
        clear HK
        have HK := HKd
        clear HKd c17
        clear hown6 hgrow6 hl6 hlt6
        refine hK.out _ _ HK.out.l (fun hHeld => ?_)
        clear hK K
        refine wpAnyH_ready (rs := [20]) (by kernel_rfl) (by simp) ?_
        refine AllReadyH.cons (by rw [List.getElem?_toArray]; rfl) (fun K hK => ?_) AllReadyH.nil
        have c5 := cell_of_row _ gi 3 _ 32 _ HK.out.box
        have f5 : World.frozen? _ ⟨gi, 3, none⟩ = false := frozen_of_row _ gi 3 _ 32 HK.out.box
        simp at c5
        clear hHeld
        go_simp
        have HKd := Lib.hid (rs_put HK.out 3 (.slice (some ⟨g5, 0, none⟩) (k + 1) cap5) rfl)
        clear HK
        have HK := HKd
        clear HKd
        refine hK.out _ _ HK.out.l (fun hHeld => ?_)
        clear hK K c5 f5
        refine wpAnyH_take (i := 21) (v := ?vu79) (by rw [List.getElem?_toArray]; rfl) (by kernel_rfl) (by kernel_rfl) (by kernel_rfl) ?qu79 (Or.inl ⟨by rfl, ?yu79⟩) (by assumption) ?ru79
        case qu79 => exact fun c a w h => hP c a _ _ w h
        case yu79 => (intro wz hSw; go_simp; try (with_reducible rfl))
        simp only [Act.put, List.setIfInBounds_toArray, List.set_cons_zero, List.set_cons_succ]
        refine wpAnyH_ready (rs := [22]) (by kernel_rfl) (by simp) ?_
        refine AllReadyH.cons (by rw [List.getElem?_toArray]; rfl) (fun K hK => ?_) AllReadyH.nil
        have c5 := cell_of_row _ gi 4 _ 32 _ HK.out.box
        have f5 : World.frozen? _ ⟨gi, 4, none⟩ = false := frozen_of_row _ gi 4 _ 32 HK.out.box
        simp at c5
        clear hHeld
        go_simp
        have HKd := Lib.hid (rs_put HK.out 4 (.slice (some ⟨g6, 0, none⟩) (k + 1) cap6) rfl)
        clear HK
        have HK := HKd
        clear HKd
        refine hK.out _ _ HK.out.l (fun hHeld => ?_)
        clear hK K c5 f5 hHeld
        refine wpAnyH_done (by kernel_rfl) ?_ _
        exact HRT.out _ _ _ _ _ _ _ _ _ _ _ _ _ _ _ _ _ _ _ _ _ _ _ _ _ _ HK.out
    · clear hHeld
      go_simp
      have n17 := Lib.hid (row_fresh HK.out.rw)
      have c17 := Lib.hid (one_new vu53 (.int .i64 (dr m s (2 * k + 1))))
      have c7x := Lib.hid (one_alloc c7.out (.cells #[(.int .i64 (dr m s (2 * k + 1)))] 3))
      clear c7
      have c7 := c7x
      clear c7x
      have HKd := Lib.hid (HK.out.alloc (.cells #[(.int .i64 (dr m s (2 * k + 1)))] 3))
      clear HK
      have HK := HKd
      clear HKd
      refine hK.out _ _ HK.out.l (fun hHeld => ?_)
      clear hK K
      generalize (vu53.alloc (.cells #[(.int .i64 (dr m s (2 * k + 1)))] 3)) = vu80 at *
      generalize vu53.heap.size = p17 at *
      refine wpAnyH_ready (rs := [1, 10]) (by kernel_rfl) (by simp) ?_
      refine AllReadyH.cons (by rw [List.getElem?_toArray]; rfl) (fun K hK => ?_) (AllReadyH.cons (by rw [List.getElem?_toArray]; rfl) (fun K hK => ?_) AllReadyH.nil)
      · have c5 : vu80.cell? ⟨gi, 3, none⟩ = some vW := cell_of_row _ gi 3 _ 32 _ HK.out.box
        clear hHeld
        go_simp
        refine hK.out _ _ HK.out.l (fun hHeld => ?_)
        clear hK K c5
        refine wpAnyH_ready (rs := [8, 10]) (by kernel_rfl) (by simp) ?_
        refine AllReadyH.cons (by rw [List.getElem?_toArray]; rfl) (fun K hK => ?_) (AllReadyH.cons (by rw [List.getElem?_toArray]; rfl) (fun K hK => ?_) AllReadyH.nil)
        · clear hHeld
          rw [if_pos (by rfl)]
          refine wp_append_lies _ _ _ 29 rfl B 3 i0 (.int .i64 0) 1 8 Try.underlying29 hi hz0 hz1 hz2 rfl (by decide) vW k _ rfl HK.out.rw ⟨p7, 0, none⟩ 1 1 [(.int .i64 (dr m s (2 * k)))] rfl rfl (one_news c7.out) (by simp [Value.oneCell']) (by decide) (by unfold maxLen; omega) (by omega) HK.out.sz _ rfl ?_
          intro g5 cap5 w5 hown5 hgrow5 hl5 hlt5
          have HKd := Lib.hid (HK.out.addW (by rw [show 2 * k = k + k by omega]) hown5 hgrow5 hl5)
          clear HK
          have HK := HKd
          clear HKd c7
          have c17x := Lib.hid (one_kept c17.out hgrow5 n17.out)
          clear c17 n17
          have c17 := c17x
          clear c17x
          clear hown5 hgrow5 hl5 hlt5
          refine hK.out _ _ HK.out.l (fun hHeld => ?_)
          clear hK K
          refine wpAnyH_ready (rs := [10]) (by kernel_rfl) (by simp) ?_
          refine AllReadyH.cons (by rw [List.getElem?_toArray]; rfl) (fun K hK => ?_) AllReadyH.nil
          have c5 : w5.cell? ⟨gi, 4, none⟩ = some vV := cell_of_row _ gi 4 _ 32 _ HK.out.box
          clear hHeld
          go_simp
          refine hK.out _ _ HK.out.l (fun hHeld => ?_)
          clear hK K c5
          refine wpAnyH_take (i := 19) (v := ?vu81) (by rw [List.getElem?_toArray]; rfl) (by kernel_rfl) (by kernel_rfl) (by kernel_rfl) ?qu81 (Or.inl ⟨by rfl, ?yu81⟩) (by assumption) ?ru81
          case qu81 => exact fun c a w h => hP c a _ _ w h
          case yu81 => (intro wz hSw; go_simp; try (with_reducible rfl))
          simp only [Act.put, List.setIfInBounds_toArray, List.set_cons_zero, List.set_cons_succ]
          refine wpAnyH_ready (rs := [18]) (by kernel_rfl) (by simp) ?_
          refine AllReadyH.cons (by rw [List.getElem?_toArray]; rfl) (fun K hK => ?_) AllReadyH.nil
          clear hHeld
          rw [if_pos (by rfl)]
          refine wp_append_lies _ _ _ 29 rfl B 3 i0 (.int .i64 0) 1 8 Try.underlying29 hi hz0 hz1 hz2 rfl (by decide) vV k _ rfl HK.out.rv ⟨p17, 0, none⟩ 1 1 [(.int .i64 (dr m s (2 * k + 1)))] rfl rfl (one_news c17.out) (by simp [Value.oneCell']) (by decide) (by unfold maxLen; omega) (by omega) HK.out.sz _ rfl ?_
          intro g6 cap6 w6 hown6 hgrow6 hl6 hlt6
          have HKd := Lib.hid (HK.out.addV (by rw [show 2 * k = k + k by omega]) hown6 hgrow6 hl6)
          clear HK
          have HK := HKd
          clear HKd c17
          clear hown6 hgrow6 hl6 hlt6
          refine hK.out _ _ HK.out.l (fun hHeld => ?_)
          clear hK K
          refine wpAnyH_ready (rs := [20]) (by kernel_rfl) (by simp) ?_
          refine AllReadyH.cons (by rw [List.getElem?_toArray]; rfl) (fun K hK => ?_) AllReadyH.nil
          have c5 := cell_of_row _ gi 3 _ 32 _ HK.out.box
          have f5 : World.frozen? _ ⟨gi, 3, none⟩ = false := frozen_of_row _ gi 3 _ 32 HK.out.box
          simp at c5
          clear hHeld
          go_simp
          have HKd := Lib.hid (rs_put HK.out 3 (.slice (some ⟨g5, 0, none⟩) (k + 1) cap5) rfl)
          clear HK
          have HK := HKd
          clear HKd
          refine hK.out _ _ HK.out.l (fun hHeld => ?_)
          clear hK K c5 f5
          refine wpAnyH_take (i := 21) (v := ?vu82) (by rw [List.getElem?_toArray]; rfl) (by kernel_rfl) (by kernel_rfl) (by kernel_rfl) ?qu82 (Or.inl ⟨by rfl, ?yu82⟩) (by assumption) ?ru82
          case qu82 => exact fun c a w h => hP c a _ _ w h
          case yu82 => (intro wz hSw; go_simp; try (with_reducible rfl))
          simp only [Act.put, List.setIfInBounds_toArray, List.set_cons_zero, List.set_cons_succ]
          refine wpAnyH_ready (rs := [22]) (by kernel_rfl) (by simp) ?_
          refine AllReadyH.cons (by rw [List.getElem?_toArray]; rfl) (fun K hK => ?_) AllReadyH.nil
          have c5 := cell_of_row _ gi 4 _ 32 _ HK.out.box
          have f5 : World.frozen? _ ⟨gi, 4, none⟩ = false := frozen_of_row _ gi 4 _ 32 HK.out.box
          simp at c5
          clear hHeld
          go_simp
          have HKd := Lib.hid (rs_put HK.out 4 (.slice (some ⟨g6, 0, none⟩) (k + 1) cap6) rfl)
          clear HK
          have HK := HKd
          clear HKd
          refine hK.out _ _ HK.out.l (fun hHeld => ?_)
          clear hK K c5 f5 hHeld
          refine wpAnyH_done (by kernel_rfl) ?_ _
          exact HRT.out _ _ _ _ _ _ _ _ _ _ _ _ _ _ _ _ _ _ _ _ _ _ _ _ _ _ HK.out
        · have c5 : vu80.cell? ⟨gi, 4, none⟩ = some vV := cell_of_row _ gi 4 _ 32 _ HK.out.box
          clear hHeld
          go_simp
          refine hK.out _ _ HK.out.l (fun hHeld => ?_)
          clear hK K c5
          refine wpAnyH_ready (rs := [8]) (by kernel_rfl) (by simp) ?_
          refine AllReadyH.cons (by rw [List.getElem?_toArray]; rfl) (fun K hK => ?_) AllReadyH.nil
          clear hHeld
          rw [if_pos (by rfl)]
          refine wp_append_lies _ _ _ 29 rfl B 3 i0 (.int .i64 0) 1 8 Try.underlying29 hi hz0 hz1 hz2 rfl (by decide) vW k _ rfl HK.out.rw ⟨p7, 0, none⟩ 1 1 [(.int .i64 (dr m s (2 * k)))] rfl rfl (one_news c7.out) (by simp [Value.oneCell']) (by decide) (by unfold maxLen; omega) (by omega) HK.out.sz _ rfl ?_
          intro g5 cap5 w5 hown5 hgrow5 hl5 hlt5
          have HKd := Lib.hid (HK.out.addW (by rw [show 2 * k = k + k by omega]) hown5 hgrow5 hl5)
          clear HK
          have HK := HKd
          clear HKd c7
          have c17x := Lib.hid (one_kept c17.out hgrow5 n17.out)
          clear c17 n17
          have c17 := c17x
          clear c17x
          clear hown5 hgrow5 hl5 hlt5
          refine hK.out _ _ HK.out.l (fun hHeld => ?_)
          clear hK K
          refine wpAnyH_take (i := 19) (v := ?vu83) (by rw [List.getElem?_toArray]; rfl) (by kernel_rfl) (by kernel_rfl) (by kernel_rfl) ?qu83 (Or.inl ⟨by rfl, ?yu83⟩) (by assumption) ?ru83
          case qu83 => exact fun c a w h => hP c a _ _ w h
          case yu83 => (intro wz hSw; go_simp; try (with_reducible rfl))
          simp only [Act.put, List.setIfInBounds_toArray, List.set_cons_zero, List.set_cons_succ]
          refine wpAnyH_ready (rs := [18]) (by kernel_rfl) (by simp) ?_
          refine AllReadyH.cons (by rw [List.getElem?_toArray]; rfl) (fun K hK => ?_) AllReadyH.nil
          clear hHeld
          rw [if_pos (by rfl)]
          refine wp_append_lies _ _ _ 29 rfl B 3 i0 (.int .i64 0) 1 8 Try.underlying29 hi hz0 hz1 hz2 rfl (by decide) vV k _ rfl HK.out.rv ⟨p17, 0, none⟩ 1 1 [(.int .i64 (dr m s (2 * k + 1)))] rfl rfl (one_news c17.out) (by simp [Value.oneCell']) (by decide) (by unfold maxLen; omega) (by omega) HK.out.sz _ rfl ?_
          intro g6 cap6 w6 hown6 hgrow6 hl6 hlt6
          have HKd := Lib.hid (HK.out.addV (by rw [show 2 * k = k + k by omega]) hown6 hgrow6 hl6)
          clear HK
          have HK := HKd
          clear HKd c17
          clear hown6 hgrow6 hl6 hlt6
          refine hK.out _ _ HK.out.l (fun hHeld => ?_)
          clear hK K
          refine wpAnyH_ready (rs := [20]) (by kernel_rfl) (by simp) ?_
          refine AllReadyH.cons (by rw [List.getElem?_toArray]; rfl) (fun K hK => ?_) AllReadyH.nil
          have c5 := cell_of_row _ gi 3 _ 32 _ HK.out.box
          have f5 : World.frozen? _ ⟨gi, 3, none⟩ = false := frozen_of_row _ gi 3 _ 32 HK.out.box
          simp at c5
          clear hHeld
          go_simp
          have HKd := Lib.hid (rs_put HK.out 3 (.slice (some ⟨g5, 0, none⟩) (k + 1) cap5) rfl)
          clear HK
          have HK := HKd
          clear HKd
          refine hK.out _ _ HK.out.l (fun hHeld => ?_)
          clear hK K c5 f5
          refine wpAnyH_take (i := 21) (v := ?vu84) (by rw [List.getElem?_toArray]; rfl) (by kernel_rfl) (by kernel_rfl) (by kernel_rfl) ?qu84 (Or.inl ⟨by rfl, ?yu84⟩) (by assumption) ?ru84
          case qu84 => exact fun c a w h => hP c a _ _ w h
          case yu84 => (intro wz hSw; go_simp; try (with_reducible rfl))
          simp only [Act.put, List.setIfInBounds_toArray, List.set_cons_zero, List.set_cons_succ]
          refine wpAnyH_ready (rs := [22]) (by kernel_rfl) (by simp) ?_
          refine AllReadyH.cons (by rw [List.getElem?_toArray]; rfl) (fun K hK => ?_) AllReadyH.nil
          have c5 := cell_of_row _ gi 4 _ 32 _ HK.out.box
          have f5 : World.frozen? _ ⟨gi, 4, none⟩ = false := frozen_of_row _ gi 4 _ 32 HK.out.box
          simp at c5
          clear hHeld
          go_simp
          have HKd := Lib.hid (rs_put HK.out 4 (.slice (some ⟨g6, 0, none⟩) (k + 1) cap6) rfl)
          clear HK
          have HK := HKd
          clear HKd
          refine hK.out _ _ HK.out.l (fun hHeld => ?_)
          clear hK K c5 f5 hHeld
          refine wpAnyH_done (by kernel_rfl) ?_ _
          exact HRT.out _ _ _ _ _ _ _ _ _ _ _ _ _ _ _ _ _ _ _ _ _ _ _ _ _ _ HK.out
      · have c5 : vu80.cell? ⟨gi, 4, none⟩ = some vV := cell_of_row _ gi 4 _ 32 _ HK.out.box
        clear hHeld
        go_simp
        refine hK.out _ _ HK.out.l (fun hHeld => ?_)
        clear hK K c5
        refine wpAnyH_ready (rs := [1]) (by kernel_rfl) (by simp) ?_
        refine AllReadyH.cons (by rw [List.getElem?_toArray]; rfl) (fun K hK => ?_) AllReadyH.nil
        have c5 : vu80.cell? ⟨gi, 3, none⟩ = some vW := cell_of_row _ gi 3 _ 32 _ HK.out.box
        clear hHeld
        go_simp
        refine hK.out _ _ HK.out.l (fun hHeld => ?_)
        clear hK K c5
        refine wpAnyH_ready (rs := [8]) (by kernel_rfl) (by simp) ?_
        refine AllReadyH.cons (by rw [List.getElem?_toArray]; rfl) (fun K hK => ?_) AllReadyH.nil
        clear hHeld
        rw [if_pos (by rfl)]
        refine wp_append_lies _ _ _ 29 rfl B 3 i0 (.int .i64 0) 1 8 Try.underlying29 hi hz0 hz1 hz2 rfl (by decide) vW k _ rfl HK.out.rw ⟨p7, 0, none⟩ 1 1 [(.int .i64 (dr m s (2 * k)))] rfl rfl (one_news c7.out) (by simp [Value.oneCell']) (by decide) (by unfold maxLen; omega) (by omega) HK.out.sz _ rfl ?_
        intro g5 cap5 w5 hown5 hgrow5 hl5 hlt5
        have HKd := Lib.hid (HK.out.addW (by rw [show 2 * k = k + k by omega]) hown5 hgrow5 hl5)
        clear HK
        have HK := HKd
        clear HKd c7
        have c17x := Lib.hid (one_kept c17.out hgrow5 n17.out)
        clear c17 n17
        have c17 := c17x
        clear c17x
        clear hown5 hgrow5 hl5 hlt5
        refine hK.out _ _ HK.out.l (fun hHeld => ?_)
        clear hK K
        refine wpAnyH_take (i := 19) (v := ?vu85) (by rw [List.getElem?_toArray]; rfl) (by kernel_rfl) (by kernel_rfl) (by kernel_rfl) ?qu85 (Or.inl ⟨by rfl, ?yu85⟩) (by assumption) ?ru85
        case qu85 => exact fun c a w h => hP c a _ _ w h
        case yu85 => (intro wz hSw; go_simp; try (with_reducible rfl))
        simp only [Act.put, List.setIfInBounds_toArray, List.set_cons_zero, List.set_cons_succ]
        refine wpAnyH_ready (rs := [18]) (by kernel_rfl) (by simp) ?_
        refine AllReadyH.cons (by rw [List.getElem?_toArray]; rfl) (fun K hK => ?_) AllReadyH.nil
        clear hHeld
        rw [if_pos (by rfl)]
        refine wp_append_lies _ _ _ 29 rfl B 3 i0 (.int .i64 0) 1 8 Try.underlying29 hi hz0 hz1 hz2 rfl (by decide) vV k _ rfl HK.out.rv ⟨p17, 0, none⟩ 1 1 [(.int .i64 (dr m s (2 * k + 1)))] rfl rfl (one_news c17.out) (by simp [Value.oneCell']) (by decide) (by unfold maxLen; omega) (by omega) HK.out.sz _ rfl ?_
        intro g6 cap6 w6 hown6 hgrow6 hl6 hlt6
        have HKd := Lib.hid (HK.out.addV (by rw [show 2 * k = k + k by omega]) hown6 hgrow6 hl6)
        clear HK
        have HK := HKd
        clear HKd c17
        clear hown6 hgrow6 hl6 hlt6
        refine hK.out _ _ HK.out.l (fun hHeld => ?_)
        clear hK K
        refine wpAnyH_ready (rs := [20]) (by kernel_rfl) (by simp) ?_
        refine AllReadyH.cons (by rw [List.getElem?_toArray]; rfl) (fun K hK => ?_) AllReadyH.nil
        have c5 := cell_of_row _ gi 3 _ 32 _ HK.out.box
        have f5 : World.frozen? _ ⟨gi, 3, none⟩ = false := frozen_of_row _ gi 3 _ 32 HK.out.box
        simp at c5
        clear hHeld
        go_simp
        have HKd := Lib.hid (rs_put HK.out 3 (.slice (some ⟨g5, 0, none⟩) (k + 1) cap5) rfl)
        clear HK
        have HK := HKd
        clear HKd
        refine hK.out _ _ HK.out.l (fun hHeld => ?_)
        clear hK K c5 f5
        refine wpAnyH_take (i := 21) (v := ?vu86) (by rw [List.getElem?_toArray]; rfl) (by kernel_rfl) (by kernel_rfl) (by kernel_rfl) ?qu86 (Or.inl ⟨by rfl, ?yu86⟩) (by assumption) ?ru86
        case qu86 => exact fun c a w h => hP c a _ _ w h
        case yu86 => (intro wz hSw; go_simp; try (with_reducible rfl))
        simp only [Act.put, List.setIfInBounds_toArray, List.set_cons_zero, List.set_cons_succ]
        refine wpAnyH_ready (rs := [22]) (by kernel_rfl) (by simp) ?_
        refine AllReadyH.cons (by rw [List.getElem?_toArray]; rfl) (fun K hK => ?_) AllReadyH.nil
        have c5 := cell_of_row _ gi 4 _ 32 _ HK.out.box
        have f5 : World.frozen? _ ⟨gi, 4, none⟩ = false := frozen_of_row _ gi 4 _ 32 HK.out.box
        simp at c5
        clear hHeld
        go_simp
        have HKd := Lib.hid (rs_put HK.out 4 (.slice (some ⟨g6, 0, none⟩) (k + 1) cap6) rfl)
        clear HK
        have HK := HKd
        clear HKd
        refine hK.out _ _ HK.out.l (fun hHeld => ?_)
        clear hK K c5 f5 hHeld
        refine wpAnyH_done (by kernel_rfl) ?_ _
        exact HRT.out _ _ _ _ _ _ _ _ _ _ _ _ _ _ _ _ _ _ _ _ _ _ _ _ _ _ HK.out
  · have c5 : vu1.cell? ⟨gi, 4, none⟩ = some vV := cell_of_row _ gi 4 _ 32 _ HK.out.box
    clear hHeld
    go_simp
    refine hK.out _ _ HK.out.l (fun hHeld => ?_)
    clear hK K c5
    refine wpAnyH_ready (rs := [1, 7, 17]) (by kernel_rfl) (by simp) ?_
    refine AllReadyH.cons (by rw [List.getElem?_toArray]; rfl) (fun K hK => ?_) (AllReadyH.cons (by rw [List.getElem?_toArray]; rfl) (fun K hK => ?_) (AllReadyH.cons (by rw [List.getElem?_toArray]; rfl) (fun K hK => ?_) AllReadyH.nil))
    · have c5 : vu1.cell? ⟨gi, 3, none⟩ = some vW := cell_of_row _ gi 3 _ 32 _ HK.out.box
      clear hHeld
      go_simp
      refine hK.out _ _ HK.out.l (fun hHeld => ?_)
      clear hK K c5
      refine wpAnyH_ready (rs := [7, 17]) (by kernel_rfl) (by simp) ?_
      refine AllReadyH.cons (by rw [List.getElem?_toArray]; rfl) (fun K hK => ?_) (AllReadyH.cons (by rw [List.getElem?_toArray]; rfl) (fun K hK => ?_) AllReadyH.nil)
      · clear hHeld
        go_simp
        have c7 := Lib.hid (one_new vu1 (.int .i64 (dr m s (2 * k))))
        have HKd := Lib.hid (HK.out.alloc (.cells #[(.int .i64 (dr m s (2 * k)))] 3))
        clear HK
        have HK := HKd
        clear HKd
        refine hK.out _ _ HK.out.l (fun hHeld => ?_)
        clear hK K
        generalize (vu1.alloc (.cells #[(.int .i64 (dr m s (2 * k)))] 3)) = vu87 at *
        generalize vu1.heap.size = p7 at *
        refine wpAnyH_ready (rs := [8, 17]) (by kernel_rfl) (by simp) ?_
        refine AllReadyH.cons (by rw [List.getElem?_toArray]; rfl) (fun K hK => ?_) (AllReadyH.cons (by rw [List.getElem?_toArray]; rfl) (fun K hK => ?_) AllReadyH.nil)
        · clear hHeld
          rw [if_pos (by rfl)]
          refine wp_append_lies _ _ _ 29 rfl B 3 i0 (.int .i64 0) 1 8 Try.underlying29 hi hz0 hz1 hz2 rfl (by decide) vW k _ rfl HK.out.rw ⟨p7, 0, none⟩ 1 1 [(.int .i64 (dr m s (2 * k)))] rfl rfl (one_news c7.out) (by simp [Value.oneCell']) (by decide) (by unfold maxLen; omega) (by omega) HK.out.sz _ rfl ?_
          intro g5 cap5 w5 hown5 hgrow5 hl5 hlt5
          have HKd := Lib.hid (HK.out.addW (by rw [show 2 * k = k + k by omega]) hown5 hgrow5 hl5)
          clear HK
          have HK := HKd
          clear HKd c7
          clear hown5 hgrow5 hl5 hlt5
          refine hK.out _ _ HK.out.l (fun hHeld => ?_)
          clear hK K
          refine wpAnyH_take (i := 19) (v := ?vu88) (by rw [List.getElem?_toArray]; rfl) (by kernel_rfl) (by kernel_rfl) (by kernel_rfl) ?qu88 (Or.inl ⟨by rfl, ?yu88⟩) (by assumption) ?ru88
          case qu88 => exact fun c a w h => hP c a _ _ w h
          case yu88 => (intro wz hSw; go_simp; try (with_reducible rfl))
          simp only [Act.put, List.setIfInBounds_toArray, List.set_cons_zero, List.set_cons_succ]
          refine wpAnyH_ready (rs := [17]) (by kernel_rfl) (by simp) ?_
          refine AllReadyH.cons (by rw [List.getElem?_toArray]; rfl) (fun K hK => ?_) AllReadyH.nil
          clear hHeld
          go_simp
          have c17 := Lib.hid (one_new w5 (.int .i64 (dr m s (2 * k + 1))))
          have HKd := Lib.hid (HK.out.alloc (.cells #[(.int .i64 (dr m s (2 * k + 1)))] 3))
          clear HK
          have HK := HKd
          clear HKd
          refine hK.out _ _ HK.out.l (fun hHeld => ?_)
          clear hK K
          generalize (w5.alloc (.cells #[(.int .i64 (dr m s (2 * k + 1)))] 3)) = vu89 at *
          generalize w5.heap.size = p17 at *
          refine wpAnyH_ready (rs := [18]) (by kernel_rfl) (by simp) ?_
          refine AllReadyH.cons (by rw [List.getElem?_toArray]; rfl) (fun K hK => ?_) AllReadyH.nil
          clear hHeld
          rw [if_pos (by rfl)]
          refine wp_append_lies _ _ _ 29 rfl B 3 i0 (.int .i64 0) 1 8 Try.underlying29 hi hz0 hz1 hz2 rfl (by decide) vV k _ rfl HK.out.rv ⟨p17, 0, none⟩ 1 1 [(.int .i64 (dr m s (2 * k + 1)))] rfl rfl (one_news c17.out) (by simp [Value.oneCell']) (by decide) (by unfold maxLen; omega) (by omega) HK.out.sz _ rfl ?_
          intro g6 cap6 w6 hown6 hgrow6 hl6 hlt6
          have HKd := Lib.hid (HK.out.addV (by rw [show 2 * k = k + k by omega]) hown6 hgrow6 hl6)
          clear HK
          have HK := HKd
          clear HKd c17
          clear hown6 hgrow6 hl6 hlt6
          refine hK.out _ _ HK.out.l (fun hHeld => ?_)
          clear hK K
          refine wpAnyH_ready (rs := [20]) (by kernel_rfl) (by simp) ?_
          refine AllReadyH.cons (by rw [List.getElem?_toArray]; rfl) (fun K hK => ?_) AllReadyH.nil
          have c5 := cell_of_row _ gi 3 _ 32 _ HK.out.box
          have f5 : World.frozen? _ ⟨gi, 3, none⟩ = false := frozen_of_row _ gi 3 _ 32 HK.out.box
          simp at c5
          clear hHeld
          go_simp
          have HKd := Lib.hid (rs_put HK.out 3 (.slice (some ⟨g5, 0, none⟩) (k + 1) cap5) rfl)
          clear HK
          have HK := HKd
          clear HKd
          refine hK.out _ _ HK.out.l (fun hHeld => ?_)
          clear hK K c5 f5
          refine wpAnyH_take (i := 21) (v := ?vu90) (by rw [List.getElem?_toArray]; rfl) (by kernel_rfl) (by kernel_rfl) (by kernel_rfl) ?qu90 (Or.inl ⟨by rfl, ?yu90⟩) (by assumption) ?ru90
          case qu90 => exact fun c a w h => hP c a _ _ w h
          case yu90 => (intro wz hSw; go_simp; try (with_reducible rfl))
          simp only [Act.put, List.setIfInBounds_toArray, List.set_cons_zero, List.set_cons_succ]
          refine wpAnyH_ready (rs := [22]) (by kernel_rfl) (by simp) ?_
          refine AllReadyH.cons (by rw [List.getElem?_toArray]; rfl) (fun K hK => ?_) AllReadyH.nil
          have c5 := cell_of_row _ gi 4 _ 32 _ HK.out.box
          have f5 : World.frozen? _ ⟨gi, 4, none⟩ = false := frozen_of_row _ gi 4 _ 32 HK.out.box
          simp at c5
          clear hHeld
          go_simp
          have HKd := Lib.hid (rs_put HK.out 4 (.slice (some ⟨g6, 0, none⟩) (k + 1) cap6) rfl)
          clear HK
          have HK := HKd
          clear HKd
          refine hK.out _ _ HK.out.l (fun hHeld => ?_)
          clear hK K c5 f5 hHeld
          refine wpAnyH_done (by kernel_rfl) ?_ _
          exact HRT.out _ _ _ _ _ _ _ _ _ _ _ _ _ _ _ _ _ _ _ _ _ _ _ _ _ _ HK.out
        · clear hHeld
          go_simp
          have n17 := Lib.hid (row_fresh HK.out.rw)
          have c17 := Lib.hid (one_new vu87 (.int .i64 (dr m s (2 * k + 1))))
          have c7x := Lib.hid (one_alloc c7.out (.cells #[(.int .i64 (dr m s (2 * k + 1)))] 3))
          clear c7
          have c7 := c7x
          clear c7x
          have HKd := Lib.hid (HK.out.alloc (.cells #[(.int .i64 (dr m s (2 * k + 1)))] 3))
          clear HK
          have HK := HKd
          clear HKd
          refine hK.out _ _ HK.out.l (fun hHeld => ?_)
          clear hK K
          generalize (vu87.alloc (.cells #[(.int .i64 (dr m s (2 * k + 1)))] 3)) = vu91 at *
          generalize vu87.heap.size = p17 at *
          refine wpAnyH_ready (rs := [8]) (by kernel_rfl) (by simp) ?_
          refine AllReadyH.cons (by rw [List.getElem?_toArray]; rfl) (fun K hK => ?_) AllReadyH.nil
          clear hHeld
          rw [if_pos (by rfl)]
          refine wp_append_lies _ _ _ 29 rfl B 3 i0 (.int .i64 0) 1 8 Try.underlying29 hi hz0 hz1 hz2 rfl (by decide) vW k _ rfl HK.out.rw ⟨p7, 0, none⟩ 1 1 [(.int .i64 (dr m s (2 * k)))] rfl rfl (one_news c7.out) (by simp [Value.oneCell']) (by decide) (by unfold maxLen; omega) (by omega) HK.out.sz _ rfl ?_
          intro g5 cap5 w5 hown5 hgrow5 hl5 hlt5
          have HKd := Lib.hid (HK.out.addW (by rw [show 2 * k = k + k by omega]) hown5 hgrow5 hl5)
          clear HK
          have HK := HKd
          clear HKd c7
          have c17x := Lib.hid (one_kept c17.out hgrow5 n17.out)
          clear c17 n17
          have c17 := c17x
          clear c17x
          clear hown5 hgrow5 hl5 hlt5
          refine hK.out _ _ HK.out.l (fun hHeld => ?_)
          clear hK K
          refine wpAnyH_take (i := 19) (v := ?vu92) (by rw [List.getElem?_toArray]; rfl) (by kernel_rfl) (by kernel_rfl) (by kernel_rfl) ?qu92 (Or.inl ⟨by rfl, ?yu92⟩) (by assumption) ?ru92
          case qu92 => exact fun c a w h => hP c a _ _ w h
          case yu92 => (intro wz hSw; go_simp; try (with_reducible rfl))
          simp only [Act.put, List.setIfInBounds_toArray, List.set_cons_zero, List.set_cons_succ]
          refine wpAnyH_ready (rs := [18]) (by kernel_rfl) (by simp) ?_
          refine AllReadyH.cons (by rw [List.getElem?_toArray]; rfl) (fun K hK => ?_) AllReadyH.nil
          clear hHeld
          rw [if_pos (by rfl)]
          refine wp_append_lies _ _ _ 29 rfl B 3 i0 (.int .i64 0) 1 8 Try.underlying29 hi hz0 hz1 hz2 rfl (by decide) vV k _ rfl HK.out.rv ⟨p17, 0, none⟩ 1 1 [(.int .i64 (dr m s (2 * k + 1)))] rfl rfl (one_news c17.out) (by simp [Value.oneCell']) (by decide) (by unfold maxLen; omega) (by omega) HK.out.sz _ rfl ?_
          intro g6 cap6 w6 hown6 hgrow6 hl6 hlt6
          have HKd := Lib.hid (HK.out.addV (by rw [show 2 * k = k + k by omega]) hown6 hgrow6 hl6)
          clear HK
          have HK := HKd
          clear HKd c17
          clear hown6 hgrow6 hl6 hlt6
          refine hK.out _ _ HK.out.l (fun hHeld => ?_)
          clear hK K
          refine wpAnyH_ready (rs := [20]) (by kernel_rfl) (by simp) ?_
          refine AllReadyH.cons (by rw [List.getElem?_toArray]; rfl) (fun K hK => ?_) AllReadyH.nil
          have c5 := cell_of_row _ gi 3 _ 32 _ HK.out.box
          have f5 : World.frozen? _ ⟨gi, 3, none⟩ = false := frozen_of_row _ gi 3 _ 32 HK.out.box
          simp at c5
          clear hHeld
          go_simp
          have HKd := Lib.hid (rs_put HK.out 3 (.slice (some ⟨g5, 0, none⟩) (k + 1) cap5) rfl)
          clear HK
          have HK := HKd
          clear HKd
          refine hK.out _ _ HK.out.l (fun hHeld => ?_)
          clear hK K c5 f5
          refine wpAnyH_take (i := 21) (v := ?vu93) (by rw [List.getElem?_toArray]; rfl) (by kernel_rfl) (by kernel_rfl) (by kernel_rfl) ?qu93 (Or.inl ⟨by rfl, ?yu93⟩) (by assumption) ?ru93
          case qu93 => exact fun c a w h => hP c a _ _ w h
          case yu93 => (intro wz hSw; go_simp; try (with_reducible rfl))
          simp only [Act.put, List.setIfInBounds_toArray, List.set_cons_zero, List.set_cons_succ]
          refine wpAnyH_ready (rs := [22]) (by kernel_rfl) (by simp) ?_
          refine AllReadyH.cons (by rw [List.getElem?_toArray]; rfl) (fun K hK => ?_) AllReadyH.nil
          have c5 := cell_of_row _ gi 4 _ 32 _ HK.out.box
          have f5 : World.frozen? _ ⟨gi, 4, none⟩ = false := frozen_of_row _ gi 4 _ 32 HK.out.box
          simp at c5
          clear hHeld
          go_simp
          have HKd := Lib.hid (rs_put HK.out 4 (.slice (some ⟨g6, 0, none⟩) (k + 1) cap6) rfl)
          clear HK
          have HK := HKd
          clear HKd
          refine hK.out _ _ HK.out.l (fun hHeld => ?_)
          clear hK K c5 f5 hHeld
          refine wpAnyH_done (by kernel_rfl) ?_ _
          exact HRT.out _ _ _ _ _ _ _ _ _ _ _ _ _ _ _ _ _ _ _ _ _ _ _ _ _ _ HK.out
      · clear hHeld
        go_simp
        have n17 := Lib.hid (row_fresh HK.out.rw)
        have c17 := Lib.hid (one_new vu1 (.int .i64 (dr m s (2 * k + 1))))
        have HKd := Lib.hid (HK.out.alloc (.cells #[(.int .i64 (dr m s (2 * k + 1)))] 3))
        clear HK
        have HK := HKd
        clear HKd
        refine hK.out _ _ HK.out.l (fun hHeld => ?_)
        clear hK K
        generalize (vu1.alloc (.cells #[(.int .i64 (dr m s (2 * k + 1)))] 3)) = vu94 at *
        generalize vu1.heap.size = p17 at *
        refine wpAnyH_ready (rs := [7]) (by kernel_rfl) (by simp) ?_
        refine AllReadyH.cons (by rw [List.getElem?_toArray]; rfl) (fun K hK => ?_) AllReadyH.nil
        clear hHeld
        go_simp
        have c7 := Lib.hid (one_new vu94 (.int .i64 (dr m s (2 * k))))
        have c17x := Lib.hid (one_alloc c17.out (.cells #[(.int .i64 (dr m s (2 * k)))] 3))
        clear c17
        have c17 := c17x
        clear c17x
        have HKd := Lib.hid (HK.out.alloc (.cells #[(.int .i64 (dr m s (2 * k)))] 3))
        clear HK
        have HK := HKd
        clear HKd
        refine hK.out _ _ HK.out.l (fun hHeld => ?_)
        clear hK K
        generalize (vu94.alloc (.cells #[(.int .i64 (dr m s (2 * k)))] 3)) = vu95 at *
        generalize vu94.heap.size = p7 at *
        refine wpAnyH_ready (rs := [8]) (by kernel_rfl) (by simp) ?_
        refine AllReadyH.cons (by rw [List.getElem?_toArray]; rfl) (fun K hK => ?_) AllReadyH.nil
        clear hHeld
        rw [if_pos (by rfl)]
        refine wp_append_lies _ _ _ 29 rfl B 3 i0 (.int .i64 0) 1 8 Try.underlying29 hi hz0 hz1 hz2 rfl (by decide) vW k _ rfl HK.out.rw ⟨p7, 0, none⟩ 1 1 [(.int .i64 (dr m s (2 * k)))] rfl rfl (one_news c7.out) (by simp [Value.oneCell']) (by decide) (by unfold maxLen; omega) (by omega) HK.out.sz _ rfl ?_
        intro g5 cap5 w5 hown5 hgrow5 hl5 hlt5
        have HKd := Lib.hid (HK.out.addW (by rw [show 2 * k = k + k by omega]) hown5 hgrow5 hl5)
        clear HK
        have HK := HKd
        clear HKd c7
        have c17x := Lib.hid (one_kept c17.out hgrow5 n17.out)
        clear c17 n17
        have c17 := c17x
        clear c17x
        clear hown5 hgrow5 hl5 hlt5
        refine hK.out _ _ HK.out.l (fun hHeld => ?_)
        clear hK K
        refine wpAnyH_take (i := 19) (v := ?vu96) (by rw [List.getElem?_toArray]; rfl) (by kernel_rfl) (by kernel_rfl) (by kernel_rfl) ?qu96 (Or.inl ⟨by rfl, ?yu96⟩) (by assumption) ?ru96
        case qu96 => exact fun c a w h => hP c a _ _ w h
        case yu96 => (intro wz hSw; go_simp; try (with_reducible rfl))
        simp only [Act.put, List.setIfInBounds_toArray, List.set_cons_zero, List.set_cons_succ]
        refine wpAnyH_ready (rs := [18]) (by kernel_rfl) (by simp) ?_
        refine AllReadyH.cons (by rw [List.getElem?_toArray]; rfl) (fun K hK => ?_) AllReadyH.nil
        clear hHeld
        rw [if_pos (by rfl)]
        refine wp_append_lies _ _ _ 29 rfl B 3 i0 (.int .i64 0) 1 8 Try.underlying29 hi hz0 hz1 hz2 rfl (by decide) vV k _ rfl HK.out.rv ⟨p17, 0, none⟩ 1 1 [(.int .i64 (dr m s (2 * k + 1)))] rfl rfl (one_news c17.out) (by simp [Value.oneCell']) (by decide) (by unfold maxLen; omega) (by omega) HK.out.sz _ rfl ?_
        intro g6 cap6 w6 hown6 hgrow6 hl6 hlt6
        have HKd := Lib.hid (HK.out.addV (by rw [show 2 * k = k + k by omega]) hown6 hgrow6 hl6)
        clear HK
        have HK := HKd
        clear HKd c17
        clear hown6 hgrow6 hl6 hlt6
        refine hK.out _ _ HK.out.l (fun hHeld => ?_)
        clear hK K
        refine wpAnyH_ready (rs := [20]) (by kernel_rfl) (by simp) ?_
        refine AllReadyH.cons (by rw [List.getElem?_toArray]; rfl) (fun K hK => ?_) AllReadyH.nil
        have c5 := cell_of_row _ gi 3 _ 32 _ HK.out.box
        have f5 : World.frozen? _ ⟨gi, 3, none⟩ = false := frozen_of_row _ gi 3 _ 32 HK.out.box
        simp at c5
        clear hHeld
        go_simp
        have HKd := Lib.hid (rs_put HK.out 3 (.slice (some ⟨g5, 0, none⟩) (k + 1) cap5) rfl)
        clear HK
        have HK := HKd
        clear HKd
        refine hK.out _ _ HK.out.l (fun hHeld => ?_)
        clear hK K c5 f5
        refine wpAnyH_take (i := 21) (v := ?vu97) (by rw [List.getElem?_toArray]; rfl) (by kernel_rfl) (by kernel_rfl) (by kernel_rfl) ?qu97 (Or.inl ⟨by rfl, ?yu97⟩) (by assumption) ?ru97
        case qu97 => exact fun c a w h => hP c a _ _ w h
        case yu97 => (intro wz hSw; go_simp; try (with_reducible rfl))
        simp only [Act.put, List.setIfInBounds_toArray, List.set_cons_zero, List.set_cons_succ]
        refine wpAnyH_ready (rs := [22]) (by kernel_rfl) (by simp) ?_
        refine AllReadyH.cons (by rw [List.getElem?_toArray]; rfl) (fun K hK => ?_) AllReadyH.nil
        have c5 := cell_of_row _ gi 4 _ 32 _ HK.out.box
        have f5 : World.frozen? _ ⟨gi, 4, none⟩ = false := frozen_of_row _ gi 4 _ 32 HK.out.box
        simp at c5
        clear hHeld
        go_simp
        have HKd := Lib.hid (rs_put HK.out 4 (.slice (some ⟨g6, 0, none⟩) (k + 1) cap6) rfl)
        clear HK
        have HK := HKd
        clear HKd
        refine hK.out _ _ HK.out.l (fun hHeld => ?_)
        clear hK K c5 f5 hHeld
        refine wpAnyH_done (by kernel_rfl) ?_ _
        exact HRT.out _ _ _ _ _ _ _ _ _ _ _ _ _ _ _ _ _ _ _ _ _ _ _ _ _ _ HK.out
    · clear hHeld
      go_simp
      have c7 := Lib.hid (one_new vu1 (.int .i64 (dr m s (2 * k))))
      have HKd := Lib.hid (HK.out.alloc (.cells #[(.int .i64 (dr m s (2 * k)))] 3))
      clear HK
      have HK := HKd
      clear HKd
      refine hK.out _ _ HK.out.l (fun hHeld => ?_)
      clear hK K
      generalize (vu1.alloc (.cells #[(.int .i64 (dr m s (2 * k)))] 3)) = vu98 at *
      generalize vu1.heap.size = p7 at *
      refine wpAnyH_ready (rs := [1, 17]) (by kernel_rfl) (by simp) ?_
      refine AllReadyH.cons (by rw [List.getElem?_toArray]; rfl) (fun K hK => ?_) (AllReadyH.cons (by rw [List.getElem?_toArray]; rfl) (fun K hK => ?_) AllReadyH.nil)
      · have c5 : vu98.cell? ⟨gi, 3, none⟩ = some vW := cell_of_row _ gi 3 _ 32 _ HK.out.box
        clear hHeld
        go_simp
        refine hK.out _ _ HK.out.l (fun hHeld => ?_)
        clear hK K c5
        refine wpAnyH_ready (rs := [8, 17]) (by kernel_rfl) (by simp) ?_
        refine AllReadyH.cons (by rw [List.getElem?_toArray]; rfl) (fun K hK => ?_) (AllReadyH.cons (by rw [List.getElem?_toArray]; rfl) (fun K hK => ?_) AllReadyH.nil)
        · clear hHeld
          rw [if_pos (by rfl)]
          refine wp_append_lies _ _ _ 29 rfl B 3 i0 (.int .i64 0) 1 8 Try.underlying29 hi hz0 hz1 hz2 rfl (by decide) vW k _ rfl HK.out.rw ⟨p7, 0, none⟩ 1 1 [(.int .i64 (dr m s (2 * k)))] rfl rfl (one_news c7.out) (by simp [Value.oneCell']) (by decide) (by unfold maxLen; omega) (by omega) HK.out.sz _ rfl ?_
          intro g5 cap5 w5 hown5 hgrow5 hl5 hlt5
          have HKd := Lib.hid (HK.out.addW (by rw [show 2 * k = k + k by omega]) hown5 hgrow5 hl5)
          clear HK
          have HK := HKd
          clear HKd c7
          clear hown5 hgrow5 hl5 hlt5
          refine hK.out _ _ HK.out.l (fun hHeld => ?_)
          clear hK K
          refine wpAnyH_take (i := 19) (v := ?vu99) (by rw [List.getElem?_toArray]; rfl) (by kernel_rfl) (by kernel_rfl) (by kernel_rfl) ?qu99 (Or.inl ⟨by rfl, ?yu99⟩) (by assumption) ?ru99
          case qu99 => exact fun c a w h => hP c a _ _ w h
          case yu99 => (intro wz hSw; go_simp; try (with_reducible rfl))
          simp only [Act.put, List.setIfInBounds_toArray, List.set_cons_zero, List.set_cons_succ]
          refine wpAnyH_ready (rs := [17]) (by kernel_rfl) (by simp) ?_
          refine AllReadyH.cons (by rw [List.getElem?_toArray]; rfl) (fun K hK => ?_) AllReadyH.nil
          clear hHeld
          go_simp
          have c17 := Lib.hid (one_new w5 (.int .i64 (dr m s (2 * k + 1))))
          have HKd := Lib.hid (HK.out.alloc (.cells #[(.int .i64 (dr m s (2 * k + 1)))] 3))
          clear HK
          have HK := HKd
          clear HKd
          refine hK.out _ _ HK.out.l (fun hHeld => ?_)
          clear hK K
          generalize (w5.alloc (.cells #[(.int .i64 (dr m s (2 * k + 1)))] 3)) = vu100 at *
          generalize w5.heap.size = p17 at *
          refine wpAnyH_ready (rs := [18]) (by kernel_rfl) (by simp) ?_
          refine AllReadyH.cons (by rw [List.getElem?_toArray]; rfl) (fun K hK => ?_) AllReadyH.nil
          clear hHeld
          rw [if_pos (by rfl)]
          refine wp_append_lies _ _ _ 29 rfl B 3 i0 (.int .i64 0) 1 8 Try.underlying29 hi hz0 hz1 hz2 rfl (by decide) vV k _ rfl HK.out.rv ⟨p17, 0, none⟩ 1 1 [(.int .i64 (dr m s (2 * k + 1)))] rfl rfl (one_news c17.out) (by simp [Value.oneCell']) (by decide) (by unfold maxLen; omega) (by omega) HK.out.sz _ rfl ?_
          intro g6 cap6 w6 hown6 hgrow6 hl6 hlt6
          have HKd := Lib.hid (HK.out.addV (by rw [show 2 * k = k + k by omega]) hown6 hgrow6 hl6)
          clear HK
          have HK := HKd
          clear HKd c17
          clear hown6 hgrow6 hl6 hlt6
          refine hK.out _ _ HK.out.l (fun hHeld => ?_)
          clear hK K
          refine wpAnyH_ready (rs := [20]) (by kernel_rfl) (by simp) ?_
          refine AllReadyH.cons (by rw [List.getElem?_toArray]; rfl) (fun K hK => ?_) AllReadyH.nil
          have c5 := cell_of_row _ gi 3 _ 32 _ HK.out.box
          have f5 : World.frozen? _ ⟨gi, 3, none⟩ = false := frozen_of_row _ gi 3 _ 32 HK.out.box
          simp at c5
          clear hHeld
          go_simp
          have HKd := Lib.hid (rs_put HK.out 3 (.slice (some ⟨g5, 0, none⟩) (k + 1) cap5) rfl)
          clear HK
          have HK := HKd
          clear HKd
          refine hK.out _ _ HK.out.l (fun hHeld => ?_)
          clear hK K c5 f5
          refine wpAnyH_take (i := 21) (v := ?vu101) (by rw [List.getElem?_toArray]; rfl) (by kernel_rfl) (by kernel_rfl) (by kernel_rfl) ?qu101 (Or.inl ⟨by rfl, ?yu101⟩) (by assumption) ?ru101
          case qu101 => exact fun c a w h => hP c a _ _ w h
          case yu101 => (intro wz hSw; go_simp; try (with_reducible rfl))
          simp only [Act.put, List.setIfInBounds_toArray, List.set_cons_zero, List.set_cons_succ]
          refine wpAnyH_ready (rs := [22]) (by kernel_rfl) (by simp) ?_
          refine AllReadyH.cons (by rw [List.getElem?_toArray]; rfl) (fun K hK => ?_) AllReadyH.nil
          have c5 := cell_of_row _ gi 4 _ 32 _ HK.out.box
          have f5 : World.frozen? _ ⟨gi, 4, none⟩ = false := frozen_of_row _ gi 4 _ 32 HK.out.box
          simp at c5
          clear hHeld
          go_simp
          have HKd := Lib.hid (rs_put HK.out 4 (.slice (some ⟨g6, 0, none⟩) (k + 1) cap6) rfl)
          clear HK
          have HK := HKd
          clear HKd
          refine hK.out _ _ HK.out.l (fun hHeld => ?_)
          clear hK K c5 f5 hHeld
          refine wpAnyH_done (by kernel_rfl) ?_ _
          exact HRT.out _ _ _ _ _ _ _ _ _ _ _ _ _ _ _ _ _ _ _ _ _ _ _ _ _ _ HK.out
        · clear hHeld
          go_simp
          have n17 := Lib.hid (row_fresh HK.out.rw)
          have c17 := Lib.hid (one_new vu98 (.int .i64 (dr m s (2 * k + 1))))
          have c7x := Lib.hid (one_alloc c7.out (.cells #[(.int .i64 (dr m s (2 * k + 1)))] 3))
          clear c7
          have c7 := c7x
          clear c7x
          have HKd := Lib.hid (HK.out.alloc (.cells #[(.int .i64 (dr m s (2 * k + 1)))] 3))
          clear HK
          have HK := HKd
          clear HKd
          refine hK.out _ _ HK.out.l (fun hHeld => ?_)
          clear hK K
          generalize (vu98.alloc (.cells #[(.int .i64 (dr m s (2 * k + 1)))] 3)) = vu102 at *
          generalize vu98.heap.size = p17 at *
          refine wpAnyH_ready (rs := [8]) (by kernel_rfl) (by simp) ?_
          refine AllReadyH.cons (by rw [List.getElem?_toArray]; rfl) (fun K hK => ?_) AllReadyH.nil
          clear hHeld
          rw [if_pos (by rfl)]
          refine wp_append_lies _ _ _ 29 rfl B 3 i0 (.int .i64 0) 1 8 Try.underlying29 hi hz0 hz1 hz2 rfl (by decide) vW k _ rfl HK.out.rw ⟨p7, 0, none⟩ 1 1 [(.int .i64 (dr m s (2 * k)))] rfl rfl (one_news c7.out) (by simp [Value.oneCell']) (by decide) (by unfold maxLen; omega) (by omega) HK.out.sz _ rfl ?_
          intro g5 cap5 w5 hown5 hgrow5 hl5 hlt5
          have HKd := Lib.hid (HK.out.addW (by rw [show 2 * k = k + k by omega]) hown5 hgrow5 hl5)
          clear HK
          have HK := HKd
          clear HKd c7
          have c17x := Lib.hid (one_kept c17.out hgrow5 n17.out)
          clear c17 n17
          have c17 := c17x
          clear c17x
          clear hown5 hgrow5 hl5 hlt5
          refine hK.out _ _ HK.out.l (fun hHeld => ?_)
          clear hK K
          refine wpAnyH_take (i := 19) (v := ?vu103) (by rw [List.getElem?_toArray]; rfl) (by kernel_rfl) (by kernel_rfl) (by kernel_rfl) ?qu103 (Or.inl ⟨by rfl, ?yu103⟩) (by assumption) ?ru103
          case qu103 => exact fun c a w h => hP c a _ _ w h
          case yu103 => (intro wz hSw; go_simp; try (with_reducible rfl))
          simp only [Act.put, List.setIfInBounds_toArray, List.set_cons_zero, List.set_cons_succ]
          refine wpAnyH_ready (rs := [18]) (by kernel_rfl) (by simp) ?_
          refine AllReadyH.cons (by rw [List.getElem?_toArray]; rfl) (fun K hK => ?_) AllReadyH.nil
          clear hHeld
          rw [if_pos (by rfl)]
          refine wp_append_lies _ _ _ 29 rfl B 3 i0 (.int .i64 0) 1 8 Try.underlying29 hi hz0 hz1 hz2 rfl (by decide) vV k _ rfl HK.out.rv ⟨p17, 0, none⟩ 1 1 [(.int .i64 (dr m s (2 * k + 1)))] rfl rfl (one_news c17.out) (by simp [Value.oneCell']) (by decide) (by unfold maxLen; omega) (by omega) HK.out.sz _ rfl ?_
          intro g6 cap6 w6 hown6 hgrow6 hl6 hlt6
          have HKd := Lib.hid (HK.out.addV (by rw [show 2 * k = k + k by omega]) hown6 hgrow6 hl6)
          clear HK
          have HK := HKd
          clear HKd c17
          clear hown6 hgrow6 hl6 hlt6
          refine hK.out _ _ HK.out.l (fun hHeld => ?_)
          clear hK K
          refine wpAnyH_ready (rs := [20]) (by kernel_rfl) (by simp) ?_
          refine AllReadyH.cons (by rw [List.getElem?_toArray]; rfl) (fun K hK => ?_) AllReadyH.nil
          have c5 := cell_of_row _ gi 3 _ 32 _ HK.out.box
          have f5 : World.frozen? _ ⟨gi, 3, none⟩ = false := frozen_of_row _ gi 3 _ 32 HK.out.box
          simp at c5
          clear hHeld
          go_simp
          have HKd := Lib.hid (rs_put HK.out 3 (.slice (some ⟨g5, 0, none⟩) (k + 1) cap5) rfl)
          clear HK
          have HK := HKd
          clear HKd
          refine hK.out _ _ HK.out.l (fun hHeld => ?_)
          clear hK K c5 f5
          refine wpAnyH_take (i := 21) (v := ?vu104) (by rw [List.getElem?_toArray]; rfl) (by kernel_rfl) (by kernel_rfl) (by kernel_rfl) ?qu104 (Or.inl ⟨by rfl, ?yu104⟩) (by assumption) ?ru104
          case qu104 => exact fun c a w h => hP c a _ _ w h
          case yu104 => (intro wz hSw; go_simp; try (with_reducible rfl))
          simp only [Act.put, List.setIfInBounds_toArray, List.set_cons_zero, List.set_cons_succ]
          refine wpAnyH_ready (rs := [22]) (by kernel_rfl) (by simp) ?_
          refine AllReadyH.cons (by rw [List.getElem?_toArray]; rfl) (fun K hK => ?_) AllReadyH.nil
          have c5 := cell_of_row _ gi 4 _ 32 _ HK.out.box
          have f5 : World.frozen? _ ⟨gi, 4, none⟩ = false := frozen_of_row _ gi 4 _ 32 HK.out.box
          simp at c5
          clear hHeld
          go_simp
          have HKd := Lib.hid (rs_put HK.out 4 (.slice (some ⟨g6, 0, none⟩) (k + 1) cap6) rfl)
          clear HK
          have HK := HKd
          clear HKd
          refine hK.out _ _ HK.out.l (fun hHeld => ?_)
          clear hK K c5 f5 hHeld
          refine wpAnyH_done (by kernel_rfl) ?_ _
          exact HRT.out _ _ _ _ _ _ _ _ _ _ _ _ _ _ _ _ _ _ _ _ _ _ _ _ _ _ HK.out
      · clear hHeld
        go_simp
        have n17 := Lib.hid (row_fresh HK.out.rw)
        have c17 := Lib.hid (one_new vu98 (.int .i64 (dr m s (2 * k + 1))))
        have c7x := Lib.hid (one_alloc c7.out (.cells #[(.int .i64 (dr m s (2 * k + 1)))] 3))
        clear c7
        have c7 := c7x
        clear c7x
        have HKd := Lib.hid (HK.out.alloc (.cells #[(.int .i64 (dr m s (2 * k + 1)))] 3))
        clear HK
        have HK := HKd
        clear HKd
        refine hK.out _ _ HK.out.l (fun hHeld => ?_)
        clear hK K
        generalize (vu98.alloc (.cells #[(.int .i64 (dr m s (2 * k + 1)))] 3)) = vu105 at *
        generalize vu98.heap.size = p17 at *
        refine wpAnyH_ready (rs := [1]) (by kernel_rfl) (by simp) ?_
        refine AllReadyH.cons (by rw [List.getElem?_toArray]; rfl) (fun K hK => ?_) AllReadyH.nil
        have c5 : vu105.cell? ⟨gi, 3, none⟩ = some vW := cell_of_row _ gi 3 _ 32 _ HK.out.box
        clear hHeld
        go_simp
        refine hK.out _ _ HK.out.l (fun hHeld => ?_)
        clear hK K c5
        refine wpAnyH_ready (rs := [8]) (by kernel_rfl) (by simp) ?_
        refine AllReadyH.cons (by rw [List.getElem?_toArray]; rfl) (fun K hK => ?_) AllReadyH.nil
        clear hHeld
        rw [if_pos (by rfl)]
        refine wp_append_lies _ _ _ 29 rfl B 3 i0 (.int .i64 0) 1 8 Try.underlying29 hi hz0 hz1 hz2 rfl (by decide) vW k _ rfl HK.out.rw ⟨p7, 0, none⟩ 1 1 [(.int .i64 (dr m s (2 * k)))] rfl rfl (one_news c7.out) (by simp [Value.oneCell']) (by decide) (by unfold maxLen; omega) (by omega) HK.out.sz _ rfl ?_
        intro g5 cap5 w5 hown5 hgrow5 hl5 hlt5
        have HKd := Lib.hid (HK.out.addW (by rw [show 2 * k = k + k by omega]) hown5 hgrow5 hl5)
        clear HK
        have HK := HKd
        clear HKd c7
        have c17x := Lib.hid (one_kept c17.out hgrow5 n17.out)
        clear c17 n17
        have c17 := c17x
        clear c17x
        clear hown5 hgrow5 hl5 hlt5
        refine hK.out _ _ HK.out.l (fun hHeld => ?_)
        clear hK K
        refine wpAnyH_take (i := 19) (v := ?vu106) (by rw [List.getElem?_toArray]; rfl) (by kernel_rfl) (by kernel_rfl) (by kernel_rfl) ?qu106 (Or.inl ⟨by rfl, ?yu106⟩) (by assumption) ?ru106
        case qu106 => exact fun c a w h => hP c a _ _ w h
        case yu106 => (intro wz hSw; go_simp; try (with_reducible rfl))
        simp only [Act.put, List.setIfInBounds_toArray, List.set_cons_zero, List.set_cons_succ]
        refine wpAnyH_ready (rs := [18]) (by kernel_rfl) (by simp) ?_
        refine AllReadyH.cons (by rw [List.getElem?_toArray]; rfl) (fun K hK => ?_) AllReadyH.nil
        clear hHeld
        rw [if_pos (by rfl)]
        refine wp_append_lies _ _ _ 29 rfl B 3 i0 (.int .i64 0) 1 8 Try.underlying29 hi hz0 hz1 hz2 rfl (by decide) vV k _ rfl HK.out.rv ⟨p17, 0, none⟩ 1 1 [(.int .i64 (dr m s (2 * k + 1)))] rfl rfl (one_news c17.out) (by simp [Value.oneCell']) (by decide) (by unfold maxLen; omega) (by omega) HK.out.sz _ rfl ?_
        intro g6 cap6 w6 hown6 hgrow6 hl6 hlt6
        have HKd := Lib.hid (HK.out.addV (by rw [show 2 * k = k + k by omega]) hown6 hgrow6 hl6)
        clear HK
        have HK := HKd
        clear HKd c17
        clear hown6 hgrow6 hl6 hlt6
        refine hK.out _ _ HK.out.l (fun hHeld => ?_)
        clear hK K
        refine wpAnyH_ready (rs := [20]) (by kernel_rfl) (by simp) ?_
        refine AllReadyH.cons (by rw [List.getElem?_toArray]; rfl) (fun K hK => ?_) AllReadyH.nil
        have c5 := cell_of_row _ gi 3 _ 32 _ HK.out.box
        have f5 : World.frozen? _ ⟨gi, 3, none⟩ = false := frozen_of_row _ gi 3 _ 32 HK.out.box
        simp at c5
        clear hHeld
        go_simp
        have HKd := Lib.hid (rs_put HK.out 3 (.slice (some ⟨g5, 0, none⟩) (k + 1) cap5) rfl)
        clear HK
        have HK := HKd
        clear HKd
        refine hK.out _ _ HK.out.l (fun hHeld => ?_)
        clear hK K c5 f5
        refine wpAnyH_take (i := 21) (v := ?vu107) (by rw [List.getElem?_toArray]; rfl) (by kernel_rfl) (by kernel_rfl) (by kernel_rfl) ?qu107 (Or.inl ⟨by rfl, ?yu107⟩) (by assumption) ?ru107
        case qu107 => exact fun c a w h => hP c a _ _ w h
        case yu107 => (intro wz hSw; go_simp; try (with_reducible rfl))
        simp only [Act.put, List.setIfInBounds_toArray, List.set_cons_zero, List.set_cons_succ]
        refine wpAnyH_ready (rs := [22]) (by kernel_rfl) (by simp) ?_
        refine AllReadyH.cons (by rw [List.getElem?_toArray]; rfl) (fun K hK => ?_) AllReadyH.nil
        have c5 := cell_of_row _ gi 4 _ 32 _ HK.out.box
        have f5 : World.frozen? _ ⟨gi, 4, none⟩ = false := frozen_of_row _ gi 4 _ 32 HK.out.box
        simp at c5
        clear hHeld
        go_simp
        have HKd := Lib.hid (rs_put HK.out 4 (.slice (some ⟨g6, 0, none⟩) (k + 1) cap6) rfl)
        clear HK
        have HK := HKd
        clear HKd
        refine hK.out _ _ HK.out.l (fun hHeld => ?_)
        clear hK K c5 f5 hHeld
        refine wpAnyH_done (by kernel_rfl) ?_ _
        exact HRT.out _ _ _ _ _ _ _ _ _ _ _ _ _ _ _ _ _ _ _ _ _ _ _ _ _ _ HK.out
    · clear hHeld
      go_simp
      have n17 := Lib.hid (row_fresh HK.out.rw)
      have c17 := Lib.hid (one_new vu1 (.int .i64 (dr m s (2 * k + 1))))
      have HKd := Lib.hid (HK.out.alloc (.cells #[(.int .i64 (dr m s (2 * k + 1)))] 3))
      clear HK
      have HK := HKd
      clear HKd
      refine hK.out _ _ HK.out.l (fun hHeld => ?_)
      clear hK K
      generalize (vu1.alloc (.cells #[(.int .i64 (dr m s (2 * k + 1)))] 3)) = vu108 at *
      generalize vu1.heap.size = p17 at *
      refine wpAnyH_ready (rs := [1, 7]) (by kernel_rfl) (by simp) ?_
      refine AllReadyH.cons (by rw [List.getElem?_toArray]; rfl) (fun K hK => ?_) (AllReadyH.cons (by rw [List.getElem?_toArray]; rfl) (fun K hK => ?_) AllReadyH.nil)
      · have c5 : vu108.cell? ⟨gi, 3, none⟩ = some vW := cell_of_row _ gi 3 _ 32 _ HK.out.box
        clear hHeld
        go_simp
        refine hK.out _ _ HK.out.l (fun hHeld => ?_)
        clear hK K c5
        refine wpAnyH_ready (rs := [7]) (by kernel_rfl) (by simp) ?_
        refine AllReadyH.cons (by rw [List.getElem?_toArray]; rfl) (fun K hK => ?_) AllReadyH.nil
        clear hHeld
        go_simp
        have c7 := Lib.hid (one_new vu108 (.int .i64 (dr m s (2 * k))))
        have c17x := Lib.hid (one_alloc c17.out (.cells #[(.int .i64 (dr m s (2 * k)))] 3))
        clear c17
        have c17 := c17x
        clear c17x
        have HKd := Lib.hid (HK.out.alloc (.cells #[(.int .i64 (dr m s (2 * k)))] 3))
        clear HK
        have HK := HKd
        clear HKd
        refine hK.out _ _ HK.out.l (fun hHeld => ?_)
        clear hK K
        generalize (vu108.alloc (.cells #[(.int .i64 (dr m s (2 * k)))] 3)) = vu109 at *
        generalize vu108.heap.size = p7 at *
        refine wpAnyH_ready (rs := [8]) (by kernel_rfl) (by simp) ?_
        refine AllReadyH.cons (by rw [List.getElem?_toArray]; rfl) (fun K hK => ?_) AllReadyH.nil
        clear hHeld
        rw [if_pos (by rfl)]
        refine wp_append_lies _ _ _ 29 rfl B 3 i0 (.int .i64 0) 1 8 Try.underlying29 hi hz0 hz1 hz2 rfl (by decide) vW k _ rfl HK.out.rw ⟨p7, 0, none⟩ 1 1 [(.int .i64 (dr m s (2 * k)))] rfl rfl (one_news c7.out) (by simp [Value.oneCell']) (by decide) (by unfold maxLen; omega) (by omega) HK.out.sz _ rfl ?_
        intro g5 cap5 w5 hown5 hgrow5 hl5 hlt5
        have HKd := Lib.hid (HK.out.addW (by rw [show 2 * k = k + k by omega]) hown5 hgrow5 hl5)
        clear HK
        have HK := HKd
        clear HKd c7
        have c17x := Lib.hid (one_kept c17.out hgrow5 n17.out)
        clear c17 n17
        have c17 := c17x
        clear c17x
        clear hown5 hgrow5 hl5 hlt5
        refine hK.out _ _ HK.out.l (fun hHeld => ?_)
        clear hK K
        refine wpAnyH_take (i := 19) (v := ?vu110) (by rw [List.getElem?_toArray]; rfl) (by kernel_rfl) (by kernel_rfl) (by kernel_rfl) ?qu110 (Or.inl ⟨by rfl, ?yu110⟩) (by assumption) ?ru110
        case qu110 => exact fun c a w h => hP c a _ _ w h
        case yu110 => (intro wz hSw; go_simp; try (with_reducible rfl))
        simp only [Act.put, List.setIfInBounds_toArray, List.set_cons_zero, List.set_cons_succ]
        refine wpAnyH_ready (rs := [18]) (by kernel_rfl) (by simp) ?_
        refine AllReadyH.cons (by rw [List.getElem?_toArray]; rfl) (fun K hK => ?_) AllReadyH.nil
        clear hHeld
        rw [if_pos (by rfl)]
        refine wp_append_lies _ _ _ 29 rfl B 3 i0 (.int .i64 0) 1 8 Try.underlying29 hi hz0 hz1 hz2 rfl (by decide) vV k _ rfl HK.out.rv ⟨p17, 0, none⟩ 1 1 [(.int .i64 (dr m s (2 * k + 1)))] rfl rfl (one_news c17.out) (by simp [Value.oneCell']) (by decide) (by unfold maxLen; omega) (by omega) HK.out.sz _ rfl ?_
        intro g6 cap6 w6 hown6 hgrow6 hl6 hlt6
        have HKd := Lib.hid (HK.out.addV (by rw [show 2 * k = k + k by omega]) hown6 hgrow6 hl6)
        clear HK
        have HK := HKd
        clear HKd c17
        clear hown6 hgrow6 hl6 hlt6
        refine hK.out _ _ HK.out.l (fun hHeld => ?_)
        clear hK K
        refine wpAnyH_ready (rs := [20]) (by kernel_rfl) (by simp) ?_
        refine AllReadyH.cons (by rw [List.getElem?_toArray]; rfl) (fun K hK => ?_) AllReadyH.nil
        have c5 := cell_of_row _ gi 3 _ 32 _ HK.out.box
        have f5 : World.frozen? _ ⟨gi, 3, none⟩ = false := frozen_of_row _ gi 3 _ 32 HK.out.box
        simp at c5
        clear hHeld
        go_simp
        have HKd := Lib.hid (rs_put HK.out 3 (.slice (some ⟨g5, 0, none⟩) (k + 1) cap5) rfl)
        clear HK
        have HK := HKd
        clear HKd
        refine hK.out _ _ HK.out.l (fun hHeld => ?_)
        clear hK K c5 f5
        refine wpAnyH_take (i := 21) (v := ?vu111) (by rw [List.getElem?_toArray]; rfl) (by kernel_rfl) (by kernel_rfl) (by kernel_rfl) ?qu111 (Or.inl ⟨by rfl, ?yu111⟩) (by assumption) ?ru111
        case qu111 => exact fun c a w h => hP c a _ _ w h
        case yu111 => (intro wz hSw; go_simp; try (with_reducible rfl))
        simp only [Act.put, List.setIfInBounds_toArray, List.set_cons_zero, List.set_cons_succ]
        refine wpAnyH_ready (rs := [22]) (by kernel_rfl) (by simp) ?_
        refine AllReadyH.cons (by rw [List.getElem?_toArray]; rfl) (fun K hK => ?_) AllReadyH.nil
        have c5 := cell_of_row _ gi 4 _ 32 _ HK.out.box
        have f5 : World.frozen? _ ⟨gi, 4, none⟩ = false := frozen_of_row _ gi 4 _ 32 HK.out.box
        simp at c5
        clear hHeld
        go_simp
        have HKd := Lib.hid (rs_put HK.out 4 (.slice (some ⟨g6, 0, none⟩) (k + 1) cap6) rfl)
        clear HK
        have HK := HKd
        clear HKd
        refine hK.out _ _ HK.out.l (fun hHeld => ?_)
        clear hK K c5 f5 hHeld
        refine wpAnyH_done (by kernel_rfl) ?_ _
        exact HRT.out _ _ _ _ _ _ _ _ _ _ _ _ _ _ _ _ _ _ _ _ _ _ _ _ _ _ HK.out
      · clear hHeld
        go_simp
        have c7 := Lib.hid (one_new vu108 (.int .i64 (dr m s (2 * k))))
        have c17x := Lib.hid (one_alloc c17.out (.cells #[(.int .i64 (dr m s (2 * k)))] 3))
        clear c17
        have c17 := c17x
        clear c17x
        have HKd := Lib.hid (HK.out.alloc (.cells #[(.int .i64 (dr m s (2 * k)))] 3))
        clear HK
        have HK := HKd
        clear HKd
        refine hK.out _ _ HK.out.l (fun hHeld => ?_)
        clear hK K
        generalize (vu108.alloc (.cells #[(.int .i64 (dr m s (2 * k)))] 3)) = vu112 at *
        generalize vu108.heap.size = p7 at *
        refine wpAnyH_ready (rs := [1]) (by kernel_rfl) (by simp) ?_
        refine AllReadyH.cons (by rw [List.getElem?_toArray]; rfl) (fun K hK => ?_) AllReadyH.nil
        have c5 : vu112.cell? ⟨gi, 3, none⟩ = some vW := cell_of_row _ gi 3 _ 32 _ HK.out.box
        clear hHeld
        go_simp
        refine hK.out _ _ HK.out.l (fun hHeld => ?_)
        clear hK K c5
        refine wpAnyH_ready (rs := [8]) (by kernel_rfl) (by simp) ?_
        refine AllReadyH.cons (by rw [List.getElem?_toArray]; rfl) (fun K hK => ?_) AllReadyH.nil
        clear hHeld
        rw [if_pos (by rfl)]
        refine wp_append_lies _ _ _ 29 rfl B 3 i0 (.int .i64 0) 1 8 Try.underlying29 hi hz0 hz1 hz2 rfl (by decide) vW k _ rfl HK.out.rw ⟨p7, 0, none⟩ 1 1 [(.int .i64 (dr m s (2 * k)))] rfl rfl (one_news c7.out) (by simp [Value.oneCell']) (by decide) (by unfold maxLen; omega) (by omega) HK.out.sz _ rfl ?_
        intro g5 cap5 w5 hown5 hgrow5 hl5 hlt5
        have HKd := Lib.hid (HK.out.addW (by rw [show 2 * k = k + k by omega]) hown5 hgrow5 hl5)
        clear HK
        have HK := HKd
        clear HKd c7
        have c17x := Lib.hid (one_kept c17.out hgrow5 n17.out)
        clear c17 n17
        have c17 := c17x
        clear c17x
        clear hown5 hgrow5 hl5 hlt5
        refine hK.out _ _ HK.out.l (fun hHeld => ?_)
        clear hK K
        refine wpAnyH_take (i := 19) (v := ?vu113) (by rw [List.getElem?_toArray]; rfl) (by kernel_rfl) (by kernel_rfl) (by kernel_rfl) ?qu113 (Or.inl ⟨by rfl, ?yu113⟩) (by assumption) ?ru113
        case qu113 => exact fun c a w h => hP c a _ _ w h
        case yu113 => (intro wz hSw; go_simp; try (with_reducible rfl))
        simp only [Act.put, List.setIfInBounds_toArray, List.set_cons_zero, List.set_cons_succ]
        refine wpAnyH_ready (rs := [18]) (by kernel_rfl) (by simp) ?_
        refine AllReadyH.cons (by rw [List.getElem?_toArray]; rfl) (fun K hK => ?_) AllReadyH.nil
        clear hHeld
        rw [if_pos (by rfl)]
        refine wp_append_lies _ _ _ 29 rfl B 3 i0 (.int .i64 0) 1 8 Try.underlying29 hi hz0 hz1 hz2 rfl (by decide) vV k _ rfl HK.out.rv ⟨p17, 0, none⟩ 1 1 [(.int .i64 (dr m s (2 * k + 1)))] rfl rfl (one_news c17.out) (by simp [Value.oneCell']) (by decide) (by unfold maxLen; omega) (by omega) HK.out.sz _ rfl ?_
        intro g6 cap6 w6 hown6 hgrow6 hl6 hlt6
        have HKd := Lib.hid (HK.out.addV (by rw [show 2 * k = k + k by omega]) hown6 hgrow6 hl6)
        clear HK
        have HK := HKd
        clear HKd c17
        clear hown6 hgrow6 hl6 hlt6
        refine hK.out _ _ HK.out.l (fun hHeld => ?_)
        clear hK K
        refine wpAnyH_ready (rs := [20]) (by kernel_rfl) (by simp) ?_
        refine AllReadyH.cons (by rw [List.getElem?_toArray]; rfl) (fun K hK => ?_) AllReadyH.nil
        have c5 := cell_of_row _ gi 3 _ 32 _ HK.out.box
        have f5 : World.frozen? _ ⟨gi, 3, none⟩ = false := frozen_of_row _ gi 3 _ 32 HK.out.box
        simp at c5
        clear hHeld
        go_simp
        have HKd := Lib.hid (rs_put HK.out 3 (.slice (some ⟨g5, 0, none⟩) (k + 1) cap5) rfl)
        clear HK
        have HK := HKd
        clear HKd
        refine hK.out _ _ HK.out.l (fun hHeld => ?_)
        clear hK K c5 f5
        refine wpAnyH_take (i := 21) (v := ?vu114) (by rw [List.getElem?_toArray]; rfl) (by kernel_rfl) (by kernel_rfl) (by kernel_rfl) ?qu114 (Or.inl ⟨by rfl, ?yu114⟩) (by assumption) ?ru114
        case qu114 => exact fun c a w h => hP c a _ _ w h
        case yu114 => (intro wz hSw; go_simp; try (with_reducible rfl))
        simp only [Act.put, List.setIfInBounds_toArray, List.set_cons_zero, List.set_cons_succ]
        refine wpAnyH_ready (rs := [22]) (by kernel_rfl) (by simp) ?_
        refine AllReadyH.cons (by rw [List.getElem?_toArray]; rfl) (fun K hK => ?_) AllReadyH.nil
        have c5 := cell_of_row _ gi 4 _ 32 _ HK.out.box
        have f5 : World.frozen? _ ⟨gi, 4, none⟩ = false := frozen_of_row _ gi 4 _ 32 HK.out.box
        simp at c5
        clear hHeld
        go_simp
        have HKd := Lib.hid (rs_put HK.out 4 (.slice (some ⟨g6, 0, none⟩) (k + 1) cap6) rfl)
        clear HK
        have HK := HKd
        clear HKd
        refine hK.out _ _ HK.out.l (fun hHeld => ?_)
        clear hK K c5 f5 hHeld
        refine wpAnyH_done (by kernel_rfl) ?_ _
        exact HRT.out _ _ _ _ _ _ _ _ _ _ _ _ _ _ _ _ _ _ _ _ _ _ _ _ _ _ HK.out
  · clear hHeld
    go_simp
    have n17 := Lib.hid (row_fresh HK.out.rw)
    have c17 := Lib.hid (one_new vu1 (.int .i64 (dr m s (2 * k + 1))))
    have HKd := Lib.hid (HK.out.alloc (.cells #[(.int .i64 (dr m s (2 * k + 1)))] 3))
    clear HK
    have HK := HKd
    clear HKd
    refine hK.out _ _ HK.out.l (fun hHeld => ?_)
    clear hK K
    generalize (vu1.alloc (.cells #[(.int .i64 (dr m s (2 * k + 1)))] 3)) = vu115 at *
    generalize vu1.heap.size = p17 at *
    refine wpAnyH_ready (rs := [1, 7, 10]) (by kernel_rfl) (by simp) ?_
    refine AllReadyH.cons (by rw [List.getElem?_toArray]; rfl) (fun K hK => ?_) (AllReadyH.cons (by rw [List.getElem?_toArray]; rfl) (fun K hK => ?_) (AllReadyH.cons (by rw [List.getElem?_toArray]; rfl) (fun K hK => ?_) AllReadyH.nil))
    · have c5 : vu115.cell? ⟨gi, 3, none⟩ = some vW := cell_of_row _ gi 3 _ 32 _ HK.out.box
      clear hHeld
      go_simp
      refine hK.out _ _ HK.out.l (fun hHeld => ?_)
      clear hK K c5
      refine wpAnyH_ready (rs := [7, 10]) (by kernel_rfl) (by simp) ?_
      refine AllReadyH.cons (by rw [List.getElem?_toArray]; rfl) (fun K hK => ?_) (AllReadyH.cons (by rw [List.getElem?_toArray]; rfl) (fun K hK => ?_) AllReadyH.nil)
      · clear hHeld
        go_simp
        have c7 := Lib.hid (one_new vu115 (.int .i64 (dr m s (2 * k))))
        have c17x := Lib.hid (one_alloc c17.out (.cells #[(.int .i64 (dr m s (2 * k)))] 3))
        clear c17
        have c17 := c17x
        clear c17x
        have HKd := Lib.hid (HK.out.alloc (.cells #[(.int .i64 (dr m s (2 * k)))] 3))
        clear HK
        have HK := HKd
        clear HKd
        refine hK.out _ _ HK.out.l (fun hHeld => ?_)
        clear hK K
        generalize (vu115.alloc (.cells #[(.int .i64 (dr m s (2 * k)))] 3)) = vu116 at *
        generalize vu115.heap.size = p7 at *
        refine wpAnyH_ready (rs := [8, 10]) (by kernel_rfl) (by simp) ?_
        refine AllReadyH.cons (by rw [List.getElem?_toArray]; rfl) (fun K hK => ?_) (AllReadyH.cons (by rw [List.getElem?_toArray]; rfl) (fun K hK => ?_) AllReadyH.nil)
        · clear hHeld
          rw [if_pos (by rfl)]
          refine wp_append_lies _ _ _ 29 rfl B 3 i0 (.int .i64 0) 1 8 Try.underlying29 hi hz0 hz1 hz2 rfl (by decide) vW k _ rfl HK.out.rw ⟨p7, 0, none⟩ 1 1 [(.int .i64 (dr m s (2 * k)))] rfl rfl (one_news c7.out) (by simp [Value.oneCell']) (by decide) (by unfold maxLen; omega) (by omega) HK.out.sz _ rfl ?_
          intro g5 cap5 w5 hown5 hgrow5 hl5 hlt5
          have HKd := Lib.hid (HK.out.addW (by rw [show 2 * k = k + k by omega]) hown5 hgrow5 hl5)
          clear HK
          have HK := HKd
          clear HKd c7
          have c17x := Lib.hid (one_kept c17.out hgrow5 n17.out)
          clear c17 n17
          have c17 := c17x
          clear c17x
          clear hown5 hgrow5 hl5 hlt5
          refine hK.out _ _ HK.out.l (fun hHeld => ?_)
          clear hK K
          refine wpAnyH_ready (rs := [10]) (by kernel_rfl) (by simp) ?_
          refine AllReadyH.cons (by rw [List.getElem?_toArray]; rfl) (fun K hK => ?_) AllReadyH.nil
          have c5 : w5.cell? ⟨gi, 4, none⟩ = some vV := cell_of_row _ gi 4 _ 32 _ HK.out.box
          clear hHeld
          go_simp
          refine hK.out _ _ HK.out.l (fun hHeld => ?_)
          clear hK K c5
          refine wpAnyH_take (i := 19) (v := ?vu117) (by rw [List.getElem?_toArray]; rfl) (by kernel_rfl) (by kernel_rfl) (by kernel_rfl) ?qu117 (Or.inl ⟨by rfl, ?yu117⟩) (by assumption) ?ru117
          case qu117 => exact fun c a w h => hP c a _ _ w h
          case yu117 => (intro wz hSw; go_simp; try (with_reducible rfl))
          simp only [Act.put, List.setIfInBounds_toArray, List.set_cons_zero, List.set_cons_succ]
          refine wpAnyH_ready (rs := [18]) (by kernel_rfl) (by simp) ?_
          refine AllReadyH.cons (by rw [List.getElem?_toArray]; rfl) (fun K hK => ?_) AllReadyH.nil
          clear hHeld
          rw [if_pos (by rfl)]
          refine wp_append_lies _ _ _ 29 rfl B 3 i0 (.int .i64 0) 1 8 Try.underlying29 hi hz0 hz1 hz2 rfl (by decide) vV k _ rfl HK.out.rv ⟨p17, 0, none⟩ 1 1 [(.int .i64 (dr m s (2 * k + 1)))] rfl rfl (one_news c17.out) (by simp [Value.oneCell']) (by decide) (by unfold maxLen; omega) (by omega) HK.out.sz _ rfl ?_
          intro g6 cap6 w6 hown6 hgrow6 hl6 hlt6
          have HKd := Lib.hid (HK.out.addV (by rw [show 2 * k = k + k by omega]) hown6 hgrow6 hl6)
          clear HK
          have HK := HKd
          clear HKd c17
          clear hown6 hgrow6 hl6 hlt6
          refine hK.out _ _ HK.out.l (fun hHeld => ?_)
          clear hK K
          refine wpAnyH_ready (rs := [20]) (by kernel_rfl) (by simp) ?_
          refine AllReadyH.cons (by rw [List.getElem?_toArray]; rfl) (fun K hK => ?_) AllReadyH.nil
          have c5 := cell_of_row _ gi 3 _ 32 _ HK.out.box
          have f5 : World.frozen? _ ⟨gi, 3, none⟩ = false := frozen_of_row _ gi 3 _ 32 HK.out.box
          simp at c5
          clear hHeld
          go_simp
          have HKd := Lib.hid (rs_put HK.out 3 (.slice (some ⟨g5, 0, none⟩) (k + 1) cap5) rfl)
          clear HK
          have HK := HKd
          clear HKd
          refine hK.out _ _ HK.out.l (fun hHeld => ?_)
          clear hK K c5 f5
          refine wpAnyH_take (i := 21) (v := ?vu118) (by rw [List.getElem?_toArray]; rfl) (by kernel_rfl) (by kernel_rfl) (by kernel_rfl) ?qu118 (Or.inl ⟨by rfl, ?yu118⟩) (by assumption) ?ru118
          case qu118 => exact fun c a w h => hP c a _ _ w h
          case yu118 => (intro wz hSw; go_simp; try (with_reducible rfl))
          simp only [Act.put, List.setIfInBounds_toArray, List.set_cons_zero, List.set_cons_succ]
          refine wpAnyH_ready (rs := [22]) (by kernel_rfl) (by simp) ?_
          refine AllReadyH.cons (by rw [List.getElem?_toArray]; rfl) (fun K hK => ?_) AllReadyH.nil
          have c5 := cell_of_row _ gi 4 _ 32 _ HK.out.box
          have f5 : World.frozen? _ ⟨gi, 4, none⟩ = false := frozen_of_row _ gi 4 _ 32 HK.out.box
          simp at c5
          clear hHeld
          go_simp
          have HKd := Lib.hid (rs_put HK.out 4 (.slice (some ⟨g6, 0, none⟩) (k + 1) cap6) rfl)
          clear HK
          have HK := HKd
          clear HKd
          refine hK.out _ _ HK.out.l (fun hHeld => ?_)
          clear hK K c5 f5 hHeld
          refine wpAnyH_done (by kernel_rfl) ?_ _
          exact HRT.out _ _ _ _ _ _ _ _ _ _ _ _ _ _ _ _ _ _ _ _ _ _ _ _ _ _ HK.out
        · have c5 : vu116.cell? ⟨gi, 4, none⟩ = some vV := cell_of_row _ gi 4 _ 32 _ HK.out.box
          clear hHeld
          go_simp
          refine hK.out _ _ HK.out.l (fun hHeld => ?_)
          clear hK K c5
          refine wpAnyH_ready (rs := [8]) (by kernel_rfl) (by simp) ?_
          refine AllReadyH.cons (by rw [List.getElem?_toArray]; rfl) (fun K hK => ?_) AllReadyH.nil
          clear hHeld
          rw [if_pos (by rfl)]
          refine wp_append_lies _ _ _ 29 rfl B 3 i0 (.int .i64 0) 1 8 Try.underlying29 hi hz0 hz1 hz2 rfl (by decide) vW k _ rfl HK.out.rw ⟨p7, 0, none⟩ 1 1 [(.int .i64 (dr m s (2 * k)))] rfl rfl (one_news c7.out) (by simp [Value.oneCell']) (by decide) (by unfold maxLen; omega) (by omega) HK.out.sz _ rfl ?_
          intro g5 cap5 w5 hown5 hgrow5 hl5 hlt5
          have HKd := Lib.hid (HK.out.addW (by rw [show 2 * k = k + k by omega]) hown5 hgrow5 hl5)
          clear HK
          have HK := HKd
          clear HKd c7
          have c17x := Lib.hid (one_kept c17.out hgrow5 n17.out)
          clear c17 n17
          have c17 := c17x
          clear c17x
          clear hown5 hgrow5 hl5 hlt5
          refine hK.out _ _ HK.out.l (fun hHeld => ?_)
          clear hK K
          refine wpAnyH_take (i := 19) (v := ?vu119) (by rw [List.getElem?_toArray]; rfl) (by kernel_rfl) (by kernel_rfl) (by kernel_rfl) ?qu119 (Or.inl ⟨by rfl, ?yu119⟩) (by assumption) ?ru119
          case qu119 => exact fun c a w h => hP c a _ _ w h
          case yu119 => (intro wz hSw; go_simp; try (with_reducible rfl))
          simp only [Act.put, List.setIfInBounds_toArray, List.set_cons_zero, List.set_cons_succ]
          refine wpAnyH_ready (rs := [18]) (by kernel_rfl) (by simp) ?_
          refine AllReadyH.cons (by rw [List.getElem?_toArray]; rfl) (fun K hK => ?_) AllReadyH.nil
          clear hHeld
          rw [if_pos (by rfl)]
          refine wp_append_lies _ _ _ 29 rfl B 3 i0 (.int .i64 0) 1 8 Try.underlying29 hi hz0 hz1 hz2 rfl (by decide) vV k _ rfl HK.out.rv ⟨p17, 0, none⟩ 1 1 [(.int .i64 (dr m s (2 * k + 1)))] rfl rfl (one_news c17.out) (by simp [Value.oneCell']) (by decide) (by unfold maxLen; omega) (by omega) HK.out.sz _ rfl ?_
          intro g6 cap6 w6 hown6 hgrow6 hl6 hlt6
          have HKd := Lib.hid (HK.out.addV (by rw [show 2 * k = k + k by omega]) hown6 hgrow6 hl6)
          clear HK
          have HK := HKd
          clear HKd c17
          clear hown6 hgrow6 hl6 hlt6
          refine hK.out _ _ HK.out.l (fun hHeld => ?_)
          clear hK K
          refine wpAnyH_ready (rs := [20]) (by kernel_rfl) (by simp) ?_
          refine AllReadyH.cons (by rw [List.getElem?_toArray]; rfl) (fun K hK => ?_) AllReadyH.nil
          have c5 := cell_of_row _ gi 3 _ 32 _ HK.out.box
          have f5 : World.frozen? _ ⟨gi, 3, none⟩ = false := frozen_of_row _ gi 3 _ 32 HK.out.box
          simp at c5
          clear hHeld
          go_simp
          have HKd := Lib.hid (rs_put HK.out 3 (.slice (some ⟨g5, 0, none⟩) (k + 1) cap5) rfl)
          clear HK
          have HK := HKd
          clear HKd
          refine hK.out _ _ HK.out.l (fun hHeld => ?_)
          clear hK K c5 f5
          refine wpAnyH_take (i := 21) (v := ?vu120) (by rw [List.getElem?_toArray]; rfl) (by kernel_rfl) (by kernel_rfl) (by kernel_rfl) ?qu120 (Or.inl ⟨by rfl, ?yu120⟩) (by assumption) ?ru120
          case qu120 => exact fun c a w h => hP c a _ _ w h
          case yu120 => (intro wz hSw; go_simp; try (with_reducible rfl))
          simp only [Act.put, List.setIfInBounds_toArray, List.set_cons_zero, List.set_cons_succ]
          refine wpAnyH_ready (rs := [22]) (by kernel_rfl) (by simp) ?_
          refine AllReadyH.cons (by rw [List.getElem?_toArray]; rfl) (fun K hK => ?_) AllReadyH.nil
          have c5 := cell_of_row _ gi 4 _ 32 _ HK.out.box
          have f5 : World.frozen? _ ⟨gi, 4, none⟩ = false := frozen_of_row _ gi 4 _ 32 HK.out.box
          simp at c5
          clear hHeld
          go_simp
          have HKd := Lib.hid (rs_put HK.out 4 (.slice (some ⟨g6, 0, none⟩) (k + 1) cap6) rfl)
          clear HK
          have HK := HKd
          clear HKd
          refine hK.out _ _ HK.out.l (fun hHeld => ?_)
          clear hK K c5 f5 hHeld
          refine wpAnyH_done (by kernel_rfl) ?_ _
          exact HRT.out _ _ _ _ _ _ _ _ _ _ _ _ _ _ _ _ _ _ _ _ _ _ _ _ _ _ HK.out
      · have c5 : vu115.cell? ⟨gi, 4, none⟩ = some vV := cell_of_row _ gi 4 _ 32 _ HK.out.box
        clear hHeld
        go_simp
        refine hK.out _ _ HK.out.l (fun hHeld => ?_)
        clear hK K c5
        refine wpAnyH_ready (rs := [7]) (by kernel_rfl) (by simp) ?_
        refine AllReadyH.cons (by rw [List.getElem?_toArray]; rfl) (fun K hK => ?_) AllReadyH.nil
        clear hHeld
        go_simp
        have c7 := Lib.hid (one_new vu115 (.int .i64 (dr m s (2 * k))))
        have c17x := Lib.hid (one_alloc c17.out (.cells #[(.int .i64 (dr m s (2 * k)))] 3))
        clear c17
        have c17 := c17x
        clear c17x
        have HKd := Lib.hid (HK.out.alloc (.cells #[(.int .i64 (dr m s (2 * k)))] 3))
        clear HK
        have HK := HKd
        clear HKd
        refine hK.out _ _ HK.out.l (fun hHeld => ?_)
        clear hK K
        generalize (vu115.alloc (.cells #[(.int .i64 (dr m s (2 * k)))] 3)) = vu121 at *
        generalize vu115.heap.size = p7 at *
        refine wpAnyH_ready (rs := [8]) (by kernel_rfl) (by simp) ?_
        refine AllReadyH.cons (by rw [List.getElem?_toArray]; rfl) (fun K hK => ?_) AllReadyH.nil
        clear hHeld
        rw [if_pos (by rfl)]
        refine wp_append_lies _ _ _ 29 rfl B 3 i0 (.int .i64 0) 1 8 Try.underlying29 hi hz0 hz1 hz2 rfl (by decide) vW k _ rfl HK.out.rw ⟨p7, 0, none⟩ 1 1 [(.int .i64 (dr m s (2 * k)))] rfl rfl (one_news c7.out) (by simp [Value.oneCell']) (by decide) (by unfold maxLen; omega) (by omega) HK.out.sz _ rfl ?_
        intro g5 cap5 w5 hown5 hgrow5 hl5 hlt5
        have HKd := Lib.hid (HK.out.addW (by rw [show 2 * k = k + k by omega]) hown5 hgrow5 hl5)
        clear HK
        have HK := HKd
        clear HKd c7
        have c17x := Lib.hid (one_kept c17.out hgrow5 n17.out)
        clear c17 n17
        have c17 := c17x
        clear c17x
        clear hown5 hgrow5 hl5 hlt5
        refine hK.out _ _ HK.out.l (fun hHeld => ?_)
        clear hK K
        refine wpAnyH_take (i := 19) (v := ?vu122) (by rw [List.getElem?_toArray]; rfl) (by kernel_rfl) (by kernel_rfl) (by kernel_rfl) ?qu122 (Or.inl ⟨by rfl, ?yu122⟩) (by assumption) ?ru122
        case qu122 => exact fun c a w h => hP c a _ _ w h
        case yu122 => (intro wz hSw; go_simp; try (with_reducible rfl))
        simp only [Act.put, List.setIfInBounds_toArray, List.set_cons_zero, List.set_cons_succ]
        refine wpAnyH_ready (rs := [18]) (by kernel_rfl) (by simp) ?_
        refine AllReadyH.cons (by rw [List.getElem?_toArray]; rfl) (fun K hK => ?_) AllReadyH.nil
        clear hHeld
        rw [if_pos (by rfl)]
        refine wp_append_lies _ _ _ 29 rfl B 3 i0 (.int .i64 0) 1 8 Try.underlying29 hi hz0 hz1 hz2 rfl (by decide) vV k _ rfl HK.out.rv ⟨p17, 0, none⟩ 1 1 [(.int .i64 (dr m s (2 * k + 1)))] rfl rfl (one_news c17.out) (by simp [Value.oneCell']) (by decide) (by unfold maxLen; omega) (by omega) HK.out.sz _ rfl ?_
        intro g6 cap6 w6 hown6 hgrow6 hl6 hlt6
        have HKd := Lib.hid (HK.out.addV (by rw [show 2 * k = k + k by omega]) hown6 hgrow6 hl6)
        clear HK
        have HK := HKd
        clear HKd c17
        clear hown6 hgrow6 hl6 hlt6
        refine hK.out _ _ HK.out.l (fun hHeld => ?_)
        clear hK K
        refine wpAnyH_ready (rs := [20]) (by kernel_rfl) (by simp) ?_
        refine AllReadyH.cons (by rw [List.getElem?_toArray]; rfl) (fun K hK => ?_) AllReadyH.nil
        have c5 := cell_of_row _ gi 3 _ 32 _ HK.out.box
        have f5 : World.frozen? _ ⟨gi, 3, none⟩ = false := frozen_of_row _ gi 3 _ 32 HK.out.box
        simp at c5
        clear hHeld
        go_simp
        have HKd := Lib.hid (rs_put HK.out 3 (.slice (some ⟨g5, 0, none⟩) (k + 1) cap5) rfl)
        clear HK
        have HK := HKd
        clear HKd
        refine hK.out _ _ HK.out.l (fun hHeld => ?_)
        clear hK K c5 f5
        refine wpAnyH_take (i := 21) (v := ?vu123) (by rw [List.getElem?_toArray]; rfl) (by kernel_rfl) (by kernel_rfl) (by kernel_rfl) ?qu123 (Or.inl ⟨by rfl, ?yu123⟩) (by assumption) ?ru123
        case qu123 => exact fun c a w h => hP c a _ _ w h
        case yu123 => (intro wz hSw; go_simp; try (with_reducible rfl))
        simp only [Act.put, List.setIfInBounds_toArray, List.set_cons_zero, List.set_cons_succ]
        refine wpAnyH_ready (rs := [22]) (by kernel_rfl) (by simp) ?_
        refine AllReadyH.cons (by rw [List.getElem?_toArray]; rfl) (fun K hK => ?_) AllReadyH.nil
        have c5 := cell_of_row _ gi 4 _ 32 _ HK.out.box
        have f5 : World.frozen? _ ⟨gi, 4, none⟩ = false := frozen_of_row _ gi 4 _ 32 HK.out.box
        simp at c5
        clear hHeld
        go_simp
        have HKd := Lib.hid (rs_put HK.out 4 (.slice (some ⟨g6, 0, none⟩) (k + 1) cap6) rfl)
        clear HK
        have HK := HKd
        clear HKd
        refine hK.out _ _ HK.out.l (fun hHeld => ?_)
        clear hK K c5 f5 hHeld
        refine wpAnyH_done (by kernel_rfl) ?_ _
        exact HRT.out _ _ _ _ _ _ _ _ _ _ _ _ _ _ _ _ _ _ _ _ _ _ _ _ _ _ HK.out
    · clear hHeld
      go_simp
      have c7 := Lib.hid (one_new vu115 (.int .i64 (dr m s (2 * k))))
      have c17x := Lib.hid (one_alloc c17.out (.cells #[(.int .i64 (dr m s (2 * k)))] 3))
      clear c17
      have c17 := c17x
      clear c17x
      have HKd := Lib.hid (HK.out.alloc (.cells #[(.int .i64 (dr m s (2 * k)))] 3))
      clear HK
      have HK := HKd
      clear HKd
      refine hK.out _ _ HK.out.l (fun hHeld => ?_)
      clear hK K
      generalize (vu115.alloc (.cells #[(.int .i64 (dr m s (2 * k)))] 3)) = vu124 at *
      generalize vu115.heap.size = p7 at *
      refine wpAnyH_ready (rs := [1, 10]) (by kernel_rfl) (by simp) ?_
      refine AllReadyH.cons (by rw [List.getElem?_toArray]; rfl) (fun K hK => ?_) (AllReadyH.cons (by rw [List.getElem?_toArray]; rfl) (fun K hK => ?_) AllReadyH.nil)
      · have c5 : vu124.cell? ⟨gi, 3, none⟩ = some vW := cell_of_row _ gi 3 _ 32 _ HK.out.box
        clear hHeld
        go_simp
        refine hK.out _ _ HK.out.l (fun hHeld => ?_)
        clear hK K c5
        refine wpAnyH_ready (rs := [8, 10]) (by kernel_rfl) (by simp) ?_
        refine AllReadyH.cons (by rw [List.getElem?_toArray]; rfl) (fun K hK => ?_) (AllReadyH.cons (by rw [List.getElem?_toArray]; rfl) (fun K hK => ?_) AllReadyH.nil)
        · clear hHeld
          rw [if_pos (by rfl)]
          refine wp_append_lies _ _ _ 29 rfl B 3 i0 (.int .i64 0) 1 8 Try.underlying29 hi hz0 hz1 hz2 rfl (by decide) vW k _ rfl HK.out.rw ⟨p7, 0, none⟩ 1 1 [(.int .i64 (dr m s (2 * k)))] rfl rfl (one_news c7.out) (by simp [Value.oneCell']) (by decide) (by unfold maxLen; omega) (by omega) HK.out.sz _ rfl ?_
          intro g5 cap5 w5 hown5 hgrow5 hl5 hlt5
          have HKd := Lib.hid (HK.out.addW (by rw [show 2 * k = k + k by omega]) hown5 hgrow5 hl5)
          clear HK
          have HK := HKd
          clear HKd c7
          have c17x := Lib.hid (one_kept c17.out hgrow5 n17.out)
          clear c17 n17
          have c17 := c17x
          clear c17x
          clear hown5 hgrow5 hl5 hlt5
          refine hK.out _ _ HK.out.l (fun hHeld => ?_)
          clear hK K
          refine wpAnyH_ready (rs := [10]) (by kernel_rfl) (by simp) ?_
          refine AllReadyH.cons (by rw [List.getElem?_toArray]; rfl) (fun K hK => ?_) AllReadyH.nil
          have c5 : w5.cell? ⟨gi, 4, none⟩ = some vV := cell_of_row _ gi 4 _ 32 _ HK.out.box
          clear hHeld
          go_simp
          refine hK.out _ _ HK.out.l (fun hHeld => ?_)
          clear hK K c5
          refine wpAnyH_take (i := 19) (v := ?vu125) (by rw [List.getElem?_toArray]; rfl) (by kernel_rfl) (by kernel_rfl) (by kernel_rfl) ?qu125 (Or.inl ⟨by rfl, ?yu125⟩) (by assumption) ?ru125
          case qu125 => exact fun c a w h => hP c a _ _ w h
          case yu125 => (intro wz hSw; go_simp; try (with_reducible rfl))
          simp only [Act.put, List.setIfInBounds_toArray, List.set_cons_zero, List.set_cons_succ]
          refine wpAnyH_ready (rs := [18]) (by kernel_rfl) (by simp) ?_
          refine AllReadyH.cons (by rw [List.getElem?_toArray]; rfl) (fun K hK => ?_) AllReadyH.nil
          clear hHeld
          rw [if_pos (by rfl)]
          refine wp_append_lies _ _ _ 29 rfl B 3 i0 (.int .i64 0) 1 8 Try.underlying29 hi hz0 hz1 hz2 rfl (by decide) vV k _ rfl HK.out.rv ⟨p17, 0, none⟩ 1 1 [(.int .i64 (dr m s (2 * k + 1)))] rfl rfl (one_news c17.out) (by simp [Value.oneCell']) (by decide) (by unfold maxLen; omega) (by omega) HK.out.sz _ rfl ?_
          intro g6 cap6 w6 hown6 hgrow6 hl6 hlt6
          have HKd := Lib.hid (HK.out.addV (by rw [show 2 * k = k + k by omega]) hown6 hgrow6 hl6)
          clear HK
          have HK := HKd
          clear HKd c17
          clear hown6 hgrow6 hl6 hlt6
          refine hK.out _ _ HK.out.l (fun hHeld => ?_)
          clear hK K
          refine wpAnyH_ready (rs := [20]) (by kernel_rfl) (by simp) ?_
          refine AllReadyH.cons (by rw [List.getElem?_toArray]; rfl) (fun K hK => ?_) AllReadyH.nil
          have c5 := cell_of_row _ gi 3 _ 32 _ HK.out.box
          have f5 : World.frozen? _ ⟨gi, 3, none⟩ = false := frozen_of_row _ gi 3 _ 32 HK.out.box
          simp at c5
          clear hHeld
          go_simp
          have HKd := Lib.hid (rs_put HK.out 3 (.slice (some ⟨g5, 0, none⟩) (k + 1) cap5) rfl)
          clear HK
          have HK := HKd
          clear HKd
          refine hK.out _ _ HK.out.l (fun hHeld => ?_)
          clear hK K c5 f5
          refine wpAnyH_take (i := 21) (v := ?vu126) (by rw [List.getElem?_toArray]; rfl) (by kernel_rfl) (by kernel_rfl) (by kernel_rfl) ?qu126 (Or.inl ⟨by rfl, ?yu126⟩) (by assumption) ?ru126
          case qu126 => exact fun c a w h => hP c a _ _ w h
          case yu126 => (intro wz hSw; go_simp; try (with_reducible rfl))
          simp only [Act.put, List.setIfInBounds_toArray, List.set_cons_zero, List.set_cons_succ]
          refine wpAnyH_ready (rs := [22]) (by kernel_rfl) (by simp) ?_
          refine AllReadyH.cons (by rw [List.getElem?_toArray]; rfl) (fun K hK => ?_) AllReadyH.nil
          have c5 := cell_of_row _ gi 4 _ 32 _ HK.out.box
          have f5 : World.frozen? _ ⟨gi, 4, none⟩ = false := frozen_of_row _ gi 4 _ 32 HK.out.box
          simp at c5
          clear hHeld
          go_simp
          have HKd := Lib.hid (rs_put HK.out 4 (.slice (some ⟨g6, 0, none⟩) (k + 1) cap6) rfl)
          clear HK
          have HK := HKd
          clear HKd
          refine hK.out _ _ HK.out.l (fun hHeld => ?_)
          clear hK K c5 f5 hHeld
          refine wpAnyH_done (by kernel_rfl) ?_ _
          exact HRT.out _ _ _ _ _ _ _ _ _ _ _ _ _ _ _ _ _ _ _ _ _ _ _ _ _ _ HK.out
        · have c5 : vu124.cell? ⟨gi, 4, none⟩ = some vV := cell_of_row _ gi 4 _ 32 _ HK.out.box
          clear hHeld
          go_simp
          refine hK.out _ _ HK.out.l (fun hHeld => ?_)
          clear hK K c5
          refine wpAnyH_ready (rs := [8]) (by kernel_rfl) (by simp) ?_
          refine AllReadyH.cons (by rw [List.getElem?_toArray]; rfl) (fun K hK => ?_) AllReadyH.nil
          clear hHeld
          rw [if_pos (by rfl)]
          refine wp_append_lies _ _ _ 29 rfl B 3 i0 (.int .i64 0) 1 8 Try.underlying29 hi hz0 hz1 hz2 rfl (by decide) vW k _ rfl HK.out.rw ⟨p7, 0, none⟩ 1 1 [(.int .i64 (dr m s (2 * k)))] rfl rfl (one_news c7.out) (by simp [Value.oneCell']) (by decide) (by unfold maxLen; omega) (by omega) HK.out.sz _ rfl ?_
          intro g5 cap5 w5 hown5 hgrow5 hl5 hlt5
          have HKd := Lib.hid (HK.out.addW (by rw [show 2 * k = k + k by omega]) hown5 hgrow5 hl5)
          clear HK
          have HK := HKd
          clear HKd c7
          have c17x := Lib.hid (one_kept c17.out hgrow5 n17.out)
          clear c17 n17
          have c17 := c17x
          clear c17x
          clear hown5 hgrow5 hl5 hlt5
          refine hK.out _ _ HK.out.l (fun hHeld => ?_)
          clear hK K
          refine wpAnyH_take (i := 19) (v := ?vu127) (by rw [List.getElem?_toArray]; rfl) (by kernel_rfl) (by kernel_rfl) (by kernel_rfl) ?qu127 (Or.inl ⟨by rfl, ?yu127⟩) (by assumption) ?ru127
          case qu127 => exact fun c a w h => hP c a _ _ w h
          case yu127 => (intro wz hSw; go_simp; try (with_reducible rfl))
          simp only [Act.put, List.setIfInBounds_toArray, List.set_cons_zero, List.set_cons_succ]
          refine wpAnyH_ready (rs := [18]) (by kernel_rfl) (by simp) ?_
          refine AllReadyH.cons (by rw [List.getElem?_toArray]; rfl) (fun K hK => ?_) AllReadyH.nil
          clear hHeld
          rw [if_pos (by rfl)]
          refine wp_append_lies _ _ _ 29 rfl B 3 i0 (.int .i64 0) 1 8 Try.underlying29 hi hz0 hz1 hz2 rfl (by decide) vV k _ rfl HK.out.rv ⟨p17, 0, none⟩ 1 1 [(.int .i64 (dr m s (2 * k + 1)))] rfl rfl (one_news c17.out) (by simp [Value.oneCell']) (by decide) (by unfold maxLen; omega) (by omega) HK.out.sz _ rfl ?_
          intro g6 cap6 w6 hown6 hgrow6 hl6 hlt6
          have HKd := Lib.hid (HK.out.addV (by rw [show 2 * k = k + k by omega]) hown6 hgrow6 hl6)
          clear HK
          have HK := HKd
          clear HKd c17
          clear hown6 hgrow6 hl6 hlt6
          refine hK.out _ _ HK.out.l (fun hHeld => ?_)
          clear hK K
          refine wpAnyH_ready (rs := [20]) (by kernel_rfl) (by simp) ?_
          refine AllReadyH.cons (by rw [List.getElem?_toArray]; rfl) (fun K hK => ?_) AllReadyH.nil
          have c5 := cell_of_row _ gi 3 _ 32 _ HK.out.box
          have f5 : World.frozen? _ ⟨gi, 3, none⟩ = false := frozen_of_row _ gi 3 _ 32 HK.out.box
          simp at c5
          clear hHeld
          go_simp
          have HKd := Lib.hid (rs_put HK.out 3 (.slice (some ⟨g5, 0, none⟩) (k + 1) cap5) rfl)
          clear HK
          have HK := HKd
          clear HKd
          refine hK.out _ _ HK.out.l (fun hHeld => ?_)
          clear hK K c5 f5
          refine wpAnyH_take (i := 21) (v := ?vu128) (by rw [List.getElem?_toArray]; rfl) (by kernel_rfl) (by kernel_rfl) (by kernel_rfl) ?qu128 (Or.inl ⟨by rfl, ?yu128⟩) (by assumption) ?ru128
          case qu128 => exact fun c a w h => hP c a _ _ w h
          case yu128 => (intro wz hSw; go_simp; try (with_reducible rfl))
          simp only [Act.put, List.setIfInBounds_toArray, List.set_cons_zero, List.set_cons_succ]
          refine wpAnyH_ready (rs := [22]) (by kernel_rfl) (by simp) ?_
          refine AllReadyH.cons (by rw [List.getElem?_toArray]; rfl) (fun K hK => ?_) AllReadyH.nil
          have c5 := cell_of_row _ gi 4 _ 32 _ HK.out.box
          have f5 : World.frozen? _ ⟨gi, 4, none⟩ = false := frozen_of_row _ gi 4 _ 32 HK.out.box
          simp at c5
          clear hHeld
          go_simp
          have HKd := Lib.hid (rs_put HK.out 4 (.slice (some ⟨g6, 0, none⟩) (k + 1) cap6) rfl)
          clear HK
          have HK := HKd
          clear HKd
          refine hK.out _ _ HK.out.l (fun hHeld => ?_)
          clear hK K c5 f5 hHeld
          refine wpAnyH_done (by kernel_rfl) ?_ _
          exact HRT.out _ _ _ _ _ _ _ _ _ _ _ _ _ _ _ _ _ _ _ _ _ _ _ _ _ _ HK.out
      · have c5 : vu124.cell? ⟨gi, 4, none⟩ = some vV := cell_of_row _ gi 4 _ 32 _ HK.out.box
        clear hHeld
        go_simp
        refine hK.out _ _ HK.out.l (fun hHeld => ?_)
        clear hK K c5
        refine wpAnyH_ready (rs := [1]) (by kernel_rfl) (by simp) ?_
        refine AllReadyH.cons (by rw [List.getElem?_toArray]; rfl) (fun K hK => ?_) AllReadyH.nil
        have c5 : vu124.cell? ⟨gi, 3, none⟩ = some vW := cell_of_row _ gi 3 _ 32 _ HK.out.box
        clear hHeld
        go_simp
        refine hK.out _ _ HK.out.l (fun hHeld => ?_)
        clear hK K c5
        refine wpAnyH_ready (rs := [8]) (by kernel_rfl) (by simp) ?_
        refine AllReadyH.cons (by rw [List.getElem?_toArray]; rfl) (fun K hK => ?_) AllReadyH.nil
        clear hHeld
        rw [if_pos (by rfl)]
        refine wp_append_lies _ _ _ 29 rfl B 3 i0 (.int .i64 0) 1 8 Try.underlying29 hi hz0 hz1 hz2 rfl (by decide) vW k _ rfl HK.out.rw ⟨p7, 0, none⟩ 1 1 [(.int .i64 (dr m s (2 * k)))] rfl rfl (one_news c7.out) (by simp [Value.oneCell']) (by decide) (by unfold maxLen; omega) (by omega) HK.out.sz _ rfl ?_
        intro g5 cap5 w5 hown5 hgrow5 hl5 hlt5
        have HKd := Lib.hid (HK.out.addW (by rw [show 2 * k = k + k by omega]) hown5 hgrow5 hl5)
        clear HK
        have HK := HKd
        clear HKd c7
        have c17x := Lib.hid (one_kept c17.out hgrow5 n17.out)
        clear c17 n17
        have c17 := c17x
        clear c17x
        clear hown5 hgrow5 hl5 hlt5
        refine hK.out _ _ HK.out.l (fun hHeld => ?_)
        clear hK K
        refine wpAnyH_take (i := 19) (v := ?vu129) (by rw [List.getElem?_toArray]; rfl) (by kernel_rfl) (by kernel_rfl) (by kernel_rfl) ?qu129 (Or.inl ⟨by rfl, ?yu129⟩) (by assumption) ?ru129
        case qu129 => exact fun c a w h => hP c a _ _ w h
        case yu129 => (intro wz hSw; go_simp; try (with_reducible rfl))
        simp only [Act.put, List.setIfInBounds_toArray, List.set_cons_zero, List.set_cons_succ]
        refine wpAnyH_ready (rs := [18]) (by kernel_rfl) (by simp) ?_
        refine AllReadyH.cons (by rw [List.getElem?_toArray]; rfl) (fun K hK => ?_) AllReadyH.nil
        clear hHeld
        rw [if_pos (by rfl)]
        refine wp_append_lies _ _ _ 29 rfl B 3 i0 (.int .i64 0) 1 8 Try.underlying29 hi hz0 hz1 hz2 rfl (by decide) vV k _ rfl HK.out.rv ⟨p17, 0, none⟩ 1 1 [(.int .i64 (dr m s (2 * k + 1)))] rfl rfl (one_news c17.out) (by simp [Value.oneCell']) (by decide) (by unfold maxLen; omega) (by omega) HK.out.sz _ rfl ?_
        intro g6 cap6 w6 hown6 hgrow6 hl6 hlt6
        have HKd := Lib.hid (HK.out.addV (by rw [show 2 * k = k + k by omega]) hown6 hgrow6 hl6)
        clear HK
        have HK := HKd
        clear HKd c17
        clear hown6 hgrow6 hl6 hlt6
        refine hK.out _ _ HK.out.l (fun hHeld => ?_)
        clear hK K
        refine wpAnyH_ready (rs := [20]) (by kernel_rfl) (by simp) ?_
        refine AllReadyH.cons (by rw [List.getElem?_toArray]; rfl) (fun K hK => ?_) AllReadyH.nil
        have c5 := cell_of_row _ gi 3 _ 32 _ HK.out.box
        have f5 : World.frozen? _ ⟨gi, 3, none⟩ = false := frozen_of_row _ gi 3 _ 32 HK.out.box
        simp at c5
        clear hHeld
        go_simp
        have HKd := Lib.hid (rs_put HK.out 3 (.slice (some ⟨g5, 0, none⟩) (k + 1) cap5) rfl)
        clear HK
        have HK := HKd
        clear HKd
        refine hK.out _ _ HK.out.l (fun hHeld => ?_)
        clear hK K c5 f5
        refine wpAnyH_take (i := 21) (v := ?vu130) (by rw [List.getElem?_toArray]; rfl) (by kernel_rfl) (by kernel_rfl) (by kernel_rfl) ?qu130 (Or.inl ⟨by rfl, ?yu130⟩) (by assumption) ?ru130
        case qu130 => exact fun c a w h => hP c a _ _ w h
        case yu130 => (intro wz hSw; go_simp; try (with_reducible rfl))
        simp only [Act.put, List.setIfInBounds_toArray, List.set_cons_zero, List.set_cons_succ]
        refine wpAnyH_ready (rs := [22]) (by kernel_rfl) (by simp) ?_
        refine AllReadyH.cons (by rw [List.getElem?_toArray]; rfl) (fun K hK => ?_) AllReadyH.nil
        have c5 := cell_of_row _ gi 4 _ 32 _ HK.out.box
        have f5 : World.frozen? _ ⟨gi, 4, none⟩ = false := frozen_of_row _ gi 4 _ 32 HK.out.box
        simp at c5
        clear hHeld
        go_simp
        have HKd := Lib.hid (rs_put HK.out 4 (.slice (some ⟨g6, 0, none⟩) (k + 1) cap6) rfl)
        clear HK
        have HK := HKd
        clear HKd
        refine hK.out _ _ HK.out.l (fun hHeld => ?_)
        clear hK K c5 f5 hHeld
        refine wpAnyH_done (by kernel_rfl) ?_ _
        exact HRT.out _ _ _ _ _ _ _ _ _ _ _ _ _ _ _ _ _ _ _ _ _ _ _ _ _ _ HK.out
    · have c5 : vu115.cell? ⟨gi, 4, none⟩ = some vV := cell_of_row _ gi 4 _ 32 _ HK.out.box
      clear hHeld
      go_simp
      refine hK.out _ _ HK.out.l (fun hHeld => ?_)
      clear hK K c5
      refine wpAnyH_ready (rs := [1, 7]) (by kernel_rfl) (by simp) ?_
      refine AllReadyH.cons (by rw [List.getElem?_toArray]; rfl) (fun K hK => ?_) (AllReadyH.cons (by rw [List.getElem?_toArray]; rfl) (fun K hK => ?_) AllReadyH.nil)
      · have c5 : vu115.cell? ⟨gi, 3, none⟩ = some vW := cell_of_row _ gi 3 _ 32 _ HK.out.box
        clear hHeld
        go_simp
        refine hK.out _ _ HK.out.l (fun hHeld => ?_)
        clear hK K c5
        refine wpAnyH_ready (rs := [7]) (by kernel_rfl) (by simp) ?_
        refine AllReadyH.cons (by rw [List.getElem?_toArray]; rfl) (fun K hK => ?_) AllReadyH.nil
        clear hHeld
        go_simp
        have c7 := Lib.hid (one_new vu115 (.int .i64 (dr m s (2 * k))))
        have c17x := Lib.hid (one_alloc c17.out (.cells #[(.int .i64 (dr m s (2 * k)))] 3))
        clear c17
        have c17 := c17x
        clear c17x
        have HKd := Lib.hid (HK.out.alloc (.cells #[(.int .i64 (dr m s (2 * k)))] 3))
        clear HK
        have HK := HKd
        clear HKd
        refine hK.out _ _ HK.out.l (fun hHeld => ?_)
        clear hK K
        generalize (vu115.alloc (.cells #[(.int .i64 (dr m s (2 * k)))] 3)) = vu131 at *
        generalize vu115.heap.size = p7 at *
        refine wpAnyH_ready (rs := [8]) (by kernel_rfl) (by simp) ?_
        refine AllReadyH.cons (by rw [List.getElem?_toArray]; rfl) (fun K hK => ?_) AllReadyH.nil
        clear hHeld
        rw [if_pos (by rfl)]
        refine wp_append_lies _ _ _ 29 rfl B 3 i0 (.int .i64 0) 1 8 Try.underlying29 hi hz0 hz1 hz2 rfl (by decide) vW k _ rfl HK.out.rw ⟨p7, 0, none⟩ 1 1 [(.int .i64 (dr m s (2 * k)))] rfl rfl (one_news c7.out) (by simp [Value.oneCell']) (by decide) (by unfold maxLen; omega) (by omega) HK.out.sz _ rfl ?_
        intro g5 cap5 w5 hown5 hgrow5 hl5 hlt5
        have HKd := Lib.hid (HK.out.addW (by rw [show 2 * k = k + k by omega]) hown5 hgrow5 hl5)
        clear HK
        have HK := HKd
        clear HKd c7
        have c17x := Lib.hid (one_kept c17.out hgrow5 n17.out)
        clear c17 n17
        have c17 := c17x
        clear c17x
        clear hown5 hgrow5 hl5 hlt5
        refine hK.out _ _ HK.out.l (fun hHeld => ?_)
        clear hK K
        refine wpAnyH_take (i := 19) (v := ?vu132) (by rw [List.getElem?_toArray]; rfl) (by kernel_rfl) (by kernel_rfl) (by kernel_rfl) ?qu132 (Or.inl ⟨by rfl, ?yu132⟩) (by assumption) ?ru132
        case qu132 => exact fun c a w h => hP c a _ _ w h
        case yu132 => (intro wz hSw; go_simp; try (with_reducible rfl))
        simp only [Act.put, List.setIfInBounds_toArray, List.set_cons_zero, List.set_cons_succ]
        refine wpAnyH_ready (rs := [18]) (by kernel_rfl) (by simp) ?_
        refine AllReadyH.cons (by rw [List.getElem?_toArray]; rfl) (fun K hK => ?_) AllReadyH.nil
        clear hHeld
        rw [if_pos (by rfl)]
        refine wp_append_lies _ _ _ 29 rfl B 3 i0 (.int .i64 0) 1 8 Try.underlying29 hi hz0 hz1 hz2 rfl (by decide) vV k _ rfl HK.out.rv ⟨p17, 0, none⟩ 1 1 [(.int .i64 (dr m s (2 * k + 1)))] rfl rfl (one_news c17.out) (by simp [Value.oneCell']) (by decide) (by unfold maxLen; omega) (by omega) HK.out.sz _ rfl ?_
        intro g6 cap6 w6 hown6 hgrow6 hl6 hlt6
        have HKd := Lib.hid (HK.out.addV (by rw [show 2 * k = k + k by omega]) hown6 hgrow6 hl6)
        clear HK
        have HK := HKd
        clear HKd c17
        clear hown6 hgrow6 hl6 hlt6
        refine hK.out _ _ HK.out.l (fun hHeld => ?_)
        clear hK K
        refine wpAnyH_ready (rs := [20]) (by kernel_rfl) (by simp) ?_
        refine AllReadyH.cons (by rw [List.getElem?_toArray]; rfl) (fun K hK => ?_) AllReadyH.nil
        have c5 := cell_of_row _ gi 3 _ 32 _ HK.out.box
        have f5 : World.frozen? _ ⟨gi, 3, none⟩ = false := frozen_of_row _ gi 3 _ 32 HK.out.box
        simp at c5
        clear hHeld
        go_simp
        have HKd := Lib.hid (rs_put HK.out 3 (.slice (some ⟨g5, 0, none⟩) (k + 1) cap5) rfl)
        clear HK
        have HK := HKd
        clear HKd
        refine hK.out _ _ HK.out.l (fun hHeld => ?_)
        clear hK K c5 f5
        refine wpAnyH_take (i := 21) (v := ?vu133) (by rw [List.getElem?_toArray]; rfl) (by kernel_rfl) (by kernel_rfl) (by kernel_rfl) ?qu133 (Or.inl ⟨by rfl, ?yu133⟩) (by assumption) ?ru133
        case qu133 => exact fun c a w h => hP c a _ _ w h
        case yu133 => (intro wz hSw; go_simp; try (with_reducible rfl))
        simp only [Act.put, List.setIfInBounds_toArray, List.set_cons_zero, List.set_cons_succ]
        refine wpAnyH_ready (rs := [22]) (by kernel_rfl) (by simp) ?_
        refine AllReadyH.cons (by rw [List.getElem?_toArray]; rfl) (fun K hK => ?_) AllReadyH.nil
        have c5 := cell_of_row _ gi 4 _ 32 _ HK.out.box
        have f5 : World.frozen? _ ⟨gi, 4, none⟩ = false := frozen_of_row _ gi 4 _ 32 HK.out.box
        simp at c5
        clear hHeld
        go_simp
        have HKd := Lib.hid (rs_put HK.out 4 (.slice (some ⟨g6, 0, none⟩) (k + 1) cap6) rfl)
        clear HK
        have HK := HKd
        clear HKd
        refine hK.out _ _ HK.out.l (fun hHeld => ?_)
        clear hK K c5 f5 hHeld
        refine wpAnyH_done (by kernel_rfl) ?_ _
        exact HRT.out _ _ _ _ _ _ _ _ _ _ _ _ _ _ _ _ _ _ _ _ _ _ _ _ _ _ HK.out
      · clear hHeld
        go_simp
        have c7 := Lib.hid (one_new vu115 (.int .i64 (dr m s (2 * k))))
        have c17x := Lib.hid (one_alloc c17.out (.cells #[(.int .i64 (dr m s (2 * k)))] 3))
        clear c17
        have c17 := c17x
        clear c17x
        have HKd := Lib.hid (HK.out.alloc (.cells #[(.int .i64 (dr m s (2 * k)))] 3))
        clear HK
        have HK := HKd
        clear HKd
        refine hK.out _ _ HK.out.l (fun hHeld => ?_)
        clear hK K
        generalize (vu115.alloc (.cells #[(.int .i64 (dr m s (2 * k)))] 3)) = vu134 at *
        generalize vu115.heap.size = p7 at *
        refine wpAnyH_ready (rs := [1]) (by kernel_rfl) (by simp) ?_
        refine AllReadyH.cons (by rw [List.getElem?_toArray]; rfl) (fun K hK => ?_) AllReadyH.nil
        have c5 : vu134.cell? ⟨gi, 3, none⟩ = some vW := cell_of_row _ gi 3 _ 32 _ HK.out.box
        clear hHeld
        go_simp
        refine hK.out _ _ HK.out.l (fun hHeld => ?_)
        clear hK K c5
        refine wpAnyH_ready (rs := [8]) (by kernel_rfl) (by simp) ?_
        refine AllReadyH.cons (by rw [List.getElem?_toArray]; rfl) (fun K hK => ?_) AllReadyH.nil
        clear hHeld
        rw [if_pos (by rfl)]
        refine wp_append_lies _ _ _ 29 rfl B 3 i0 (.int .i64 0) 1 8 Try.underlying29 hi hz0 hz1 hz2 rfl (by decide) vW k _ rfl HK.out.rw ⟨p7, 0, none⟩ 1 1 [(.int .i64 (dr m s (2 * k)))] rfl rfl (one_news c7.out) (by simp [Value.oneCell']) (by decide) (by unfold maxLen; omega) (by omega) HK.out.sz _ rfl ?_
        intro g5 cap5 w5 hown5 hgrow5 hl5 hlt5
        have HKd := Lib.hid (HK.out.addW (by rw [show 2 * k = k + k by omega]) hown5 hgrow5 hl5)
        clear HK
        have HK := HKd
        clear HKd c7
        have c17x := Lib.hid (one_kept c17.out hgrow5 n17.out)
        clear c17 n17
        have c17 := c17x
        clear c17x
        clear hown5 hgrow5 hl5 hlt5
        refine hK.out _ _ HK.out.l (fun hHeld => ?_)
        clear hK K
        refine wpAnyH_take (i := 19) (v := ?vu135) (by rw [List.getElem?_toArray]; rfl) (by kernel_rfl) (by kernel_rfl) (by kernel_rfl) ?qu135 (Or.inl ⟨by rfl, ?yu135⟩) (by assumption) ?ru135
        case qu135 => exact fun c a w h => hP c a _ _ w h
        case yu135 => (intro wz hSw; go_simp; try (with_reducible rfl))
        simp only [Act.put, List.setIfInBounds_toArray, List.set_cons_zero, List.set_cons_succ]
        refine wpAnyH_ready (rs := [18]) (by kernel_rfl) (by simp) ?_
        refine AllReadyH.cons (by rw [List.getElem?_toArray]; rfl) (fun K hK => ?_) AllReadyH.nil
        clear hHeld
        rw [if_pos (by rfl)]
        refine wp_append_lies _ _ _ 29 rfl B 3 i0 (.int .i64 0) 1 8 Try.underlying29 hi hz0 hz1 hz2 rfl (by decide) vV k _ rfl HK.out.rv ⟨p17, 0, none⟩ 1 1 [(.int .i64 (dr m s (2 * k + 1)))] rfl rfl (one_news c17.out) (by simp [Value.oneCell']) (by decide) (by unfold maxLen; omega) (by omega) HK.out.sz _ rfl ?_
        intro g6 cap6 w6 hown6 hgrow6 hl6 hlt6
        have HKd := Lib.hid (HK.out.addV (by rw [show 2 * k = k + k by omega]) hown6 hgrow6 hl6)
        clear HK
        have HK := HKd
        clear HKd c17
        clear hown6 hgrow6 hl6 hlt6
        refine hK.out _ _ HK.out.l (fun hHeld => ?_)
        clear hK K
        refine wpAnyH_ready (rs := [20]) (by kernel_rfl) (by simp) ?_
        refine AllReadyH.cons (by rw [List.getElem?_toArray]; rfl) (fun K hK => ?_) AllReadyH.nil
        have c5 := cell_of_row _ gi 3 _ 32 _ HK.out.box
        have f5 : World.frozen? _ ⟨gi, 3, none⟩ = false := frozen_of_row _ gi 3 _ 32 HK.out.box
        simp at c5
        clear hHeld
        go_simp
        have HKd := Lib.hid (rs_put HK.out 3 (.slice (some ⟨g5, 0, none⟩) (k + 1) cap5) rfl)
        clear HK
        have HK := HKd
        clear HKd
        refine hK.out _ _ HK.out.l (fun hHeld => ?_)
        clear hK K c5 f5
        refine wpAnyH_take (i := 21) (v := ?vu136) (by rw [List.getElem?_toArray]; rfl) (by kernel_rfl) (by kernel_rfl) (by kernel_rfl) ?qu136 (Or.inl ⟨by rfl, ?yu136⟩) (by assumption) ?ru136
        case qu136 => exact fun c a w h => hP c a _ _ w h
        case yu136 => (intro wz hSw; go_simp; try (with_reducible rfl))
        simp only [Act.put, List.setIfInBounds_toArray, List.set_cons_zero, List.set_cons_succ]
        refine wpAnyH_ready (rs := [22]) (by kernel_rfl) (by simp) ?_
        refine AllReadyH.cons (by rw [List.getElem?_toArray]; rfl) (fun K hK => ?_) AllReadyH.nil
        have c5 := cell_of_row _ gi 4 _ 32 _ HK.out.box
        have f5 : World.frozen? _ ⟨gi, 4, none⟩ = false := frozen_of_row _ gi 4 _ 32 HK.out.box
        simp at c5
        clear hHeld
        go_simp
        have HKd := Lib.hid (rs_put HK.out 4 (.slice (some ⟨g6, 0, none⟩) (k + 1) cap6) rfl)
        clear HK
        have HK := HKd
        clear HKd
        refine hK.out _ _ HK.out.l (fun hHeld => ?_)
        clear hK K c5 f5 hHeld
        refine wpAnyH_done (by kernel_rfl) ?_ _
        exact HRT.out _ _ _ _ _ _ _ _ _ _ _ _ _ _ _ _ _ _ _ _ _ _ _ _ _ _ HK.out
end Go.Proofs.Ytnmolpogmkiikaa
