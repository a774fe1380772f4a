/-
  The walk of kurganlaw02.SetPairs: its first statement.
-/
import Derived.Test.YtnenpgndghdheaaDoorPairM
namespace Go.Proofs.YtnenpgndghdheaaDoor
open Go.RowKit
set_option linter.unusedVariables false
def psnd : Code → Code
  | .seq _ b => b
  | c => c
def pfst : Code → Code
  | .seq a _ => a
  | c => c
noncomputable def pairsReg1 : Code := pfst (psnd (Tryd.f3.body.getD .skip))
theorem pr_more {w X W : World} {S : Nat} {c1 c2 : Array Value} (hb : Below X.heap.size X W) (h : X.heap[S]? = some (.cells c1 24 (0, 0)) ∧ X.heap[S + 1]? = some (.cells c2 24 (0, 0)) ∧ Below w.heap.size w X) :
    W.heap[S]? = some (.cells c1 24 (0, 0)) ∧ W.heap[S + 1]? = some (.cells c2 24 (0, 0)) ∧ Below w.heap.size w W :=
  ⟨(hb.block _ (lt_hp h.1)).trans h.1, (hb.block _ (lt_hp h.2.1)).trans h.2.1, h.2.2.trans (hb.mono h.2.2.size)⟩
theorem pr_put {w X : World} {S g : Nat} {c1 c2 cs : Array Value} (vs : List Value) (h : X.heap[S]? = some (.cells c1 24 (0, 0)) ∧ X.heap[S + 1]? = some (.cells c2 24 (0, 0)) ∧ Below w.heap.size w X) (hg : X.heap[g]? = some (.cells cs 26 (0, 0))) (hl : w.heap.size ≤ g) :
    (X.setCells g 0 vs).heap[S]? = some (.cells c1 24 (0, 0)) ∧ (X.setCells g 0 vs).heap[S + 1]? = some (.cells c2 24 (0, 0)) ∧ Below w.heap.size w (X.setCells g 0 vs) := by
  have n1 : S ≠ g := fun e => by rw [e] at h; rw [h.1] at hg; injection hg with hg; injection hg with _ hg; cases hg
  have n2 : S + 1 ≠ g := fun e => by rw [e] at h; rw [h.2.1] at hg; injection hg with hg; injection hg with _ hg; cases hg
  exact ⟨(heap_setCells_other g _ n1 vs 0 X).trans h.1, (heap_setCells_other g _ n2 vs 0 X).trans h.2.1, below_setCells_g hl vs 0 X h.2.2⟩
theorem new_blk26 (X : World) (cs : Array Value) : (X.alloc (.cells cs 26)).heap[X.heap.size]? = some (.cells cs 26 (0, 0)) := by
  show (X.heap.push (Obj.cells cs 26))[X.heap.size]? = some (Obj.cells cs 26)
  simp
attribute [local irreducible] row
set_option maxRecDepth 100000 in
set_option maxHeartbeats 4000000 in
theorem pairs_reg1 (x y u v : Nat) (hx : x < 18446744073709551616) (hy : y < 18446744073709551616) (hu : u < 18446744073709551616) (hv : v < 18446744073709551616) (S : Nat) (w : World) (hS : w.heap[S]? = some (.cells #[.int .u64 x, .int .u64 y] 24 (0, 0))) (hT : w.heap[S + 1]? = some (.cells #[.int .u64 u, .int .u64 v] 24 (0, 0)))
    (Q : Exit → Act → World → Prop) (z0 z1 z4 z5 z6 z7 z8 z9 z10 z11 z12 z13 z14 z15 z16 z17 z18 z19 z20 z21 z22 z23 z24 z25 z26 z27 z28 z29 z30 z31 z32 z33 z34 z35 z36 z37 z38 z39 z40 z41 z42 z43 z44 z45 z46 z47 z48 z49 z50 z51 z52 z53 z54 z55 z56 z57 z58 z59 z60 z61 z62 z63 z64 z65 z66 z67 z68 z69 z70 z71 z72 z73 z74 z75 z76 z77 z78 z79 z80 z81 z82 z83 z84 z85 z86 z87 z88 z89 z90 z91 z92 z93 z94 : Value)
    (hP : ∀ c a d v w, Q (.panic c) (Act.put a d v) w → Q (.panic c) a w)
    (hQ : ∀ (gA gB : Nat) (W : World) (q12 q13 q14 q15 : Value), Below w.heap.size w W → W.heap[gA]? = some (.cells (row (mem x y) 128) 26 (0, 0)) → W.heap[gB]? = some (.cells (row (mem u v) 128) 26 (0, 0)) → w.heap.size ≤ gA → w.heap.size ≤ gB → gA ≠ gB → Q .normal ⟨#[z0, z1, .pointer (some ⟨S, 0, none⟩), .pointer (some ⟨S + 1, 0, none⟩), z4, .pointer (some ⟨gA, 0, none⟩), .pointer (some ⟨gB, 0, none⟩), z7, z8, z9, z10, z11, q12, q13, q14, q15, z16, z17, z18, z19, z20, z21, z22, z23, z24, z25, z26, z27, z28, z29, z30, z31, z32, z33, z34, z35, z36, z37, z38, z39, z40, z41, z42, z43, z44, z45, z46, z47, z48, z49, z50, z51, z52, z53, z54, z55, z56, z57, z58, z59, z60, z61, z62, z63, z64, z65, z66, z67, z68, z69, z70, z71, z72, z73, z74, z75, z76, z77, z78, z79, z80, z81, z82, z83, z84, z85, z86, z87, z88, z89, z90, z91, z92, z93, z94], []⟩ W) :
    Code.wp Tryd.prog pairsReg1 Q ⟨#[z0, z1, .pointer (some ⟨S, 0, none⟩), .pointer (some ⟨S + 1, 0, none⟩), z4, z5, z6, z7, z8, z9, z10, z11, z12, z13, z14, z15, z16, z17, z18, z19, z20, z21, z22, z23, z24, z25, z26, z27, z28, z29, z30, z31, z32, z33, z34, z35, z36, z37, z38, z39, z40, z41, z42, z43, z44, z45, z46, z47, z48, z49, z50, z51, z52, z53, z54, z55, z56, z57, z58, z59, z60, z61, z62, z63, z64, z65, z66, z67, z68, z69, z70, z71, z72, z73, z74, z75, z76, z77, z78, z79, z80, z81, z82, z83, z84, z85, z86, z87, z88, z89, z90, z91, z92, z93, z94], []⟩ w := by
  have HO1 := Lib.hid (fun W => refOf_any x y hx hy W)
  have HO2 := Lib.hid (fun W => refOf_any u v hu hv W)
  have HQ := Lib.hid hQ
  have hz := zero26
  have T0 : Hid (w.drew.heap[S]? = some (.cells #[.int .u64 x, .int .u64 y] 24 (0, 0)) ∧ w.drew.heap[S + 1]? = some (.cells #[.int .u64 u, .int .u64 v] 24 (0, 0)) ∧ Below w.heap.size w w.drew) := ⟨hS, hT, bl_drew w⟩
  clear hQ hS hT
  unfold pairsReg1
  conv => arg 2; whnf
  refine wp_region_held_drew (S := fun w' => w'.heap[S]? = some (.cells #[.int .u64 x, .int .u64 y] 24 (0, 0)) ∧ w'.heap[S + 1]? = some (.cells #[.int .u64 u, .int .u64 v] 24 (0, 0)) ∧ Below w.heap.size w w') (by kernel_rfl) T0.out (fun hHeld => ?_)
  clear T0
  generalize w.drew = w0 at *
  refine wpAnyH_take (i := 0) (v := ?vu1) (by rw [List.getElem?_toArray]; rfl) (by kernel_rfl) (by kernel_rfl) (by kernel_rfl) ?qu1 (Or.inl ⟨by rfl, ?yu1⟩) (by assumption) ?ru1
  case qu1 => exact fun c a w h => hP c a _ _ w h
  case yu1 => (intro wz hSw; obtain ⟨c0, c1⟩ := two_keep (Below.refl _ _) hSw.1; go_simp; try (with_reducible rfl))
  simp only [Act.put, List.setIfInBounds_toArray, List.set_cons_zero, List.set_cons_succ]
  refine wpAnyH_take (i := 2) (v := ?vu2) (by rw [List.getElem?_toArray]; rfl) (by kernel_rfl) (by kernel_rfl) (by kernel_rfl) ?qu2 (Or.inl ⟨by rfl, ?yu2⟩) (by assumption) ?ru2
  case qu2 => exact fun c a w h => hP c a _ _ w h
  case yu2 => (intro wz hSw; obtain ⟨c0, c1⟩ := two_keep (Below.refl _ _) hSw.2.1; go_simp; try (with_reducible rfl))
  simp only [Act.put, List.setIfInBounds_toArray, List.set_cons_zero, List.set_cons_succ]
  refine wpAnyH_ready (rs := [1, 4, 5]) (by kernel_rfl) (by simp) ?_
  refine AllReadyH.cons (by rw [List.getElem?_toArray]; rfl) (fun K hK => ?_) (AllReadyH.cons (by rw [List.getElem?_toArray]; rfl) (fun K hK => ?_) (AllReadyH.cons (by rw [List.getElem?_toArray]; rfl) (fun K hK => ?_) AllReadyH.nil))
  · have hHid := Lib.hid hHeld
    clear hHeld
    go_simp
    go_at_call 6; refine (HO1.out _).mono ?_; rintro e vu3 ⟨rfl, hb⟩
    have hNew := Lib.hid (pr_more hb hHid.out)
    clear hb hHid
    go_wp2_with fail
    refine hK.out _ _ hNew.out (fun hHeld => ?_)
    clear hK K hNew
    refine wpAnyH_ready (rs := [3, 4, 5]) (by kernel_rfl) (by simp) ?_
    refine AllReadyH.cons (by rw [List.getElem?_toArray]; rfl) (fun K hK => ?_) (AllReadyH.cons (by rw [List.getElem?_toArray]; rfl) (fun K hK => ?_) (AllReadyH.cons (by rw [List.getElem?_toArray]; rfl) (fun K hK => ?_) AllReadyH.nil))
    · have hHid := Lib.hid hHeld
      clear hHeld
      go_simp
      go_at_call 6; refine (HO2.out _).mono ?_; rintro e vu4 ⟨rfl, hb⟩
      have hNew := Lib.hid (pr_more hb hHid.out)
      clear hb hHid
      go_wp2_with fail
      refine hK.out _ _ hNew.out (fun hHeld => ?_)
      clear hK K hNew
      refine wpAnyH_ready (rs := [4, 5]) (by kernel_rfl) (by simp) ?_
      refine AllReadyH.cons (by rw [List.getElem?_toArray]; rfl) (fun K hK => ?_) (AllReadyH.cons (by rw [List.getElem?_toArray]; rfl) (fun K hK => ?_) AllReadyH.nil)
      · have hHid := Lib.hid hHeld
        clear hHeld
        go_simp
        have hb := bl_al (Below.refl _ vu4) (.cells (Array.replicate 128 (.bool false)) 26)
        have PA := Lib.hid (new_blk26 vu4 (Array.replicate 128 (.bool false)))
        have LA : Hid (w.heap.size ≤ vu4.heap.size) := hHid.out.2.2.size
        have hNew := Lib.hid (pr_more hb hHid.out)
        refine hK.out _ _ hNew.out (fun hHeld => ?_)
        clear hK K hNew
        clear hb hHid
        generalize (vu4.alloc (.cells (Array.replicate 128 (.bool false)) 26)) = wgu5 at *
        generalize vu4.heap.size = gu5 at *
        refine wpAnyH_ready (rs := [5]) (by kernel_rfl) (by simp) ?_
        refine AllReadyH.cons (by rw [List.getElem?_toArray]; rfl) (fun K hK => ?_) AllReadyH.nil
        · have hHid := Lib.hid hHeld
          clear hHeld
          go_simp
          have NE : Hid (gu5 < wgu5.heap.size) := lt_hp PA.out
          have hb := bl_al (Below.refl _ wgu5) (.cells (Array.replicate 128 (.bool false)) 26)
          have PB := Lib.hid (new_blk26 wgu5 (Array.replicate 128 (.bool false)))
          have LB : Hid (w.heap.size ≤ wgu5.heap.size) := hHid.out.2.2.size
          have hNew := Lib.hid (pr_more hb hHid.out)
          have PAx := Lib.hid ((hb.block _ (lt_hp PA.out)).trans PA.out)
          clear PA
          have PA := PAx
          clear PAx
          refine hK.out _ _ hNew.out (fun hHeld => ?_)
          clear hK K hNew
          clear hb hHid
          generalize (wgu5.alloc (.cells (Array.replicate 128 (.bool false)) 26)) = wgu6 at *
          generalize wgu5.heap.size = gu6 at *
          have hne : gu5 ≠ gu6 := by have := NE.out; omega
          refine wpAnyH_ready (rs := [6]) (by kernel_rfl) (by simp) ?_
          refine AllReadyH.cons (by rw [List.getElem?_toArray]; rfl) (fun K hK => ?_) AllReadyH.nil
          have hHid := Lib.hid hHeld
          clear hHeld
          rw [if_pos (by rfl)]
          refine wp_store_mid 26 _ _ rfl gu5 0 (row (mem x y) 128) rfl rfl (by have := there_of PA.out; simpa [row_size] using this) (by rw [row_size]; kernel_rfl) (row_one _ _) ?_
          refine hK.out _ _ (pr_put _ hHid.out PA.out LA.out) (fun hHeld => ?_)
          clear hK K
          have PB2 := Lib.hid ((heap_setCells_other gu5 gu6 (Ne.symm hne) (row (mem x y) 128).toList 0 wgu6).trans PB.out)
          have PA2 := Lib.hid (store_whole (row (mem x y) 128) PA.out (by simp [row_size]))
          simp only [Act.put]
          refine wpAnyH_ready (rs := [7]) (by kernel_rfl) (by simp) ?_
          refine AllReadyH.cons (by rw [List.getElem?_toArray]; rfl) (fun K hK => ?_) AllReadyH.nil
          have hHid2 := Lib.hid hHeld
          clear hHeld
          rw [if_pos (by rfl)]
          refine wp_store_mid 26 _ _ rfl gu6 0 (row (mem u v) 128) rfl rfl (by have := there_of PB2.out; simpa [row_size] using this) (by rw [row_size]; kernel_rfl) (row_one _ _) ?_
          refine hK.out _ _ (pr_put _ hHid2.out PB2.out LB.out) (fun hHeld => ?_)
          clear hK K
          refine wpAnyH_done (by kernel_rfl) ?_ _
          exact HQ.out gu5 gu6 _ _ _ _ _ hHeld.2.2 ((heap_setCells_other gu6 gu5 hne (row (mem u v) 128).toList 0 _).trans PA2.out) (store_whole (row (mem u v) 128) PB2.out (by simp [row_size])) LA.out LB.out hne
      · have hHid := Lib.hid hHeld
        clear hHeld
        go_simp
        have hb := bl_al (Below.refl _ vu4) (.cells (Array.replicate 128 (.bool false)) 26)
        have PB := Lib.hid (new_blk26 vu4 (Array.replicate 128 (.bool false)))
        have LB : Hid (w.heap.size ≤ vu4.heap.size) := hHid.out.2.2.size
        have hNew := Lib.hid (pr_more hb hHid.out)
        refine hK.out _ _ hNew.out (fun hHeld => ?_)
        clear hK K hNew
        clear hb hHid
        generalize (vu4.alloc (.cells (Array.replicate 128 (.bool false)) 26)) = wgu7 at *
        generalize vu4.heap.size = gu7 at *
        refine wpAnyH_ready (rs := [4]) (by kernel_rfl) (by simp) ?_
        refine AllReadyH.cons (by rw [List.getElem?_toArray]; rfl) (fun K hK => ?_) AllReadyH.nil
        · have hHid := Lib.hid hHeld
          clear hHeld
          go_simp
          have NE : Hid (gu7 < wgu7.heap.size) := lt_hp PB.out
          have hb := bl_al (Below.refl _ wgu7) (.cells (Array.replicate 128 (.bool false)) 26)
          have PA := Lib.hid (new_blk26 wgu7 (Array.replicate 128 (.bool false)))
          have LA : Hid (w.heap.size ≤ wgu7.heap.size) := hHid.out.2.2.size
          have hNew := Lib.hid (pr_more hb hHid.out)
          have PBx := Lib.hid ((hb.block _ (lt_hp PB.out)).trans PB.out)
          clear PB
          have PB := PBx
          clear PBx
          refine hK.out _ _ hNew.out (fun hHeld => ?_)
          clear hK K hNew
          clear hb hHid
          generalize (wgu7.alloc (.cells (Array.replicate 128 (.bool false)) 26)) = wgu8 at *
          generalize wgu7.heap.size = gu8 at *
          have hne : gu8 ≠ gu7 := by have := NE.out; omega
          refine wpAnyH_ready (rs := [6]) (by kernel_rfl) (by simp) ?_
          refine AllReadyH.cons (by rw [List.getElem?_toArray]; rfl) (fun K hK => ?_) AllReadyH.nil
          have hHid := Lib.hid hHeld
          clear hHeld
          rw [if_pos (by rfl)]
          refine wp_store_mid 26 _ _ rfl gu8 0 (row (mem x y) 128) rfl rfl (by have := there_of PA.out; simpa [row_size] using this) (by rw [row_size]; kernel_rfl) (row_one _ _) ?_
          refine hK.out _ _ (pr_put _ hHid.out PA.out LA.out) (fun hHeld => ?_)
          clear hK K
          have PB2 := Lib.hid ((heap_setCells_other gu8 gu7 (Ne.symm hne) (row (mem x y) 128).toList 0 wgu8).trans PB.out)
          have PA2 := Lib.hid (store_whole (row (mem x y) 128) PA.out (by simp [row_size]))
          simp only [Act.put]
          refine wpAnyH_ready (rs := [7]) (by kernel_rfl) (by simp) ?_
          refine AllReadyH.cons (by rw [List.getElem?_toArray]; rfl) (fun K hK => ?_) AllReadyH.nil
          have hHid2 := Lib.hid hHeld
          clear hHeld
          rw [if_pos (by rfl)]
          refine wp_store_mid 26 _ _ rfl gu7 0 (row (mem u v) 128) rfl rfl (by have := there_of PB2.out; simpa [row_size] using this) (by rw [row_size]; kernel_rfl) (row_one _ _) ?_
          refine hK.out _ _ (pr_put _ hHid2.out PB2.out LB.out) (fun hHeld => ?_)
          clear hK K
          refine wpAnyH_done (by kernel_rfl) ?_ _
          exact HQ.out gu8 gu7 _ _ _ _ _ hHeld.2.2 ((heap_setCells_other gu7 gu8 hne (row (mem u v) 128).toList 0 _).trans PA2.out) (store_whole (row (mem u v) 128) PB2.out (by simp [row_size])) LA.out LB.out hne
    · have hHid := Lib.hid hHeld
      clear hHeld
      go_simp
      have hb := bl_al (Below.refl _ vu3) (.cells (Array.replicate 128 (.bool false)) 26)
      have PA := Lib.hid (new_blk26 vu3 (Array.replicate 128 (.bool false)))
      have LA : Hid (w.heap.size ≤ vu3.heap.size) := hHid.out.2.2.size
      have hNew := Lib.hid (pr_more hb hHid.out)
      refine hK.out _ _ hNew.out (fun hHeld => ?_)
      clear hK K hNew
      clear hb hHid
      generalize (vu3.alloc (.cells (Array.replicate 128 (.bool false)) 26)) = wgu9 at *
      generalize vu3.heap.size = gu9 at *
      refine wpAnyH_ready (rs := [3, 5]) (by kernel_rfl) (by simp) ?_
      refine AllReadyH.cons (by rw [List.getElem?_toArray]; rfl) (fun K hK => ?_) (AllReadyH.cons (by rw [List.getElem?_toArray]; rfl) (fun K hK => ?_) AllReadyH.nil)
      · have hHid := Lib.hid hHeld
        clear hHeld
        go_simp
        go_at_call 6; refine (HO2.out _).mono ?_; rintro e vu10 ⟨rfl, hb⟩
        have hNew := Lib.hid (pr_more hb hHid.out)
        have PAx := Lib.hid ((hb.block _ (lt_hp PA.out)).trans PA.out)
        clear PA
        have PA := PAx
        clear PAx
        clear hb hHid
        go_wp2_with fail
        refine hK.out _ _ hNew.out (fun hHeld => ?_)
        clear hK K hNew
        refine wpAnyH_ready (rs := [5]) (by kernel_rfl) (by simp) ?_
        refine AllReadyH.cons (by rw [List.getElem?_toArray]; rfl) (fun K hK => ?_) AllReadyH.nil
        · have hHid := Lib.hid hHeld
          clear hHeld
          go_simp
          have NE : Hid (gu9 < vu10.heap.size) := lt_hp PA.out
          have hb := bl_al (Below.refl _ vu10) (.cells (Array.replicate 128 (.bool false)) 26)
          have PB := Lib.hid (new_blk26 vu10 (Array.replicate 128 (.bool false)))
          have LB : Hid (w.heap.size ≤ vu10.heap.size) := hHid.out.2.2.size
          have hNew := Lib.hid (pr_more hb hHid.out)
          have PAx := Lib.hid ((hb.block _ (lt_hp PA.out)).trans PA.out)
          clear PA
          have PA := PAx
          clear PAx
          refine hK.out _ _ hNew.out (fun hHeld => ?_)
          clear hK K hNew
          clear hb hHid
          generalize (vu10.alloc (.cells (Array.replicate 128 (.bool false)) 26)) = wgu11 at *
          generalize vu10.heap.size = gu11 at *
          have hne : gu9 ≠ gu11 := by have := NE.out; omega
          refine wpAnyH_ready (rs := [6]) (by kernel_rfl) (by simp) ?_
          refine AllReadyH.cons (by rw [List.getElem?_toArray]; rfl) (fun K hK => ?_) AllReadyH.nil
          have hHid := Lib.hid hHeld
          clear hHeld
          rw [if_pos (by rfl)]
          refine wp_store_mid 26 _ _ rfl gu9 0 (row (mem x y) 128) rfl rfl (by have := there_of PA.out; simpa [row_size] using this) (by rw [row_size]; kernel_rfl) (row_one _ _) ?_
          refine hK.out _ _ (pr_put _ hHid.out PA.out LA.out) (fun hHeld => ?_)
          clear hK K
          have PB2 := Lib.hid ((heap_setCells_other gu9 gu11 (Ne.symm hne) (row (mem x y) 128).toList 0 wgu11).trans PB.out)
          have PA2 := Lib.hid (store_whole (row (mem x y) 128) PA.out (by simp [row_size]))
          simp only [Act.put]
          refine wpAnyH_ready (rs := [7]) (by kernel_rfl) (by simp) ?_
          refine AllReadyH.cons (by rw [List.getElem?_toArray]; rfl) (fun K hK => ?_) AllReadyH.nil
          have hHid2 := Lib.hid hHeld
          clear hHeld
          rw [if_pos (by rfl)]
          refine wp_store_mid 26 _ _ rfl gu11 0 (row (mem u v) 128) rfl rfl (by have := there_of PB2.out; simpa [row_size] using this) (by rw [row_size]; kernel_rfl) (row_one _ _) ?_
          refine hK.out _ _ (pr_put _ hHid2.out PB2.out LB.out) (fun hHeld => ?_)
          clear hK K
          refine wpAnyH_done (by kernel_rfl) ?_ _
          exact HQ.out gu9 gu11 _ _ _ _ _ hHeld.2.2 ((heap_setCells_other gu11 gu9 hne (row (mem u v) 128).toList 0 _).trans PA2.out) (store_whole (row (mem u v) 128) PB2.out (by simp [row_size])) LA.out LB.out hne
      · have hHid := Lib.hid hHeld
        clear hHeld
        go_simp
        have NE : Hid (gu9 < wgu9.heap.size) := lt_hp PA.out
        have hb := bl_al (Below.refl _ wgu9) (.cells (Array.replicate 128 (.bool false)) 26)
        have PB := Lib.hid (new_blk26 wgu9 (Array.replicate 128 (.bool false)))
        have LB : Hid (w.heap.size ≤ wgu9.heap.size) := hHid.out.2.2.size
        have hNew := Lib.hid (pr_more hb hHid.out)
        have PAx := Lib.hid ((hb.block _ (lt_hp PA.out)).trans PA.out)
        clear PA
        have PA := PAx
        clear PAx
        refine hK.out _ _ hNew.out (fun hHeld => ?_)
        clear hK K hNew
        clear hb hHid
        generalize (wgu9.alloc (.cells (Array.replicate 128 (.bool false)) 26)) = wgu12 at *
        generalize wgu9.heap.size = gu12 at *
        refine wpAnyH_ready (rs := [3]) (by kernel_rfl) (by simp) ?_
        refine AllReadyH.cons (by rw [List.getElem?_toArray]; rfl) (fun K hK => ?_) AllReadyH.nil
        · have hHid := Lib.hid hHeld
          clear hHeld
          go_simp
          go_at_call 6; refine (HO2.out _).mono ?_; rintro e vu13 ⟨rfl, hb⟩
          have hNew := Lib.hid (pr_more hb hHid.out)
          have PAx := Lib.hid ((hb.block _ (lt_hp PA.out)).trans PA.out)
          clear PA
          have PA := PAx
          clear PAx
          have PBx := Lib.hid ((hb.block _ (lt_hp PB.out)).trans PB.out)
          clear PB
          have PB := PBx
          clear PBx
          clear hb hHid
          go_wp2_with fail
          refine hK.out _ _ hNew.out (fun hHeld => ?_)
          clear hK K hNew
          have hne : gu9 ≠ gu12 := by have := NE.out; omega
          refine wpAnyH_ready (rs := [6]) (by kernel_rfl) (by simp) ?_
          refine AllReadyH.cons (by rw [List.getElem?_toArray]; rfl) (fun K hK => ?_) AllReadyH.nil
          have hHid := Lib.hid hHeld
          clear hHeld
          rw [if_pos (by rfl)]
          refine wp_store_mid 26 _ _ rfl gu9 0 (row (mem x y) 128) rfl rfl (by have := there_of PA.out; simpa [row_size] using this) (by rw [row_size]; kernel_rfl) (row_one _ _) ?_
          refine hK.out _ _ (pr_put _ hHid.out PA.out LA.out) (fun hHeld => ?_)
          clear hK K
          have PB2 := Lib.hid ((heap_setCells_other gu9 gu12 (Ne.symm hne) (row (mem x y) 128).toList 0 vu13).trans PB.out)
          have PA2 := Lib.hid (store_whole (row (mem x y) 128) PA.out (by simp [row_size]))
          simp only [Act.put]
          refine wpAnyH_ready (rs := [7]) (by kernel_rfl) (by simp) ?_
          refine AllReadyH.cons (by rw [List.getElem?_toArray]; rfl) (fun K hK => ?_) AllReadyH.nil
          have hHid2 := Lib.hid hHeld
          clear hHeld
          rw [if_pos (by rfl)]
          refine wp_store_mid 26 _ _ rfl gu12 0 (row (mem u v) 128) rfl rfl (by have := there_of PB2.out; simpa [row_size] using this) (by rw [row_size]; kernel_rfl) (row_one _ _) ?_
          refine hK.out _ _ (pr_put _ hHid2.out PB2.out LB.out) (fun hHeld => ?_)
          clear hK K
          refine wpAnyH_done (by kernel_rfl) ?_ _
          exact HQ.out gu9 gu12 _ _ _ _ _ hHeld.2.2 ((heap_setCells_other gu12 gu9 hne (row (mem u v) 128).toList 0 _).trans PA2.out) (store_whole (row (mem u v) 128) PB2.out (by simp [row_size])) LA.out LB.out hne
    · have hHid := Lib.hid hHeld
      clear hHeld
      go_simp
      have hb := bl_al (Below.refl _ vu3) (.cells (Array.replicate 128 (.bool false)) 26)
      have PB := Lib.hid (new_blk26 vu3 (Array.replicate 128 (.bool false)))
      have LB : Hid (w.heap.size ≤ vu3.heap.size) := hHid.out.2.2.size
      have hNew := Lib.hid (pr_more hb hHid.out)
      refine hK.out _ _ hNew.out (fun hHeld => ?_)
      clear hK K hNew
      clear hb hHid
      generalize (vu3.alloc (.cells (Array.replicate 128 (.bool false)) 26)) = wgu14 at *
      generalize vu3.heap.size = gu14 at *
      refine wpAnyH_ready (rs := [3, 4]) (by kernel_rfl) (by simp) ?_
      refine AllReadyH.cons (by rw [List.getElem?_toArray]; rfl) (fun K hK => ?_) (AllReadyH.cons (by rw [List.getElem?_toArray]; rfl) (fun K hK => ?_) AllReadyH.nil)
      · have hHid := Lib.hid hHeld
        clear hHeld
        go_simp
        go_at_call 6; refine (HO2.out _).mono ?_; rintro e vu15 ⟨rfl, hb⟩
        have hNew := Lib.hid (pr_more hb hHid.out)
        have PBx := Lib.hid ((hb.block _ (lt_hp PB.out)).trans PB.out)
        clear PB
        have PB := PBx
        clear PBx
        clear hb hHid
        go_wp2_with fail
        refine hK.out _ _ hNew.out (fun hHeld => ?_)
        clear hK K hNew
        refine wpAnyH_ready (rs := [4]) (by kernel_rfl) (by simp) ?_
        refine AllReadyH.cons (by rw [List.getElem?_toArray]; rfl) (fun K hK => ?_) AllReadyH.nil
        · have hHid := Lib.hid hHeld
          clear hHeld
          go_simp
          have NE : Hid (gu14 < vu15.heap.size) := lt_hp PB.out
          have hb := bl_al (Below.refl _ vu15) (.cells (Array.replicate 128 (.bool false)) 26)
          have PA := Lib.hid (new_blk26 vu15 (Array.replicate 128 (.bool false)))
          have LA : Hid (w.heap.size ≤ vu15.heap.size) := hHid.out.2.2.size
          have hNew := Lib.hid (pr_more hb hHid.out)
          have PBx := Lib.hid ((hb.block _ (lt_hp PB.out)).trans PB.out)
          clear PB
          have PB := PBx
          clear PBx
          refine hK.out _ _ hNew.out (fun hHeld => ?_)
          clear hK K hNew
          clear hb hHid
          generalize (vu15.alloc (.cells (Array.replicate 128 (.bool false)) 26)) = wgu16 at *
          generalize vu15.heap.size = gu16 at *
          have hne : gu16 ≠ gu14 := by have := NE.out; omega
          refine wpAnyH_ready (rs := [6]) (by kernel_rfl) (by simp) ?_
          refine AllReadyH.cons (by rw [List.getElem?_toArray]; rfl) (fun K hK => ?_) AllReadyH.nil
          have hHid := Lib.hid hHeld
          clear hHeld
          rw [if_pos (by rfl)]
          refine wp_store_mid 26 _ _ rfl gu16 0 (row (mem x y) 128) rfl rfl (by have := there_of PA.out; simpa [row_size] using this) (by rw [row_size]; kernel_rfl) (row_one _ _) ?_
          refine hK.out _ _ (pr_put _ hHid.out PA.out LA.out) (fun hHeld => ?_)
          clear hK K
          have PB2 := Lib.hid ((heap_setCells_other gu16 gu14 (Ne.symm hne) (row (mem x y) 128).toList 0 wgu16).trans PB.out)
          have PA2 := Lib.hid (store_whole (row (mem x y) 128) PA.out (by simp [row_size]))
          simp only [Act.put]
          refine wpAnyH_ready (rs := [7]) (by kernel_rfl) (by simp) ?_
          refine AllReadyH.cons (by rw [List.getElem?_toArray]; rfl) (fun K hK => ?_) AllReadyH.nil
          have hHid2 := Lib.hid hHeld
          clear hHeld
          rw [if_pos (by rfl)]
          refine wp_store_mid 26 _ _ rfl gu14 0 (row (mem u v) 128) rfl rfl (by have := there_of PB2.out; simpa [row_size] using this) (by rw [row_size]; kernel_rfl) (row_one _ _) ?_
          refine hK.out _ _ (pr_put _ hHid2.out PB2.out LB.out) (fun hHeld => ?_)
          clear hK K
          refine wpAnyH_done (by kernel_rfl) ?_ _
          exact HQ.out gu16 gu14 _ _ _ _ _ hHeld.2.2 ((heap_setCells_other gu14 gu16 hne (row (mem u v) 128).toList 0 _).trans PA2.out) (store_whole (row (mem u v) 128) PB2.out (by simp [row_size])) LA.out LB.out hne
      · have hHid := Lib.hid hHeld
        clear hHeld
        go_simp
        have NE : Hid (gu14 < wgu14.heap.size) := lt_hp PB.out
        have hb := bl_al (Below.refl _ wgu14) (.cells (Array.replicate 128 (.bool false)) 26)
        have PA := Lib.hid (new_blk26 wgu14 (Array.replicate 128 (.bool false)))
        have LA : Hid (w.heap.size ≤ wgu14.heap.size) := hHid.out.2.2.size
        have hNew := Lib.hid (pr_more hb hHid.out)
        have PBx := Lib.hid ((hb.block _ (lt_hp PB.out)).trans PB.out)
        clear PB
        have PB := PBx
        clear PBx
        refine hK.out _ _ hNew.out (fun hHeld => ?_)
        clear hK K hNew
        clear hb hHid
        generalize (wgu14.alloc (.cells (Array.replicate 128 (.bool false)) 26)) = wgu17 at *
        generalize wgu14.heap.size = gu17 at *
        refine wpAnyH_ready (rs := [3]) (by kernel_rfl) (by simp) ?_
        refine AllReadyH.cons (by rw [List.getElem?_toArray]; rfl) (fun K hK => ?_) AllReadyH.nil
        · have hHid := Lib.hid hHeld
          clear hHeld
          go_simp
          go_at_call 6; refine (HO2.out _).mono ?_; rintro e vu18 ⟨rfl, hb⟩
          have hNew := Lib.hid (pr_more hb hHid.out)
          have PAx := Lib.hid ((hb.block _ (lt_hp PA.out)).trans PA.out)
          clear PA
          have PA := PAx
          clear PAx
          have PBx := Lib.hid ((hb.block _ (lt_hp PB.out)).trans PB.out)
          clear PB
          have PB := PBx
          clear PBx
          clear hb hHid
          go_wp2_with fail
          refine hK.out _ _ hNew.out (fun hHeld => ?_)
          clear hK K hNew
          have hne : gu17 ≠ gu14 := by have := NE.out; omega
          refine wpAnyH_ready (rs := [6]) (by kernel_rfl) (by simp) ?_
          refine AllReadyH.cons (by rw [List.getElem?_toArray]; rfl) (fun K hK => ?_) AllReadyH.nil
          have hHid := Lib.hid hHeld
          clear hHeld
          rw [if_pos (by rfl)]
          refine wp_store_mid 26 _ _ rfl gu17 0 (row (mem x y) 128) rfl rfl (by have := there_of PA.out; simpa [row_size] using this) (by rw [row_size]; kernel_rfl) (row_one _ _) ?_
          refine hK.out _ _ (pr_put _ hHid.out PA.out LA.out) (fun hHeld => ?_)
          clear hK K
          have PB2 := Lib.hid ((heap_setCells_other gu17 gu14 (Ne.symm hne) (row (mem x y) 128).toList 0 vu18).trans PB.out)
          have PA2 := Lib.hid (store_whole (row (mem x y) 128) PA.out (by simp [row_size]))
          simp only [Act.put]
          refine wpAnyH_ready (rs := [7]) (by kernel_rfl) (by simp) ?_
          refine AllReadyH.cons (by rw [List.getElem?_toArray]; rfl) (fun K hK => ?_) AllReadyH.nil
          have hHid2 := Lib.hid hHeld
          clear hHeld
          rw [if_pos (by rfl)]
          refine wp_store_mid 26 _ _ rfl gu14 0 (row (mem u v) 128) rfl rfl (by have := there_of PB2.out; simpa [row_size] using this) (by rw [row_size]; kernel_rfl) (row_one _ _) ?_
          refine hK.out _ _ (pr_put _ hHid2.out PB2.out LB.out) (fun hHeld => ?_)
          clear hK K
          refine wpAnyH_done (by kernel_rfl) ?_ _
          exact HQ.out gu17 gu14 _ _ _ _ _ hHeld.2.2 ((heap_setCells_other gu14 gu17 hne (row (mem u v) 128).toList 0 _).trans PA2.out) (store_whole (row (mem u v) 128) PB2.out (by simp [row_size])) LA.out LB.out hne
  · have hHid := Lib.hid hHeld
    clear hHeld
    go_simp
    have hb := bl_al (Below.refl _ w0) (.cells (Array.replicate 128 (.bool false)) 26)
    have PA := Lib.hid (new_blk26 w0 (Array.replicate 128 (.bool false)))
    have LA : Hid (w.heap.size ≤ w0.heap.size) := hHid.out.2.2.size
    have hNew := Lib.hid (pr_more hb hHid.out)
    refine hK.out _ _ hNew.out (fun hHeld => ?_)
    clear hK K hNew
    clear hb hHid
    generalize (w0.alloc (.cells (Array.replicate 128 (.bool false)) 26)) = wgu19 at *
    generalize w0.heap.size = gu19 at *
    refine wpAnyH_ready (rs := [1, 5]) (by kernel_rfl) (by simp) ?_
    refine AllReadyH.cons (by rw [List.getElem?_toArray]; rfl) (fun K hK => ?_) (AllReadyH.cons (by rw [List.getElem?_toArray]; rfl) (fun K hK => ?_) AllReadyH.nil)
    · have hHid := Lib.hid hHeld
      clear hHeld
      go_simp
      go_at_call 6; refine (HO1.out _).mono ?_; rintro e vu20 ⟨rfl, hb⟩
      have hNew := Lib.hid (pr_more hb hHid.out)
      have PAx := Lib.hid ((hb.block _ (lt_hp PA.out)).trans PA.out)
      clear PA
      have PA := PAx
      clear PAx
      clear hb hHid
      go_wp2_with fail
      refine hK.out _ _ hNew.out (fun hHeld => ?_)
      clear hK K hNew
      refine wpAnyH_ready (rs := [3, 5]) (by kernel_rfl) (by simp) ?_
      refine AllReadyH.cons (by rw [List.getElem?_toArray]; rfl) (fun K hK => ?_) (AllReadyH.cons (by rw [List.getElem?_toArray]; rfl) (fun K hK => ?_) AllReadyH.nil)
      · have hHid := Lib.hid hHeld
        clear hHeld
        go_simp
        go_at_call 6; refine (HO2.out _).mono ?_; rintro e vu21 ⟨rfl, hb⟩
        have hNew := Lib.hid (pr_more hb hHid.out)
        have PAx := Lib.hid ((hb.block _ (lt_hp PA.out)).trans PA.out)
        clear PA
        have PA := PAx
        clear PAx
        clear hb hHid
        go_wp2_with fail
        refine hK.out _ _ hNew.out (fun hHeld => ?_)
        clear hK K hNew
        refine wpAnyH_ready (rs := [5]) (by kernel_rfl) (by simp) ?_
        refine AllReadyH.cons (by rw [List.getElem?_toArray]; rfl) (fun K hK => ?_) AllReadyH.nil
        · have hHid := Lib.hid hHeld
          clear hHeld
          go_simp
          have NE : Hid (gu19 < vu21.heap.size) := lt_hp PA.out
          have hb := bl_al (Below.refl _ vu21) (.cells (Array.replicate 128 (.bool false)) 26)
          have PB := Lib.hid (new_blk26 vu21 (Array.replicate 128 (.bool false)))
          have LB : Hid (w.heap.size ≤ vu21.heap.size) := hHid.out.2.2.size
          have hNew := Lib.hid (pr_more hb hHid.out)
          have PAx := Lib.hid ((hb.block _ (lt_hp PA.out)).trans PA.out)
          clear PA
          have PA := PAx
          clear PAx
          refine hK.out _ _ hNew.out (fun hHeld => ?_)
          clear hK K hNew
          clear hb hHid
          generalize (vu21.alloc (.cells (Array.replicate 128 (.bool false)) 26)) = wgu22 at *
          generalize vu21.heap.size = gu22 at *
          have hne : gu19 ≠ gu22 := by have := NE.out; omega
          refine wpAnyH_ready (rs := [6]) (by kernel_rfl) (by simp) ?_
          refine AllReadyH.cons (by rw [List.getElem?_toArray]; rfl) (fun K hK => ?_) AllReadyH.nil
          have hHid := Lib.hid hHeld
          clear hHeld
          rw [if_pos (by rfl)]
          refine wp_store_mid 26 _ _ rfl gu19 0 (row (mem x y) 128) rfl rfl (by have := there_of PA.out; simpa [row_size] using this) (by rw [row_size]; kernel_rfl) (row_one _ _) ?_
          refine hK.out _ _ (pr_put _ hHid.out PA.out LA.out) (fun hHeld => ?_)
          clear hK K
          have PB2 := Lib.hid ((heap_setCells_other gu19 gu22 (Ne.symm hne) (row (mem x y) 128).toList 0 wgu22).trans PB.out)
          have PA2 := Lib.hid (store_whole (row (mem x y) 128) PA.out (by simp [row_size]))
          simp only [Act.put]
          refine wpAnyH_ready (rs := [7]) (by kernel_rfl) (by simp) ?_
          refine AllReadyH.cons (by rw [List.getElem?_toArray]; rfl) (fun K hK => ?_) AllReadyH.nil
          have hHid2 := Lib.hid hHeld
          clear hHeld
          rw [if_pos (by rfl)]
          refine wp_store_mid 26 _ _ rfl gu22 0 (row (mem u v) 128) rfl rfl (by have := there_of PB2.out; simpa [row_size] using this) (by rw [row_size]; kernel_rfl) (row_one _ _) ?_
          refine hK.out _ _ (pr_put _ hHid2.out PB2.out LB.out) (fun hHeld => ?_)
          clear hK K
          refine wpAnyH_done (by kernel_rfl) ?_ _
          exact HQ.out gu19 gu22 _ _ _ _ _ hHeld.2.2 ((heap_setCells_other gu22 gu19 hne (row (mem u v) 128).toList 0 _).trans PA2.out) (store_whole (row (mem u v) 128) PB2.out (by simp [row_size])) LA.out LB.out hne
      · have hHid := Lib.hid hHeld
        clear hHeld
        go_simp
        have NE : Hid (gu19 < vu20.heap.size) := lt_hp PA.out
        have hb := bl_al (Below.refl _ vu20) (.cells (Array.replicate 128 (.bool false)) 26)
        have PB := Lib.hid (new_blk26 vu20 (Array.replicate 128 (.bool false)))
        have LB : Hid (w.heap.size ≤ vu20.heap.size) := hHid.out.2.2.size
        have hNew := Lib.hid (pr_more hb hHid.out)
        have PAx := Lib.hid ((hb.block _ (lt_hp PA.out)).trans PA.out)
        clear PA
        have PA := PAx
        clear PAx
        refine hK.out _ _ hNew.out (fun hHeld => ?_)
        clear hK K hNew
        clear hb hHid
        generalize (vu20.alloc (.cells (Array.replicate 128 (.bool false)) 26)) = wgu23 at *
        generalize vu20.heap.size = gu23 at *
        refine wpAnyH_ready (rs := [3]) (by kernel_rfl) (by simp) ?_
        refine AllReadyH.cons (by rw [List.getElem?_toArray]; rfl) (fun K hK => ?_) AllReadyH.nil
        · have hHid := Lib.hid hHeld
          clear hHeld
          go_simp
          go_at_call 6; refine (HO2.out _).mono ?_; rintro e vu24 ⟨rfl, hb⟩
          have hNew := Lib.hid (pr_more hb hHid.out)
          have PAx := Lib.hid ((hb.block _ (lt_hp PA.out)).trans PA.out)
          clear PA
          have PA := PAx
          clear PAx
          have PBx := Lib.hid ((hb.block _ (lt_hp PB.out)).trans PB.out)
          clear PB
          have PB := PBx
          clear PBx
          clear hb hHid
          go_wp2_with fail
          refine hK.out _ _ hNew.out (fun hHeld => ?_)
          clear hK K hNew
          have hne : gu19 ≠ gu23 := by have := NE.out; omega
          refine wpAnyH_ready (rs := [6]) (by kernel_rfl) (by simp) ?_
          refine AllReadyH.cons (by rw [List.getElem?_toArray]; rfl) (fun K hK => ?_) AllReadyH.nil
          have hHid := Lib.hid hHeld
          clear hHeld
          rw [if_pos (by rfl)]
          refine wp_store_mid 26 _ _ rfl gu19 0 (row (mem x y) 128) rfl rfl (by have := there_of PA.out; simpa [row_size] using this) (by rw [row_size]; kernel_rfl) (row_one _ _) ?_
          refine hK.out _ _ (pr_put _ hHid.out PA.out LA.out) (fun hHeld => ?_)
          clear hK K
          have PB2 := Lib.hid ((heap_setCells_other gu19 gu23 (Ne.symm hne) (row (mem x y) 128).toList 0 vu24).trans PB.out)
          have PA2 := Lib.hid (store_whole (row (mem x y) 128) PA.out (by simp [row_size]))
          simp only [Act.put]
          refine wpAnyH_ready (rs := [7]) (by kernel_rfl) (by simp) ?_
          refine AllReadyH.cons (by rw [List.getElem?_toArray]; rfl) (fun K hK => ?_) AllReadyH.nil
          have hHid2 := Lib.hid hHeld
          clear hHeld
          rw [if_pos (by rfl)]
          refine wp_store_mid 26 _ _ rfl gu23 0 (row (mem u v) 128) rfl rfl (by have := there_of PB2.out; simpa [row_size] using this) (by rw [row_size]; kernel_rfl) (row_one _ _) ?_
          refine hK.out _ _ (pr_put _ hHid2.out PB2.out LB.out) (fun hHeld => ?_)
          clear hK K
          refine wpAnyH_done (by kernel_rfl) ?_ _
          exact HQ.out gu19 gu23 _ _ _ _ _ hHeld.2.2 ((heap_setCells_other gu23 gu19 hne (row (mem u v) 128).toList 0 _).trans PA2.out) (store_whole (row (mem u v) 128) PB2.out (by simp [row_size])) LA.out LB.out hne
    · have hHid := Lib.hid hHeld
      clear hHeld
      go_simp
      have NE : Hid (gu19 < wgu19.heap.size) := lt_hp PA.out
      have hb := bl_al (Below.refl _ wgu19) (.cells (Array.replicate 128 (.bool false)) 26)
      have PB := Lib.hid (new_blk26 wgu19 (Array.replicate 128 (.bool false)))
      have LB : Hid (w.heap.size ≤ wgu19.heap.size) := hHid.out.2.2.size
      have hNew := Lib.hid (pr_more hb hHid.out)
      have PAx := Lib.hid ((hb.block _ (lt_hp PA.out)).trans PA.out)
      clear PA
      have PA := PAx
      clear PAx
      refine hK.out _ _ hNew.out (fun hHeld => ?_)
      clear hK K hNew
      clear hb hHid
      generalize (wgu19.alloc (.cells (Array.replicate 128 (.bool false)) 26)) = wgu25 at *
      generalize wgu19.heap.size = gu25 at *
      refine wpAnyH_ready (rs := [1]) (by kernel_rfl) (by simp) ?_
      refine AllReadyH.cons (by rw [List.getElem?_toArray]; rfl) (fun K hK => ?_) AllReadyH.nil
      · have hHid := Lib.hid hHeld
        clear hHeld
        go_simp
        go_at_call 6; refine (HO1.out _).mono ?_; rintro e vu26 ⟨rfl, hb⟩
        have hNew := Lib.hid (pr_more hb hHid.out)
        have PAx := Lib.hid ((hb.block _ (lt_hp PA.out)).trans PA.out)
        clear PA
        have PA := PAx
        clear PAx
        have PBx := Lib.hid ((hb.block _ (lt_hp PB.out)).trans PB.out)
        clear PB
        have PB := PBx
        clear PBx
        clear hb hHid
        go_wp2_with fail
        refine hK.out _ _ hNew.out (fun hHeld => ?_)
        clear hK K hNew
        refine wpAnyH_ready (rs := [3]) (by kernel_rfl) (by simp) ?_
        refine AllReadyH.cons (by rw [List.getElem?_toArray]; rfl) (fun K hK => ?_) AllReadyH.nil
        · have hHid := Lib.hid hHeld
          clear hHeld
          go_simp
          go_at_call 6; refine (HO2.out _).mono ?_; rintro e vu27 ⟨rfl, hb⟩
          have hNew := Lib.hid (pr_more hb hHid.out)
          have PAx := Lib.hid ((hb.block _ (lt_hp PA.out)).trans PA.out)
          clear PA
          have PA := PAx
          clear PAx
          have PBx := Lib.hid ((hb.block _ (lt_hp PB.out)).trans PB.out)
          clear PB
          have PB := PBx
          clear PBx
          clear hb hHid
          go_wp2_with fail
          refine hK.out _ _ hNew.out (fun hHeld => ?_)
          clear hK K hNew
          have hne : gu19 ≠ gu25 := by have := NE.out; omega
          refine wpAnyH_ready (rs := [6]) (by kernel_rfl) (by simp) ?_
          refine AllReadyH.cons (by rw [List.getElem?_toArray]; rfl) (fun K hK => ?_) AllReadyH.nil
          have hHid := Lib.hid hHeld
          clear hHeld
          rw [if_pos (by rfl)]
          refine wp_store_mid 26 _ _ rfl gu19 0 (row (mem x y) 128) rfl rfl (by have := there_of PA.out; simpa [row_size] using this) (by rw [row_size]; kernel_rfl) (row_one _ _) ?_
          refine hK.out _ _ (pr_put _ hHid.out PA.out LA.out) (fun hHeld => ?_)
          clear hK K
          have PB2 := Lib.hid ((heap_setCells_other gu19 gu25 (Ne.symm hne) (row (mem x y) 128).toList 0 vu27).trans PB.out)
          have PA2 := Lib.hid (store_whole (row (mem x y) 128) PA.out (by simp [row_size]))
          simp only [Act.put]
          refine wpAnyH_ready (rs := [7]) (by kernel_rfl) (by simp) ?_
          refine AllReadyH.cons (by rw [List.getElem?_toArray]; rfl) (fun K hK => ?_) AllReadyH.nil
          have hHid2 := Lib.hid hHeld
          clear hHeld
          rw [if_pos (by rfl)]
          refine wp_store_mid 26 _ _ rfl gu25 0 (row (mem u v) 128) rfl rfl (by have := there_of PB2.out; simpa [row_size] using this) (by rw [row_size]; kernel_rfl) (row_one _ _) ?_
          refine hK.out _ _ (pr_put _ hHid2.out PB2.out LB.out) (fun hHeld => ?_)
          clear hK K
          refine wpAnyH_done (by kernel_rfl) ?_ _
          exact HQ.out gu19 gu25 _ _ _ _ _ hHeld.2.2 ((heap_setCells_other gu25 gu19 hne (row (mem u v) 128).toList 0 _).trans PA2.out) (store_whole (row (mem u v) 128) PB2.out (by simp [row_size])) LA.out LB.out hne
  · have hHid := Lib.hid hHeld
    clear hHeld
    go_simp
    have hb := bl_al (Below.refl _ w0) (.cells (Array.replicate 128 (.bool false)) 26)
    have PB := Lib.hid (new_blk26 w0 (Array.replicate 128 (.bool false)))
    have LB : Hid (w.heap.size ≤ w0.heap.size) := hHid.out.2.2.size
    have hNew := Lib.hid (pr_more hb hHid.out)
    refine hK.out _ _ hNew.out (fun hHeld => ?_)
    clear hK K hNew
    clear hb hHid
    generalize (w0.alloc (.cells (Array.replicate 128 (.bool false)) 26)) = wgu28 at *
    generalize w0.heap.size = gu28 at *
    refine wpAnyH_ready (rs := [1, 4]) (by kernel_rfl) (by simp) ?_
    refine AllReadyH.cons (by rw [List.getElem?_toArray]; rfl) (fun K hK => ?_) (AllReadyH.cons (by rw [List.getElem?_toArray]; rfl) (fun K hK => ?_) AllReadyH.nil)
    · have hHid := Lib.hid hHeld
      clear hHeld
      go_simp
      go_at_call 6; refine (HO1.out _).mono ?_; rintro e vu29 ⟨rfl, hb⟩
      have hNew := Lib.hid (pr_more hb hHid.out)
      have PBx := Lib.hid ((hb.block _ (lt_hp PB.out)).trans PB.out)
      clear PB
      have PB := PBx
      clear PBx
      clear hb hHid
      go_wp2_with fail
      refine hK.out _ _ hNew.out (fun hHeld => ?_)
      clear hK K hNew
      refine wpAnyH_ready (rs := [3, 4]) (by kernel_rfl) (by simp) ?_
      refine AllReadyH.cons (by rw [List.getElem?_toArray]; rfl) (fun K hK => ?_) (AllReadyH.cons (by rw [List.getElem?_toArray]; rfl) (fun K hK => ?_) AllReadyH.nil)
      · have hHid := Lib.hid hHeld
        clear hHeld
        go_simp
        go_at_call 6; refine (HO2.out _).mono ?_; rintro e vu30 ⟨rfl, hb⟩
        have hNew := Lib.hid (pr_more hb hHid.out)
        have PBx := Lib.hid ((hb.block _ (lt_hp PB.out)).trans PB.out)
        clear PB
        have PB := PBx
        clear PBx
        clear hb hHid
        go_wp2_with fail
        refine hK.out _ _ hNew.out (fun hHeld => ?_)
        clear hK K hNew
        refine wpAnyH_ready (rs := [4]) (by kernel_rfl) (by simp) ?_
        refine AllReadyH.cons (by rw [List.getElem?_toArray]; rfl) (fun K hK => ?_) AllReadyH.nil
        · have hHid := Lib.hid hHeld
          clear hHeld
          go_simp
          have NE : Hid (gu28 < vu30.heap.size) := lt_hp PB.out
          have hb := bl_al (Below.refl _ vu30) (.cells (Array.replicate 128 (.bool false)) 26)
          have PA := Lib.hid (new_blk26 vu30 (Array.replicate 128 (.bool false)))
          have LA : Hid (w.heap.size ≤ vu30.heap.size) := hHid.out.2.2.size
          have hNew := Lib.hid (pr_more hb hHid.out)
          have PBx := Lib.hid ((hb.block _ (lt_hp PB.out)).trans PB.out)
          clear PB
          have PB := PBx
          clear PBx
          refine hK.out _ _ hNew.out (fun hHeld => ?_)
          clear hK K hNew
          clear hb hHid
          generalize (vu30.alloc (.cells (Array.replicate 128 (.bool false)) 26)) = wgu31 at *
          generalize vu30.heap.size = gu31 at *
          have hne : gu31 ≠ gu28 := by have := NE.out; omega
          refine wpAnyH_ready (rs := [6]) (by kernel_rfl) (by simp) ?_
          refine AllReadyH.cons (by rw [List.getElem?_toArray]; rfl) (fun K hK => ?_) AllReadyH.nil
          have hHid := Lib.hid hHeld
          clear hHeld
          rw [if_pos (by rfl)]
          refine wp_store_mid 26 _ _ rfl gu31 0 (row (mem x y) 128) rfl rfl (by have := there_of PA.out; simpa [row_size] using this) (by rw [row_size]; kernel_rfl) (row_one _ _) ?_
          refine hK.out _ _ (pr_put _ hHid.out PA.out LA.out) (fun hHeld => ?_)
          clear hK K
          have PB2 := Lib.hid ((heap_setCells_other gu31 gu28 (Ne.symm hne) (row (mem x y) 128).toList 0 wgu31).trans PB.out)
          have PA2 := Lib.hid (store_whole (row (mem x y) 128) PA.out (by simp [row_size]))
          simp only [Act.put]
          refine wpAnyH_ready (rs := [7]) (by kernel_rfl) (by simp) ?_
          refine AllReadyH.cons (by rw [List.getElem?_toArray]; rfl) (fun K hK => ?_) AllReadyH.nil
          have hHid2 := Lib.hid hHeld
          clear hHeld
          rw [if_pos (by rfl)]
          refine wp_store_mid 26 _ _ rfl gu28 0 (row (mem u v) 128) rfl rfl (by have := there_of PB2.out; simpa [row_size] using this) (by rw [row_size]; kernel_rfl) (row_one _ _) ?_
          refine hK.out _ _ (pr_put _ hHid2.out PB2.out LB.out) (fun hHeld => ?_)
          clear hK K
          refine wpAnyH_done (by kernel_rfl) ?_ _
          exact HQ.out gu31 gu28 _ _ _ _ _ hHeld.2.2 ((heap_setCells_other gu28 gu31 hne (row (mem u v) 128).toList 0 _).trans PA2.out) (store_whole (row (mem u v) 128) PB2.out (by simp [row_size])) LA.out LB.out hne
      · have hHid := Lib.hid hHeld
        clear hHeld
        go_simp
        have NE : Hid (gu28 < vu29.heap.size) := lt_hp PB.out
        have hb := bl_al (Below.refl _ vu29) (.cells (Array.replicate 128 (.bool false)) 26)
        have PA := Lib.hid (new_blk26 vu29 (Array.replicate 128 (.bool false)))
        have LA : Hid (w.heap.size ≤ vu29.heap.size) := hHid.out.2.2.size
        have hNew := Lib.hid (pr_more hb hHid.out)
        have PBx := Lib.hid ((hb.block _ (lt_hp PB.out)).trans PB.out)
        clear PB
        have PB := PBx
        clear PBx
        refine hK.out _ _ hNew.out (fun hHeld => ?_)
        clear hK K hNew
        clear hb hHid
        generalize (vu29.alloc (.cells (Array.replicate 128 (.bool false)) 26)) = wgu32 at *
        generalize vu29.heap.size = gu32 at *
        refine wpAnyH_ready (rs := [3]) (by kernel_rfl) (by simp) ?_
        refine AllReadyH.cons (by rw [List.getElem?_toArray]; rfl) (fun K hK => ?_) AllReadyH.nil
        · have hHid := Lib.hid hHeld
          clear hHeld
          go_simp
          go_at_call 6; refine (HO2.out _).mono ?_; rintro e vu33 ⟨rfl, hb⟩
          have hNew := Lib.hid (pr_more hb hHid.out)
          have PAx := Lib.hid ((hb.block _ (lt_hp PA.out)).trans PA.out)
          clear PA
          have PA := PAx
          clear PAx
          have PBx := Lib.hid ((hb.block _ (lt_hp PB.out)).trans PB.out)
          clear PB
          have PB := PBx
          clear PBx
          clear hb hHid
          go_wp2_with fail
          refine hK.out _ _ hNew.out (fun hHeld => ?_)
          clear hK K hNew
          have hne : gu32 ≠ gu28 := by have := NE.out; omega
          refine wpAnyH_ready (rs := [6]) (by kernel_rfl) (by simp) ?_
          refine AllReadyH.cons (by rw [List.getElem?_toArray]; rfl) (fun K hK => ?_) AllReadyH.nil
          have hHid := Lib.hid hHeld
          clear hHeld
          rw [if_pos (by rfl)]
          refine wp_store_mid 26 _ _ rfl gu32 0 (row (mem x y) 128) rfl rfl (by have := there_of PA.out; simpa [row_size] using this) (by rw [row_size]; kernel_rfl) (row_one _ _) ?_
          refine hK.out _ _ (pr_put _ hHid.out PA.out LA.out) (fun hHeld => ?_)
          clear hK K
          have PB2 := Lib.hid ((heap_setCells_other gu32 gu28 (Ne.symm hne) (row (mem x y) 128).toList 0 vu33).trans PB.out)
          have PA2 := Lib.hid (store_whole (row (mem x y) 128) PA.out (by simp [row_size]))
          simp only [Act.put]
          refine wpAnyH_ready (rs := [7]) (by kernel_rfl) (by simp) ?_
          refine AllReadyH.cons (by rw [List.getElem?_toArray]; rfl) (fun K hK => ?_) AllReadyH.nil
          have hHid2 := Lib.hid hHeld
          clear hHeld
          rw [if_pos (by rfl)]
          refine wp_store_mid 26 _ _ rfl gu28 0 (row (mem u v) 128) rfl rfl (by have := there_of PB2.out; simpa [row_size] using this) (by rw [row_size]; kernel_rfl) (row_one _ _) ?_
          refine hK.out _ _ (pr_put _ hHid2.out PB2.out LB.out) (fun hHeld => ?_)
          clear hK K
          refine wpAnyH_done (by kernel_rfl) ?_ _
          exact HQ.out gu32 gu28 _ _ _ _ _ hHeld.2.2 ((heap_setCells_other gu28 gu32 hne (row (mem u v) 128).toList 0 _).trans PA2.out) (store_whole (row (mem u v) 128) PB2.out (by simp [row_size])) LA.out LB.out hne
    · have hHid := Lib.hid hHeld
      clear hHeld
      go_simp
      have NE : Hid (gu28 < wgu28.heap.size) := lt_hp PB.out
      have hb := bl_al (Below.refl _ wgu28) (.cells (Array.replicate 128 (.bool false)) 26)
      have PA := Lib.hid (new_blk26 wgu28 (Array.replicate 128 (.bool false)))
      have LA : Hid (w.heap.size ≤ wgu28.heap.size) := hHid.out.2.2.size
      have hNew := Lib.hid (pr_more hb hHid.out)
      have PBx := Lib.hid ((hb.block _ (lt_hp PB.out)).trans PB.out)
      clear PB
      have PB := PBx
      clear PBx
      refine hK.out _ _ hNew.out (fun hHeld => ?_)
      clear hK K hNew
      clear hb hHid
      generalize (wgu28.alloc (.cells (Array.replicate 128 (.bool false)) 26)) = wgu34 at *
      generalize wgu28.heap.size = gu34 at *
      refine wpAnyH_ready (rs := [1]) (by kernel_rfl) (by simp) ?_
      refine AllReadyH.cons (by rw [List.getElem?_toArray]; rfl) (fun K hK => ?_) AllReadyH.nil
      · have hHid := Lib.hid hHeld
        clear hHeld
        go_simp
        go_at_call 6; refine (HO1.out _).mono ?_; rintro e vu35 ⟨rfl, hb⟩
        have hNew := Lib.hid (pr_more hb hHid.out)
        have PAx := Lib.hid ((hb.block _ (lt_hp PA.out)).trans PA.out)
        clear PA
        have PA := PAx
        clear PAx
        have PBx := Lib.hid ((hb.block _ (lt_hp PB.out)).trans PB.out)
        clear PB
        have PB := PBx
        clear PBx
        clear hb hHid
        go_wp2_with fail
        refine hK.out _ _ hNew.out (fun hHeld => ?_)
        clear hK K hNew
        refine wpAnyH_ready (rs := [3]) (by kernel_rfl) (by simp) ?_
        refine AllReadyH.cons (by rw [List.getElem?_toArray]; rfl) (fun K hK => ?_) AllReadyH.nil
        · have hHid := Lib.hid hHeld
          clear hHeld
          go_simp
          go_at_call 6; refine (HO2.out _).mono ?_; rintro e vu36 ⟨rfl, hb⟩
          have hNew := Lib.hid (pr_more hb hHid.out)
          have PAx := Lib.hid ((hb.block _ (lt_hp PA.out)).trans PA.out)
          clear PA
          have PA := PAx
          clear PAx
          have PBx := Lib.hid ((hb.block _ (lt_hp PB.out)).trans PB.out)
          clear PB
          have PB := PBx
          clear PBx
          clear hb hHid
          go_wp2_with fail
          refine hK.out _ _ hNew.out (fun hHeld => ?_)
          clear hK K hNew
          have hne : gu34 ≠ gu28 := by have := NE.out; omega
          refine wpAnyH_ready (rs := [6]) (by kernel_rfl) (by simp) ?_
          refine AllReadyH.cons (by rw [List.getElem?_toArray]; rfl) (fun K hK => ?_) AllReadyH.nil
          have hHid := Lib.hid hHeld
          clear hHeld
          rw [if_pos (by rfl)]
          refine wp_store_mid 26 _ _ rfl gu34 0 (row (mem x y) 128) rfl rfl (by have := there_of PA.out; simpa [row_size] using this) (by rw [row_size]; kernel_rfl) (row_one _ _) ?_
          refine hK.out _ _ (pr_put _ hHid.out PA.out LA.out) (fun hHeld => ?_)
          clear hK K
          have PB2 := Lib.hid ((heap_setCells_other gu34 gu28 (Ne.symm hne) (row (mem x y) 128).toList 0 vu36).trans PB.out)
          have PA2 := Lib.hid (store_whole (row (mem x y) 128) PA.out (by simp [row_size]))
          simp only [Act.put]
          refine wpAnyH_ready (rs := [7]) (by kernel_rfl) (by simp) ?_
          refine AllReadyH.cons (by rw [List.getElem?_toArray]; rfl) (fun K hK => ?_) AllReadyH.nil
          have hHid2 := Lib.hid hHeld
          clear hHeld
          rw [if_pos (by rfl)]
          refine wp_store_mid 26 _ _ rfl gu28 0 (row (mem u v) 128) rfl rfl (by have := there_of PB2.out; simpa [row_size] using this) (by rw [row_size]; kernel_rfl) (row_one _ _) ?_
          refine hK.out _ _ (pr_put _ hHid2.out PB2.out LB.out) (fun hHeld => ?_)
          clear hK K
          refine wpAnyH_done (by kernel_rfl) ?_ _
          exact HQ.out gu34 gu28 _ _ _ _ _ hHeld.2.2 ((heap_setCells_other gu28 gu34 hne (row (mem u v) 128).toList 0 _).trans PA2.out) (store_whole (row (mem u v) 128) PB2.out (by simp [row_size])) LA.out LB.out hne
end Go.Proofs.YtnenpgndghdheaaDoor
