/-
  The reference's Parse, where a tour's word is wrong.
-/
import Derived.Test.YtjojdpohifdghaaRp13
namespace Go.Proofs.Ytjojdpohifdghaa
open Go.RowKit
set_option linter.unusedVariables false
theorem RH.up {s : ByteArray} {T : List Tok} {w w1 w2 : World} {q g cap : Nat} (h : RH s T w q g cap w1) (hb : Below w1.heap.size w1 w2) : RH s T w q g cap w2 := by
  have hl := h.lt
  refine ⟨(hb.block _ (by omega)).trans h.hq, (hb.block _ (by omega)).trans h.hz, h.tr.up hb, ?_, h.gq, Nat.lt_of_lt_of_le hl hb.size, h.gz⟩
  exact ⟨hb.os.trans h.bel.os, hb.tape.trans h.bel.tape, hb.output.trans h.bel.output, Nat.le_trans h.bel.size hb.size, fun i hi => (hb.block i (by omega)).trans (h.bel.block i hi)⟩
theorem below_i (w1 : World) (o : Obj) (j : Nat) (v : Value) : Below w1.heap.size w1 ((w1.alloc o).setCell ⟨w1.heap.size, j, none⟩ v) :=
  ⟨rfl, rfl, rfl, by simp [World.setCell], fun i hi => (heap_setCell_other (w1.alloc o) ⟨w1.heap.size, j, none⟩ i v (by show i ≠ w1.heap.size; omega)).trans (Below.heap_alloc w1 o i hi)⟩
theorem rh_i {s : ByteArray} {T : List Tok} {w w1 : World} {q g cap : Nat} (h : RH s T w q g cap w1) (o : Obj) (j : Nat) (v : Value) : RH s T w q g cap ((w1.alloc o).setCell ⟨w1.heap.size, j, none⟩ v) := h.up (below_i w1 o j v)
set_option maxRecDepth 100000 in
set_option maxHeartbeats 8000000 in
theorem rp_t2a (s : ByteArray) (T : List Tok) (w : World) (h0 : (tk T 0).kind = 1) (EW : (tk T 0).text = (⟨#[84, 83, 80]⟩ : ByteArray)) (h1 : (tk T 1).kind = 2) (h2 : 0 < (tk T 1).num) (h3 : (tk T 1).num ≤ 24) (h4 : (tk T 2).kind = 3) (hlen : 2 < T.length) (HS : Hid (∀ W, Calls Try.prog 17 #[.string s] W fun e w' => ∃ v, e = .returned (.tuple #[v, .int .i64 0, .int .i64 0]) ∧ w'.ownsRow W.heap.size 51 4 v T.length (encL T) ∧ Below W.heap.size W w')) :
    Calls Try.prog 8 #[.string s] w fun e w' => e = .returned (.tuple #[.agg #[.int .i64 0, .int .i64 0, .int .i64 0, .slice none 0 0, .slice none 0 0, .slice none 0 0], .int .i64 (tk T 2).at_, .int .i64 6]) ∧ Below w.heap.size w w' := by
  obtain ⟨av, hav⟩ : ∃ av, av = (tk T 2).at_ := ⟨_, rfl⟩
  rw [← hav]
  have HAV := Lib.hid hav
  clear hav
  go_enter Try.func8, Try.ntmps8
  go_wp2_with fail
  refine (HS.out _).mono ?_
  rintro e w1 ⟨v, rfl, hO, hB⟩
  obtain ⟨g, cap, rfl, hg1, hg2⟩ := hO.form (by omega)
  have HR : Hid (RH s T w w.heap.size g cap w1) := rh_of hO hB
  clear HS hO hB hg1 hg2
  obtain ⟨q, hq⟩ : ∃ q, q = w.heap.size := ⟨_, rfl⟩
  rw [← hq] at HR
  have HQ := Lib.hid hq
  have c00 := (HR.out.tr.at (p := 0) (by omega)).1
  have c01 := (HR.out.tr.at (p := 0) (by omega)).2.1
  rw [h0] at c00
  have l0 : (0 : Int) < (T.length : Int) := by omega
  have m0 : 0 < T.length := by omega
  have l1 : (1 : Int) < (T.length : Int) := by omega
  have m1 : 1 < T.length := by omega
  have l2 : (2 : Int) < (T.length : Int) := by omega
  have m2 : 2 < T.length := by omega
  rw [EW] at c01
  clear EW
  have c10 := (HR.out.tr.at (p := 1) (by omega)).1
  have c12 := (HR.out.tr.at (p := 1) (by omega)).2.2.1
  rw [h1] at c10
  have d0 : ((tk T 1).num == 0) = false := by simp; omega
  have d1 : ¬ 24 < (tk T 1).num := by omega
  clear h1 h2 h3
  clear h0

  rw [← hq]
  clear hq
  obtain ⟨n, hn⟩ : ∃ n, n = (tk T 1).num := ⟨_, rfl⟩
  rw [← hn] at c12 d0 d1
  clear hn
  have HR2 : Hid (RH s T w q g cap (w1.alloc (.cells #[.int .i64 3, .int .i64 n, .int .i64 0, .slice none 0 0, .slice none 0 0, .slice none 0 0] 26))) := HR.out.up (bl_al (Below.refl _ _) _)
  clear HR
  go_upto_region 27 with fail
  clear c00 c01 c10 c12 d0 d1
  generalize w1.alloc (.cells #[.int .i64 3, .int .i64 n, .int .i64 0, .slice none 0 0, .slice none 0 0, .slice none 0 0] 26) = w2 at *
  have HR := HR2
  clear HR2
  have c20 := (HR.out.tr.at (p := 2) (by omega)).1
  rw [h4] at c20
  clear h4

  have b1 := HR.out.hq; have b2 := HR.out.hz; have b3 := HR.out.gq; have b4 := HR.out.bel
  have b0 : q ≠ q + 1 := by omega
  have ba : w2.cell? ⟨g, 11, none⟩ = some (.int .i64 av) := by rw [HAV.out]; exact (HR.out.tr.at (p := 2) hlen).2.2.2
  clear HR hlen HAV
  have HZ := Lib.hid (ret_zero w2 q (q + 1) g 11 av (by assumption) (by assumption) (by assumption) (by assumption) (by assumption) (by assumption))
  go_wp2
  refine wp_region_held_drew (S := ZS (q + 1) g 11 av) (by kernel_rfl) HZ.out.1 (fun hHeld => ?_)
  obtain ⟨-, HY, ⟨z0, z1, z2, z3, z4, z5⟩, ⟨f0, f1, f2, f3, f4, f5⟩, R6, BZ⟩ := HZ.out
  have HYh := Lib.hid HY
  unfold z6 at R6
  have R6h := Lib.hid R6
  have BZh := Lib.hid BZ
  clear HZ HY R6 BZ
  generalize World.drew _ = W3 at *
  refine wpAnyH_take (i := 0) (v := ?va1) (by rw [List.getElem?_toArray]; rfl) (by kernel_rfl) (by kernel_rfl) (by kernel_rfl) ?qa1 (Or.inl ⟨by rfl, ?ya1⟩) hHeld ?ra1
  case qa1 => exact fun _ _ _ h => h
  case ya1 => (intro wz hSw; obtain ⟨⟨s0, s1, s2, s3, s4, s5⟩, s6⟩ := hSw; go_simp; try (with_reducible rfl))
  simp only [Act.put, List.setIfInBounds_toArray, List.set_cons_zero, List.set_cons_succ]
  refine wpAnyH_take (i := 1) (v := ?va2) (by rw [List.getElem?_toArray]; rfl) (by kernel_rfl) (by kernel_rfl) (by kernel_rfl) ?qa2 (Or.inl ⟨by rfl, ?ya2⟩) hHeld ?ra2
  case qa2 => exact fun _ _ _ h => h
  case ya2 => (intro wz hSw; obtain ⟨⟨s0, s1, s2, s3, s4, s5⟩, s6⟩ := hSw; go_simp; try (with_reducible rfl))
  simp only [Act.put, List.setIfInBounds_toArray, List.set_cons_zero, List.set_cons_succ]
  refine wpAnyH_take (i := 2) (v := ?va3) (by rw [List.getElem?_toArray]; rfl) (by kernel_rfl) (by kernel_rfl) (by kernel_rfl) ?qa3 (Or.inl ⟨by rfl, ?ya3⟩) hHeld ?ra3
  case qa3 => exact fun _ _ _ h => h
  case ya3 => (intro wz hSw; obtain ⟨⟨s0, s1, s2, s3, s4, s5⟩, s6⟩ := hSw; go_simp; try (with_reducible rfl))
  simp only [Act.put, List.setIfInBounds_toArray, List.set_cons_zero, List.set_cons_succ]
  refine wpAnyH_take (i := 3) (v := ?va4) (by rw [List.getElem?_toArray]; rfl) (by kernel_rfl) (by kernel_rfl) (by kernel_rfl) ?qa4 (Or.inl ⟨by rfl, ?ya4⟩) hHeld ?ra4
  case qa4 => exact fun _ _ _ h => h
  case ya4 => (intro wz hSw; obtain ⟨⟨s0, s1, s2, s3, s4, s5⟩, s6⟩ := hSw; go_simp; try (with_reducible rfl))
  simp only [Act.put, List.setIfInBounds_toArray, List.set_cons_zero, List.set_cons_succ]
  refine wpAnyH_take (i := 4) (v := ?va5) (by rw [List.getElem?_toArray]; rfl) (by kernel_rfl) (by kernel_rfl) (by kernel_rfl) ?qa5 (Or.inl ⟨by rfl, ?ya5⟩) hHeld ?ra5
  case qa5 => exact fun _ _ _ h => h
  case ya5 => (intro wz hSw; obtain ⟨⟨s0, s1, s2, s3, s4, s5⟩, s6⟩ := hSw; go_simp; try (with_reducible rfl))
  simp only [Act.put, List.setIfInBounds_toArray, List.set_cons_zero, List.set_cons_succ]
  refine wpAnyH_ready (rs := [5]) (by kernel_rfl) (by simp) ?_
  refine AllReadyH.cons (by rw [List.getElem?_toArray]; rfl) (fun K hK => ?_) AllReadyH.nil
  clear hHeld
  go_simp
  refine hK.out _ _ HYh.out (fun hHeld => ?_)
  clear hK K HYh
  refine wpAnyH_take (i := 6) (v := ?va6) (by rw [List.getElem?_toArray]; rfl) (by kernel_rfl) (by kernel_rfl) (by kernel_rfl) ?qa6 (Or.inl ⟨by rfl, ?ya6⟩) hHeld ?ra6
  case qa6 => exact fun _ _ _ h => h
  case ya6 => (intro wz hSw; clear hSw; go_simp; try (with_reducible rfl))
  simp only [Act.put, List.setIfInBounds_toArray, List.set_cons_zero, List.set_cons_succ]
  refine wpAnyH_take (i := 7) (v := ?va7) (by rw [List.getElem?_toArray]; rfl) (by kernel_rfl) (by kernel_rfl) (by kernel_rfl) ?qa7 (Or.inl ⟨by rfl, ?ya7⟩) hHeld ?ra7
  case qa7 => exact fun _ _ _ h => h
  case ya7 => (intro wz hSw; clear hSw; go_simp; try (with_reducible rfl))
  simp only [Act.put, List.setIfInBounds_toArray, List.set_cons_zero, List.set_cons_succ]
  refine wpAnyH_done (by kernel_rfl) ?_ _
  clear hHeld
  go_wp2
  obtain ⟨r0, r1, r2, r3, r4, r5⟩ := R6h.out
  exact bodyPost_ret (v := .tuple #[.agg #[.int .i64 0, .int .i64 0, .int .i64 0, .slice none 0 0, .slice none 0 0, .slice none 0 0], .int .i64 av, .int .i64 6]) (by simp [results, Try.results8, go_sem, r0, r1, r2, r3, r4, r5]) rfl ⟨rfl, by rw [← HQ.out]; exact BZh.out⟩
set_option maxRecDepth 100000 in
set_option maxHeartbeats 8000000 in
theorem rp_t2b (s : ByteArray) (T : List Tok) (w : World) (h0 : (tk T 0).kind = 1) (EW : (tk T 0).text = (⟨#[84, 83, 80]⟩ : ByteArray)) (h1 : (tk T 1).kind = 2) (h2 : 0 < (tk T 1).num) (h3 : (tk T 1).num ≤ 24) (h4 : ¬ (tk T 2).kind = 3) (E4 : ¬ (tk T 2).text = (⟨#[70, 85, 76, 76]⟩ : ByteArray)) (E5 : ¬ (tk T 2).text = (⟨#[85, 80, 80, 69, 82]⟩ : ByteArray)) (hlen : 2 < T.length) (HS : Hid (∀ W, Calls Try.prog 17 #[.string s] W fun e w' => ∃ v, e = .returned (.tuple #[v, .int .i64 0, .int .i64 0]) ∧ w'.ownsRow W.heap.size 51 4 v T.length (encL T) ∧ Below W.heap.size W w')) :
    Calls Try.prog 8 #[.string s] w fun e w' => e = .returned (.tuple #[.agg #[.int .i64 0, .int .i64 0, .int .i64 0, .slice none 0 0, .slice none 0 0, .slice none 0 0], .int .i64 (tk T 2).at_, .int .i64 3]) ∧ Below w.heap.size w w' := by
  obtain ⟨av, hav⟩ : ∃ av, av = (tk T 2).at_ := ⟨_, rfl⟩
  rw [← hav]
  have HAV := Lib.hid hav
  clear hav
  go_enter Try.func8, Try.ntmps8
  go_wp2_with fail
  refine (HS.out _).mono ?_
  rintro e w1 ⟨v, rfl, hO, hB⟩
  obtain ⟨g, cap, rfl, hg1, hg2⟩ := hO.form (by omega)
  have HR : Hid (RH s T w w.heap.size g cap w1) := rh_of hO hB
  clear HS hO hB hg1 hg2
  obtain ⟨q, hq⟩ : ∃ q, q = w.heap.size := ⟨_, rfl⟩
  rw [← hq] at HR
  have HQ := Lib.hid hq
  have c00 := (HR.out.tr.at (p := 0) (by omega)).1
  have c01 := (HR.out.tr.at (p := 0) (by omega)).2.1
  rw [h0] at c00
  have l0 : (0 : Int) < (T.length : Int) := by omega
  have m0 : 0 < T.length := by omega
  have l1 : (1 : Int) < (T.length : Int) := by omega
  have m1 : 1 < T.length := by omega
  have l2 : (2 : Int) < (T.length : Int) := by omega
  have m2 : 2 < T.length := by omega
  rw [EW] at c01
  clear EW
  have c10 := (HR.out.tr.at (p := 1) (by omega)).1
  have c12 := (HR.out.tr.at (p := 1) (by omega)).2.2.1
  rw [h1] at c10
  have d0 : ((tk T 1).num == 0) = false := by simp; omega
  have d1 : ¬ 24 < (tk T 1).num := by omega
  clear h1 h2 h3
  clear h0

  rw [← hq]
  clear hq
  obtain ⟨n, hn⟩ : ∃ n, n = (tk T 1).num := ⟨_, rfl⟩
  rw [← hn] at c12 d0 d1
  clear hn
  have HR2 : Hid (RH s T w q g cap (w1.alloc (.cells #[.int .i64 3, .int .i64 n, .int .i64 0, .slice none 0 0, .slice none 0 0, .slice none 0 0] 26))) := HR.out.up (bl_al (Below.refl _ _) _)
  clear HR
  go_upto_region 27 with fail
  clear c00 c01 c10 c12 d0 d1
  generalize w1.alloc (.cells #[.int .i64 3, .int .i64 n, .int .i64 0, .slice none 0 0, .slice none 0 0, .slice none 0 0] 26) = w2 at *
  have HR := HR2
  clear HR2
  have c20 := (HR.out.tr.at (p := 2) (by omega)).1
  have c21 := (HR.out.tr.at (p := 2) (by omega)).2.1
  have d4 : ((tk T 2).kind == 3) = false := by simpa using h4
  clear h4
  have e4 : ((tk T 2).text.toList == [70, 85, 76, 76]) = false := (txl (x := (tk T 2).text) (l := [70, 85, 76, 76]) (by intro h; exact E4 h)).1
  have n4 : ¬ (tk T 2).text.toList = [70, 85, 76, 76] := (txl (x := (tk T 2).text) (l := [70, 85, 76, 76]) (by intro h; exact E4 h)).2
  have e5 : ((tk T 2).text.toList == [85, 80, 80, 69, 82]) = false := (txl (x := (tk T 2).text) (l := [85, 80, 80, 69, 82]) (by intro h; exact E5 h)).1
  have n5 : ¬ (tk T 2).text.toList = [85, 80, 80, 69, 82] := (txl (x := (tk T 2).text) (l := [85, 80, 80, 69, 82]) (by intro h; exact E5 h)).2
  clear E4 E5
  generalize (tk T 2).text = y at *
  generalize (tk T 2).kind = kd at *

  have b1 := HR.out.hq; have b2 := HR.out.hz; have b3 := HR.out.gq; have b4 := HR.out.bel
  have b0 : q ≠ q + 1 := by omega
  have ba : w2.cell? ⟨g, 11, none⟩ = some (.int .i64 av) := by rw [HAV.out]; exact (HR.out.tr.at (p := 2) hlen).2.2.2
  clear HR hlen HAV
  have HZ := Lib.hid (ret_zero w2 q (q + 1) g 11 av (by assumption) (by assumption) (by assumption) (by assumption) (by assumption) (by assumption))
  go_wp2
  refine wp_region_held_drew (S := ZS (q + 1) g 11 av) (by kernel_rfl) HZ.out.1 (fun hHeld => ?_)
  obtain ⟨-, HY, ⟨z0, z1, z2, z3, z4, z5⟩, ⟨f0, f1, f2, f3, f4, f5⟩, R6, BZ⟩ := HZ.out
  have HYh := Lib.hid HY
  unfold z6 at R6
  have R6h := Lib.hid R6
  have BZh := Lib.hid BZ
  clear HZ HY R6 BZ
  generalize World.drew _ = W3 at *
  refine wpAnyH_take (i := 0) (v := ?va8) (by rw [List.getElem?_toArray]; rfl) (by kernel_rfl) (by kernel_rfl) (by kernel_rfl) ?qa8 (Or.inl ⟨by rfl, ?ya8⟩) hHeld ?ra8
  case qa8 => exact fun _ _ _ h => h
  case ya8 => (intro wz hSw; obtain ⟨⟨s0, s1, s2, s3, s4, s5⟩, s6⟩ := hSw; go_simp; try (with_reducible rfl))
  simp only [Act.put, List.setIfInBounds_toArray, List.set_cons_zero, List.set_cons_succ]
  refine wpAnyH_take (i := 1) (v := ?va9) (by rw [List.getElem?_toArray]; rfl) (by kernel_rfl) (by kernel_rfl) (by kernel_rfl) ?qa9 (Or.inl ⟨by rfl, ?ya9⟩) hHeld ?ra9
  case qa9 => exact fun _ _ _ h => h
  case ya9 => (intro wz hSw; obtain ⟨⟨s0, s1, s2, s3, s4, s5⟩, s6⟩ := hSw; go_simp; try (with_reducible rfl))
  simp only [Act.put, List.setIfInBounds_toArray, List.set_cons_zero, List.set_cons_succ]
  refine wpAnyH_take (i := 2) (v := ?va10) (by rw [List.getElem?_toArray]; rfl) (by kernel_rfl) (by kernel_rfl) (by kernel_rfl) ?qa10 (Or.inl ⟨by rfl, ?ya10⟩) hHeld ?ra10
  case qa10 => exact fun _ _ _ h => h
  case ya10 => (intro wz hSw; obtain ⟨⟨s0, s1, s2, s3, s4, s5⟩, s6⟩ := hSw; go_simp; try (with_reducible rfl))
  simp only [Act.put, List.setIfInBounds_toArray, List.set_cons_zero, List.set_cons_succ]
  refine wpAnyH_take (i := 3) (v := ?va11) (by rw [List.getElem?_toArray]; rfl) (by kernel_rfl) (by kernel_rfl) (by kernel_rfl) ?qa11 (Or.inl ⟨by rfl, ?ya11⟩) hHeld ?ra11
  case qa11 => exact fun _ _ _ h => h
  case ya11 => (intro wz hSw; obtain ⟨⟨s0, s1, s2, s3, s4, s5⟩, s6⟩ := hSw; go_simp; try (with_reducible rfl))
  simp only [Act.put, List.setIfInBounds_toArray, List.set_cons_zero, List.set_cons_succ]
  refine wpAnyH_take (i := 4) (v := ?va12) (by rw [List.getElem?_toArray]; rfl) (by kernel_rfl) (by kernel_rfl) (by kernel_rfl) ?qa12 (Or.inl ⟨by rfl, ?ya12⟩) hHeld ?ra12
  case qa12 => exact fun _ _ _ h => h
  case ya12 => (intro wz hSw; obtain ⟨⟨s0, s1, s2, s3, s4, s5⟩, s6⟩ := hSw; go_simp; try (with_reducible rfl))
  simp only [Act.put, List.setIfInBounds_toArray, List.set_cons_zero, List.set_cons_succ]
  refine wpAnyH_ready (rs := [5]) (by kernel_rfl) (by simp) ?_
  refine AllReadyH.cons (by rw [List.getElem?_toArray]; rfl) (fun K hK => ?_) AllReadyH.nil
  clear hHeld
  go_simp
  refine hK.out _ _ HYh.out (fun hHeld => ?_)
  clear hK K HYh
  refine wpAnyH_take (i := 6) (v := ?va13) (by rw [List.getElem?_toArray]; rfl) (by kernel_rfl) (by kernel_rfl) (by kernel_rfl) ?qa13 (Or.inl ⟨by rfl, ?ya13⟩) hHeld ?ra13
  case qa13 => exact fun _ _ _ h => h
  case ya13 => (intro wz hSw; clear hSw; go_simp; try (with_reducible rfl))
  simp only [Act.put, List.setIfInBounds_toArray, List.set_cons_zero, List.set_cons_succ]
  refine wpAnyH_take (i := 7) (v := ?va14) (by rw [List.getElem?_toArray]; rfl) (by kernel_rfl) (by kernel_rfl) (by kernel_rfl) ?qa14 (Or.inl ⟨by rfl, ?ya14⟩) hHeld ?ra14
  case qa14 => exact fun _ _ _ h => h
  case ya14 => (intro wz hSw; clear hSw; go_simp; try (with_reducible rfl))
  simp only [Act.put, List.setIfInBounds_toArray, List.set_cons_zero, List.set_cons_succ]
  refine wpAnyH_done (by kernel_rfl) ?_ _
  clear hHeld
  go_wp2
  obtain ⟨r0, r1, r2, r3, r4, r5⟩ := R6h.out
  exact bodyPost_ret (v := .tuple #[.agg #[.int .i64 0, .int .i64 0, .int .i64 0, .slice none 0 0, .slice none 0 0, .slice none 0 0], .int .i64 av, .int .i64 3]) (by simp [results, Try.results8, go_sem, r0, r1, r2, r3, r4, r5]) rfl ⟨rfl, by rw [← HQ.out]; exact BZh.out⟩
end Go.Proofs.Ytjojdpohifdghaa
