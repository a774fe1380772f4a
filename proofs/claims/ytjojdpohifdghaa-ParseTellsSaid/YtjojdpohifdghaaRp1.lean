/-
  The reference's Parse, where one of the first tokens is wrong.
-/
import Derived.Test.YtjojdpohifdghaaRp
import Derived.Deep.RegionHeld3
namespace Go.Proofs.Ytjojdpohifdghaa
open Go.RowKit
set_option linter.unusedVariables false
theorem txl {x : ByteArray} {l : List UInt8} (h : ¬ x = ⟨l.toArray⟩) : (x.toList == l) = false ∧ ¬ x.toList = l := by
  have hn : ¬ x.toList = l := fun e => h (by rw [ByteArray.toList_eq] at e; cases x; rename_i d; simp at e; subst e; simp)
  exact ⟨by simpa using hn, hn⟩
/-- what is known behind the reference's scan -/
structure RH (s : ByteArray) (T : List Tok) (w : World) (q g cap : Nat) (w1 : World) : Prop where
  hq : w1.heap[q]? = some zo
  hz : w1.heap[q + 1]? = some zo
  tr : TR g T w1
  bel : Below q w w1
  gq : q ≠ g
  lt : q + 1 < w1.heap.size
  gz : q + 1 ≠ g
theorem rh_of {s : ByteArray} {T : List Tok} {w w1 : World} {g cap : Nat} (h : w1.ownsRow ((w.alloc zo).alloc zo).heap.size 51 4 (.slice (some ⟨g, 0, none⟩) T.length cap) T.length (encL T)) (hb : Below ((w.alloc zo).alloc zo).heap.size ((w.alloc zo).alloc zo) w1) : RH s T w w.heap.size g cap w1 := by
  have b2 := bl_al (bl_al (Below.refl w.heap.size w) zo) zo
  have e : ((w.alloc zo).alloc zo).heap.size = w.heap.size + 2 := by simp
  have hg := (h.lt g rfl).1
  have hs := hb.size
  refine ⟨(hb.block _ (by omega)).trans (heap_alloc2_old w zo zo), (hb.block _ (by omega)).trans (heap_alloc2_new w zo zo), tr_of h, bl_tr b2 hb, by omega, by omega, by omega⟩
set_option maxRecDepth 100000 in
set_option maxHeartbeats 8000000 in
theorem rp_e0 (s : ByteArray) (T : List Tok) (w : World) (h0 : (tk T 0).kind = 3) (hlen : 0 < T.length) (HS : Hid (∀ W, Calls Try.prog 17 #[.string s] W fun e w' => ∃ v, e = .returned (.tuple #[v, .int .i64 0, .int .i64 0]) ∧ w'.ownsRow W.heap.size 51 4 v T.length (encL T) ∧ Below W.heap.size W w')) :
    Calls Try.prog 8 #[.string s] w fun e w' => e = .returned (.tuple #[.agg #[.int .i64 0, .int .i64 0, .int .i64 0, .slice none 0 0, .slice none 0 0, .slice none 0 0], .int .i64 (tk T 0).at_, .int .i64 6]) ∧ Below w.heap.size w w' := by
  obtain ⟨av, hav⟩ : ∃ av, av = (tk T 0).at_ := ⟨_, rfl⟩
  rw [← hav]
  have HAV := Lib.hid hav
  clear hav
  go_enter Try.func8, Try.ntmps8
  go_wp2_with fail
  refine (HS.out _).mono ?_
  rintro e w1 ⟨v, rfl, hO, hB⟩
  obtain ⟨g, cap, rfl, hg1, hg2⟩ := hO.form (by omega)
  have HR : Hid (RH s T w w.heap.size g cap w1) := rh_of hO hB
  clear HS hO hB hg1 hg2
  obtain ⟨q, hq⟩ : ∃ q, q = w.heap.size := ⟨_, rfl⟩
  rw [← hq] at HR
  have HQ := Lib.hid hq
  have c00 := (HR.out.tr.at (p := 0) (by omega)).1
  rw [h0] at c00
  have l0 : (0 : Int) < (T.length : Int) := by omega
  have m0 : 0 < T.length := by omega
  clear h0

  have b1 := HR.out.hq; have b2 := HR.out.hz; have b3 := HR.out.gq; have b4 := HR.out.bel
  have b0 : q ≠ q + 1 := by omega
  have ba : w1.cell? ⟨g, 3, none⟩ = some (.int .i64 av) := by rw [HAV.out]; exact (HR.out.tr.at (p := 0) hlen).2.2.2
  rw [← hq]
  clear hq
  clear HR hlen HAV
  have HZ := Lib.hid (ret_zero w1 q (q + 1) g 3 av (by assumption) (by assumption) (by assumption) (by assumption) (by assumption) (by assumption))
  go_wp2
  refine wp_region_held_drew (S := ZS (q + 1) g 3 av) (by kernel_rfl) HZ.out.1 (fun hHeld => ?_)
  obtain ⟨-, HY, ⟨z0, z1, z2, z3, z4, z5⟩, ⟨f0, f1, f2, f3, f4, f5⟩, R6, BZ⟩ := HZ.out
  have HYh := Lib.hid HY
  unfold z6 at R6
  have R6h := Lib.hid R6
  have BZh := Lib.hid BZ
  clear HZ HY R6 BZ
  generalize World.drew _ = W3 at *
  refine wpAnyH_take (i := 0) (v := ?va1) (by rw [List.getElem?_toArray]; rfl) (by kernel_rfl) (by kernel_rfl) (by kernel_rfl) ?qa1 (Or.inl ⟨by rfl, ?ya1⟩) hHeld ?ra1
  case qa1 => exact fun _ _ _ h => h
  case ya1 => (intro wz hSw; obtain ⟨⟨s0, s1, s2, s3, s4, s5⟩, s6⟩ := hSw; go_simp; try (with_reducible rfl))
  simp only [Act.put, List.setIfInBounds_toArray, List.set_cons_zero, List.set_cons_succ]
  refine wpAnyH_take (i := 1) (v := ?va2) (by rw [List.getElem?_toArray]; rfl) (by kernel_rfl) (by kernel_rfl) (by kernel_rfl) ?qa2 (Or.inl ⟨by rfl, ?ya2⟩) hHeld ?ra2
  case qa2 => exact fun _ _ _ h => h
  case ya2 => (intro wz hSw; obtain ⟨⟨s0, s1, s2, s3, s4, s5⟩, s6⟩ := hSw; go_simp; try (with_reducible rfl))
  simp only [Act.put, List.setIfInBounds_toArray, List.set_cons_zero, List.set_cons_succ]
  refine wpAnyH_take (i := 2) (v := ?va3) (by rw [List.getElem?_toArray]; rfl) (by kernel_rfl) (by kernel_rfl) (by kernel_rfl) ?qa3 (Or.inl ⟨by rfl, ?ya3⟩) hHeld ?ra3
  case qa3 => exact fun _ _ _ h => h
  case ya3 => (intro wz hSw; obtain ⟨⟨s0, s1, s2, s3, s4, s5⟩, s6⟩ := hSw; go_simp; try (with_reducible rfl))
  simp only [Act.put, List.setIfInBounds_toArray, List.set_cons_zero, List.set_cons_succ]
  refine wpAnyH_take (i := 3) (v := ?va4) (by rw [List.getElem?_toArray]; rfl) (by kernel_rfl) (by kernel_rfl) (by kernel_rfl) ?qa4 (Or.inl ⟨by rfl, ?ya4⟩) hHeld ?ra4
  case qa4 => exact fun _ _ _ h => h
  case ya4 => (intro wz hSw; obtain ⟨⟨s0, s1, s2, s3, s4, s5⟩, s6⟩ := hSw; go_simp; try (with_reducible rfl))
  simp only [Act.put, List.setIfInBounds_toArray, List.set_cons_zero, List.set_cons_succ]
  refine wpAnyH_take (i := 4) (v := ?va5) (by rw [List.getElem?_toArray]; rfl) (by kernel_rfl) (by kernel_rfl) (by kernel_rfl) ?qa5 (Or.inl ⟨by rfl, ?ya5⟩) hHeld ?ra5
  case qa5 => exact fun _ _ _ h => h
  case ya5 => (intro wz hSw; obtain ⟨⟨s0, s1, s2, s3, s4, s5⟩, s6⟩ := hSw; go_simp; try (with_reducible rfl))
  simp only [Act.put, List.setIfInBounds_toArray, List.set_cons_zero, List.set_cons_succ]
  refine wpAnyH_ready (rs := [5]) (by kernel_rfl) (by simp) ?_
  refine AllReadyH.cons (by rw [List.getElem?_toArray]; rfl) (fun K hK => ?_) AllReadyH.nil
  clear hHeld
  go_simp
  refine hK.out _ _ HYh.out (fun hHeld => ?_)
  clear hK K HYh
  refine wpAnyH_take (i := 6) (v := ?va6) (by rw [List.getElem?_toArray]; rfl) (by kernel_rfl) (by kernel_rfl) (by kernel_rfl) ?qa6 (Or.inl ⟨by rfl, ?ya6⟩) hHeld ?ra6
  case qa6 => exact fun _ _ _ h => h
  case ya6 => (intro wz hSw; clear hSw; go_simp; try (with_reducible rfl))
  simp only [Act.put, List.setIfInBounds_toArray, List.set_cons_zero, List.set_cons_succ]
  refine wpAnyH_take (i := 7) (v := ?va7) (by rw [List.getElem?_toArray]; rfl) (by kernel_rfl) (by kernel_rfl) (by kernel_rfl) ?qa7 (Or.inl ⟨by rfl, ?ya7⟩) hHeld ?ra7
  case qa7 => exact fun _ _ _ h => h
  case ya7 => (intro wz hSw; clear hSw; go_simp; try (with_reducible rfl))
  simp only [Act.put, List.setIfInBounds_toArray, List.set_cons_zero, List.set_cons_succ]
  refine wpAnyH_done (by kernel_rfl) ?_ _
  clear hHeld
  go_wp2
  obtain ⟨r0, r1, r2, r3, r4, r5⟩ := R6h.out
  exact bodyPost_ret (v := .tuple #[.agg #[.int .i64 0, .int .i64 0, .int .i64 0, .slice none 0 0, .slice none 0 0, .slice none 0 0], .int .i64 av, .int .i64 6]) (by simp [results, Try.results8, go_sem, r0, r1, r2, r3, r4, r5]) rfl ⟨rfl, by rw [← HQ.out]; exact BZh.out⟩
set_option maxRecDepth 100000 in
set_option maxHeartbeats 8000000 in
theorem rp_e1n (s : ByteArray) (T : List Tok) (w : World) (h0 : (tk T 0).kind = 2) (hlen : 0 < T.length) (HS : Hid (∀ W, Calls Try.prog 17 #[.string s] W fun e w' => ∃ v, e = .returned (.tuple #[v, .int .i64 0, .int .i64 0]) ∧ w'.ownsRow W.heap.size 51 4 v T.length (encL T) ∧ Below W.heap.size W w')) :
    Calls Try.prog 8 #[.string s] w fun e w' => e = .returned (.tuple #[.agg #[.int .i64 0, .int .i64 0, .int .i64 0, .slice none 0 0, .slice none 0 0, .slice none 0 0], .int .i64 (tk T 0).at_, .int .i64 3]) ∧ Below w.heap.size w w' := by
  obtain ⟨av, hav⟩ : ∃ av, av = (tk T 0).at_ := ⟨_, rfl⟩
  rw [← hav]
  have HAV := Lib.hid hav
  clear hav
  go_enter Try.func8, Try.ntmps8
  go_wp2_with fail
  refine (HS.out _).mono ?_
  rintro e w1 ⟨v, rfl, hO, hB⟩
  obtain ⟨g, cap, rfl, hg1, hg2⟩ := hO.form (by omega)
  have HR : Hid (RH s T w w.heap.size g cap w1) := rh_of hO hB
  clear HS hO hB hg1 hg2
  obtain ⟨q, hq⟩ : ∃ q, q = w.heap.size := ⟨_, rfl⟩
  rw [← hq] at HR
  have HQ := Lib.hid hq
  have c00 := (HR.out.tr.at (p := 0) (by omega)).1
  have c01 := (HR.out.tr.at (p := 0) (by omega)).2.1
  rw [h0] at c00
  have l0 : (0 : Int) < (T.length : Int) := by omega
  have m0 : 0 < T.length := by omega
  clear h0
  generalize (tk T 0).text = x at *

  have b1 := HR.out.hq; have b2 := HR.out.hz; have b3 := HR.out.gq; have b4 := HR.out.bel
  have b0 : q ≠ q + 1 := by omega
  have ba : w1.cell? ⟨g, 3, none⟩ = some (.int .i64 av) := by rw [HAV.out]; exact (HR.out.tr.at (p := 0) hlen).2.2.2
  rw [← hq]
  clear hq
  clear HR hlen HAV
  have HZ := Lib.hid (ret_zero w1 q (q + 1) g 3 av (by assumption) (by assumption) (by assumption) (by assumption) (by assumption) (by assumption))
  go_wp2
  refine wp_region_held_drew (S := ZS (q + 1) g 3 av) (by kernel_rfl) HZ.out.1 (fun hHeld => ?_)
  obtain ⟨-, HY, ⟨z0, z1, z2, z3, z4, z5⟩, ⟨f0, f1, f2, f3, f4, f5⟩, R6, BZ⟩ := HZ.out
  have HYh := Lib.hid HY
  unfold z6 at R6
  have R6h := Lib.hid R6
  have BZh := Lib.hid BZ
  clear HZ HY R6 BZ
  generalize World.drew _ = W3 at *
  refine wpAnyH_take (i := 0) (v := ?va8) (by rw [List.getElem?_toArray]; rfl) (by kernel_rfl) (by kernel_rfl) (by kernel_rfl) ?qa8 (Or.inl ⟨by rfl, ?ya8⟩) hHeld ?ra8
  case qa8 => exact fun _ _ _ h => h
  case ya8 => (intro wz hSw; obtain ⟨⟨s0, s1, s2, s3, s4, s5⟩, s6⟩ := hSw; go_simp; try (with_reducible rfl))
  simp only [Act.put, List.setIfInBounds_toArray, List.set_cons_zero, List.set_cons_succ]
  refine wpAnyH_take (i := 1) (v := ?va9) (by rw [List.getElem?_toArray]; rfl) (by kernel_rfl) (by kernel_rfl) (by kernel_rfl) ?qa9 (Or.inl ⟨by rfl, ?ya9⟩) hHeld ?ra9
  case qa9 => exact fun _ _ _ h => h
  case ya9 => (intro wz hSw; obtain ⟨⟨s0, s1, s2, s3, s4, s5⟩, s6⟩ := hSw; go_simp; try (with_reducible rfl))
  simp only [Act.put, List.setIfInBounds_toArray, List.set_cons_zero, List.set_cons_succ]
  refine wpAnyH_take (i := 2) (v := ?va10) (by rw [List.getElem?_toArray]; rfl) (by kernel_rfl) (by kernel_rfl) (by kernel_rfl) ?qa10 (Or.inl ⟨by rfl, ?ya10⟩) hHeld ?ra10
  case qa10 => exact fun _ _ _ h => h
  case ya10 => (intro wz hSw; obtain ⟨⟨s0, s1, s2, s3, s4, s5⟩, s6⟩ := hSw; go_simp; try (with_reducible rfl))
  simp only [Act.put, List.setIfInBounds_toArray, List.set_cons_zero, List.set_cons_succ]
  refine wpAnyH_take (i := 3) (v := ?va11) (by rw [List.getElem?_toArray]; rfl) (by kernel_rfl) (by kernel_rfl) (by kernel_rfl) ?qa11 (Or.inl ⟨by rfl, ?ya11⟩) hHeld ?ra11
  case qa11 => exact fun _ _ _ h => h
  case ya11 => (intro wz hSw; obtain ⟨⟨s0, s1, s2, s3, s4, s5⟩, s6⟩ := hSw; go_simp; try (with_reducible rfl))
  simp only [Act.put, List.setIfInBounds_toArray, List.set_cons_zero, List.set_cons_succ]
  refine wpAnyH_take (i := 4) (v := ?va12) (by rw [List.getElem?_toArray]; rfl) (by kernel_rfl) (by kernel_rfl) (by kernel_rfl) ?qa12 (Or.inl ⟨by rfl, ?ya12⟩) hHeld ?ra12
  case qa12 => exact fun _ _ _ h => h
  case ya12 => (intro wz hSw; obtain ⟨⟨s0, s1, s2, s3, s4, s5⟩, s6⟩ := hSw; go_simp; try (with_reducible rfl))
  simp only [Act.put, List.setIfInBounds_toArray, List.set_cons_zero, List.set_cons_succ]
  refine wpAnyH_ready (rs := [5]) (by kernel_rfl) (by simp) ?_
  refine AllReadyH.cons (by rw [List.getElem?_toArray]; rfl) (fun K hK => ?_) AllReadyH.nil
  clear hHeld
  go_simp
  refine hK.out _ _ HYh.out (fun hHeld => ?_)
  clear hK K HYh
  refine wpAnyH_take (i := 6) (v := ?va13) (by rw [List.getElem?_toArray]; rfl) (by kernel_rfl) (by kernel_rfl) (by kernel_rfl) ?qa13 (Or.inl ⟨by rfl, ?ya13⟩) hHeld ?ra13
  case qa13 => exact fun _ _ _ h => h
  case ya13 => (intro wz hSw; clear hSw; go_simp; try (with_reducible rfl))
  simp only [Act.put, List.setIfInBounds_toArray, List.set_cons_zero, List.set_cons_succ]
  refine wpAnyH_take (i := 7) (v := ?va14) (by rw [List.getElem?_toArray]; rfl) (by kernel_rfl) (by kernel_rfl) (by kernel_rfl) ?qa14 (Or.inl ⟨by rfl, ?ya14⟩) hHeld ?ra14
  case qa14 => exact fun _ _ _ h => h
  case ya14 => (intro wz hSw; clear hSw; go_simp; try (with_reducible rfl))
  simp only [Act.put, List.setIfInBounds_toArray, List.set_cons_zero, List.set_cons_succ]
  refine wpAnyH_done (by kernel_rfl) ?_ _
  clear hHeld
  go_wp2
  obtain ⟨r0, r1, r2, r3, r4, r5⟩ := R6h.out
  exact bodyPost_ret (v := .tuple #[.agg #[.int .i64 0, .int .i64 0, .int .i64 0, .slice none 0 0, .slice none 0 0, .slice none 0 0], .int .i64 av, .int .i64 3]) (by simp [results, Try.results8, go_sem, r0, r1, r2, r3, r4, r5]) rfl ⟨rfl, by rw [← HQ.out]; exact BZh.out⟩
set_option maxRecDepth 100000 in
set_option maxHeartbeats 8000000 in
theorem rp_e1w (s : ByteArray) (T : List Tok) (w : World) (h0 : (tk T 0).kind = 1) (E1 : ¬ (tk T 0).text = (⟨#[75, 78, 65, 80, 83, 65, 67, 75]⟩ : ByteArray)) (E2 : ¬ (tk T 0).text = (⟨#[65, 83, 83, 73, 71, 78, 77, 69, 78, 84]⟩ : ByteArray)) (E3 : ¬ (tk T 0).text = (⟨#[84, 83, 80]⟩ : ByteArray)) (hlen : 0 < T.length) (HS : Hid (∀ W, Calls Try.prog 17 #[.string s] W fun e w' => ∃ v, e = .returned (.tuple #[v, .int .i64 0, .int .i64 0]) ∧ w'.ownsRow W.heap.size 51 4 v T.length (encL T) ∧ Below W.heap.size W w')) :
    Calls Try.prog 8 #[.string s] w fun e w' => e = .returned (.tuple #[.agg #[.int .i64 0, .int .i64 0, .int .i64 0, .slice none 0 0, .slice none 0 0, .slice none 0 0], .int .i64 (tk T 0).at_, .int .i64 3]) ∧ Below w.heap.size w w' := by
  obtain ⟨av, hav⟩ : ∃ av, av = (tk T 0).at_ := ⟨_, rfl⟩
  rw [← hav]
  have HAV := Lib.hid hav
  clear hav
  go_enter Try.func8, Try.ntmps8
  go_wp2_with fail
  refine (HS.out _).mono ?_
  rintro e w1 ⟨v, rfl, hO, hB⟩
  obtain ⟨g, cap, rfl, hg1, hg2⟩ := hO.form (by omega)
  have HR : Hid (RH s T w w.heap.size g cap w1) := rh_of hO hB
  clear HS hO hB hg1 hg2
  obtain ⟨q, hq⟩ : ∃ q, q = w.heap.size := ⟨_, rfl⟩
  rw [← hq] at HR
  have HQ := Lib.hid hq
  have c00 := (HR.out.tr.at (p := 0) (by omega)).1
  have c01 := (HR.out.tr.at (p := 0) (by omega)).2.1
  rw [h0] at c00
  have l0 : (0 : Int) < (T.length : Int) := by omega
  have m0 : 0 < T.length := by omega
  have e1 : ((tk T 0).text.toList == [75, 78, 65, 80, 83, 65, 67, 75]) = false := (txl (x := (tk T 0).text) (l := [75, 78, 65, 80, 83, 65, 67, 75]) (by intro h; exact E1 h)).1
  have n1 : ¬ (tk T 0).text.toList = [75, 78, 65, 80, 83, 65, 67, 75] := (txl (x := (tk T 0).text) (l := [75, 78, 65, 80, 83, 65, 67, 75]) (by intro h; exact E1 h)).2
  have e2 : ((tk T 0).text.toList == [65, 83, 83, 73, 71, 78, 77, 69, 78, 84]) = false := (txl (x := (tk T 0).text) (l := [65, 83, 83, 73, 71, 78, 77, 69, 78, 84]) (by intro h; exact E2 h)).1
  have n2 : ¬ (tk T 0).text.toList = [65, 83, 83, 73, 71, 78, 77, 69, 78, 84] := (txl (x := (tk T 0).text) (l := [65, 83, 83, 73, 71, 78, 77, 69, 78, 84]) (by intro h; exact E2 h)).2
  have e3 : ((tk T 0).text.toList == [84, 83, 80]) = false := (txl (x := (tk T 0).text) (l := [84, 83, 80]) (by intro h; exact E3 h)).1
  have n3 : ¬ (tk T 0).text.toList = [84, 83, 80] := (txl (x := (tk T 0).text) (l := [84, 83, 80]) (by intro h; exact E3 h)).2
  clear E1 E2 E3
  clear h0
  generalize (tk T 0).text = x at *

  have b1 := HR.out.hq; have b2 := HR.out.hz; have b3 := HR.out.gq; have b4 := HR.out.bel
  have b0 : q ≠ q + 1 := by omega
  have ba : w1.cell? ⟨g, 3, none⟩ = some (.int .i64 av) := by rw [HAV.out]; exact (HR.out.tr.at (p := 0) hlen).2.2.2
  rw [← hq]
  clear hq
  clear HR hlen HAV
  have HZ := Lib.hid (ret_zero w1 q (q + 1) g 3 av (by assumption) (by assumption) (by assumption) (by assumption) (by assumption) (by assumption))
  go_wp2
  refine wp_region_held_drew (S := ZS (q + 1) g 3 av) (by kernel_rfl) HZ.out.1 (fun hHeld => ?_)
  obtain ⟨-, HY, ⟨z0, z1, z2, z3, z4, z5⟩, ⟨f0, f1, f2, f3, f4, f5⟩, R6, BZ⟩ := HZ.out
  have HYh := Lib.hid HY
  unfold z6 at R6
  have R6h := Lib.hid R6
  have BZh := Lib.hid BZ
  clear HZ HY R6 BZ
  generalize World.drew _ = W3 at *
  refine wpAnyH_take (i := 0) (v := ?va15) (by rw [List.getElem?_toArray]; rfl) (by kernel_rfl) (by kernel_rfl) (by kernel_rfl) ?qa15 (Or.inl ⟨by rfl, ?ya15⟩) hHeld ?ra15
  case qa15 => exact fun _ _ _ h => h
  case ya15 => (intro wz hSw; obtain ⟨⟨s0, s1, s2, s3, s4, s5⟩, s6⟩ := hSw; go_simp; try (with_reducible rfl))
  simp only [Act.put, List.setIfInBounds_toArray, List.set_cons_zero, List.set_cons_succ]
  refine wpAnyH_take (i := 1) (v := ?va16) (by rw [List.getElem?_toArray]; rfl) (by kernel_rfl) (by kernel_rfl) (by kernel_rfl) ?qa16 (Or.inl ⟨by rfl, ?ya16⟩) hHeld ?ra16
  case qa16 => exact fun _ _ _ h => h
  case ya16 => (intro wz hSw; obtain ⟨⟨s0, s1, s2, s3, s4, s5⟩, s6⟩ := hSw; go_simp; try (with_reducible rfl))
  simp only [Act.put, List.setIfInBounds_toArray, List.set_cons_zero, List.set_cons_succ]
  refine wpAnyH_take (i := 2) (v := ?va17) (by rw [List.getElem?_toArray]; rfl) (by kernel_rfl) (by kernel_rfl) (by kernel_rfl) ?qa17 (Or.inl ⟨by rfl, ?ya17⟩) hHeld ?ra17
  case qa17 => exact fun _ _ _ h => h
  case ya17 => (intro wz hSw; obtain ⟨⟨s0, s1, s2, s3, s4, s5⟩, s6⟩ := hSw; go_simp; try (with_reducible rfl))
  simp only [Act.put, List.setIfInBounds_toArray, List.set_cons_zero, List.set_cons_succ]
  refine wpAnyH_take (i := 3) (v := ?va18) (by rw [List.getElem?_toArray]; rfl) (by kernel_rfl) (by kernel_rfl) (by kernel_rfl) ?qa18 (Or.inl ⟨by rfl, ?ya18⟩) hHeld ?ra18
  case qa18 => exact fun _ _ _ h => h
  case ya18 => (intro wz hSw; obtain ⟨⟨s0, s1, s2, s3, s4, s5⟩, s6⟩ := hSw; go_simp; try (with_reducible rfl))
  simp only [Act.put, List.setIfInBounds_toArray, List.set_cons_zero, List.set_cons_succ]
  refine wpAnyH_take (i := 4) (v := ?va19) (by rw [List.getElem?_toArray]; rfl) (by kernel_rfl) (by kernel_rfl) (by kernel_rfl) ?qa19 (Or.inl ⟨by rfl, ?ya19⟩) hHeld ?ra19
  case qa19 => exact fun _ _ _ h => h
  case ya19 => (intro wz hSw; obtain ⟨⟨s0, s1, s2, s3, s4, s5⟩, s6⟩ := hSw; go_simp; try (with_reducible rfl))
  simp only [Act.put, List.setIfInBounds_toArray, List.set_cons_zero, List.set_cons_succ]
  refine wpAnyH_ready (rs := [5]) (by kernel_rfl) (by simp) ?_
  refine AllReadyH.cons (by rw [List.getElem?_toArray]; rfl) (fun K hK => ?_) AllReadyH.nil
  clear hHeld
  go_simp
  refine hK.out _ _ HYh.out (fun hHeld => ?_)
  clear hK K HYh
  refine wpAnyH_take (i := 6) (v := ?va20) (by rw [List.getElem?_toArray]; rfl) (by kernel_rfl) (by kernel_rfl) (by kernel_rfl) ?qa20 (Or.inl ⟨by rfl, ?ya20⟩) hHeld ?ra20
  case qa20 => exact fun _ _ _ h => h
  case ya20 => (intro wz hSw; clear hSw; go_simp; try (with_reducible rfl))
  simp only [Act.put, List.setIfInBounds_toArray, List.set_cons_zero, List.set_cons_succ]
  refine wpAnyH_take (i := 7) (v := ?va21) (by rw [List.getElem?_toArray]; rfl) (by kernel_rfl) (by kernel_rfl) (by kernel_rfl) ?qa21 (Or.inl ⟨by rfl, ?ya21⟩) hHeld ?ra21
  case qa21 => exact fun _ _ _ h => h
  case ya21 => (intro wz hSw; clear hSw; go_simp; try (with_reducible rfl))
  simp only [Act.put, List.setIfInBounds_toArray, List.set_cons_zero, List.set_cons_succ]
  refine wpAnyH_done (by kernel_rfl) ?_ _
  clear hHeld
  go_wp2
  obtain ⟨r0, r1, r2, r3, r4, r5⟩ := R6h.out
  exact bodyPost_ret (v := .tuple #[.agg #[.int .i64 0, .int .i64 0, .int .i64 0, .slice none 0 0, .slice none 0 0, .slice none 0 0], .int .i64 av, .int .i64 3]) (by simp [results, Try.results8, go_sem, r0, r1, r2, r3, r4, r5]) rfl ⟨rfl, by rw [← HQ.out]; exact BZh.out⟩
end Go.Proofs.Ytjojdpohifdghaa
