/-
  The reference's Parse, where n is wrong.
-/
import Derived.Test.YtjojdpohifdghaaRp1
namespace Go.Proofs.Ytjojdpohifdghaa
open Go.RowKit
set_option linter.unusedVariables false
set_option maxRecDepth 100000 in
set_option maxHeartbeats 8000000 in
theorem rp_n1a (s : ByteArray) (T : List Tok) (w : World) (h0 : (tk T 0).kind = 1) (EW : (tk T 0).text = (⟨#[75, 78, 65, 80, 83, 65, 67, 75]⟩ : ByteArray)) (h1 : (tk T 1).kind = 3) (hlen : 1 < T.length) (HS : Hid (∀ W, Calls Try.prog 17 #[.string s] W fun e w' => ∃ v, e = .returned (.tuple #[v, .int .i64 0, .int .i64 0]) ∧ w'.ownsRow W.heap.size 51 4 v T.length (encL T) ∧ Below W.heap.size W w')) :
    Calls Try.prog 8 #[.string s] w fun e w' => e = .returned (.tuple #[.agg #[.int .i64 0, .int .i64 0, .int .i64 0, .slice none 0 0, .slice none 0 0, .slice none 0 0], .int .i64 (tk T 1).at_, .int .i64 6]) ∧ Below w.heap.size w w' := by
  obtain ⟨av, hav⟩ : ∃ av, av = (tk T 1).at_ := ⟨_, rfl⟩
  rw [← hav]
  have HAV := Lib.hid hav
  clear hav
  go_enter Try.func8, Try.ntmps8
  go_wp2_with fail
  refine (HS.out _).mono ?_
  rintro e w1 ⟨v, rfl, hO, hB⟩
  obtain ⟨g, cap, rfl, hg1, hg2⟩ := hO.form (by omega)
  have HR : Hid (RH s T w w.heap.size g cap w1) := rh_of hO hB
  clear HS hO hB hg1 hg2
  obtain ⟨q, hq⟩ : ∃ q, q = w.heap.size := ⟨_, rfl⟩
  rw [← hq] at HR
  have HQ := Lib.hid hq
  have c00 := (HR.out.tr.at (p := 0) (by omega)).1
  have c01 := (HR.out.tr.at (p := 0) (by omega)).2.1
  rw [h0] at c00
  have l0 : (0 : Int) < (T.length : Int) := by omega
  have m0 : 0 < T.length := by omega
  have l1 : (1 : Int) < (T.length : Int) := by omega
  have m1 : 1 < T.length := by omega
  rw [EW] at c01
  clear EW
  have c10 := (HR.out.tr.at (p := 1) (by omega)).1
  rw [h1] at c10
  clear h1
  clear h0
  generalize (tk T 0).text = x at *

  have b1 := HR.out.hq; have b2 := HR.out.hz; have b3 := HR.out.gq; have b4 := HR.out.bel
  have b0 : q ≠ q + 1 := by omega
  have ba : w1.cell? ⟨g, 7, none⟩ = some (.int .i64 av) := by rw [HAV.out]; exact (HR.out.tr.at (p := 1) hlen).2.2.2
  rw [← hq]
  clear hq
  clear HR hlen HAV
  have HZ := Lib.hid (ret_zero w1 q (q + 1) g 7 av (by assumption) (by assumption) (by assumption) (by assumption) (by assumption) (by assumption))
  go_wp2
  refine wp_region_held_drew (S := ZS (q + 1) g 7 av) (by kernel_rfl) HZ.out.1 (fun hHeld => ?_)
  obtain ⟨-, HY, ⟨z0, z1, z2, z3, z4, z5⟩, ⟨f0, f1, f2, f3, f4, f5⟩, R6, BZ⟩ := HZ.out
  have HYh := Lib.hid HY
  unfold z6 at R6
  have R6h := Lib.hid R6
  have BZh := Lib.hid BZ
  clear HZ HY R6 BZ
  generalize World.drew _ = W3 at *
  refine wpAnyH_take (i := 0) (v := ?va22) (by rw [List.getElem?_toArray]; rfl) (by kernel_rfl) (by kernel_rfl) (by kernel_rfl) ?qa22 (Or.inl ⟨by rfl, ?ya22⟩) hHeld ?ra22
  case qa22 => exact fun _ _ _ h => h
  case ya22 => (intro wz hSw; obtain ⟨⟨s0, s1, s2, s3, s4, s5⟩, s6⟩ := hSw; go_simp; try (with_reducible rfl))
  simp only [Act.put, List.setIfInBounds_toArray, List.set_cons_zero, List.set_cons_succ]
  refine wpAnyH_take (i := 1) (v := ?va23) (by rw [List.getElem?_toArray]; rfl) (by kernel_rfl) (by kernel_rfl) (by kernel_rfl) ?qa23 (Or.inl ⟨by rfl, ?ya23⟩) hHeld ?ra23
  case qa23 => exact fun _ _ _ h => h
  case ya23 => (intro wz hSw; obtain ⟨⟨s0, s1, s2, s3, s4, s5⟩, s6⟩ := hSw; go_simp; try (with_reducible rfl))
  simp only [Act.put, List.setIfInBounds_toArray, List.set_cons_zero, List.set_cons_succ]
  refine wpAnyH_take (i := 2) (v := ?va24) (by rw [List.getElem?_toArray]; rfl) (by kernel_rfl) (by kernel_rfl) (by kernel_rfl) ?qa24 (Or.inl ⟨by rfl, ?ya24⟩) hHeld ?ra24
  case qa24 => exact fun _ _ _ h => h
  case ya24 => (intro wz hSw; obtain ⟨⟨s0, s1, s2, s3, s4, s5⟩, s6⟩ := hSw; go_simp; try (with_reducible rfl))
  simp only [Act.put, List.setIfInBounds_toArray, List.set_cons_zero, List.set_cons_succ]
  refine wpAnyH_take (i := 3) (v := ?va25) (by rw [List.getElem?_toArray]; rfl) (by kernel_rfl) (by kernel_rfl) (by kernel_rfl) ?qa25 (Or.inl ⟨by rfl, ?ya25⟩) hHeld ?ra25
  case qa25 => exact fun _ _ _ h => h
  case ya25 => (intro wz hSw; obtain ⟨⟨s0, s1, s2, s3, s4, s5⟩, s6⟩ := hSw; go_simp; try (with_reducible rfl))
  simp only [Act.put, List.setIfInBounds_toArray, List.set_cons_zero, List.set_cons_succ]
  refine wpAnyH_take (i := 4) (v := ?va26) (by rw [List.getElem?_toArray]; rfl) (by kernel_rfl) (by kernel_rfl) (by kernel_rfl) ?qa26 (Or.inl ⟨by rfl, ?ya26⟩) hHeld ?ra26
  case qa26 => exact fun _ _ _ h => h
  case ya26 => (intro wz hSw; obtain ⟨⟨s0, s1, s2, s3, s4, s5⟩, s6⟩ := hSw; go_simp; try (with_reducible rfl))
  simp only [Act.put, List.setIfInBounds_toArray, List.set_cons_zero, List.set_cons_succ]
  refine wpAnyH_ready (rs := [5]) (by kernel_rfl) (by simp) ?_
  refine AllReadyH.cons (by rw [List.getElem?_toArray]; rfl) (fun K hK => ?_) AllReadyH.nil
  clear hHeld
  go_simp
  refine hK.out _ _ HYh.out (fun hHeld => ?_)
  clear hK K HYh
  refine wpAnyH_take (i := 6) (v := ?va27) (by rw [List.getElem?_toArray]; rfl) (by kernel_rfl) (by kernel_rfl) (by kernel_rfl) ?qa27 (Or.inl ⟨by rfl, ?ya27⟩) hHeld ?ra27
  case qa27 => exact fun _ _ _ h => h
  case ya27 => (intro wz hSw; clear hSw; go_simp; try (with_reducible rfl))
  simp only [Act.put, List.setIfInBounds_toArray, List.set_cons_zero, List.set_cons_succ]
  refine wpAnyH_take (i := 7) (v := ?va28) (by rw [List.getElem?_toArray]; rfl) (by kernel_rfl) (by kernel_rfl) (by kernel_rfl) ?qa28 (Or.inl ⟨by rfl, ?ya28⟩) hHeld ?ra28
  case qa28 => exact fun _ _ _ h => h
  case ya28 => (intro wz hSw; clear hSw; go_simp; try (with_reducible rfl))
  simp only [Act.put, List.setIfInBounds_toArray, List.set_cons_zero, List.set_cons_succ]
  refine wpAnyH_done (by kernel_rfl) ?_ _
  clear hHeld
  go_wp2
  obtain ⟨r0, r1, r2, r3, r4, r5⟩ := R6h.out
  exact bodyPost_ret (v := .tuple #[.agg #[.int .i64 0, .int .i64 0, .int .i64 0, .slice none 0 0, .slice none 0 0, .slice none 0 0], .int .i64 av, .int .i64 6]) (by simp [results, Try.results8, go_sem, r0, r1, r2, r3, r4, r5]) rfl ⟨rfl, by rw [← HQ.out]; exact BZh.out⟩
set_option maxRecDepth 100000 in
set_option maxHeartbeats 8000000 in
theorem rp_n1b (s : ByteArray) (T : List Tok) (w : World) (h0 : (tk T 0).kind = 1) (EW : (tk T 0).text = (⟨#[75, 78, 65, 80, 83, 65, 67, 75]⟩ : ByteArray)) (h1 : (tk T 1).kind = 1) (hlen : 1 < T.length) (HS : Hid (∀ W, Calls Try.prog 17 #[.string s] W fun e w' => ∃ v, e = .returned (.tuple #[v, .int .i64 0, .int .i64 0]) ∧ w'.ownsRow W.heap.size 51 4 v T.length (encL T) ∧ Below W.heap.size W w')) :
    Calls Try.prog 8 #[.string s] w fun e w' => e = .returned (.tuple #[.agg #[.int .i64 0, .int .i64 0, .int .i64 0, .slice none 0 0, .slice none 0 0, .slice none 0 0], .int .i64 (tk T 1).at_, .int .i64 4]) ∧ Below w.heap.size w w' := by
  obtain ⟨av, hav⟩ : ∃ av, av = (tk T 1).at_ := ⟨_, rfl⟩
  rw [← hav]
  have HAV := Lib.hid hav
  clear hav
  go_enter Try.func8, Try.ntmps8
  go_wp2_with fail
  refine (HS.out _).mono ?_
  rintro e w1 ⟨v, rfl, hO, hB⟩
  obtain ⟨g, cap, rfl, hg1, hg2⟩ := hO.form (by omega)
  have HR : Hid (RH s T w w.heap.size g cap w1) := rh_of hO hB
  clear HS hO hB hg1 hg2
  obtain ⟨q, hq⟩ : ∃ q, q = w.heap.size := ⟨_, rfl⟩
  rw [← hq] at HR
  have HQ := Lib.hid hq
  have c00 := (HR.out.tr.at (p := 0) (by omega)).1
  have c01 := (HR.out.tr.at (p := 0) (by omega)).2.1
  rw [h0] at c00
  have l0 : (0 : Int) < (T.length : Int) := by omega
  have m0 : 0 < T.length := by omega
  have l1 : (1 : Int) < (T.length : Int) := by omega
  have m1 : 1 < T.length := by omega
  rw [EW] at c01
  clear EW
  have c10 := (HR.out.tr.at (p := 1) (by omega)).1
  rw [h1] at c10
  clear h1
  clear h0
  generalize (tk T 0).text = x at *

  have b1 := HR.out.hq; have b2 := HR.out.hz; have b3 := HR.out.gq; have b4 := HR.out.bel
  have b0 : q ≠ q + 1 := by omega
  have ba : w1.cell? ⟨g, 7, none⟩ = some (.int .i64 av) := by rw [HAV.out]; exact (HR.out.tr.at (p := 1) hlen).2.2.2
  rw [← hq]
  clear hq
  clear HR hlen HAV
  have HZ := Lib.hid (ret_zero w1 q (q + 1) g 7 av (by assumption) (by assumption) (by assumption) (by assumption) (by assumption) (by assumption))
  go_wp2
  refine wp_region_held_drew (S := ZS (q + 1) g 7 av) (by kernel_rfl) HZ.out.1 (fun hHeld => ?_)
  obtain ⟨-, HY, ⟨z0, z1, z2, z3, z4, z5⟩, ⟨f0, f1, f2, f3, f4, f5⟩, R6, BZ⟩ := HZ.out
  have HYh := Lib.hid HY
  unfold z6 at R6
  have R6h := Lib.hid R6
  have BZh := Lib.hid BZ
  clear HZ HY R6 BZ
  generalize World.drew _ = W3 at *
  refine wpAnyH_take (i := 0) (v := ?va29) (by rw [List.getElem?_toArray]; rfl) (by kernel_rfl) (by kernel_rfl) (by kernel_rfl) ?qa29 (Or.inl ⟨by rfl, ?ya29⟩) hHeld ?ra29
  case qa29 => exact fun _ _ _ h => h
  case ya29 => (intro wz hSw; obtain ⟨⟨s0, s1, s2, s3, s4, s5⟩, s6⟩ := hSw; go_simp; try (with_reducible rfl))
  simp only [Act.put, List.setIfInBounds_toArray, List.set_cons_zero, List.set_cons_succ]
  refine wpAnyH_take (i := 1) (v := ?va30) (by rw [List.getElem?_toArray]; rfl) (by kernel_rfl) (by kernel_rfl) (by kernel_rfl) ?qa30 (Or.inl ⟨by rfl, ?ya30⟩) hHeld ?ra30
  case qa30 => exact fun _ _ _ h => h
  case ya30 => (intro wz hSw; obtain ⟨⟨s0, s1, s2, s3, s4, s5⟩, s6⟩ := hSw; go_simp; try (with_reducible rfl))
  simp only [Act.put, List.setIfInBounds_toArray, List.set_cons_zero, List.set_cons_succ]
  refine wpAnyH_take (i := 2) (v := ?va31) (by rw [List.getElem?_toArray]; rfl) (by kernel_rfl) (by kernel_rfl) (by kernel_rfl) ?qa31 (Or.inl ⟨by rfl, ?ya31⟩) hHeld ?ra31
  case qa31 => exact fun _ _ _ h => h
  case ya31 => (intro wz hSw; obtain ⟨⟨s0, s1, s2, s3, s4, s5⟩, s6⟩ := hSw; go_simp; try (with_reducible rfl))
  simp only [Act.put, List.setIfInBounds_toArray, List.set_cons_zero, List.set_cons_succ]
  refine wpAnyH_take (i := 3) (v := ?va32) (by rw [List.getElem?_toArray]; rfl) (by kernel_rfl) (by kernel_rfl) (by kernel_rfl) ?qa32 (Or.inl ⟨by rfl, ?ya32⟩) hHeld ?ra32
  case qa32 => exact fun _ _ _ h => h
  case ya32 => (intro wz hSw; obtain ⟨⟨s0, s1, s2, s3, s4, s5⟩, s6⟩ := hSw; go_simp; try (with_reducible rfl))
  simp only [Act.put, List.setIfInBounds_toArray, List.set_cons_zero, List.set_cons_succ]
  refine wpAnyH_take (i := 4) (v := ?va33) (by rw [List.getElem?_toArray]; rfl) (by kernel_rfl) (by kernel_rfl) (by kernel_rfl) ?qa33 (Or.inl ⟨by rfl, ?ya33⟩) hHeld ?ra33
  case qa33 => exact fun _ _ _ h => h
  case ya33 => (intro wz hSw; obtain ⟨⟨s0, s1, s2, s3, s4, s5⟩, s6⟩ := hSw; go_simp; try (with_reducible rfl))
  simp only [Act.put, List.setIfInBounds_toArray, List.set_cons_zero, List.set_cons_succ]
  refine wpAnyH_ready (rs := [5]) (by kernel_rfl) (by simp) ?_
  refine AllReadyH.cons (by rw [List.getElem?_toArray]; rfl) (fun K hK => ?_) AllReadyH.nil
  clear hHeld
  go_simp
  refine hK.out _ _ HYh.out (fun hHeld => ?_)
  clear hK K HYh
  refine wpAnyH_take (i := 6) (v := ?va34) (by rw [List.getElem?_toArray]; rfl) (by kernel_rfl) (by kernel_rfl) (by kernel_rfl) ?qa34 (Or.inl ⟨by rfl, ?ya34⟩) hHeld ?ra34
  case qa34 => exact fun _ _ _ h => h
  case ya34 => (intro wz hSw; clear hSw; go_simp; try (with_reducible rfl))
  simp only [Act.put, List.setIfInBounds_toArray, List.set_cons_zero, List.set_cons_succ]
  refine wpAnyH_take (i := 7) (v := ?va35) (by rw [List.getElem?_toArray]; rfl) (by kernel_rfl) (by kernel_rfl) (by kernel_rfl) ?qa35 (Or.inl ⟨by rfl, ?ya35⟩) hHeld ?ra35
  case qa35 => exact fun _ _ _ h => h
  case ya35 => (intro wz hSw; clear hSw; go_simp; try (with_reducible rfl))
  simp only [Act.put, List.setIfInBounds_toArray, List.set_cons_zero, List.set_cons_succ]
  refine wpAnyH_done (by kernel_rfl) ?_ _
  clear hHeld
  go_wp2
  obtain ⟨r0, r1, r2, r3, r4, r5⟩ := R6h.out
  exact bodyPost_ret (v := .tuple #[.agg #[.int .i64 0, .int .i64 0, .int .i64 0, .slice none 0 0, .slice none 0 0, .slice none 0 0], .int .i64 av, .int .i64 4]) (by simp [results, Try.results8, go_sem, r0, r1, r2, r3, r4, r5]) rfl ⟨rfl, by rw [← HQ.out]; exact BZh.out⟩
set_option maxRecDepth 100000 in
set_option maxHeartbeats 8000000 in
theorem rp_n1c (s : ByteArray) (T : List Tok) (w : World) (h0 : (tk T 0).kind = 1) (EW : (tk T 0).text = (⟨#[75, 78, 65, 80, 83, 65, 67, 75]⟩ : ByteArray)) (h1 : (tk T 1).kind = 2) (h2 : (tk T 1).num = 0) (hlen : 1 < T.length) (HS : Hid (∀ W, Calls Try.prog 17 #[.string s] W fun e w' => ∃ v, e = .returned (.tuple #[v, .int .i64 0, .int .i64 0]) ∧ w'.ownsRow W.heap.size 51 4 v T.length (encL T) ∧ Below W.heap.size W w')) :
    Calls Try.prog 8 #[.string s] w fun e w' => e = .returned (.tuple #[.agg #[.int .i64 0, .int .i64 0, .int .i64 0, .slice none 0 0, .slice none 0 0, .slice none 0 0], .int .i64 (tk T 1).at_, .int .i64 1]) ∧ Below w.heap.size w w' := by
  obtain ⟨av, hav⟩ : ∃ av, av = (tk T 1).at_ := ⟨_, rfl⟩
  rw [← hav]
  have HAV := Lib.hid hav
  clear hav
  go_enter Try.func8, Try.ntmps8
  go_wp2_with fail
  refine (HS.out _).mono ?_
  rintro e w1 ⟨v, rfl, hO, hB⟩
  obtain ⟨g, cap, rfl, hg1, hg2⟩ := hO.form (by omega)
  have HR : Hid (RH s T w w.heap.size g cap w1) := rh_of hO hB
  clear HS hO hB hg1 hg2
  obtain ⟨q, hq⟩ : ∃ q, q = w.heap.size := ⟨_, rfl⟩
  rw [← hq] at HR
  have HQ := Lib.hid hq
  have c00 := (HR.out.tr.at (p := 0) (by omega)).1
  have c01 := (HR.out.tr.at (p := 0) (by omega)).2.1
  rw [h0] at c00
  have l0 : (0 : Int) < (T.length : Int) := by omega
  have m0 : 0 < T.length := by omega
  have l1 : (1 : Int) < (T.length : Int) := by omega
  have m1 : 1 < T.length := by omega
  rw [EW] at c01
  clear EW
  have c10 := (HR.out.tr.at (p := 1) (by omega)).1
  have c12 := (HR.out.tr.at (p := 1) (by omega)).2.2.1
  rw [h1] at c10
  rw [h2] at c12
  clear h1 h2
  clear h0
  generalize (tk T 0).text = x at *

  have b1 := HR.out.hq; have b2 := HR.out.hz; have b3 := HR.out.gq; have b4 := HR.out.bel
  have b0 : q ≠ q + 1 := by omega
  have ba : w1.cell? ⟨g, 7, none⟩ = some (.int .i64 av) := by rw [HAV.out]; exact (HR.out.tr.at (p := 1) hlen).2.2.2
  rw [← hq]
  clear hq
  clear HR hlen HAV
  have HZ := Lib.hid (ret_zero w1 q (q + 1) g 7 av (by assumption) (by assumption) (by assumption) (by assumption) (by assumption) (by assumption))
  go_wp2
  refine wp_region_held_drew (S := ZS (q + 1) g 7 av) (by kernel_rfl) HZ.out.1 (fun hHeld => ?_)
  obtain ⟨-, HY, ⟨z0, z1, z2, z3, z4, z5⟩, ⟨f0, f1, f2, f3, f4, f5⟩, R6, BZ⟩ := HZ.out
  have HYh := Lib.hid HY
  unfold z6 at R6
  have R6h := Lib.hid R6
  have BZh := Lib.hid BZ
  clear HZ HY R6 BZ
  generalize World.drew _ = W3 at *
  refine wpAnyH_take (i := 0) (v := ?va36) (by rw [List.getElem?_toArray]; rfl) (by kernel_rfl) (by kernel_rfl) (by kernel_rfl) ?qa36 (Or.inl ⟨by rfl, ?ya36⟩) hHeld ?ra36
  case qa36 => exact fun _ _ _ h => h
  case ya36 => (intro wz hSw; obtain ⟨⟨s0, s1, s2, s3, s4, s5⟩, s6⟩ := hSw; go_simp; try (with_reducible rfl))
  simp only [Act.put, List.setIfInBounds_toArray, List.set_cons_zero, List.set_cons_succ]
  refine wpAnyH_take (i := 1) (v := ?va37) (by rw [List.getElem?_toArray]; rfl) (by kernel_rfl) (by kernel_rfl) (by kernel_rfl) ?qa37 (Or.inl ⟨by rfl, ?ya37⟩) hHeld ?ra37
  case qa37 => exact fun _ _ _ h => h
  case ya37 => (intro wz hSw; obtain ⟨⟨s0, s1, s2, s3, s4, s5⟩, s6⟩ := hSw; go_simp; try (with_reducible rfl))
  simp only [Act.put, List.setIfInBounds_toArray, List.set_cons_zero, List.set_cons_succ]
  refine wpAnyH_take (i := 2) (v := ?va38) (by rw [List.getElem?_toArray]; rfl) (by kernel_rfl) (by kernel_rfl) (by kernel_rfl) ?qa38 (Or.inl ⟨by rfl, ?ya38⟩) hHeld ?ra38
  case qa38 => exact fun _ _ _ h => h
  case ya38 => (intro wz hSw; obtain ⟨⟨s0, s1, s2, s3, s4, s5⟩, s6⟩ := hSw; go_simp; try (with_reducible rfl))
  simp only [Act.put, List.setIfInBounds_toArray, List.set_cons_zero, List.set_cons_succ]
  refine wpAnyH_take (i := 3) (v := ?va39) (by rw [List.getElem?_toArray]; rfl) (by kernel_rfl) (by kernel_rfl) (by kernel_rfl) ?qa39 (Or.inl ⟨by rfl, ?ya39⟩) hHeld ?ra39
  case qa39 => exact fun _ _ _ h => h
  case ya39 => (intro wz hSw; obtain ⟨⟨s0, s1, s2, s3, s4, s5⟩, s6⟩ := hSw; go_simp; try (with_reducible rfl))
  simp only [Act.put, List.setIfInBounds_toArray, List.set_cons_zero, List.set_cons_succ]
  refine wpAnyH_take (i := 4) (v := ?va40) (by rw [List.getElem?_toArray]; rfl) (by kernel_rfl) (by kernel_rfl) (by kernel_rfl) ?qa40 (Or.inl ⟨by rfl, ?ya40⟩) hHeld ?ra40
  case qa40 => exact fun _ _ _ h => h
  case ya40 => (intro wz hSw; obtain ⟨⟨s0, s1, s2, s3, s4, s5⟩, s6⟩ := hSw; go_simp; try (with_reducible rfl))
  simp only [Act.put, List.setIfInBounds_toArray, List.set_cons_zero, List.set_cons_succ]
  refine wpAnyH_ready (rs := [5]) (by kernel_rfl) (by simp) ?_
  refine AllReadyH.cons (by rw [List.getElem?_toArray]; rfl) (fun K hK => ?_) AllReadyH.nil
  clear hHeld
  go_simp
  refine hK.out _ _ HYh.out (fun hHeld => ?_)
  clear hK K HYh
  refine wpAnyH_take (i := 6) (v := ?va41) (by rw [List.getElem?_toArray]; rfl) (by kernel_rfl) (by kernel_rfl) (by kernel_rfl) ?qa41 (Or.inl ⟨by rfl, ?ya41⟩) hHeld ?ra41
  case qa41 => exact fun _ _ _ h => h
  case ya41 => (intro wz hSw; clear hSw; go_simp; try (with_reducible rfl))
  simp only [Act.put, List.setIfInBounds_toArray, List.set_cons_zero, List.set_cons_succ]
  refine wpAnyH_take (i := 7) (v := ?va42) (by rw [List.getElem?_toArray]; rfl) (by kernel_rfl) (by kernel_rfl) (by kernel_rfl) ?qa42 (Or.inl ⟨by rfl, ?ya42⟩) hHeld ?ra42
  case qa42 => exact fun _ _ _ h => h
  case ya42 => (intro wz hSw; clear hSw; go_simp; try (with_reducible rfl))
  simp only [Act.put, List.setIfInBounds_toArray, List.set_cons_zero, List.set_cons_succ]
  refine wpAnyH_done (by kernel_rfl) ?_ _
  clear hHeld
  go_wp2
  obtain ⟨r0, r1, r2, r3, r4, r5⟩ := R6h.out
  exact bodyPost_ret (v := .tuple #[.agg #[.int .i64 0, .int .i64 0, .int .i64 0, .slice none 0 0, .slice none 0 0, .slice none 0 0], .int .i64 av, .int .i64 1]) (by simp [results, Try.results8, go_sem, r0, r1, r2, r3, r4, r5]) rfl ⟨rfl, by rw [← HQ.out]; exact BZh.out⟩
set_option maxRecDepth 100000 in
set_option maxHeartbeats 8000000 in
theorem rp_n1d (s : ByteArray) (T : List Tok) (w : World) (h0 : (tk T 0).kind = 1) (EW : (tk T 0).text = (⟨#[75, 78, 65, 80, 83, 65, 67, 75]⟩ : ByteArray)) (h1 : (tk T 1).kind = 2) (h2 : 64 < (tk T 1).num) (hlen : 1 < T.length) (HS : Hid (∀ W, Calls Try.prog 17 #[.string s] W fun e w' => ∃ v, e = .returned (.tuple #[v, .int .i64 0, .int .i64 0]) ∧ w'.ownsRow W.heap.size 51 4 v T.length (encL T) ∧ Below W.heap.size W w')) :
    Calls Try.prog 8 #[.string s] w fun e w' => e = .returned (.tuple #[.agg #[.int .i64 0, .int .i64 0, .int .i64 0, .slice none 0 0, .slice none 0 0, .slice none 0 0], .int .i64 (tk T 1).at_, .int .i64 5]) ∧ Below w.heap.size w w' := by
  obtain ⟨av, hav⟩ : ∃ av, av = (tk T 1).at_ := ⟨_, rfl⟩
  rw [← hav]
  have HAV := Lib.hid hav
  clear hav
  go_enter Try.func8, Try.ntmps8
  go_wp2_with fail
  refine (HS.out _).mono ?_
  rintro e w1 ⟨v, rfl, hO, hB⟩
  obtain ⟨g, cap, rfl, hg1, hg2⟩ := hO.form (by omega)
  have HR : Hid (RH s T w w.heap.size g cap w1) := rh_of hO hB
  clear HS hO hB hg1 hg2
  obtain ⟨q, hq⟩ : ∃ q, q = w.heap.size := ⟨_, rfl⟩
  rw [← hq] at HR
  have HQ := Lib.hid hq
  have c00 := (HR.out.tr.at (p := 0) (by omega)).1
  have c01 := (HR.out.tr.at (p := 0) (by omega)).2.1
  rw [h0] at c00
  have l0 : (0 : Int) < (T.length : Int) := by omega
  have m0 : 0 < T.length := by omega
  have l1 : (1 : Int) < (T.length : Int) := by omega
  have m1 : 1 < T.length := by omega
  rw [EW] at c01
  clear EW
  have c10 := (HR.out.tr.at (p := 1) (by omega)).1
  have c12 := (HR.out.tr.at (p := 1) (by omega)).2.2.1
  rw [h1] at c10
  have d0 : ((tk T 1).num == 0) = false := by simp; omega
  clear h1
  clear h0
  generalize (tk T 0).text = x at *
  generalize (tk T 1).num = n at *

  have b1 := HR.out.hq; have b2 := HR.out.hz; have b3 := HR.out.gq; have b4 := HR.out.bel
  have b0 : q ≠ q + 1 := by omega
  have ba : w1.cell? ⟨g, 7, none⟩ = some (.int .i64 av) := by rw [HAV.out]; exact (HR.out.tr.at (p := 1) hlen).2.2.2
  rw [← hq]
  clear hq
  clear HR hlen HAV
  have HZ := Lib.hid (ret_zero w1 q (q + 1) g 7 av (by assumption) (by assumption) (by assumption) (by assumption) (by assumption) (by assumption))
  go_wp2
  refine wp_region_held_drew (S := ZS (q + 1) g 7 av) (by kernel_rfl) HZ.out.1 (fun hHeld => ?_)
  obtain ⟨-, HY, ⟨z0, z1, z2, z3, z4, z5⟩, ⟨f0, f1, f2, f3, f4, f5⟩, R6, BZ⟩ := HZ.out
  have HYh := Lib.hid HY
  unfold z6 at R6
  have R6h := Lib.hid R6
  have BZh := Lib.hid BZ
  clear HZ HY R6 BZ
  generalize World.drew _ = W3 at *
  refine wpAnyH_take (i := 0) (v := ?va43) (by rw [List.getElem?_toArray]; rfl) (by kernel_rfl) (by kernel_rfl) (by kernel_rfl) ?qa43 (Or.inl ⟨by rfl, ?ya43⟩) hHeld ?ra43
  case qa43 => exact fun _ _ _ h => h
  case ya43 => (intro wz hSw; obtain ⟨⟨s0, s1, s2, s3, s4, s5⟩, s6⟩ := hSw; go_simp; try (with_reducible rfl))
  simp only [Act.put, List.setIfInBounds_toArray, List.set_cons_zero, List.set_cons_succ]
  refine wpAnyH_take (i := 1) (v := ?va44) (by rw [List.getElem?_toArray]; rfl) (by kernel_rfl) (by kernel_rfl) (by kernel_rfl) ?qa44 (Or.inl ⟨by rfl, ?ya44⟩) hHeld ?ra44
  case qa44 => exact fun _ _ _ h => h
  case ya44 => (intro wz hSw; obtain ⟨⟨s0, s1, s2, s3, s4, s5⟩, s6⟩ := hSw; go_simp; try (with_reducible rfl))
  simp only [Act.put, List.setIfInBounds_toArray, List.set_cons_zero, List.set_cons_succ]
  refine wpAnyH_take (i := 2) (v := ?va45) (by rw [List.getElem?_toArray]; rfl) (by kernel_rfl) (by kernel_rfl) (by kernel_rfl) ?qa45 (Or.inl ⟨by rfl, ?ya45⟩) hHeld ?ra45
  case qa45 => exact fun _ _ _ h => h
  case ya45 => (intro wz hSw; obtain ⟨⟨s0, s1, s2, s3, s4, s5⟩, s6⟩ := hSw; go_simp; try (with_reducible rfl))
  simp only [Act.put, List.setIfInBounds_toArray, List.set_cons_zero, List.set_cons_succ]
  refine wpAnyH_take (i := 3) (v := ?va46) (by rw [List.getElem?_toArray]; rfl) (by kernel_rfl) (by kernel_rfl) (by kernel_rfl) ?qa46 (Or.inl ⟨by rfl, ?ya46⟩) hHeld ?ra46
  case qa46 => exact fun _ _ _ h => h
  case ya46 => (intro wz hSw; obtain ⟨⟨s0, s1, s2, s3, s4, s5⟩, s6⟩ := hSw; go_simp; try (with_reducible rfl))
  simp only [Act.put, List.setIfInBounds_toArray, List.set_cons_zero, List.set_cons_succ]
  refine wpAnyH_take (i := 4) (v := ?va47) (by rw [List.getElem?_toArray]; rfl) (by kernel_rfl) (by kernel_rfl) (by kernel_rfl) ?qa47 (Or.inl ⟨by rfl, ?ya47⟩) hHeld ?ra47
  case qa47 => exact fun _ _ _ h => h
  case ya47 => (intro wz hSw; obtain ⟨⟨s0, s1, s2, s3, s4, s5⟩, s6⟩ := hSw; go_simp; try (with_reducible rfl))
  simp only [Act.put, List.setIfInBounds_toArray, List.set_cons_zero, List.set_cons_succ]
  refine wpAnyH_ready (rs := [5]) (by kernel_rfl) (by simp) ?_
  refine AllReadyH.cons (by rw [List.getElem?_toArray]; rfl) (fun K hK => ?_) AllReadyH.nil
  clear hHeld
  go_simp
  refine hK.out _ _ HYh.out (fun hHeld => ?_)
  clear hK K HYh
  refine wpAnyH_take (i := 6) (v := ?va48) (by rw [List.getElem?_toArray]; rfl) (by kernel_rfl) (by kernel_rfl) (by kernel_rfl) ?qa48 (Or.inl ⟨by rfl, ?ya48⟩) hHeld ?ra48
  case qa48 => exact fun _ _ _ h => h
  case ya48 => (intro wz hSw; clear hSw; go_simp; try (with_reducible rfl))
  simp only [Act.put, List.setIfInBounds_toArray, List.set_cons_zero, List.set_cons_succ]
  refine wpAnyH_take (i := 7) (v := ?va49) (by rw [List.getElem?_toArray]; rfl) (by kernel_rfl) (by kernel_rfl) (by kernel_rfl) ?qa49 (Or.inl ⟨by rfl, ?ya49⟩) hHeld ?ra49
  case qa49 => exact fun _ _ _ h => h
  case ya49 => (intro wz hSw; clear hSw; go_simp; try (with_reducible rfl))
  simp only [Act.put, List.setIfInBounds_toArray, List.set_cons_zero, List.set_cons_succ]
  refine wpAnyH_done (by kernel_rfl) ?_ _
  clear hHeld
  go_wp2
  obtain ⟨r0, r1, r2, r3, r4, r5⟩ := R6h.out
  exact bodyPost_ret (v := .tuple #[.agg #[.int .i64 0, .int .i64 0, .int .i64 0, .slice none 0 0, .slice none 0 0, .slice none 0 0], .int .i64 av, .int .i64 5]) (by simp [results, Try.results8, go_sem, r0, r1, r2, r3, r4, r5]) rfl ⟨rfl, by rw [← HQ.out]; exact BZh.out⟩
set_option maxRecDepth 100000 in
set_option maxHeartbeats 8000000 in
theorem rp_n2a (s : ByteArray) (T : List Tok) (w : World) (h0 : (tk T 0).kind = 1) (EW : (tk T 0).text = (⟨#[65, 83, 83, 73, 71, 78, 77, 69, 78, 84]⟩ : ByteArray)) (h1 : (tk T 1).kind = 3) (hlen : 1 < T.length) (HS : Hid (∀ W, Calls Try.prog 17 #[.string s] W fun e w' => ∃ v, e = .returned (.tuple #[v, .int .i64 0, .int .i64 0]) ∧ w'.ownsRow W.heap.size 51 4 v T.length (encL T) ∧ Below W.heap.size W w')) :
    Calls Try.prog 8 #[.string s] w fun e w' => e = .returned (.tuple #[.agg #[.int .i64 0, .int .i64 0, .int .i64 0, .slice none 0 0, .slice none 0 0, .slice none 0 0], .int .i64 (tk T 1).at_, .int .i64 6]) ∧ Below w.heap.size w w' := by
  obtain ⟨av, hav⟩ : ∃ av, av = (tk T 1).at_ := ⟨_, rfl⟩
  rw [← hav]
  have HAV := Lib.hid hav
  clear hav
  go_enter Try.func8, Try.ntmps8
  go_wp2_with fail
  refine (HS.out _).mono ?_
  rintro e w1 ⟨v, rfl, hO, hB⟩
  obtain ⟨g, cap, rfl, hg1, hg2⟩ := hO.form (by omega)
  have HR : Hid (RH s T w w.heap.size g cap w1) := rh_of hO hB
  clear HS hO hB hg1 hg2
  obtain ⟨q, hq⟩ : ∃ q, q = w.heap.size := ⟨_, rfl⟩
  rw [← hq] at HR
  have HQ := Lib.hid hq
  have c00 := (HR.out.tr.at (p := 0) (by omega)).1
  have c01 := (HR.out.tr.at (p := 0) (by omega)).2.1
  rw [h0] at c00
  have l0 : (0 : Int) < (T.length : Int) := by omega
  have m0 : 0 < T.length := by omega
  have l1 : (1 : Int) < (T.length : Int) := by omega
  have m1 : 1 < T.length := by omega
  rw [EW] at c01
  clear EW
  have c10 := (HR.out.tr.at (p := 1) (by omega)).1
  rw [h1] at c10
  clear h1
  clear h0
  generalize (tk T 0).text = x at *

  have b1 := HR.out.hq; have b2 := HR.out.hz; have b3 := HR.out.gq; have b4 := HR.out.bel
  have b0 : q ≠ q + 1 := by omega
  have ba : w1.cell? ⟨g, 7, none⟩ = some (.int .i64 av) := by rw [HAV.out]; exact (HR.out.tr.at (p := 1) hlen).2.2.2
  rw [← hq]
  clear hq
  clear HR hlen HAV
  have HZ := Lib.hid (ret_zero w1 q (q + 1) g 7 av (by assumption) (by assumption) (by assumption) (by assumption) (by assumption) (by assumption))
  go_wp2
  refine wp_region_held_drew (S := ZS (q + 1) g 7 av) (by kernel_rfl) HZ.out.1 (fun hHeld => ?_)
  obtain ⟨-, HY, ⟨z0, z1, z2, z3, z4, z5⟩, ⟨f0, f1, f2, f3, f4, f5⟩, R6, BZ⟩ := HZ.out
  have HYh := Lib.hid HY
  unfold z6 at R6
  have R6h := Lib.hid R6
  have BZh := Lib.hid BZ
  clear HZ HY R6 BZ
  generalize World.drew _ = W3 at *
  refine wpAnyH_take (i := 0) (v := ?va50) (by rw [List.getElem?_toArray]; rfl) (by kernel_rfl) (by kernel_rfl) (by kernel_rfl) ?qa50 (Or.inl ⟨by rfl, ?ya50⟩) hHeld ?ra50
  case qa50 => exact fun _ _ _ h => h
  case ya50 => (intro wz hSw; obtain ⟨⟨s0, s1, s2, s3, s4, s5⟩, s6⟩ := hSw; go_simp; try (with_reducible rfl))
  simp only [Act.put, List.setIfInBounds_toArray, List.set_cons_zero, List.set_cons_succ]
  refine wpAnyH_take (i := 1) (v := ?va51) (by rw [List.getElem?_toArray]; rfl) (by kernel_rfl) (by kernel_rfl) (by kernel_rfl) ?qa51 (Or.inl ⟨by rfl, ?ya51⟩) hHeld ?ra51
  case qa51 => exact fun _ _ _ h => h
  case ya51 => (intro wz hSw; obtain ⟨⟨s0, s1, s2, s3, s4, s5⟩, s6⟩ := hSw; go_simp; try (with_reducible rfl))
  simp only [Act.put, List.setIfInBounds_toArray, List.set_cons_zero, List.set_cons_succ]
  refine wpAnyH_take (i := 2) (v := ?va52) (by rw [List.getElem?_toArray]; rfl) (by kernel_rfl) (by kernel_rfl) (by kernel_rfl) ?qa52 (Or.inl ⟨by rfl, ?ya52⟩) hHeld ?ra52
  case qa52 => exact fun _ _ _ h => h
  case ya52 => (intro wz hSw; obtain ⟨⟨s0, s1, s2, s3, s4, s5⟩, s6⟩ := hSw; go_simp; try (with_reducible rfl))
  simp only [Act.put, List.setIfInBounds_toArray, List.set_cons_zero, List.set_cons_succ]
  refine wpAnyH_take (i := 3) (v := ?va53) (by rw [List.getElem?_toArray]; rfl) (by kernel_rfl) (by kernel_rfl) (by kernel_rfl) ?qa53 (Or.inl ⟨by rfl, ?ya53⟩) hHeld ?ra53
  case qa53 => exact fun _ _ _ h => h
  case ya53 => (intro wz hSw; obtain ⟨⟨s0, s1, s2, s3, s4, s5⟩, s6⟩ := hSw; go_simp; try (with_reducible rfl))
  simp only [Act.put, List.setIfInBounds_toArray, List.set_cons_zero, List.set_cons_succ]
  refine wpAnyH_take (i := 4) (v := ?va54) (by rw [List.getElem?_toArray]; rfl) (by kernel_rfl) (by kernel_rfl) (by kernel_rfl) ?qa54 (Or.inl ⟨by rfl, ?ya54⟩) hHeld ?ra54
  case qa54 => exact fun _ _ _ h => h
  case ya54 => (intro wz hSw; obtain ⟨⟨s0, s1, s2, s3, s4, s5⟩, s6⟩ := hSw; go_simp; try (with_reducible rfl))
  simp only [Act.put, List.setIfInBounds_toArray, List.set_cons_zero, List.set_cons_succ]
  refine wpAnyH_ready (rs := [5]) (by kernel_rfl) (by simp) ?_
  refine AllReadyH.cons (by rw [List.getElem?_toArray]; rfl) (fun K hK => ?_) AllReadyH.nil
  clear hHeld
  go_simp
  refine hK.out _ _ HYh.out (fun hHeld => ?_)
  clear hK K HYh
  refine wpAnyH_take (i := 6) (v := ?va55) (by rw [List.getElem?_toArray]; rfl) (by kernel_rfl) (by kernel_rfl) (by kernel_rfl) ?qa55 (Or.inl ⟨by rfl, ?ya55⟩) hHeld ?ra55
  case qa55 => exact fun _ _ _ h => h
  case ya55 => (intro wz hSw; clear hSw; go_simp; try (with_reducible rfl))
  simp only [Act.put, List.setIfInBounds_toArray, List.set_cons_zero, List.set_cons_succ]
  refine wpAnyH_take (i := 7) (v := ?va56) (by rw [List.getElem?_toArray]; rfl) (by kernel_rfl) (by kernel_rfl) (by kernel_rfl) ?qa56 (Or.inl ⟨by rfl, ?ya56⟩) hHeld ?ra56
  case qa56 => exact fun _ _ _ h => h
  case ya56 => (intro wz hSw; clear hSw; go_simp; try (with_reducible rfl))
  simp only [Act.put, List.setIfInBounds_toArray, List.set_cons_zero, List.set_cons_succ]
  refine wpAnyH_done (by kernel_rfl) ?_ _
  clear hHeld
  go_wp2
  obtain ⟨r0, r1, r2, r3, r4, r5⟩ := R6h.out
  exact bodyPost_ret (v := .tuple #[.agg #[.int .i64 0, .int .i64 0, .int .i64 0, .slice none 0 0, .slice none 0 0, .slice none 0 0], .int .i64 av, .int .i64 6]) (by simp [results, Try.results8, go_sem, r0, r1, r2, r3, r4, r5]) rfl ⟨rfl, by rw [← HQ.out]; exact BZh.out⟩
set_option maxRecDepth 100000 in
set_option maxHeartbeats 8000000 in
theorem rp_n2b (s : ByteArray) (T : List Tok) (w : World) (h0 : (tk T 0).kind = 1) (EW : (tk T 0).text = (⟨#[65, 83, 83, 73, 71, 78, 77, 69, 78, 84]⟩ : ByteArray)) (h1 : (tk T 1).kind = 1) (hlen : 1 < T.length) (HS : Hid (∀ W, Calls Try.prog 17 #[.string s] W fun e w' => ∃ v, e = .returned (.tuple #[v, .int .i64 0, .int .i64 0]) ∧ w'.ownsRow W.heap.size 51 4 v T.length (encL T) ∧ Below W.heap.size W w')) :
    Calls Try.prog 8 #[.string s] w fun e w' => e = .returned (.tuple #[.agg #[.int .i64 0, .int .i64 0, .int .i64 0, .slice none 0 0, .slice none 0 0, .slice none 0 0], .int .i64 (tk T 1).at_, .int .i64 4]) ∧ Below w.heap.size w w' := by
  obtain ⟨av, hav⟩ : ∃ av, av = (tk T 1).at_ := ⟨_, rfl⟩
  rw [← hav]
  have HAV := Lib.hid hav
  clear hav
  go_enter Try.func8, Try.ntmps8
  go_wp2_with fail
  refine (HS.out _).mono ?_
  rintro e w1 ⟨v, rfl, hO, hB⟩
  obtain ⟨g, cap, rfl, hg1, hg2⟩ := hO.form (by omega)
  have HR : Hid (RH s T w w.heap.size g cap w1) := rh_of hO hB
  clear HS hO hB hg1 hg2
  obtain ⟨q, hq⟩ : ∃ q, q = w.heap.size := ⟨_, rfl⟩
  rw [← hq] at HR
  have HQ := Lib.hid hq
  have c00 := (HR.out.tr.at (p := 0) (by omega)).1
  have c01 := (HR.out.tr.at (p := 0) (by omega)).2.1
  rw [h0] at c00
  have l0 : (0 : Int) < (T.length : Int) := by omega
  have m0 : 0 < T.length := by omega
  have l1 : (1 : Int) < (T.length : Int) := by omega
  have m1 : 1 < T.length := by omega
  rw [EW] at c01
  clear EW
  have c10 := (HR.out.tr.at (p := 1) (by omega)).1
  rw [h1] at c10
  clear h1
  clear h0
  generalize (tk T 0).text = x at *

  have b1 := HR.out.hq; have b2 := HR.out.hz; have b3 := HR.out.gq; have b4 := HR.out.bel
  have b0 : q ≠ q + 1 := by omega
  have ba : w1.cell? ⟨g, 7, none⟩ = some (.int .i64 av) := by rw [HAV.out]; exact (HR.out.tr.at (p := 1) hlen).2.2.2
  rw [← hq]
  clear hq
  clear HR hlen HAV
  have HZ := Lib.hid (ret_zero w1 q (q + 1) g 7 av (by assumption) (by assumption) (by assumption) (by assumption) (by assumption) (by assumption))
  go_wp2
  refine wp_region_held_drew (S := ZS (q + 1) g 7 av) (by kernel_rfl) HZ.out.1 (fun hHeld => ?_)
  obtain ⟨-, HY, ⟨z0, z1, z2, z3, z4, z5⟩, ⟨f0, f1, f2, f3, f4, f5⟩, R6, BZ⟩ := HZ.out
  have HYh := Lib.hid HY
  unfold z6 at R6
  have R6h := Lib.hid R6
  have BZh := Lib.hid BZ
  clear HZ HY R6 BZ
  generalize World.drew _ = W3 at *
  refine wpAnyH_take (i := 0) (v := ?va57) (by rw [List.getElem?_toArray]; rfl) (by kernel_rfl) (by kernel_rfl) (by kernel_rfl) ?qa57 (Or.inl ⟨by rfl, ?ya57⟩) hHeld ?ra57
  case qa57 => exact fun _ _ _ h => h
  case ya57 => (intro wz hSw; obtain ⟨⟨s0, s1, s2, s3, s4, s5⟩, s6⟩ := hSw; go_simp; try (with_reducible rfl))
  simp only [Act.put, List.setIfInBounds_toArray, List.set_cons_zero, List.set_cons_succ]
  refine wpAnyH_take (i := 1) (v := ?va58) (by rw [List.getElem?_toArray]; rfl) (by kernel_rfl) (by kernel_rfl) (by kernel_rfl) ?qa58 (Or.inl ⟨by rfl, ?ya58⟩) hHeld ?ra58
  case qa58 => exact fun _ _ _ h => h
  case ya58 => (intro wz hSw; obtain ⟨⟨s0, s1, s2, s3, s4, s5⟩, s6⟩ := hSw; go_simp; try (with_reducible rfl))
  simp only [Act.put, List.setIfInBounds_toArray, List.set_cons_zero, List.set_cons_succ]
  refine wpAnyH_take (i := 2) (v := ?va59) (by rw [List.getElem?_toArray]; rfl) (by kernel_rfl) (by kernel_rfl) (by kernel_rfl) ?qa59 (Or.inl ⟨by rfl, ?ya59⟩) hHeld ?ra59
  case qa59 => exact fun _ _ _ h => h
  case ya59 => (intro wz hSw; obtain ⟨⟨s0, s1, s2, s3, s4, s5⟩, s6⟩ := hSw; go_simp; try (with_reducible rfl))
  simp only [Act.put, List.setIfInBounds_toArray, List.set_cons_zero, List.set_cons_succ]
  refine wpAnyH_take (i := 3) (v := ?va60) (by rw [List.getElem?_toArray]; rfl) (by kernel_rfl) (by kernel_rfl) (by kernel_rfl) ?qa60 (Or.inl ⟨by rfl, ?ya60⟩) hHeld ?ra60
  case qa60 => exact fun _ _ _ h => h
  case ya60 => (intro wz hSw; obtain ⟨⟨s0, s1, s2, s3, s4, s5⟩, s6⟩ := hSw; go_simp; try (with_reducible rfl))
  simp only [Act.put, List.setIfInBounds_toArray, List.set_cons_zero, List.set_cons_succ]
  refine wpAnyH_take (i := 4) (v := ?va61) (by rw [List.getElem?_toArray]; rfl) (by kernel_rfl) (by kernel_rfl) (by kernel_rfl) ?qa61 (Or.inl ⟨by rfl, ?ya61⟩) hHeld ?ra61
  case qa61 => exact fun _ _ _ h => h
  case ya61 => (intro wz hSw; obtain ⟨⟨s0, s1, s2, s3, s4, s5⟩, s6⟩ := hSw; go_simp; try (with_reducible rfl))
  simp only [Act.put, List.setIfInBounds_toArray, List.set_cons_zero, List.set_cons_succ]
  refine wpAnyH_ready (rs := [5]) (by kernel_rfl) (by simp) ?_
  refine AllReadyH.cons (by rw [List.getElem?_toArray]; rfl) (fun K hK => ?_) AllReadyH.nil
  clear hHeld
  go_simp
  refine hK.out _ _ HYh.out (fun hHeld => ?_)
  clear hK K HYh
  refine wpAnyH_take (i := 6) (v := ?va62) (by rw [List.getElem?_toArray]; rfl) (by kernel_rfl) (by kernel_rfl) (by kernel_rfl) ?qa62 (Or.inl ⟨by rfl, ?ya62⟩) hHeld ?ra62
  case qa62 => exact fun _ _ _ h => h
  case ya62 => (intro wz hSw; clear hSw; go_simp; try (with_reducible rfl))
  simp only [Act.put, List.setIfInBounds_toArray, List.set_cons_zero, List.set_cons_succ]
  refine wpAnyH_take (i := 7) (v := ?va63) (by rw [List.getElem?_toArray]; rfl) (by kernel_rfl) (by kernel_rfl) (by kernel_rfl) ?qa63 (Or.inl ⟨by rfl, ?ya63⟩) hHeld ?ra63
  case qa63 => exact fun _ _ _ h => h
  case ya63 => (intro wz hSw; clear hSw; go_simp; try (with_reducible rfl))
  simp only [Act.put, List.setIfInBounds_toArray, List.set_cons_zero, List.set_cons_succ]
  refine wpAnyH_done (by kernel_rfl) ?_ _
  clear hHeld
  go_wp2
  obtain ⟨r0, r1, r2, r3, r4, r5⟩ := R6h.out
  exact bodyPost_ret (v := .tuple #[.agg #[.int .i64 0, .int .i64 0, .int .i64 0, .slice none 0 0, .slice none 0 0, .slice none 0 0], .int .i64 av, .int .i64 4]) (by simp [results, Try.results8, go_sem, r0, r1, r2, r3, r4, r5]) rfl ⟨rfl, by rw [← HQ.out]; exact BZh.out⟩
set_option maxRecDepth 100000 in
set_option maxHeartbeats 8000000 in
theorem rp_n2c (s : ByteArray) (T : List Tok) (w : World) (h0 : (tk T 0).kind = 1) (EW : (tk T 0).text = (⟨#[65, 83, 83, 73, 71, 78, 77, 69, 78, 84]⟩ : ByteArray)) (h1 : (tk T 1).kind = 2) (h2 : (tk T 1).num = 0) (hlen : 1 < T.length) (HS : Hid (∀ W, Calls Try.prog 17 #[.string s] W fun e w' => ∃ v, e = .returned (.tuple #[v, .int .i64 0, .int .i64 0]) ∧ w'.ownsRow W.heap.size 51 4 v T.length (encL T) ∧ Below W.heap.size W w')) :
    Calls Try.prog 8 #[.string s] w fun e w' => e = .returned (.tuple #[.agg #[.int .i64 0, .int .i64 0, .int .i64 0, .slice none 0 0, .slice none 0 0, .slice none 0 0], .int .i64 (tk T 1).at_, .int .i64 1]) ∧ Below w.heap.size w w' := by
  obtain ⟨av, hav⟩ : ∃ av, av = (tk T 1).at_ := ⟨_, rfl⟩
  rw [← hav]
  have HAV := Lib.hid hav
  clear hav
  go_enter Try.func8, Try.ntmps8
  go_wp2_with fail
  refine (HS.out _).mono ?_
  rintro e w1 ⟨v, rfl, hO, hB⟩
  obtain ⟨g, cap, rfl, hg1, hg2⟩ := hO.form (by omega)
  have HR : Hid (RH s T w w.heap.size g cap w1) := rh_of hO hB
  clear HS hO hB hg1 hg2
  obtain ⟨q, hq⟩ : ∃ q, q = w.heap.size := ⟨_, rfl⟩
  rw [← hq] at HR
  have HQ := Lib.hid hq
  have c00 := (HR.out.tr.at (p := 0) (by omega)).1
  have c01 := (HR.out.tr.at (p := 0) (by omega)).2.1
  rw [h0] at c00
  have l0 : (0 : Int) < (T.length : Int) := by omega
  have m0 : 0 < T.length := by omega
  have l1 : (1 : Int) < (T.length : Int) := by omega
  have m1 : 1 < T.length := by omega
  rw [EW] at c01
  clear EW
  have c10 := (HR.out.tr.at (p := 1) (by omega)).1
  have c12 := (HR.out.tr.at (p := 1) (by omega)).2.2.1
  rw [h1] at c10
  rw [h2] at c12
  clear h1 h2
  clear h0
  generalize (tk T 0).text = x at *

  have b1 := HR.out.hq; have b2 := HR.out.hz; have b3 := HR.out.gq; have b4 := HR.out.bel
  have b0 : q ≠ q + 1 := by omega
  have ba : w1.cell? ⟨g, 7, none⟩ = some (.int .i64 av) := by rw [HAV.out]; exact (HR.out.tr.at (p := 1) hlen).2.2.2
  rw [← hq]
  clear hq
  clear HR hlen HAV
  have HZ := Lib.hid (ret_zero w1 q (q + 1) g 7 av (by assumption) (by assumption) (by assumption) (by assumption) (by assumption) (by assumption))
  go_wp2
  refine wp_region_held_drew (S := ZS (q + 1) g 7 av) (by kernel_rfl) HZ.out.1 (fun hHeld => ?_)
  obtain ⟨-, HY, ⟨z0, z1, z2, z3, z4, z5⟩, ⟨f0, f1, f2, f3, f4, f5⟩, R6, BZ⟩ := HZ.out
  have HYh := Lib.hid HY
  unfold z6 at R6
  have R6h := Lib.hid R6
  have BZh := Lib.hid BZ
  clear HZ HY R6 BZ
  generalize World.drew _ = W3 at *
  refine wpAnyH_take (i := 0) (v := ?va64) (by rw [List.getElem?_toArray]; rfl) (by kernel_rfl) (by kernel_rfl) (by kernel_rfl) ?qa64 (Or.inl ⟨by rfl, ?ya64⟩) hHeld ?ra64
  case qa64 => exact fun _ _ _ h => h
  case ya64 => (intro wz hSw; obtain ⟨⟨s0, s1, s2, s3, s4, s5⟩, s6⟩ := hSw; go_simp; try (with_reducible rfl))
  simp only [Act.put, List.setIfInBounds_toArray, List.set_cons_zero, List.set_cons_succ]
  refine wpAnyH_take (i := 1) (v := ?va65) (by rw [List.getElem?_toArray]; rfl) (by kernel_rfl) (by kernel_rfl) (by kernel_rfl) ?qa65 (Or.inl ⟨by rfl, ?ya65⟩) hHeld ?ra65
  case qa65 => exact fun _ _ _ h => h
  case ya65 => (intro wz hSw; obtain ⟨⟨s0, s1, s2, s3, s4, s5⟩, s6⟩ := hSw; go_simp; try (with_reducible rfl))
  simp only [Act.put, List.setIfInBounds_toArray, List.set_cons_zero, List.set_cons_succ]
  refine wpAnyH_take (i := 2) (v := ?va66) (by rw [List.getElem?_toArray]; rfl) (by kernel_rfl) (by kernel_rfl) (by kernel_rfl) ?qa66 (Or.inl ⟨by rfl, ?ya66⟩) hHeld ?ra66
  case qa66 => exact fun _ _ _ h => h
  case ya66 => (intro wz hSw; obtain ⟨⟨s0, s1, s2, s3, s4, s5⟩, s6⟩ := hSw; go_simp; try (with_reducible rfl))
  simp only [Act.put, List.setIfInBounds_toArray, List.set_cons_zero, List.set_cons_succ]
  refine wpAnyH_take (i := 3) (v := ?va67) (by rw [List.getElem?_toArray]; rfl) (by kernel_rfl) (by kernel_rfl) (by kernel_rfl) ?qa67 (Or.inl ⟨by rfl, ?ya67⟩) hHeld ?ra67
  case qa67 => exact fun _ _ _ h => h
  case ya67 => (intro wz hSw; obtain ⟨⟨s0, s1, s2, s3, s4, s5⟩, s6⟩ := hSw; go_simp; try (with_reducible rfl))
  simp only [Act.put, List.setIfInBounds_toArray, List.set_cons_zero, List.set_cons_succ]
  refine wpAnyH_take (i := 4) (v := ?va68) (by rw [List.getElem?_toArray]; rfl) (by kernel_rfl) (by kernel_rfl) (by kernel_rfl) ?qa68 (Or.inl ⟨by rfl, ?ya68⟩) hHeld ?ra68
  case qa68 => exact fun _ _ _ h => h
  case ya68 => (intro wz hSw; obtain ⟨⟨s0, s1, s2, s3, s4, s5⟩, s6⟩ := hSw; go_simp; try (with_reducible rfl))
  simp only [Act.put, List.setIfInBounds_toArray, List.set_cons_zero, List.set_cons_succ]
  refine wpAnyH_ready (rs := [5]) (by kernel_rfl) (by simp) ?_
  refine AllReadyH.cons (by rw [List.getElem?_toArray]; rfl) (fun K hK => ?_) AllReadyH.nil
  clear hHeld
  go_simp
  refine hK.out _ _ HYh.out (fun hHeld => ?_)
  clear hK K HYh
  refine wpAnyH_take (i := 6) (v := ?va69) (by rw [List.getElem?_toArray]; rfl) (by kernel_rfl) (by kernel_rfl) (by kernel_rfl) ?qa69 (Or.inl ⟨by rfl, ?ya69⟩) hHeld ?ra69
  case qa69 => exact fun _ _ _ h => h
  case ya69 => (intro wz hSw; clear hSw; go_simp; try (with_reducible rfl))
  simp only [Act.put, List.setIfInBounds_toArray, List.set_cons_zero, List.set_cons_succ]
  refine wpAnyH_take (i := 7) (v := ?va70) (by rw [List.getElem?_toArray]; rfl) (by kernel_rfl) (by kernel_rfl) (by kernel_rfl) ?qa70 (Or.inl ⟨by rfl, ?ya70⟩) hHeld ?ra70
  case qa70 => exact fun _ _ _ h => h
  case ya70 => (intro wz hSw; clear hSw; go_simp; try (with_reducible rfl))
  simp only [Act.put, List.setIfInBounds_toArray, List.set_cons_zero, List.set_cons_succ]
  refine wpAnyH_done (by kernel_rfl) ?_ _
  clear hHeld
  go_wp2
  obtain ⟨r0, r1, r2, r3, r4, r5⟩ := R6h.out
  exact bodyPost_ret (v := .tuple #[.agg #[.int .i64 0, .int .i64 0, .int .i64 0, .slice none 0 0, .slice none 0 0, .slice none 0 0], .int .i64 av, .int .i64 1]) (by simp [results, Try.results8, go_sem, r0, r1, r2, r3, r4, r5]) rfl ⟨rfl, by rw [← HQ.out]; exact BZh.out⟩
set_option maxRecDepth 100000 in
set_option maxHeartbeats 8000000 in
theorem rp_n2d (s : ByteArray) (T : List Tok) (w : World) (h0 : (tk T 0).kind = 1) (EW : (tk T 0).text = (⟨#[65, 83, 83, 73, 71, 78, 77, 69, 78, 84]⟩ : ByteArray)) (h1 : (tk T 1).kind = 2) (h2 : 24 < (tk T 1).num) (hlen : 1 < T.length) (HS : Hid (∀ W, Calls Try.prog 17 #[.string s] W fun e w' => ∃ v, e = .returned (.tuple #[v, .int .i64 0, .int .i64 0]) ∧ w'.ownsRow W.heap.size 51 4 v T.length (encL T) ∧ Below W.heap.size W w')) :
    Calls Try.prog 8 #[.string s] w fun e w' => e = .returned (.tuple #[.agg #[.int .i64 0, .int .i64 0, .int .i64 0, .slice none 0 0, .slice none 0 0, .slice none 0 0], .int .i64 (tk T 1).at_, .int .i64 5]) ∧ Below w.heap.size w w' := by
  obtain ⟨av, hav⟩ : ∃ av, av = (tk T 1).at_ := ⟨_, rfl⟩
  rw [← hav]
  have HAV := Lib.hid hav
  clear hav
  go_enter Try.func8, Try.ntmps8
  go_wp2_with fail
  refine (HS.out _).mono ?_
  rintro e w1 ⟨v, rfl, hO, hB⟩
  obtain ⟨g, cap, rfl, hg1, hg2⟩ := hO.form (by omega)
  have HR : Hid (RH s T w w.heap.size g cap w1) := rh_of hO hB
  clear HS hO hB hg1 hg2
  obtain ⟨q, hq⟩ : ∃ q, q = w.heap.size := ⟨_, rfl⟩
  rw [← hq] at HR
  have HQ := Lib.hid hq
  have c00 := (HR.out.tr.at (p := 0) (by omega)).1
  have c01 := (HR.out.tr.at (p := 0) (by omega)).2.1
  rw [h0] at c00
  have l0 : (0 : Int) < (T.length : Int) := by omega
  have m0 : 0 < T.length := by omega
  have l1 : (1 : Int) < (T.length : Int) := by omega
  have m1 : 1 < T.length := by omega
  rw [EW] at c01
  clear EW
  have c10 := (HR.out.tr.at (p := 1) (by omega)).1
  have c12 := (HR.out.tr.at (p := 1) (by omega)).2.2.1
  rw [h1] at c10
  have d0 : ((tk T 1).num == 0) = false := by simp; omega
  clear h1
  clear h0
  generalize (tk T 0).text = x at *
  generalize (tk T 1).num = n at *

  have b1 := HR.out.hq; have b2 := HR.out.hz; have b3 := HR.out.gq; have b4 := HR.out.bel
  have b0 : q ≠ q + 1 := by omega
  have ba : w1.cell? ⟨g, 7, none⟩ = some (.int .i64 av) := by rw [HAV.out]; exact (HR.out.tr.at (p := 1) hlen).2.2.2
  rw [← hq]
  clear hq
  clear HR hlen HAV
  have HZ := Lib.hid (ret_zero w1 q (q + 1) g 7 av (by assumption) (by assumption) (by assumption) (by assumption) (by assumption) (by assumption))
  go_wp2
  refine wp_region_held_drew (S := ZS (q + 1) g 7 av) (by kernel_rfl) HZ.out.1 (fun hHeld => ?_)
  obtain ⟨-, HY, ⟨z0, z1, z2, z3, z4, z5⟩, ⟨f0, f1, f2, f3, f4, f5⟩, R6, BZ⟩ := HZ.out
  have HYh := Lib.hid HY
  unfold z6 at R6
  have R6h := Lib.hid R6
  have BZh := Lib.hid BZ
  clear HZ HY R6 BZ
  generalize World.drew _ = W3 at *
  refine wpAnyH_take (i := 0) (v := ?va71) (by rw [List.getElem?_toArray]; rfl) (by kernel_rfl) (by kernel_rfl) (by kernel_rfl) ?qa71 (Or.inl ⟨by rfl, ?ya71⟩) hHeld ?ra71
  case qa71 => exact fun _ _ _ h => h
  case ya71 => (intro wz hSw; obtain ⟨⟨s0, s1, s2, s3, s4, s5⟩, s6⟩ := hSw; go_simp; try (with_reducible rfl))
  simp only [Act.put, List.setIfInBounds_toArray, List.set_cons_zero, List.set_cons_succ]
  refine wpAnyH_take (i := 1) (v := ?va72) (by rw [List.getElem?_toArray]; rfl) (by kernel_rfl) (by kernel_rfl) (by kernel_rfl) ?qa72 (Or.inl ⟨by rfl, ?ya72⟩) hHeld ?ra72
  case qa72 => exact fun _ _ _ h => h
  case ya72 => (intro wz hSw; obtain ⟨⟨s0, s1, s2, s3, s4, s5⟩, s6⟩ := hSw; go_simp; try (with_reducible rfl))
  simp only [Act.put, List.setIfInBounds_toArray, List.set_cons_zero, List.set_cons_succ]
  refine wpAnyH_take (i := 2) (v := ?va73) (by rw [List.getElem?_toArray]; rfl) (by kernel_rfl) (by kernel_rfl) (by kernel_rfl) ?qa73 (Or.inl ⟨by rfl, ?ya73⟩) hHeld ?ra73
  case qa73 => exact fun _ _ _ h => h
  case ya73 => (intro wz hSw; obtain ⟨⟨s0, s1, s2, s3, s4, s5⟩, s6⟩ := hSw; go_simp; try (with_reducible rfl))
  simp only [Act.put, List.setIfInBounds_toArray, List.set_cons_zero, List.set_cons_succ]
  refine wpAnyH_take (i := 3) (v := ?va74) (by rw [List.getElem?_toArray]; rfl) (by kernel_rfl) (by kernel_rfl) (by kernel_rfl) ?qa74 (Or.inl ⟨by rfl, ?ya74⟩) hHeld ?ra74
  case qa74 => exact fun _ _ _ h => h
  case ya74 => (intro wz hSw; obtain ⟨⟨s0, s1, s2, s3, s4, s5⟩, s6⟩ := hSw; go_simp; try (with_reducible rfl))
  simp only [Act.put, List.setIfInBounds_toArray, List.set_cons_zero, List.set_cons_succ]
  refine wpAnyH_take (i := 4) (v := ?va75) (by rw [List.getElem?_toArray]; rfl) (by kernel_rfl) (by kernel_rfl) (by kernel_rfl) ?qa75 (Or.inl ⟨by rfl, ?ya75⟩) hHeld ?ra75
  case qa75 => exact fun _ _ _ h => h
  case ya75 => (intro wz hSw; obtain ⟨⟨s0, s1, s2, s3, s4, s5⟩, s6⟩ := hSw; go_simp; try (with_reducible rfl))
  simp only [Act.put, List.setIfInBounds_toArray, List.set_cons_zero, List.set_cons_succ]
  refine wpAnyH_ready (rs := [5]) (by kernel_rfl) (by simp) ?_
  refine AllReadyH.cons (by rw [List.getElem?_toArray]; rfl) (fun K hK => ?_) AllReadyH.nil
  clear hHeld
  go_simp
  refine hK.out _ _ HYh.out (fun hHeld => ?_)
  clear hK K HYh
  refine wpAnyH_take (i := 6) (v := ?va76) (by rw [List.getElem?_toArray]; rfl) (by kernel_rfl) (by kernel_rfl) (by kernel_rfl) ?qa76 (Or.inl ⟨by rfl, ?ya76⟩) hHeld ?ra76
  case qa76 => exact fun _ _ _ h => h
  case ya76 => (intro wz hSw; clear hSw; go_simp; try (with_reducible rfl))
  simp only [Act.put, List.setIfInBounds_toArray, List.set_cons_zero, List.set_cons_succ]
  refine wpAnyH_take (i := 7) (v := ?va77) (by rw [List.getElem?_toArray]; rfl) (by kernel_rfl) (by kernel_rfl) (by kernel_rfl) ?qa77 (Or.inl ⟨by rfl, ?ya77⟩) hHeld ?ra77
  case qa77 => exact fun _ _ _ h => h
  case ya77 => (intro wz hSw; clear hSw; go_simp; try (with_reducible rfl))
  simp only [Act.put, List.setIfInBounds_toArray, List.set_cons_zero, List.set_cons_succ]
  refine wpAnyH_done (by kernel_rfl) ?_ _
  clear hHeld
  go_wp2
  obtain ⟨r0, r1, r2, r3, r4, r5⟩ := R6h.out
  exact bodyPost_ret (v := .tuple #[.agg #[.int .i64 0, .int .i64 0, .int .i64 0, .slice none 0 0, .slice none 0 0, .slice none 0 0], .int .i64 av, .int .i64 5]) (by simp [results, Try.results8, go_sem, r0, r1, r2, r3, r4, r5]) rfl ⟨rfl, by rw [← HQ.out]; exact BZh.out⟩
end Go.Proofs.Ytjojdpohifdghaa
