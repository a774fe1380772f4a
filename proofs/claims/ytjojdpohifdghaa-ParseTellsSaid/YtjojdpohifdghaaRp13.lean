/-
  The reference's Parse, where n is wrong (kind 3).
-/
import Derived.Test.YtjojdpohifdghaaRp1
namespace Go.Proofs.Ytjojdpohifdghaa
open Go.RowKit
set_option linter.unusedVariables false
set_option maxRecDepth 100000 in
set_option maxHeartbeats 8000000 in
theorem rp_n3a (s : ByteArray) (T : List Tok) (w : World) (h0 : (tk T 0).kind = 1) (EW : (tk T 0).text = (⟨#[84, 83, 80]⟩ : ByteArray)) (h1 : (tk T 1).kind = 3) (hlen : 1 < T.length) (HS : Hid (∀ W, Calls Try.prog 17 #[.string s] W fun e w' => ∃ v, e = .returned (.tuple #[v, .int .i64 0, .int .i64 0]) ∧ w'.ownsRow W.heap.size 51 4 v T.length (encL T) ∧ Below W.heap.size W w')) :
    Calls Try.prog 8 #[.string s] w fun e w' => e = .returned (.tuple #[.agg #[.int .i64 0, .int .i64 0, .int .i64 0, .slice none 0 0, .slice none 0 0, .slice none 0 0], .int .i64 (tk T 1).at_, .int .i64 6]) ∧ Below w.heap.size w w' := by
  obtain ⟨av, hav⟩ : ∃ av, av = (tk T 1).at_ := ⟨_, rfl⟩
  rw [← hav]
  have HAV := Lib.hid hav
  clear hav
  go_enter Try.func8, Try.ntmps8
  go_wp2_with fail
  refine (HS.out _).mono ?_
  rintro e w1 ⟨v, rfl, hO, hB⟩
  obtain ⟨g, cap, rfl, hg1, hg2⟩ := hO.form (by omega)
  have HR : Hid (RH s T w w.heap.size g cap w1) := rh_of hO hB
  clear HS hO hB hg1 hg2
  obtain ⟨q, hq⟩ : ∃ q, q = w.heap.size := ⟨_, rfl⟩
  rw [← hq] at HR
  have HQ := Lib.hid hq
  have c00 := (HR.out.tr.at (p := 0) (by omega)).1
  have c01 := (HR.out.tr.at (p := 0) (by omega)).2.1
  rw [h0] at c00
  have l0 : (0 : Int) < (T.length : Int) := by omega
  have m0 : 0 < T.length := by omega
  have l1 : (1 : Int) < (T.length : Int) := by omega
  have m1 : 1 < T.length := by omega
  rw [EW] at c01
  clear EW
  have c10 := (HR.out.tr.at (p := 1) (by omega)).1
  rw [h1] at c10
  clear h1
  clear h0
  generalize (tk T 0).text = x at *

  have b1 := HR.out.hq; have b2 := HR.out.hz; have b3 := HR.out.gq; have b4 := HR.out.bel
  have b0 : q ≠ q + 1 := by omega
  have ba : w1.cell? ⟨g, 7, none⟩ = some (.int .i64 av) := by rw [HAV.out]; exact (HR.out.tr.at (p := 1) hlen).2.2.2
  rw [← hq]
  clear hq
  clear HR hlen HAV
  have HZ := Lib.hid (ret_zero w1 q (q + 1) g 7 av (by assumption) (by assumption) (by assumption) (by assumption) (by assumption) (by assumption))
  go_wp2
  refine wp_region_held_drew (S := ZS (q + 1) g 7 av) (by kernel_rfl) HZ.out.1 (fun hHeld => ?_)
  obtain ⟨-, HY, ⟨z0, z1, z2, z3, z4, z5⟩, ⟨f0, f1, f2, f3, f4, f5⟩, R6, BZ⟩ := HZ.out
  have HYh := Lib.hid HY
  unfold z6 at R6
  have R6h := Lib.hid R6
  have BZh := Lib.hid BZ
  clear HZ HY R6 BZ
  generalize World.drew _ = W3 at *
  refine wpAnyH_take (i := 0) (v := ?va78) (by rw [List.getElem?_toArray]; rfl) (by kernel_rfl) (by kernel_rfl) (by kernel_rfl) ?qa78 (Or.inl ⟨by rfl, ?ya78⟩) hHeld ?ra78
  case qa78 => exact fun _ _ _ h => h
  case ya78 => (intro wz hSw; obtain ⟨⟨s0, s1, s2, s3, s4, s5⟩, s6⟩ := hSw; go_simp; try (with_reducible rfl))
  simp only [Act.put, List.setIfInBounds_toArray, List.set_cons_zero, List.set_cons_succ]
  refine wpAnyH_take (i := 1) (v := ?va79) (by rw [List.getElem?_toArray]; rfl) (by kernel_rfl) (by kernel_rfl) (by kernel_rfl) ?qa79 (Or.inl ⟨by rfl, ?ya79⟩) hHeld ?ra79
  case qa79 => exact fun _ _ _ h => h
  case ya79 => (intro wz hSw; obtain ⟨⟨s0, s1, s2, s3, s4, s5⟩, s6⟩ := hSw; go_simp; try (with_reducible rfl))
  simp only [Act.put, List.setIfInBounds_toArray, List.set_cons_zero, List.set_cons_succ]
  refine wpAnyH_take (i := 2) (v := ?va80) (by rw [List.getElem?_toArray]; rfl) (by kernel_rfl) (by kernel_rfl) (by kernel_rfl) ?qa80 (Or.inl ⟨by rfl, ?ya80⟩) hHeld ?ra80
  case qa80 => exact fun _ _ _ h => h
  case ya80 => (intro wz hSw; obtain ⟨⟨s0, s1, s2, s3, s4, s5⟩, s6⟩ := hSw; go_simp; try (with_reducible rfl))
  simp only [Act.put, List.setIfInBounds_toArray, List.set_cons_zero, List.set_cons_succ]
  refine wpAnyH_take (i := 3) (v := ?va81) (by rw [List.getElem?_toArray]; rfl) (by kernel_rfl) (by kernel_rfl) (by kernel_rfl) ?qa81 (Or.inl ⟨by rfl, ?ya81⟩) hHeld ?ra81
  case qa81 => exact fun _ _ _ h => h
  case ya81 => (intro wz hSw; obtain ⟨⟨s0, s1, s2, s3, s4, s5⟩, s6⟩ := hSw; go_simp; try (with_reducible rfl))
  simp only [Act.put, List.setIfInBounds_toArray, List.set_cons_zero, List.set_cons_succ]
  refine wpAnyH_take (i := 4) (v := ?va82) (by rw [List.getElem?_toArray]; rfl) (by kernel_rfl) (by kernel_rfl) (by kernel_rfl) ?qa82 (Or.inl ⟨by rfl, ?ya82⟩) hHeld ?ra82
  case qa82 => exact fun _ _ _ h => h
  case ya82 => (intro wz hSw; obtain ⟨⟨s0, s1, s2, s3, s4, s5⟩, s6⟩ := hSw; go_simp; try (with_reducible rfl))
  simp only [Act.put, List.setIfInBounds_toArray, List.set_cons_zero, List.set_cons_succ]
  refine wpAnyH_ready (rs := [5]) (by kernel_rfl) (by simp) ?_
  refine AllReadyH.cons (by rw [List.getElem?_toArray]; rfl) (fun K hK => ?_) AllReadyH.nil
  clear hHeld
  go_simp
  refine hK.out _ _ HYh.out (fun hHeld => ?_)
  clear hK K HYh
  refine wpAnyH_take (i := 6) (v := ?va83) (by rw [List.getElem?_toArray]; rfl) (by kernel_rfl) (by kernel_rfl) (by kernel_rfl) ?qa83 (Or.inl ⟨by rfl, ?ya83⟩) hHeld ?ra83
  case qa83 => exact fun _ _ _ h => h
  case ya83 => (intro wz hSw; clear hSw; go_simp; try (with_reducible rfl))
  simp only [Act.put, List.setIfInBounds_toArray, List.set_cons_zero, List.set_cons_succ]
  refine wpAnyH_take (i := 7) (v := ?va84) (by rw [List.getElem?_toArray]; rfl) (by kernel_rfl) (by kernel_rfl) (by kernel_rfl) ?qa84 (Or.inl ⟨by rfl, ?ya84⟩) hHeld ?ra84
  case qa84 => exact fun _ _ _ h => h
  case ya84 => (intro wz hSw; clear hSw; go_simp; try (with_reducible rfl))
  simp only [Act.put, List.setIfInBounds_toArray, List.set_cons_zero, List.set_cons_succ]
  refine wpAnyH_done (by kernel_rfl) ?_ _
  clear hHeld
  go_wp2
  obtain ⟨r0, r1, r2, r3, r4, r5⟩ := R6h.out
  exact bodyPost_ret (v := .tuple #[.agg #[.int .i64 0, .int .i64 0, .int .i64 0, .slice none 0 0, .slice none 0 0, .slice none 0 0], .int .i64 av, .int .i64 6]) (by simp [results, Try.results8, go_sem, r0, r1, r2, r3, r4, r5]) rfl ⟨rfl, by rw [← HQ.out]; exact BZh.out⟩
set_option maxRecDepth 100000 in
set_option maxHeartbeats 8000000 in
theorem rp_n3b (s : ByteArray) (T : List Tok) (w : World) (h0 : (tk T 0).kind = 1) (EW : (tk T 0).text = (⟨#[84, 83, 80]⟩ : ByteArray)) (h1 : (tk T 1).kind = 1) (hlen : 1 < T.length) (HS : Hid (∀ W, Calls Try.prog 17 #[.string s] W fun e w' => ∃ v, e = .returned (.tuple #[v, .int .i64 0, .int .i64 0]) ∧ w'.ownsRow W.heap.size 51 4 v T.length (encL T) ∧ Below W.heap.size W w')) :
    Calls Try.prog 8 #[.string s] w fun e w' => e = .returned (.tuple #[.agg #[.int .i64 0, .int .i64 0, .int .i64 0, .slice none 0 0, .slice none 0 0, .slice none 0 0], .int .i64 (tk T 1).at_, .int .i64 4]) ∧ Below w.heap.size w w' := by
  obtain ⟨av, hav⟩ : ∃ av, av = (tk T 1).at_ := ⟨_, rfl⟩
  rw [← hav]
  have HAV := Lib.hid hav
  clear hav
  go_enter Try.func8, Try.ntmps8
  go_wp2_with fail
  refine (HS.out _).mono ?_
  rintro e w1 ⟨v, rfl, hO, hB⟩
  obtain ⟨g, cap, rfl, hg1, hg2⟩ := hO.form (by omega)
  have HR : Hid (RH s T w w.heap.size g cap w1) := rh_of hO hB
  clear HS hO hB hg1 hg2
  obtain ⟨q, hq⟩ : ∃ q, q = w.heap.size := ⟨_, rfl⟩
  rw [← hq] at HR
  have HQ := Lib.hid hq
  have c00 := (HR.out.tr.at (p := 0) (by omega)).1
  have c01 := (HR.out.tr.at (p := 0) (by omega)).2.1
  rw [h0] at c00
  have l0 : (0 : Int) < (T.length : Int) := by omega
  have m0 : 0 < T.length := by omega
  have l1 : (1 : Int) < (T.length : Int) := by omega
  have m1 : 1 < T.length := by omega
  rw [EW] at c01
  clear EW
  have c10 := (HR.out.tr.at (p := 1) (by omega)).1
  rw [h1] at c10
  clear h1
  clear h0
  generalize (tk T 0).text = x at *

  have b1 := HR.out.hq; have b2 := HR.out.hz; have b3 := HR.out.gq; have b4 := HR.out.bel
  have b0 : q ≠ q + 1 := by omega
  have ba : w1.cell? ⟨g, 7, none⟩ = some (.int .i64 av) := by rw [HAV.out]; exact (HR.out.tr.at (p := 1) hlen).2.2.2
  rw [← hq]
  clear hq
  clear HR hlen HAV
  have HZ := Lib.hid (ret_zero w1 q (q + 1) g 7 av (by assumption) (by assumption) (by assumption) (by assumption) (by assumption) (by assumption))
  go_wp2
  refine wp_region_held_drew (S := ZS (q + 1) g 7 av) (by kernel_rfl) HZ.out.1 (fun hHeld => ?_)
  obtain ⟨-, HY, ⟨z0, z1, z2, z3, z4, z5⟩, ⟨f0, f1, f2, f3, f4, f5⟩, R6, BZ⟩ := HZ.out
  have HYh := Lib.hid HY
  unfold z6 at R6
  have R6h := Lib.hid R6
  have BZh := Lib.hid BZ
  clear HZ HY R6 BZ
  generalize World.drew _ = W3 at *
  refine wpAnyH_take (i := 0) (v := ?va85) (by rw [List.getElem?_toArray]; rfl) (by kernel_rfl) (by kernel_rfl) (by kernel_rfl) ?qa85 (Or.inl ⟨by rfl, ?ya85⟩) hHeld ?ra85
  case qa85 => exact fun _ _ _ h => h
  case ya85 => (intro wz hSw; obtain ⟨⟨s0, s1, s2, s3, s4, s5⟩, s6⟩ := hSw; go_simp; try (with_reducible rfl))
  simp only [Act.put, List.setIfInBounds_toArray, List.set_cons_zero, List.set_cons_succ]
  refine wpAnyH_take (i := 1) (v := ?va86) (by rw [List.getElem?_toArray]; rfl) (by kernel_rfl) (by kernel_rfl) (by kernel_rfl) ?qa86 (Or.inl ⟨by rfl, ?ya86⟩) hHeld ?ra86
  case qa86 => exact fun _ _ _ h => h
  case ya86 => (intro wz hSw; obtain ⟨⟨s0, s1, s2, s3, s4, s5⟩, s6⟩ := hSw; go_simp; try (with_reducible rfl))
  simp only [Act.put, List.setIfInBounds_toArray, List.set_cons_zero, List.set_cons_succ]
  refine wpAnyH_take (i := 2) (v := ?va87) (by rw [List.getElem?_toArray]; rfl) (by kernel_rfl) (by kernel_rfl) (by kernel_rfl) ?qa87 (Or.inl ⟨by rfl, ?ya87⟩) hHeld ?ra87
  case qa87 => exact fun _ _ _ h => h
  case ya87 => (intro wz hSw; obtain ⟨⟨s0, s1, s2, s3, s4, s5⟩, s6⟩ := hSw; go_simp; try (with_reducible rfl))
  simp only [Act.put, List.setIfInBounds_toArray, List.set_cons_zero, List.set_cons_succ]
  refine wpAnyH_take (i := 3) (v := ?va88) (by rw [List.getElem?_toArray]; rfl) (by kernel_rfl) (by kernel_rfl) (by kernel_rfl) ?qa88 (Or.inl ⟨by rfl, ?ya88⟩) hHeld ?ra88
  case qa88 => exact fun _ _ _ h => h
  case ya88 => (intro wz hSw; obtain ⟨⟨s0, s1, s2, s3, s4, s5⟩, s6⟩ := hSw; go_simp; try (with_reducible rfl))
  simp only [Act.put, List.setIfInBounds_toArray, List.set_cons_zero, List.set_cons_succ]
  refine wpAnyH_take (i := 4) (v := ?va89) (by rw [List.getElem?_toArray]; rfl) (by kernel_rfl) (by kernel_rfl) (by kernel_rfl) ?qa89 (Or.inl ⟨by rfl, ?ya89⟩) hHeld ?ra89
  case qa89 => exact fun _ _ _ h => h
  case ya89 => (intro wz hSw; obtain ⟨⟨s0, s1, s2, s3, s4, s5⟩, s6⟩ := hSw; go_simp; try (with_reducible rfl))
  simp only [Act.put, List.setIfInBounds_toArray, List.set_cons_zero, List.set_cons_succ]
  refine wpAnyH_ready (rs := [5]) (by kernel_rfl) (by simp) ?_
  refine AllReadyH.cons (by rw [List.getElem?_toArray]; rfl) (fun K hK => ?_) AllReadyH.nil
  clear hHeld
  go_simp
  refine hK.out _ _ HYh.out (fun hHeld => ?_)
  clear hK K HYh
  refine wpAnyH_take (i := 6) (v := ?va90) (by rw [List.getElem?_toArray]; rfl) (by kernel_rfl) (by kernel_rfl) (by kernel_rfl) ?qa90 (Or.inl ⟨by rfl, ?ya90⟩) hHeld ?ra90
  case qa90 => exact fun _ _ _ h => h
  case ya90 => (intro wz hSw; clear hSw; go_simp; try (with_reducible rfl))
  simp only [Act.put, List.setIfInBounds_toArray, List.set_cons_zero, List.set_cons_succ]
  refine wpAnyH_take (i := 7) (v := ?va91) (by rw [List.getElem?_toArray]; rfl) (by kernel_rfl) (by kernel_rfl) (by kernel_rfl) ?qa91 (Or.inl ⟨by rfl, ?ya91⟩) hHeld ?ra91
  case qa91 => exact fun _ _ _ h => h
  case ya91 => (intro wz hSw; clear hSw; go_simp; try (with_reducible rfl))
  simp only [Act.put, List.setIfInBounds_toArray, List.set_cons_zero, List.set_cons_succ]
  refine wpAnyH_done (by kernel_rfl) ?_ _
  clear hHeld
  go_wp2
  obtain ⟨r0, r1, r2, r3, r4, r5⟩ := R6h.out
  exact bodyPost_ret (v := .tuple #[.agg #[.int .i64 0, .int .i64 0, .int .i64 0, .slice none 0 0, .slice none 0 0, .slice none 0 0], .int .i64 av, .int .i64 4]) (by simp [results, Try.results8, go_sem, r0, r1, r2, r3, r4, r5]) rfl ⟨rfl, by rw [← HQ.out]; exact BZh.out⟩
set_option maxRecDepth 100000 in
set_option maxHeartbeats 8000000 in
theorem rp_n3c (s : ByteArray) (T : List Tok) (w : World) (h0 : (tk T 0).kind = 1) (EW : (tk T 0).text = (⟨#[84, 83, 80]⟩ : ByteArray)) (h1 : (tk T 1).kind = 2) (h2 : (tk T 1).num = 0) (hlen : 1 < T.length) (HS : Hid (∀ W, Calls Try.prog 17 #[.string s] W fun e w' => ∃ v, e = .returned (.tuple #[v, .int .i64 0, .int .i64 0]) ∧ w'.ownsRow W.heap.size 51 4 v T.length (encL T) ∧ Below W.heap.size W w')) :
    Calls Try.prog 8 #[.string s] w fun e w' => e = .returned (.tuple #[.agg #[.int .i64 0, .int .i64 0, .int .i64 0, .slice none 0 0, .slice none 0 0, .slice none 0 0], .int .i64 (tk T 1).at_, .int .i64 1]) ∧ Below w.heap.size w w' := by
  obtain ⟨av, hav⟩ : ∃ av, av = (tk T 1).at_ := ⟨_, rfl⟩
  rw [← hav]
  have HAV := Lib.hid hav
  clear hav
  go_enter Try.func8, Try.ntmps8
  go_wp2_with fail
  refine (HS.out _).mono ?_
  rintro e w1 ⟨v, rfl, hO, hB⟩
  obtain ⟨g, cap, rfl, hg1, hg2⟩ := hO.form (by omega)
  have HR : Hid (RH s T w w.heap.size g cap w1) := rh_of hO hB
  clear HS hO hB hg1 hg2
  obtain ⟨q, hq⟩ : ∃ q, q = w.heap.size := ⟨_, rfl⟩
  rw [← hq] at HR
  have HQ := Lib.hid hq
  have c00 := (HR.out.tr.at (p := 0) (by omega)).1
  have c01 := (HR.out.tr.at (p := 0) (by omega)).2.1
  rw [h0] at c00
  have l0 : (0 : Int) < (T.length : Int) := by omega
  have m0 : 0 < T.length := by omega
  have l1 : (1 : Int) < (T.length : Int) := by omega
  have m1 : 1 < T.length := by omega
  rw [EW] at c01
  clear EW
  have c10 := (HR.out.tr.at (p := 1) (by omega)).1
  have c12 := (HR.out.tr.at (p := 1) (by omega)).2.2.1
  rw [h1] at c10
  rw [h2] at c12
  clear h1 h2
  clear h0
  generalize (tk T 0).text = x at *

  have b1 := HR.out.hq; have b2 := HR.out.hz; have b3 := HR.out.gq; have b4 := HR.out.bel
  have b0 : q ≠ q + 1 := by omega
  have ba : w1.cell? ⟨g, 7, none⟩ = some (.int .i64 av) := by rw [HAV.out]; exact (HR.out.tr.at (p := 1) hlen).2.2.2
  rw [← hq]
  clear hq
  clear HR hlen HAV
  have HZ := Lib.hid (ret_zero w1 q (q + 1) g 7 av (by assumption) (by assumption) (by assumption) (by assumption) (by assumption) (by assumption))
  go_wp2
  refine wp_region_held_drew (S := ZS (q + 1) g 7 av) (by kernel_rfl) HZ.out.1 (fun hHeld => ?_)
  obtain ⟨-, HY, ⟨z0, z1, z2, z3, z4, z5⟩, ⟨f0, f1, f2, f3, f4, f5⟩, R6, BZ⟩ := HZ.out
  have HYh := Lib.hid HY
  unfold z6 at R6
  have R6h := Lib.hid R6
  have BZh := Lib.hid BZ
  clear HZ HY R6 BZ
  generalize World.drew _ = W3 at *
  refine wpAnyH_take (i := 0) (v := ?va92) (by rw [List.getElem?_toArray]; rfl) (by kernel_rfl) (by kernel_rfl) (by kernel_rfl) ?qa92 (Or.inl ⟨by rfl, ?ya92⟩) hHeld ?ra92
  case qa92 => exact fun _ _ _ h => h
  case ya92 => (intro wz hSw; obtain ⟨⟨s0, s1, s2, s3, s4, s5⟩, s6⟩ := hSw; go_simp; try (with_reducible rfl))
  simp only [Act.put, List.setIfInBounds_toArray, List.set_cons_zero, List.set_cons_succ]
  refine wpAnyH_take (i := 1) (v := ?va93) (by rw [List.getElem?_toArray]; rfl) (by kernel_rfl) (by kernel_rfl) (by kernel_rfl) ?qa93 (Or.inl ⟨by rfl, ?ya93⟩) hHeld ?ra93
  case qa93 => exact fun _ _ _ h => h
  case ya93 => (intro wz hSw; obtain ⟨⟨s0, s1, s2, s3, s4, s5⟩, s6⟩ := hSw; go_simp; try (with_reducible rfl))
  simp only [Act.put, List.setIfInBounds_toArray, List.set_cons_zero, List.set_cons_succ]
  refine wpAnyH_take (i := 2) (v := ?va94) (by rw [List.getElem?_toArray]; rfl) (by kernel_rfl) (by kernel_rfl) (by kernel_rfl) ?qa94 (Or.inl ⟨by rfl, ?ya94⟩) hHeld ?ra94
  case qa94 => exact fun _ _ _ h => h
  case ya94 => (intro wz hSw; obtain ⟨⟨s0, s1, s2, s3, s4, s5⟩, s6⟩ := hSw; go_simp; try (with_reducible rfl))
  simp only [Act.put, List.setIfInBounds_toArray, List.set_cons_zero, List.set_cons_succ]
  refine wpAnyH_take (i := 3) (v := ?va95) (by rw [List.getElem?_toArray]; rfl) (by kernel_rfl) (by kernel_rfl) (by kernel_rfl) ?qa95 (Or.inl ⟨by rfl, ?ya95⟩) hHeld ?ra95
  case qa95 => exact fun _ _ _ h => h
  case ya95 => (intro wz hSw; obtain ⟨⟨s0, s1, s2, s3, s4, s5⟩, s6⟩ := hSw; go_simp; try (with_reducible rfl))
  simp only [Act.put, List.setIfInBounds_toArray, List.set_cons_zero, List.set_cons_succ]
  refine wpAnyH_take (i := 4) (v := ?va96) (by rw [List.getElem?_toArray]; rfl) (by kernel_rfl) (by kernel_rfl) (by kernel_rfl) ?qa96 (Or.inl ⟨by rfl, ?ya96⟩) hHeld ?ra96
  case qa96 => exact fun _ _ _ h => h
  case ya96 => (intro wz hSw; obtain ⟨⟨s0, s1, s2, s3, s4, s5⟩, s6⟩ := hSw; go_simp; try (with_reducible rfl))
  simp only [Act.put, List.setIfInBounds_toArray, List.set_cons_zero, List.set_cons_succ]
  refine wpAnyH_ready (rs := [5]) (by kernel_rfl) (by simp) ?_
  refine AllReadyH.cons (by rw [List.getElem?_toArray]; rfl) (fun K hK => ?_) AllReadyH.nil
  clear hHeld
  go_simp
  refine hK.out _ _ HYh.out (fun hHeld => ?_)
  clear hK K HYh
  refine wpAnyH_take (i := 6) (v := ?va97) (by rw [List.getElem?_toArray]; rfl) (by kernel_rfl) (by kernel_rfl) (by kernel_rfl) ?qa97 (Or.inl ⟨by rfl, ?ya97⟩) hHeld ?ra97
  case qa97 => exact fun _ _ _ h => h
  case ya97 => (intro wz hSw; clear hSw; go_simp; try (with_reducible rfl))
  simp only [Act.put, List.setIfInBounds_toArray, List.set_cons_zero, List.set_cons_succ]
  refine wpAnyH_take (i := 7) (v := ?va98) (by rw [List.getElem?_toArray]; rfl) (by kernel_rfl) (by kernel_rfl) (by kernel_rfl) ?qa98 (Or.inl ⟨by rfl, ?ya98⟩) hHeld ?ra98
  case qa98 => exact fun _ _ _ h => h
  case ya98 => (intro wz hSw; clear hSw; go_simp; try (with_reducible rfl))
  simp only [Act.put, List.setIfInBounds_toArray, List.set_cons_zero, List.set_cons_succ]
  refine wpAnyH_done (by kernel_rfl) ?_ _
  clear hHeld
  go_wp2
  obtain ⟨r0, r1, r2, r3, r4, r5⟩ := R6h.out
  exact bodyPost_ret (v := .tuple #[.agg #[.int .i64 0, .int .i64 0, .int .i64 0, .slice none 0 0, .slice none 0 0, .slice none 0 0], .int .i64 av, .int .i64 1]) (by simp [results, Try.results8, go_sem, r0, r1, r2, r3, r4, r5]) rfl ⟨rfl, by rw [← HQ.out]; exact BZh.out⟩
set_option maxRecDepth 100000 in
set_option maxHeartbeats 8000000 in
theorem rp_n3d (s : ByteArray) (T : List Tok) (w : World) (h0 : (tk T 0).kind = 1) (EW : (tk T 0).text = (⟨#[84, 83, 80]⟩ : ByteArray)) (h1 : (tk T 1).kind = 2) (h2 : 24 < (tk T 1).num) (hlen : 1 < T.length) (HS : Hid (∀ W, Calls Try.prog 17 #[.string s] W fun e w' => ∃ v, e = .returned (.tuple #[v, .int .i64 0, .int .i64 0]) ∧ w'.ownsRow W.heap.size 51 4 v T.length (encL T) ∧ Below W.heap.size W w')) :
    Calls Try.prog 8 #[.string s] w fun e w' => e = .returned (.tuple #[.agg #[.int .i64 0, .int .i64 0, .int .i64 0, .slice none 0 0, .slice none 0 0, .slice none 0 0], .int .i64 (tk T 1).at_, .int .i64 5]) ∧ Below w.heap.size w w' := by
  obtain ⟨av, hav⟩ : ∃ av, av = (tk T 1).at_ := ⟨_, rfl⟩
  rw [← hav]
  have HAV := Lib.hid hav
  clear hav
  go_enter Try.func8, Try.ntmps8
  go_wp2_with fail
  refine (HS.out _).mono ?_
  rintro e w1 ⟨v, rfl, hO, hB⟩
  obtain ⟨g, cap, rfl, hg1, hg2⟩ := hO.form (by omega)
  have HR : Hid (RH s T w w.heap.size g cap w1) := rh_of hO hB
  clear HS hO hB hg1 hg2
  obtain ⟨q, hq⟩ : ∃ q, q = w.heap.size := ⟨_, rfl⟩
  rw [← hq] at HR
  have HQ := Lib.hid hq
  have c00 := (HR.out.tr.at (p := 0) (by omega)).1
  have c01 := (HR.out.tr.at (p := 0) (by omega)).2.1
  rw [h0] at c00
  have l0 : (0 : Int) < (T.length : Int) := by omega
  have m0 : 0 < T.length := by omega
  have l1 : (1 : Int) < (T.length : Int) := by omega
  have m1 : 1 < T.length := by omega
  rw [EW] at c01
  clear EW
  have c10 := (HR.out.tr.at (p := 1) (by omega)).1
  have c12 := (HR.out.tr.at (p := 1) (by omega)).2.2.1
  rw [h1] at c10
  have d0 : ((tk T 1).num == 0) = false := by simp; omega
  clear h1
  clear h0
  generalize (tk T 0).text = x at *
  generalize (tk T 1).num = n at *

  have b1 := HR.out.hq; have b2 := HR.out.hz; have b3 := HR.out.gq; have b4 := HR.out.bel
  have b0 : q ≠ q + 1 := by omega
  have ba : w1.cell? ⟨g, 7, none⟩ = some (.int .i64 av) := by rw [HAV.out]; exact (HR.out.tr.at (p := 1) hlen).2.2.2
  rw [← hq]
  clear hq
  clear HR hlen HAV
  have HZ := Lib.hid (ret_zero w1 q (q + 1) g 7 av (by assumption) (by assumption) (by assumption) (by assumption) (by assumption) (by assumption))
  go_wp2
  refine wp_region_held_drew (S := ZS (q + 1) g 7 av) (by kernel_rfl) HZ.out.1 (fun hHeld => ?_)
  obtain ⟨-, HY, ⟨z0, z1, z2, z3, z4, z5⟩, ⟨f0, f1, f2, f3, f4, f5⟩, R6, BZ⟩ := HZ.out
  have HYh := Lib.hid HY
  unfold z6 at R6
  have R6h := Lib.hid R6
  have BZh := Lib.hid BZ
  clear HZ HY R6 BZ
  generalize World.drew _ = W3 at *
  refine wpAnyH_take (i := 0) (v := ?va99) (by rw [List.getElem?_toArray]; rfl) (by kernel_rfl) (by kernel_rfl) (by kernel_rfl) ?qa99 (Or.inl ⟨by rfl, ?ya99⟩) hHeld ?ra99
  case qa99 => exact fun _ _ _ h => h
  case ya99 => (intro wz hSw; obtain ⟨⟨s0, s1, s2, s3, s4, s5⟩, s6⟩ := hSw; go_simp; try (with_reducible rfl))
  simp only [Act.put, List.setIfInBounds_toArray, List.set_cons_zero, List.set_cons_succ]
  refine wpAnyH_take (i := 1) (v := ?va100) (by rw [List.getElem?_toArray]; rfl) (by kernel_rfl) (by kernel_rfl) (by kernel_rfl) ?qa100 (Or.inl ⟨by rfl, ?ya100⟩) hHeld ?ra100
  case qa100 => exact fun _ _ _ h => h
  case ya100 => (intro wz hSw; obtain ⟨⟨s0, s1, s2, s3, s4, s5⟩, s6⟩ := hSw; go_simp; try (with_reducible rfl))
  simp only [Act.put, List.setIfInBounds_toArray, List.set_cons_zero, List.set_cons_succ]
  refine wpAnyH_take (i := 2) (v := ?va101) (by rw [List.getElem?_toArray]; rfl) (by kernel_rfl) (by kernel_rfl) (by kernel_rfl) ?qa101 (Or.inl ⟨by rfl, ?ya101⟩) hHeld ?ra101
  case qa101 => exact fun _ _ _ h => h
  case ya101 => (intro wz hSw; obtain ⟨⟨s0, s1, s2, s3, s4, s5⟩, s6⟩ := hSw; go_simp; try (with_reducible rfl))
  simp only [Act.put, List.setIfInBounds_toArray, List.set_cons_zero, List.set_cons_succ]
  refine wpAnyH_take (i := 3) (v := ?va102) (by rw [List.getElem?_toArray]; rfl) (by kernel_rfl) (by kernel_rfl) (by kernel_rfl) ?qa102 (Or.inl ⟨by rfl, ?ya102⟩) hHeld ?ra102
  case qa102 => exact fun _ _ _ h => h
  case ya102 => (intro wz hSw; obtain ⟨⟨s0, s1, s2, s3, s4, s5⟩, s6⟩ := hSw; go_simp; try (with_reducible rfl))
  simp only [Act.put, List.setIfInBounds_toArray, List.set_cons_zero, List.set_cons_succ]
  refine wpAnyH_take (i := 4) (v := ?va103) (by rw [List.getElem?_toArray]; rfl) (by kernel_rfl) (by kernel_rfl) (by kernel_rfl) ?qa103 (Or.inl ⟨by rfl, ?ya103⟩) hHeld ?ra103
  case qa103 => exact fun _ _ _ h => h
  case ya103 => (intro wz hSw; obtain ⟨⟨s0, s1, s2, s3, s4, s5⟩, s6⟩ := hSw; go_simp; try (with_reducible rfl))
  simp only [Act.put, List.setIfInBounds_toArray, List.set_cons_zero, List.set_cons_succ]
  refine wpAnyH_ready (rs := [5]) (by kernel_rfl) (by simp) ?_
  refine AllReadyH.cons (by rw [List.getElem?_toArray]; rfl) (fun K hK => ?_) AllReadyH.nil
  clear hHeld
  go_simp
  refine hK.out _ _ HYh.out (fun hHeld => ?_)
  clear hK K HYh
  refine wpAnyH_take (i := 6) (v := ?va104) (by rw [List.getElem?_toArray]; rfl) (by kernel_rfl) (by kernel_rfl) (by kernel_rfl) ?qa104 (Or.inl ⟨by rfl, ?ya104⟩) hHeld ?ra104
  case qa104 => exact fun _ _ _ h => h
  case ya104 => (intro wz hSw; clear hSw; go_simp; try (with_reducible rfl))
  simp only [Act.put, List.setIfInBounds_toArray, List.set_cons_zero, List.set_cons_succ]
  refine wpAnyH_take (i := 7) (v := ?va105) (by rw [List.getElem?_toArray]; rfl) (by kernel_rfl) (by kernel_rfl) (by kernel_rfl) ?qa105 (Or.inl ⟨by rfl, ?ya105⟩) hHeld ?ra105
  case qa105 => exact fun _ _ _ h => h
  case ya105 => (intro wz hSw; clear hSw; go_simp; try (with_reducible rfl))
  simp only [Act.put, List.setIfInBounds_toArray, List.set_cons_zero, List.set_cons_succ]
  refine wpAnyH_done (by kernel_rfl) ?_ _
  clear hHeld
  go_wp2
  obtain ⟨r0, r1, r2, r3, r4, r5⟩ := R6h.out
  exact bodyPost_ret (v := .tuple #[.agg #[.int .i64 0, .int .i64 0, .int .i64 0, .slice none 0 0, .slice none 0 0, .slice none 0 0], .int .i64 av, .int .i64 5]) (by simp [results, Try.results8, go_sem, r0, r1, r2, r3, r4, r5]) rfl ⟨rfl, by rw [← HQ.out]; exact BZh.out⟩
end Go.Proofs.Ytjojdpohifdghaa
