/-
  The walk of the law LexBounds.
-/
import Derived.Test.YtlgmmddomhhobaaBndM
import Derived.Deep.Cut
import Derived.Laws.MakeOwn
import Derived.Laws.IdiomStrings
namespace Go.Proofs.Ytlgmmddomhhobaa
open Go.RowKit
set_option linter.unusedVariables false
theorem undef_ne (b : Bool) : ¬ (undef = Value.bool b) := by intro h; unfold undef at h; cases h
/-- all ways meet in this -/
structure Bd (n a c : Nat) (e1 p2 e2 p3 e3 : Int) : Prop where
  e1 : e1 = if n ≤ 65536 then 0 else 5
  e2 : (p2, e2) = if a ≤ 16 then ((0 : Int), (0 : Int)) else (1, 5)
  e3 : (p3, e3) = if c ≤ 18 then ((0 : Int), (0 : Int)) else (2, 5)
theorem conv_blank (W : World) (g n cap : Nat) (h : W.heap[g]? = some (.cells (bl n n) 5 (0, 0))) : (convert 33 9 (.slice (some ⟨g, 0, none⟩) n cap)).run Try.prog W = .ok (.string (blank n)) W := by
  have := run_convert_bytes_back (P := Try.prog) W 33 9 5 ⟨g, 0, none⟩ cap (List.replicate n 32) Try.underlying33 Try.underlying5 Try.underlying9 (fun j hj => by
    have hj : j < n := by simpa using hj
    rw [Addr.add_mid, Nat.zero_add]
    simp only [World.cell?, h, bl_full]
    simp [hj])
  rw [List.length_replicate] at this
  exact this
theorem info5 : (Try.prog.info? 5).map (fun i => (i.zero, i.size, i.bytes)) = some (some (.int .u8 0), 1, 1) := by kernel_rfl
theorem scan_word (a : Nat) (p2 e2 : Int) (h : a < 21) (he : (p2, e2) = if a ≤ 16 then ((0 : Int), (0 : Int)) else (1, 5)) (W : World) : Calls Try.prog 8 #[.string (⟨#[32]⟩ ++ rep 107 a)] W fun en w' => ∃ v, en = .returned (.tuple #[v, .int .i64 p2, .int .i64 e2]) ∧ Below W.heap.size W w' :=
  scan_tst _ (by rw [ByteArray.size_append, rep_size]; show 1 + a ≤ 65536; omega) p2 e2 (by rw [he]; exact words ⟨a, h⟩) W
theorem scan_number (c : Nat) (p3 e3 : Int) (h1 : 1 ≤ c) (h : c < 23) (he : (p3, e3) = if c ≤ 18 then ((0 : Int), (0 : Int)) else (2, 5)) (W : World) : Calls Try.prog 8 #[.string (⟨#[32, 32]⟩ ++ rep 55 c)] W fun en w' => ∃ v, en = .returned (.tuple #[v, .int .i64 p3, .int .i64 e3]) ∧ Below W.heap.size W w' := by
  refine scan_tst _ (by rw [ByteArray.size_append, rep_size]; show 2 + c ≤ 65536; omega) p3 e3 ?_ W
  rw [he]
  rcases numbers ⟨c, h⟩ with q | q
  · have : c = 0 := q
    omega
  · exact q
set_option maxRecDepth 100000 in
set_option maxHeartbeats 4000000 in
theorem lexBounds_core (z0 z1 z2 : Int) (n a c : Nat) (e1 p2 e2 p3 e3 : Int) (hN : wrap64 (65530 + wrap64 ((IntKind.u64.wrap z0).tmod 12)) = (n : Int)) (hA : wrap64 (1 + wrap64 ((IntKind.u64.wrap z1).tmod 20)) = (a : Int)) (hC : wrap64 (1 + wrap64 ((IntKind.u64.wrap z2).tmod 22)) = (c : Int))
    (b0 : 1 ≤ n ∧ n < 65600) (b1 : 1 ≤ a ∧ a < 21) (b2 : 1 ≤ c ∧ c < 23) (hB : Bd n a c e1 p2 e2 p3 e3)
    (hmk : ∀ W : World, (Instr.makeSlice 33 (.int .i64 (n : Int)) (.int .i64 (n : Int))).run Try.prog W = .ok (.slice (some ⟨W.heap.size, 0, none⟩) n n) (W.alloc (.cells (bl n 0) 5))) (w : World) :
    Calls Try.prog 6 #[.int .i64 z0, .int .i64 z1, .int .i64 z2] w fun e w' => e = .returned (.bool true) ∧ Below w.heap.size w w' := by
  have S1 := Lib.hid (fun W => scan_blank n 0 e1 rfl hB.e1 W)
  have S2 := Lib.hid (fun W => scan_word a p2 e2 b1.2 hB.e2 W)
  have S3 := Lib.hid (fun W => scan_number c p3 e3 b2.1 b2.2 hB.e3 W)
  have HBd := Lib.hid hB
  clear hB
  go_enter Try.func6, Try.ntmps6
  go_upto_region 2 with fail
  rw [hN, hA, hC]
  generalize (IntKind.u64.wrap z0).tmod 12 = s0
  generalize (IntKind.u64.wrap z1).tmod 20 = s1
  generalize (IntKind.u64.wrap z2).tmod 22 = s2
  clear hN hA hC
  go_upto_region 3 with fail
  go_wp2
  go_loopw [8] (fun iv wr => ∃ k, k ≤ n ∧ iv = .int .i64 (k : Nat) ∧ Hid (wr.heap[w.heap.size]? = some (.cells (bl n k) 5 (0, 0))) ∧ Hid (Below w.heap.size w wr)) (fun iv _ => n - (intOf iv).toNat)
  case atStart => exact ⟨0, by omega, rfl, Lib.hid (heap_alloc_new _ _), Lib.hid (by exact ⟨rfl, rfl, rfl, by simp, fun j hj => heap_alloc_old _ _ hj⟩)⟩
  case round =>
    obtain ⟨k, hk, rfl, HC, HB⟩ := hrel
    by_cases hlt : k < n
    · have h1 : (k : Int) < (n : Int) := by omega
      obtain ⟨c0, f0⟩ := bl_cell HC.out hlt
      have HC2 := Lib.hid (show (wr.setCell ⟨w.heap.size, k, none⟩ (.int .u8 32)).heap[w.heap.size]? = some (.cells (bl n (k + 1)) 5 (0, 0)) by rw [← bl_set n k hlt]; exact heap_setCell_same _ _ _ _ _ _ HC.out)
      have HB2 := Lib.hid (HB.out.setCell (p := ⟨w.heap.size, k, none⟩) (Nat.le_refl _) (.int .u8 32))
      clear HC HB
      go_wp2
      go_roundw
      case rel => exact ⟨k + 1, by omega, by go_num, HC2, HB2⟩
      case measure => simp [intOf]; omega
    · have h1 : ¬ (k : Int) < (n : Int) := by omega
      obtain rfl : k = n := by omega
      have hcv := conv_blank wr w.heap.size k k HC.out
      go_wp2_with fail
      refine (S1.out _).mono ?_
      rintro e w1 ⟨v1, rfl, hb1⟩
      have HB1 := Lib.hid (below_tr HB.out hb1)
      clear hb1 hcv HC HB S1 hmk hlt hk h1
      go_wp2
      go_loopw [12, 14] (fun tv iv wr => ∃ j, j ≤ a ∧ tv = .string (rep 107 j) ∧ iv = .int .i64 (j : Nat) ∧ Hid (Below w.heap.size w wr)) (fun _ iv _ => a - (intOf iv).toNat)
      case atStart => exact ⟨0, by omega, rfl, rfl, HB1⟩
      case round =>
        obtain ⟨j, hj, rfl, rfl, HB2⟩ := hrel
        clear HB1
        by_cases hlt : j < a
        · have h1 : (j : Int) < (a : Int) := by omega
          have hT := rep_succ 107 j
          have hsz := rep_size 107 j
          obtain ⟨T, hT0⟩ : ∃ T, T = rep 107 j := ⟨_, rfl⟩
          obtain ⟨U, hU0⟩ : ∃ U, U = rep 107 (j + 1) := ⟨_, rfl⟩
          rw [← hT0] at hT hsz ⊢
          rw [← hU0] at hT
          have hU := Lib.hid hU0
          clear hU0 hT0
          have hs1 : (⟨#[107]⟩ : ByteArray).size = 1 := rfl
          go_upto_region 12 with fail
          have hcat : ¬ 9223372036854775807 < T.size + 1 := by rw [hsz]; omega
          go_upto_region 11 with fail
          clear hcat
          have hU0 := hU.out
          subst hU0
          clear hT hsz hs1 hU
          go_wp2
          go_roundw
          case rel => exact ⟨j + 1, by omega, rfl, by go_num, HB2⟩
          case measure => simp [intOf]; omega
        · have h1 : ¬ (j : Int) < (a : Int) := by omega
          obtain rfl : j = a := by omega
          clear hlt hj
          go_wp2
          go_loopw [13, 15] (fun tv iv wr => ∃ i, i ≤ c ∧ tv = .string (rep 55 i) ∧ iv = .int .i64 (i : Nat) ∧ Hid (Below w.heap.size w wr)) (fun _ iv _ => c - (intOf iv).toNat)
          case atStart => exact ⟨0, by omega, rfl, rfl, HB2⟩
          case round =>
            clear HB2
            obtain ⟨i, hi, rfl, rfl, HB3⟩ := hrel
            by_cases hlt : i < c
            · have h1 : (i : Int) < (c : Int) := by omega
              have hT := rep_succ 55 i
              have hsz := rep_size 55 i
              obtain ⟨T, hT0⟩ : ∃ T, T = rep 55 i := ⟨_, rfl⟩
              obtain ⟨U, hU0⟩ : ∃ U, U = rep 55 (i + 1) := ⟨_, rfl⟩
              rw [← hT0] at hT hsz ⊢
              rw [← hU0] at hT
              have hU := Lib.hid hU0
              clear hU0 hT0
              have hs1 : (⟨#[55]⟩ : ByteArray).size = 1 := rfl
              go_upto_region 16 with fail
              have hcat : ¬ 9223372036854775807 < T.size + 1 := by rw [hsz]; omega
              go_upto_region 15 with fail
              clear hcat
              have hU0 := hU.out
              subst hU0
              clear hT hsz hs1 hU
              go_wp2
              go_roundw
              case rel => exact ⟨i + 1, by omega, rfl, by go_num, HB3⟩
              case measure => simp [intOf]; omega
            · have h1 : ¬ (i : Int) < (c : Int) := by omega
              obtain rfl : i = c := by omega
              clear hlt hi
              have hsz1 := rep_size 107 j
              have hsz2 := rep_size 55 i
              have hs1 : (⟨#[32]⟩ : ByteArray).size = 1 := rfl
              have hs2 : (⟨#[32, 32]⟩ : ByteArray).size = 2 := rfl
              generalize rep 107 j = T1 at *
              generalize rep 55 i = T2 at *
              obtain ⟨X1, hX1⟩ : ∃ X, (⟨#[32]⟩ : ByteArray) ++ T1 = X := ⟨_, rfl⟩
              obtain ⟨X2, hX2⟩ : ∃ X, (⟨#[32, 32]⟩ : ByteArray) ++ T2 = X := ⟨_, rfl⟩
              rw [hX1] at S2
              rw [hX2] at S3
              go_upto_region 17 with fail
              have hcat1 : ¬ 9223372036854775807 < 1 + T1.size := by rw [hsz1]; omega
              have hcat2 : ¬ 9223372036854775807 < 2 + T2.size := by rw [hsz2]; omega
              clear hsz1 hsz2
              go_wp2_with fail
              refine (S2.out _).mono ?_
              rintro e w2 ⟨v2, rfl, hb2⟩
              have HB4 := Lib.hid (below_tr HB3.out hb2)
              clear hb2
              go_wp2_with fail
              refine (S3.out _).mono ?_
              rintro e w3 ⟨v3, rfl, hb3⟩
              have HB5 := Lib.hid (below_tr HB4.out hb3)
              clear hb3 HB4 hcat1 hcat2 hX1 hX2 hs1 hs2 S2 S3
              go_wp2_with fail
              refine (lexes_any _).mono ?_
              rintro e w4 ⟨rfl, hb4⟩
              have HB6 := Lib.hid (below_tr HB5.out hb4)
              clear hb4 HB5 HB3
              obtain ⟨t1, t2, t3⟩ := HBd.out
              clear HBd
              by_cases q1 : k ≤ 65536
              · rw [if_pos q1] at t1
                subst t1
                have d1 : (k : Int) ≤ 65536 := by omega
                by_cases q2 : j ≤ 16
                · rw [if_pos q2] at t2
                  obtain ⟨rfl, rfl⟩ := Prod.mk.inj t2
                  have d2 : (j : Int) ≤ 16 := by omega
                  by_cases q3 : i ≤ 18
                  · rw [if_pos q3] at t3
                    obtain ⟨rfl, rfl⟩ := Prod.mk.inj t3
                    have d3 : (i : Int) ≤ 18 := by omega
                    clear q1 q2 q3 t2 t3 b0 b1 b2
                    generalize (k : Int) = Zk at *
                    generalize (j : Int) = Zj at *
                    generalize (i : Int) = Zi at *
                    have hud := undef_ne
                    go_wp2
                    go_ret
                    first | exact ⟨rfl, HB6.out⟩ | (refine ⟨?_, HB6.out⟩; simp; omega)
                  · rw [if_neg q3] at t3
                    obtain ⟨rfl, rfl⟩ := Prod.mk.inj t3
                    have d3 : ¬ (i : Int) ≤ 18 := by omega
                    clear q1 q2 q3 t2 t3 b0 b1 b2
                    generalize (k : Int) = Zk at *
                    generalize (j : Int) = Zj at *
                    generalize (i : Int) = Zi at *
                    have hud := undef_ne
                    go_wp2
                    go_ret
                    first | exact ⟨rfl, HB6.out⟩ | (refine ⟨?_, HB6.out⟩; simp; omega)
                · rw [if_neg q2] at t2
                  obtain ⟨rfl, rfl⟩ := Prod.mk.inj t2
                  have d2 : ¬ (j : Int) ≤ 16 := by omega
                  by_cases q3 : i ≤ 18
                  · rw [if_pos q3] at t3
                    obtain ⟨rfl, rfl⟩ := Prod.mk.inj t3
                    have d3 : (i : Int) ≤ 18 := by omega
                    clear q1 q2 q3 t2 t3 b0 b1 b2
                    generalize (k : Int) = Zk at *
                    generalize (j : Int) = Zj at *
                    generalize (i : Int) = Zi at *
                    have hud := undef_ne
                    go_wp2
                    go_ret
                    first | exact ⟨rfl, HB6.out⟩ | (refine ⟨?_, HB6.out⟩; simp; omega)
                  · rw [if_neg q3] at t3
                    obtain ⟨rfl, rfl⟩ := Prod.mk.inj t3
                    have d3 : ¬ (i : Int) ≤ 18 := by omega
                    clear q1 q2 q3 t2 t3 b0 b1 b2
                    generalize (k : Int) = Zk at *
                    generalize (j : Int) = Zj at *
                    generalize (i : Int) = Zi at *
                    have hud := undef_ne
                    go_wp2
                    go_ret
                    first | exact ⟨rfl, HB6.out⟩ | (refine ⟨?_, HB6.out⟩; simp; omega)
              · rw [if_neg q1] at t1
                subst t1
                have d1 : ¬ (k : Int) ≤ 65536 := by omega
                by_cases q2 : j ≤ 16
                · rw [if_pos q2] at t2
                  obtain ⟨rfl, rfl⟩ := Prod.mk.inj t2
                  have d2 : (j : Int) ≤ 16 := by omega
                  by_cases q3 : i ≤ 18
                  · rw [if_pos q3] at t3
                    obtain ⟨rfl, rfl⟩ := Prod.mk.inj t3
                    have d3 : (i : Int) ≤ 18 := by omega
                    clear q1 q2 q3 t2 t3 b0 b1 b2
                    generalize (k : Int) = Zk at *
                    generalize (j : Int) = Zj at *
                    generalize (i : Int) = Zi at *
                    have hud := undef_ne
                    go_wp2
                    go_ret
                    first | exact ⟨rfl, HB6.out⟩ | (refine ⟨?_, HB6.out⟩; simp; omega)
                  · rw [if_neg q3] at t3
                    obtain ⟨rfl, rfl⟩ := Prod.mk.inj t3
                    have d3 : ¬ (i : Int) ≤ 18 := by omega
                    clear q1 q2 q3 t2 t3 b0 b1 b2
                    generalize (k : Int) = Zk at *
                    generalize (j : Int) = Zj at *
                    generalize (i : Int) = Zi at *
                    have hud := undef_ne
                    go_wp2
                    go_ret
                    first | exact ⟨rfl, HB6.out⟩ | (refine ⟨?_, HB6.out⟩; simp; omega)
                · rw [if_neg q2] at t2
                  obtain ⟨rfl, rfl⟩ := Prod.mk.inj t2
                  have d2 : ¬ (j : Int) ≤ 16 := by omega
                  by_cases q3 : i ≤ 18
                  · rw [if_pos q3] at t3
                    obtain ⟨rfl, rfl⟩ := Prod.mk.inj t3
                    have d3 : (i : Int) ≤ 18 := by omega
                    clear q1 q2 q3 t2 t3 b0 b1 b2
                    generalize (k : Int) = Zk at *
                    generalize (j : Int) = Zj at *
                    generalize (i : Int) = Zi at *
                    have hud := undef_ne
                    go_wp2
                    go_ret
                    first | exact ⟨rfl, HB6.out⟩ | (refine ⟨?_, HB6.out⟩; simp; omega)
                  · rw [if_neg q3] at t3
                    obtain ⟨rfl, rfl⟩ := Prod.mk.inj t3
                    have d3 : ¬ (i : Int) ≤ 18 := by omega
                    clear q1 q2 q3 t2 t3 b0 b1 b2
                    generalize (k : Int) = Zk at *
                    generalize (j : Int) = Zj at *
                    generalize (i : Int) = Zi at *
                    have hud := undef_ne
                    go_wp2
                    go_ret
                    first | exact ⟨rfl, HB6.out⟩ | (refine ⟨?_, HB6.out⟩; simp; omega)
theorem wr_in (x : Int) (h : 0 ≤ x) (h2 : x ≤ 70000) : wrap64 x = x := by
  unfold wrap64
  omega
theorem mod_in (z : Int) (m : Int) (hm : 0 < m) (hm2 : m ≤ 30) : 0 ≤ (IntKind.u64.wrap z).tmod m ∧ (IntKind.u64.wrap z).tmod m < m := by
  have h0 : 0 ≤ IntKind.u64.wrap z := by rw [IntKind.wrap_u64]; omega
  rw [Int.tmod_eq_emod_of_nonneg h0]
  exact ⟨Int.emod_nonneg _ (by omega), Int.emod_lt_of_pos _ hm⟩
theorem lexBounds_walk (z0 z1 z2 : Int) (w : World) (w0 : (Lit.int .i64 z0).wf = true) (w1 : (Lit.int .i64 z1).wf = true) (w2 : (Lit.int .i64 z2).wf = true) :
    Calls Try.prog 6 #[.int .i64 z0, .int .i64 z1, .int .i64 z2] w fun e w' => e = .returned (.bool true) ∧ Below w.heap.size w w' := by
  obtain ⟨i0, hi, hz0, hz1, hz2⟩ := info_parts info5
  have m0 := mod_in z0 12 (by omega) (by omega)
  have m1 := mod_in z1 20 (by omega) (by omega)
  have m2 := mod_in z2 22 (by omega) (by omega)
  obtain ⟨x0, hx0⟩ : ∃ x : Nat, (IntKind.u64.wrap z0).tmod 12 = x := ⟨((IntKind.u64.wrap z0).tmod 12).toNat, by omega⟩
  obtain ⟨x1, hx1⟩ : ∃ x : Nat, (IntKind.u64.wrap z1).tmod 20 = x := ⟨((IntKind.u64.wrap z1).tmod 20).toNat, by omega⟩
  obtain ⟨x2, hx2⟩ : ∃ x : Nat, (IntKind.u64.wrap z2).tmod 22 = x := ⟨((IntKind.u64.wrap z2).tmod 22).toNat, by omega⟩
  rw [hx0] at m0
  rw [hx1] at m1
  rw [hx2] at m2
  obtain ⟨q2, hq2⟩ : ∃ q : Int × Int, q = if 1 + x1 ≤ 16 then ((0 : Int), (0 : Int)) else (1, 5) := ⟨_, rfl⟩
  obtain ⟨q3, hq3⟩ : ∃ q : Int × Int, q = if 1 + x2 ≤ 18 then ((0 : Int), (0 : Int)) else (2, 5) := ⟨_, rfl⟩
  refine lexBounds_core z0 z1 z2 (65530 + x0) (1 + x1) (1 + x2) _ q2.1 q2.2 q3.1 q3.2 ?_ ?_ ?_ (by omega) (by omega) (by omega) ⟨rfl, hq2, hq3⟩ (fun W => ?_) w
  · rw [hx0, wr_in x0 (by omega) (by omega), wr_in _ (by omega) (by omega)]; omega
  · rw [hx1, wr_in x1 (by omega) (by omega), wr_in _ (by omega) (by omega)]; omega
  · rw [hx2, wr_in x2 (by omega) (by omega), wr_in _ (by omega) (by omega)]; omega
  · obtain ⟨n, hn⟩ : ∃ n, 65530 + x0 = n := ⟨_, rfl⟩
    rw [hn]
    have h := run_make (P := Try.prog) W 33 5 i0 (.int .u8 0) Try.underlying33 hi hz0 .i64 .i64 (n : Int) (n : Int) (by omega) (by omega) (by rw [hz2]; omega) (by omega)
    rw [hz1] at h
    simp only [Int.toNat_natCast, Nat.mul_one] at h
    rw [h, bl_zero]
    congr 3
    apply Array.toList_inj.1
    show (madeCells #[Value.int .u8 0] n).toList = _
    rw [toList_madeCells_one]
end Go.Proofs.Ytlgmmddomhhobaa
