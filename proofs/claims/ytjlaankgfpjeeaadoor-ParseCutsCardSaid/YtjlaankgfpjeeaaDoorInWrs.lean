import Derived.Test.YtjlaankgfpjeeaaDoorInTxt
import Derived.Deep.Cut

/-
  What inst.Write answers of every problem in form of kind 1: the walk.
-/
namespace Go.Proofs.YtjlaankgfpjeeaaDoor.ip
open Go.RowKit
set_option linter.unusedVariables false
set_option maxRecDepth 100000 in
set_option maxHeartbeats 4000000 in
theorem write1 (N C : Int) (wl vl : List Int) (cl : List (List Int)) (wa va ca : Option Addr) (wc vc cc : Nat) (w : World) (ht : Tab w) (i1 : Ints w wa wl) (i2 : Ints w va vl) (i3 : Rws w ca cl) (hz : chk 1 N C wl vl cl = 0) :
    Calls Tryd.prog 9 #[.agg #[.int .i64 1, .int .i64 N, .int .i64 C, .slice wa wl.length wc, .slice va vl.length vc, .slice ca cl.length cc]] w fun e w' => e = .returned (.tuple #[.string ⟨(wtx 1 N C wl vl cl).toArray⟩, .int .i64 0]) ∧ Below w.heap.size w w' := by
  obtain ⟨hN1, hz2⟩ := chk_zero hz
  have hF : (wl.length : Int) = N ∧ (vl.length : Int) = N ∧ cl.length = 0 ∧ N ≤ 64 ∧ (0 ≤ C ∧ C ≤ 2147483647) ∧ itemsE wl vl = 0 := by 
    rcases hz2 with h | h
    · exact ⟨h.2.2.1, h.2.2.2.1, h.2.2.2.2.1, h.2.1, h.2.2.2.2.2.1, h.2.2.2.2.2.2⟩
    · omega
  have hbd : 1 ≤ N ∧ N ≤ 64 := by omega
  have hlen : wl.length ≤ 1000 ∧ vl.length ≤ 1000 ∧ cl.length ≤ 1000 := by omega
  have C1 : Hid (∀ o, Calls Tryd.prog 13 #[.agg #[.int .i64 1, .int .i64 N, .int .i64 C, .slice wa wl.length wc, .slice va vl.length vc, .slice ca cl.length cc]] (w.alloc o) fun e w' => e = .returned (.int .i64 0) ∧ Below (w.alloc o).heap.size (w.alloc o) w') := Lib.hid fun o => by
    have bA : Below w.heap.size w (w.alloc o) := bl_al (Below.refl _ _) _
    have := check_any 1 N C wl vl cl wa va ca wc vc cc (w.alloc o) (i1.keep bA) (i2.keep bA) (i3.keep bA) hlen.1 hlen.2.1 hlen.2.2
    rw [hz] at this
    exact this
  have N1 := Lib.hid (show ∀ W, Calls Tryd.prog 22 #[.int .i64 1] W fun e w' => e = .returned (.string ⟨#[75, 78, 65, 80, 83, 65, 67, 75]⟩) ∧ W = w' from fun W => name_any 1 W)
  obtain ⟨D, hD⟩ : ∃ D, sIt N = D := ⟨_, rfl⟩
  have hDl : D.data.toList = dg N := by rw [← hD, dg_sIt]
  have hDs : D.size ≤ 21 := by have := dg_len N (by omega); rw [← hDl] at this; simpa using this
  have D1 : Hid (∀ W, Tab W → Calls Tryd.prog 23 #[.int .i64 N] W fun e w' => e = .returned (.string D) ∧ Below W.heap.size W w') := Lib.hid fun W h => by have := write_any N W (by omega) (by omega) h; rw [hD] at this; exact this
  have HT := Lib.hid ht
  have I1 := Lib.hid i1
  have I2 := Lib.hid i2
  have I3 := Lib.hid i3
  have HF := Lib.hid hF
  have HD := Lib.hid hDl
  clear ht i1 i2 i3 hz hz2 hF hlen hD hDl
  go_enter Tryd.func9, Tryd.ntmps9
  go_wp2_with fail
  refine (C1.out _).mono ?_; rintro e w1 ⟨rfl, hb1⟩
  have S0 := Lib.hid (wt_start HT.out hb1)
  clear hb1 C1 HT
  go_wp2
  have S1 := Lib.hid S0.out.dr
  clear S0
  have K1 := Lib.hid S1.out.c01
  generalize hbb : w1.heap.size = bb at S1 K1 ⊢
  generalize hW2 : w1.alloc (.cells #[.pointer none, .slice none 0 0] 51) = W2 at S1 K1 ⊢
  clear hW2 hbb
  have hcat : ¬ 9223372036854775807 < 9 + D.size := by omega
  go_region_held3 (fun w' => w'.cell? ⟨w.heap.size, 0, none⟩ = some (.int .i64 1) ∧ w'.cell? ⟨w.heap.size, 1, none⟩ = some (.int .i64 N)) (first | exact K1.out | exact K2.out | exact K3.out)
    (first
      | (go_at_call 22; refine (N1.out _).mono ?_; rintro e w2 ⟨rfl, rfl⟩)
      | (go_at_call 23; refine (D1.out _ S1.out.tab).mono ?_; rintro e w3 ⟨rfl, hb⟩; have S2 := Lib.hid (S1.out.keep hb); have K2 := Lib.hid S2.out.c01; clear hb)
      | (go_at_call 21; refine (S2.out.puts _ (nameOf 1 ++ [32] ++ dg N) (by simp [HD.out]; rfl) (by rw [ByteArray.size_append, ByteArray.size_append]; show 0 + (8 + 1 + D.size) ≤ 100000; omega)).mono ?_; rintro e w4 ⟨rfl, S3u⟩; have S3 := Lib.hid S3u; clear S3u; have K3 := Lib.hid S3.out.c01))
  clear S1 S2 K1 K2 K3 D1 N1 hcat
  have hb4 : (nameOf 1 ++ [32] ++ dg N).length ≤ 40 := by
    have e : (dg N).length = D.size := by rw [← HD.out]; rfl
    rw [List.length_append, List.length_append, e]; show 8 + 1 + D.size ≤ 40; omega
  obtain ⟨hf1, hf2, hf3, hf4, hf5, hf6⟩ := HF.out
  obtain ⟨E, hE⟩ : ∃ E, sIt C = E := ⟨_, rfl⟩
  have hEl : E.data.toList = dg C := by rw [← hE, dg_sIt]
  have hEs : E.size ≤ 21 := by have := dg_len C (by omega); rw [← hEl] at this; simpa using this
  have E1 : Hid (∀ W, Tab W → Calls Tryd.prog 23 #[.int .i64 C] W fun e w' => e = .returned (.string E) ∧ Below W.heap.size W w') := Lib.hid fun W h => by have := write_any C W (by omega) (by omega) h; rw [hE] at this; exact this
  have HE := Lib.hid hEl
  have hel : (dg C).length = E.size := by rw [← hEl]; rfl
  obtain ⟨n, hn⟩ : ∃ n, wl.length = n := ⟨_, rfl⟩
  have hvn : vl.length = n := by omega
  have HL := Lib.hid (show wl.length = n ∧ vl.length = n ∧ (n : Int) = N ∧ cl.length = 0 ∧ n ≤ 64 by omega)
  have hn64 : n ≤ 64 := by omega
  clear hE hEl hf5 hf4 hf1 hf2
  rw [hn, hvn, hf3] at S3 ⊢
  clear hn hvn hf3
  obtain ⟨c0, c1, c2, c3, c4, c5⟩ := S3.out.cells
  go_upto_region 8 with fail
  have hcat : ¬ 9223372036854775807 < 1 + E.size := by omega
  go_wp2_with fail
  refine (E1.out _ S3.out.tab).mono ?_; rintro e w5 ⟨rfl, hb⟩
  have S4 := Lib.hid (S3.out.keep hb)
  clear hb S3 c0 c1 c2 c3 c4 c5 E1
  obtain ⟨c0, c1, c2, c3, c4, c5⟩ := S4.out.cells
  go_wp2_with fail
  refine (S4.out.puts _ (nameOf 1 ++ [32] ++ dg N ++ ([32] ++ dg C)) (by simp [HE.out]) (by rw [ByteArray.size_append]; show _ + (1 + E.size) ≤ 100000; omega)).mono ?_; rintro e w6 ⟨rfl, S5u⟩
  have S5 := Lib.hid S5u
  clear S5u S4 c0 c1 c2 c3 c4 c5 hcat
  have hb5 : (nameOf 1 ++ [32] ++ dg N ++ ([32] ++ dg C)).length ≤ 70 := by simp only [List.length_append, hel] at hb4 ⊢; simp only [List.length_cons, List.length_nil]; omega
  go_wp2_with fail
  refine (S5.out.puts _ (hd 1 N C) (by unfold hd; simp) (by show _ + 1 ≤ 100000; omega)).mono ?_; rintro e w7 ⟨rfl, S6u⟩
  have S6 := Lib.hid S6u
  have hh : (hd 1 N C).length ≤ 80 := by unfold hd; rw [if_pos rfl, List.length_append]; show _ + 1 ≤ 80; omega
  clear S6u S5 hb5 hb4 hel hEs hDs
  obtain ⟨c0, c1, c2, c3, c4, c5⟩ := S6.out.cells
  obtain ⟨H, hH⟩ : ∃ H, hd 1 N C = H := ⟨_, rfl⟩
  rw [hH] at S6 hh
  have HH := Lib.hid hH
  clear hH
  go_wp2
  clear c0 c1 c2 c3 c4 c5
  have S7 : Hid (Wt w w.heap.size bb _ (H ++ kt wl vl 0) _) := Lib.hid (by rw [kt_nil, List.append_nil]; exact S6.out)
  clear S6
  go_loopw [40] (fun i wr => ∃ k : Nat, k ≤ n ∧ i = .int .i64 k ∧ Hid (Wt w w.heap.size bb #[.int .i64 1, .int .i64 N, .int .i64 C, .slice wa n wc, .slice va n vc, .slice ca 0 cc] (H ++ kt wl vl k) wr)) (fun i _ => n - (intOf i).toNat)
  case atStart => exact ⟨0, by omega, rfl, S7⟩
  case round =>
    clear S7
    obtain ⟨k, hk, rfl, R⟩ := hrel
    obtain ⟨c0, c1, c2, c3, c4, c5⟩ := R.out.cells
    by_cases hlt : k < n
    · have h1 : (k : Int) < (n : Int) := by omega
      obtain ⟨b1, o1, rfl, hb1, d1⟩ := (I1.out.keep R.out.bel) k (by have := HL.out; omega)
      obtain ⟨b2, o2, rfl, hb2, d2⟩ := (I2.out.keep R.out.bel) k (by have := HL.out; omega)
      have hok := items_ok wl vl (by have := HL.out; omega) hf6 k (by have := HL.out; omega)
      unfold nth at hok
      have hkt := kt_len wl vl (by have := HL.out; omega) hf6 k (by have := HL.out; omega)
      have hks := kt_succ wl vl k
      obtain ⟨x, hx⟩ : ∃ x, wl[k]?.getD 0 = x := ⟨_, rfl⟩
      obtain ⟨y, hy⟩ : ∃ y, vl[k]?.getD 0 = y := ⟨_, rfl⟩
      rw [hx] at d1 hok hks
      rw [hy] at d2 hok hks
      have hdx := dg_len x hok.1
      have hdy := dg_len y hok.2
      have L2 := Lib.hid (line_pair x y hok.1 hok.2 wr.heap.size 2 (wr.alloc (.cells #[.int .i64 x, .int .i64 y] 3)) (R.out.keep (bl_al (Below.refl _ _) _)).tab (by simp) (cell_of_row _ _ 0 _ _ _ (heap_alloc_new wr _)) (cell_of_row _ _ 1 _ _ _ (heap_alloc_new wr _)))
      have HKS := Lib.hid hks
      have hacc : (H ++ kt wl vl k).length ≤ 80 + 50 * k := by rw [List.length_append]; omega
      clear hx hy hok hks hkt
      go_wp2_with fail
      refine L2.out.mono ?_; rintro e w8 ⟨rfl, hb⟩
      have R1 := Lib.hid ((R.out.keep (bl_al (Below.refl _ _) _)).keep hb)
      clear hb R L2 c0 c1 c2 c3 c4 c5 d1 d2
      go_wp2_with fail
      refine (R1.out.puts _ (H ++ kt wl vl (k + 1)) (by rw [HKS.out]; simp) (by show _ + (dg x ++ 32 :: (dg y ++ [10])).toArray.size ≤ 100000; simp only [List.size_toArray, List.length_append, List.length_cons, List.length_nil]; rw [List.length_append] at hacc; omega)).mono ?_; rintro e w9 ⟨rfl, R2u⟩
      have R2 := Lib.hid R2u
      clear R2u R1
      go_wp2
      go_roundw
      case rel => exact ⟨k + 1, by omega, by go_num, R2⟩
      case measure => simp [intOf]; omega
    · have h1 : ¬ (k : Int) < (n : Int) := by omega
      obtain rfl : k = n := by omega
      have HE2 := Lib.hid (show H ++ kt wl vl k = wtx 1 N C wl vl cl by unfold wtx; rw [if_pos rfl, HH.out, HL.out.1])
      generalize H ++ kt wl vl k = TT at *
      go_wp2
      clear c0 c1 c2 c3 c4 c5
      go_loopw [58] (fun i wr => i = .int .i64 0 ∧ Hid (Wt w w.heap.size bb #[.int .i64 1, .int .i64 N, .int .i64 C, .slice wa k wc, .slice va k vc, .slice ca 0 cc] TT wr)) (fun _ _ => 0)
      case atStart => exact ⟨rfl, R⟩
      case round =>
        clear R
        obtain ⟨rfl, R⟩ := hrel
        go_wp2_with fail
        refine (Tryd.Builder_String_any_k bb bb TT _ R.out.bld (Nat.le_of_lt R.out.hB)).mono ?_; rintro e w9 ⟨rfl, _, hb, _⟩
        have hf : Below w.heap.size w w9 := R.out.bel.trans (hb.mono R.out.hw)
        clear hb
        go_wp2
        go_ret2
        exact ⟨by rw [HE2.out]; rfl, hf⟩
end Go.Proofs.YtjlaankgfpjeeaaDoor.ip

/-
  What inst.Write answers of every problem in form of kind 2: the walk.
-/
namespace Go.Proofs.YtjlaankgfpjeeaaDoor.ip
open Go.RowKit
set_option linter.unusedVariables false
set_option maxRecDepth 100000 in
set_option maxHeartbeats 4000000 in
theorem write2 (N C : Int) (wl vl : List Int) (cl : List (List Int)) (wa va ca : Option Addr) (wc vc cc : Nat) (w : World) (ht : Tab w) (i1 : Ints w wa wl) (i2 : Ints w va vl) (i3 : Rws w ca cl) (hz : chk 2 N C wl vl cl = 0) :
    Calls Tryd.prog 9 #[.agg #[.int .i64 2, .int .i64 N, .int .i64 C, .slice wa wl.length wc, .slice va vl.length vc, .slice ca cl.length cc]] w fun e w' => e = .returned (.tuple #[.string ⟨(wtx 2 N C wl vl cl).toArray⟩, .int .i64 0]) ∧ Below w.heap.size w w' := by
  obtain ⟨hN1, hz2⟩ := chk_zero hz
  have hF : (cl.length : Int) = N ∧ wl.length = 0 ∧ vl.length = 0 ∧ N ≤ 24 ∧ rowsP cl ∧ costE 2 0 cl = 0 := by 
    rcases hz2 with h | h
    · omega
    · exact ⟨h.2.2.1, h.2.2.2.2.1, h.2.2.2.2.2.1, h.2.1, h.2.2.2.2.2.2.1, h.2.2.2.2.2.2.2⟩
  have hbd : 1 ≤ N ∧ N ≤ 64 := by omega
  have hlen : wl.length ≤ 1000 ∧ vl.length ≤ 1000 ∧ cl.length ≤ 1000 := by omega
  have C1 : Hid (∀ o, Calls Tryd.prog 13 #[.agg #[.int .i64 2, .int .i64 N, .int .i64 C, .slice wa wl.length wc, .slice va vl.length vc, .slice ca cl.length cc]] (w.alloc o) fun e w' => e = .returned (.int .i64 0) ∧ Below (w.alloc o).heap.size (w.alloc o) w') := Lib.hid fun o => by
    have bA : Below w.heap.size w (w.alloc o) := bl_al (Below.refl _ _) _
    have := check_any 2 N C wl vl cl wa va ca wc vc cc (w.alloc o) (i1.keep bA) (i2.keep bA) (i3.keep bA) hlen.1 hlen.2.1 hlen.2.2
    rw [hz] at this
    exact this
  have N1 := Lib.hid (show ∀ W, Calls Tryd.prog 22 #[.int .i64 2] W fun e w' => e = .returned (.string ⟨#[65, 83, 83, 73, 71, 78, 77, 69, 78, 84]⟩) ∧ W = w' from fun W => name_any 2 W)
  obtain ⟨D, hD⟩ : ∃ D, sIt N = D := ⟨_, rfl⟩
  have hDl : D.data.toList = dg N := by rw [← hD, dg_sIt]
  have hDs : D.size ≤ 21 := by have := dg_len N (by omega); rw [← hDl] at this; simpa using this
  have D1 : Hid (∀ W, Tab W → Calls Tryd.prog 23 #[.int .i64 N] W fun e w' => e = .returned (.string D) ∧ Below W.heap.size W w') := Lib.hid fun W h => by have := write_any N W (by omega) (by omega) h; rw [hD] at this; exact this
  have HT := Lib.hid ht
  have I1 := Lib.hid i1
  have I2 := Lib.hid i2
  have I3 := Lib.hid i3
  have HF := Lib.hid hF
  have HD := Lib.hid hDl
  clear ht i1 i2 i3 hz hz2 hF hlen hD hDl
  go_enter Tryd.func9, Tryd.ntmps9
  go_wp2_with fail
  refine (C1.out _).mono ?_; rintro e w1 ⟨rfl, hb1⟩
  have S0 := Lib.hid (wt_start HT.out hb1)
  clear hb1 C1 HT
  go_wp2
  have S1 := Lib.hid S0.out.dr
  clear S0
  have K1 := Lib.hid S1.out.c01
  generalize hbb : w1.heap.size = bb at S1 K1 ⊢
  generalize hW2 : w1.alloc (.cells #[.pointer none, .slice none 0 0] 51) = W2 at S1 K1 ⊢
  clear hW2 hbb
  have hcat : ¬ 9223372036854775807 < 11 + D.size := by omega
  go_region_held3 (fun w' => w'.cell? ⟨w.heap.size, 0, none⟩ = some (.int .i64 2) ∧ w'.cell? ⟨w.heap.size, 1, none⟩ = some (.int .i64 N)) (first | exact K1.out | exact K2.out | exact K3.out)
    (first
      | (go_at_call 22; refine (N1.out _).mono ?_; rintro e w2 ⟨rfl, rfl⟩)
      | (go_at_call 23; refine (D1.out _ S1.out.tab).mono ?_; rintro e w3 ⟨rfl, hb⟩; have S2 := Lib.hid (S1.out.keep hb); have K2 := Lib.hid S2.out.c01; clear hb)
      | (go_at_call 21; refine (S2.out.puts _ (nameOf 2 ++ [32] ++ dg N) (by simp [HD.out]; rfl) (by rw [ByteArray.size_append, ByteArray.size_append]; show 0 + (10 + 1 + D.size) ≤ 100000; omega)).mono ?_; rintro e w4 ⟨rfl, S3u⟩; have S3 := Lib.hid S3u; clear S3u; have K3 := Lib.hid S3.out.c01))
  clear S1 S2 K1 K2 K3 D1 N1 hcat
  have hb4 : (nameOf 2 ++ [32] ++ dg N).length ≤ 40 := by
    have e : (dg N).length = D.size := by rw [← HD.out]; rfl
    rw [List.length_append, List.length_append, e]; show 10 + 1 + D.size ≤ 40; omega
  obtain ⟨hf1, hf2, hf3, hf4, hf5, hf6⟩ := HF.out
  obtain ⟨n, hn⟩ : ∃ n, cl.length = n := ⟨_, rfl⟩
  have HL := Lib.hid (show cl.length = n ∧ (n : Int) = N ∧ wl.length = 0 ∧ vl.length = 0 ∧ n ≤ 24 by omega)
  have hn24 : n ≤ 24 := by omega
  rw [hn, hf2, hf3] at S3 ⊢
  clear hn hf1 hf2 hf3 hf4
  obtain ⟨c0, c1, c2, c3, c4, c5⟩ := S3.out.cells
  have hb5 : (nameOf 2 ++ [32] ++ dg N).length ≤ 70 := by omega
  have S5 := S3
  clear S3
  go_wp2_with fail
  refine (S5.out.puts _ (hd 2 N C) (by unfold hd; simp) (by show _ + 1 ≤ 100000; omega)).mono ?_; rintro e w7 ⟨rfl, S6u⟩
  have S6 := Lib.hid S6u
  have hh : (hd 2 N C).length ≤ 80 := by unfold hd; simp only [List.length_append] at hb4 ⊢; simp only [List.length_cons, List.length_nil] at hb4 ⊢; simp; omega
  clear S6u S5 hb5 hb4 hDs
  obtain ⟨c0, c1, c2, c3, c4, c5⟩ := S6.out.cells
  obtain ⟨H, hH⟩ : ∃ H, hd 2 N C = H := ⟨_, rfl⟩
  rw [hH] at S6 hh
  have HH := Lib.hid hH
  clear hH
  go_wp2
  clear c0 c1 c2 c3 c4 c5
  have S7 : Hid (Wt w w.heap.size bb _ (H ++ rt cl 0) _) := Lib.hid (by rw [rt_nil, List.append_nil]; exact S6.out)
  clear S6
  go_loopw [40] (fun i wr => i = .int .i64 0 ∧ Hid (Wt w w.heap.size bb #[.int .i64 2, .int .i64 N, .int .i64 C, .slice wa 0 wc, .slice va 0 vc, .slice ca n cc] (H ++ rt cl 0) wr)) (fun _ _ => 0)
  case atStart => exact ⟨rfl, S7⟩
  case round =>
    clear S7
    obtain ⟨rfl, R0⟩ := hrel
    obtain ⟨c0, c1, c2, c3, c4, c5⟩ := R0.out.cells
    go_wp2
    clear c0 c1 c2 c3 c4 c5
    go_loopw [58] (fun i wr => ∃ k : Nat, k ≤ n ∧ i = .int .i64 k ∧ Hid (Wt w w.heap.size bb #[.int .i64 2, .int .i64 N, .int .i64 C, .slice wa 0 wc, .slice va 0 vc, .slice ca n cc] (H ++ rt cl k) wr)) (fun i _ => n - (intOf i).toNat)
    case atStart => exact ⟨0, by omega, rfl, R0⟩
    case round =>
      clear R0
      obtain ⟨k, hk, rfl, R⟩ := hrel
      obtain ⟨c0, c1, c2, c3, c4, c5⟩ := R.out.cells
      by_cases hlt : k < n
      · have h1 : (k : Int) < (n : Int) := by omega
        obtain ⟨b, o, aj, cj, rfl, hb, d1, hi, hl⟩ := (I3.out.keep R.out.bel) k (by have := HL.out; omega)
        have hrn := hf5 k (by have := HL.out; omega)
        rw [HL.out.1] at hrn
        have hrw := row_ok 2 _ _ 0 (cost_ok 2 cl 0 hf6 k (by have := HL.out; omega))
        have hrt := rt_len 2 cl hf5 hf6 (by have := HL.out; omega) k (by have := HL.out; omega)
        have hrs := rt_succ cl k
        obtain ⟨row, hrow⟩ : ∃ row, cl[k]?.getD [] = row := ⟨_, rfl⟩
        rw [hrow] at d1 hi hl hrn hrw hrs
        obtain ⟨b', o', rfl, hb', -⟩ := hi 0 (by omega)
        have hcells : ∀ j, j < row.length → wr.cell? ⟨b', o' + j, none⟩ = some (.int .i64 (row[j]?.getD 0)) := fun j hj => by
          obtain ⟨b2, o2, e2, _, h2⟩ := hi j hj
          injection e2 with e2; injection e2 with e2 e3; subst e2 e3; exact h2
        have LL := Lib.hid (line_any b' o' cj row (by omega) (by omega) wr R.out.tab hb' (fun j hj => (hrw j hj).1) hcells)
        have hlk := lnk_len row (fun j hj => (hrw j hj).1) _ (Nat.le_refl _)
        have HKS := Lib.hid hrs
        have hacc : (H ++ rt cl k).length ≤ 80 + 600 * k := by rw [List.length_append]; omega
        rw [hrn] at d1 LL HKS hlk
        clear hrow hrs hrt hcells hi hl hrw
        go_wp2_with fail
        refine LL.out.mono ?_; rintro e w8 ⟨rfl, hb⟩
        have R1 := Lib.hid (R.out.keep hb)
        clear hb R LL c0 c1 c2 c3 c4 c5 d1
        go_wp2_with fail
        refine (R1.out.puts _ (H ++ rt cl (k + 1)) (by rw [HKS.out]; simp) (by show _ + (lnk row n ++ [10]).toArray.size ≤ 100000; simp only [List.size_toArray, List.length_append, List.length_cons, List.length_nil] at hacc ⊢; omega)).mono ?_; rintro e w9 ⟨rfl, R2u⟩
        have R2 := Lib.hid R2u
        clear R2u R1
        go_wp2
        go_roundw
        case rel => exact ⟨k + 1, by omega, by go_num, R2⟩
        case measure => simp [intOf]; omega
      · have h1 : ¬ (k : Int) < (n : Int) := by omega
        obtain rfl : k = n := by omega
        have HE2 := Lib.hid (show H ++ rt cl k = wtx 2 N C wl vl cl by unfold wtx; rw [if_neg (by omega), HH.out, HL.out.1])
        generalize H ++ rt cl k = TT at *
        go_wp2_with fail
        refine (Tryd.Builder_String_any_k bb bb TT _ R.out.bld (Nat.le_of_lt R.out.hB)).mono ?_; rintro e w9 ⟨rfl, _, hb, _⟩
        have hf : Below w.heap.size w w9 := R.out.bel.trans (hb.mono R.out.hw)
        clear hb
        go_wp2
        go_ret2
        exact ⟨by rw [HE2.out]; rfl, hf⟩
end Go.Proofs.YtjlaankgfpjeeaaDoor.ip

/-
  What inst.Write answers of every problem in form of kind 3: the walk.
-/
namespace Go.Proofs.YtjlaankgfpjeeaaDoor.ip
open Go.RowKit
set_option linter.unusedVariables false
set_option maxRecDepth 100000 in
set_option maxHeartbeats 4000000 in
theorem write3 (N C : Int) (wl vl : List Int) (cl : List (List Int)) (wa va ca : Option Addr) (wc vc cc : Nat) (w : World) (ht : Tab w) (i1 : Ints w wa wl) (i2 : Ints w va vl) (i3 : Rws w ca cl) (hz : chk 3 N C wl vl cl = 0) :
    Calls Tryd.prog 9 #[.agg #[.int .i64 3, .int .i64 N, .int .i64 C, .slice wa wl.length wc, .slice va vl.length vc, .slice ca cl.length cc]] w fun e w' => e = .returned (.tuple #[.string ⟨(wtx 3 N C wl vl cl).toArray⟩, .int .i64 0]) ∧ Below w.heap.size w w' := by
  obtain ⟨hN1, hz2⟩ := chk_zero hz
  have hF : (cl.length : Int) = N ∧ wl.length = 0 ∧ vl.length = 0 ∧ N ≤ 24 ∧ rowsP cl ∧ costE 3 0 cl = 0 := by 
    rcases hz2 with h | h
    · omega
    · exact ⟨h.2.2.1, h.2.2.2.2.1, h.2.2.2.2.2.1, h.2.1, h.2.2.2.2.2.2.1, h.2.2.2.2.2.2.2⟩
  have hbd : 1 ≤ N ∧ N ≤ 64 := by omega
  have hlen : wl.length ≤ 1000 ∧ vl.length ≤ 1000 ∧ cl.length ≤ 1000 := by omega
  have C1 : Hid (∀ o, Calls Tryd.prog 13 #[.agg #[.int .i64 3, .int .i64 N, .int .i64 C, .slice wa wl.length wc, .slice va vl.length vc, .slice ca cl.length cc]] (w.alloc o) fun e w' => e = .returned (.int .i64 0) ∧ Below (w.alloc o).heap.size (w.alloc o) w') := Lib.hid fun o => by
    have bA : Below w.heap.size w (w.alloc o) := bl_al (Below.refl _ _) _
    have := check_any 3 N C wl vl cl wa va ca wc vc cc (w.alloc o) (i1.keep bA) (i2.keep bA) (i3.keep bA) hlen.1 hlen.2.1 hlen.2.2
    rw [hz] at this
    exact this
  have N1 := Lib.hid (show ∀ W, Calls Tryd.prog 22 #[.int .i64 3] W fun e w' => e = .returned (.string ⟨#[84, 83, 80]⟩) ∧ W = w' from fun W => name_any 3 W)
  obtain ⟨D, hD⟩ : ∃ D, sIt N = D := ⟨_, rfl⟩
  have hDl : D.data.toList = dg N := by rw [← hD, dg_sIt]
  have hDs : D.size ≤ 21 := by have := dg_len N (by omega); rw [← hDl] at this; simpa using this
  have D1 : Hid (∀ W, Tab W → Calls Tryd.prog 23 #[.int .i64 N] W fun e w' => e = .returned (.string D) ∧ Below W.heap.size W w') := Lib.hid fun W h => by have := write_any N W (by omega) (by omega) h; rw [hD] at this; exact this
  have HT := Lib.hid ht
  have I1 := Lib.hid i1
  have I2 := Lib.hid i2
  have I3 := Lib.hid i3
  have HF := Lib.hid hF
  have HD := Lib.hid hDl
  clear ht i1 i2 i3 hz hz2 hF hlen hD hDl
  go_enter Tryd.func9, Tryd.ntmps9
  go_wp2_with fail
  refine (C1.out _).mono ?_; rintro e w1 ⟨rfl, hb1⟩
  have S0 := Lib.hid (wt_start HT.out hb1)
  clear hb1 C1 HT
  go_wp2
  have S1 := Lib.hid S0.out.dr
  clear S0
  have K1 := Lib.hid S1.out.c01
  generalize hbb : w1.heap.size = bb at S1 K1 ⊢
  generalize hW2 : w1.alloc (.cells #[.pointer none, .slice none 0 0] 51) = W2 at S1 K1 ⊢
  clear hW2 hbb
  have hcat : ¬ 9223372036854775807 < 4 + D.size := by omega
  go_region_held3 (fun w' => w'.cell? ⟨w.heap.size, 0, none⟩ = some (.int .i64 3) ∧ w'.cell? ⟨w.heap.size, 1, none⟩ = some (.int .i64 N)) (first | exact K1.out | exact K2.out | exact K3.out)
    (first
      | (go_at_call 22; refine (N1.out _).mono ?_; rintro e w2 ⟨rfl, rfl⟩)
      | (go_at_call 23; refine (D1.out _ S1.out.tab).mono ?_; rintro e w3 ⟨rfl, hb⟩; have S2 := Lib.hid (S1.out.keep hb); have K2 := Lib.hid S2.out.c01; clear hb)
      | (go_at_call 21; refine (S2.out.puts _ (nameOf 3 ++ [32] ++ dg N) (by simp [HD.out]; rfl) (by rw [ByteArray.size_append, ByteArray.size_append]; show 0 + (3 + 1 + D.size) ≤ 100000; omega)).mono ?_; rintro e w4 ⟨rfl, S3u⟩; have S3 := Lib.hid S3u; clear S3u; have K3 := Lib.hid S3.out.c01))
  clear S1 S2 K1 K2 K3 D1 N1 hcat
  have hb4 : (nameOf 3 ++ [32] ++ dg N).length ≤ 40 := by
    have e : (dg N).length = D.size := by rw [← HD.out]; rfl
    rw [List.length_append, List.length_append, e]; show 3 + 1 + D.size ≤ 40; omega
  obtain ⟨hf1, hf2, hf3, hf4, hf5, hf6⟩ := HF.out
  obtain ⟨n, hn⟩ : ∃ n, cl.length = n := ⟨_, rfl⟩
  have HL := Lib.hid (show cl.length = n ∧ (n : Int) = N ∧ wl.length = 0 ∧ vl.length = 0 ∧ n ≤ 24 by omega)
  have hn24 : n ≤ 24 := by omega
  rw [hn, hf2, hf3] at S3 ⊢
  clear hn hf1 hf2 hf3 hf4
  obtain ⟨c0, c1, c2, c3, c4, c5⟩ := S3.out.cells
  have hb5 : (nameOf 3 ++ [32] ++ dg N ++ [32, 70, 85, 76, 76]).length ≤ 70 := by simp only [List.length_append] at hb4 ⊢; simp only [List.length_cons, List.length_nil] at hb4 ⊢; omega
  go_wp2_with fail
  refine (S3.out.puts _ (nameOf 3 ++ [32] ++ dg N ++ [32, 70, 85, 76, 76]) (by simp) (by show _ + 5 ≤ 100000; omega)).mono ?_; rintro e w6 ⟨rfl, S5u⟩
  have S5 := Lib.hid S5u
  clear S5u S3 c0 c1 c2 c3 c4 c5
  go_wp2_with fail
  refine (S5.out.puts _ (hd 3 N C) (by unfold hd; simp) (by show _ + 1 ≤ 100000; omega)).mono ?_; rintro e w7 ⟨rfl, S6u⟩
  have S6 := Lib.hid S6u
  have hh : (hd 3 N C).length ≤ 80 := by unfold hd; simp only [List.length_append] at hb4 ⊢; simp only [List.length_cons, List.length_nil] at hb4 ⊢; simp; omega
  clear S6u S5 hb5 hb4 hDs
  obtain ⟨c0, c1, c2, c3, c4, c5⟩ := S6.out.cells
  obtain ⟨H, hH⟩ : ∃ H, hd 3 N C = H := ⟨_, rfl⟩
  rw [hH] at S6 hh
  have HH := Lib.hid hH
  clear hH
  go_wp2
  clear c0 c1 c2 c3 c4 c5
  have S7 : Hid (Wt w w.heap.size bb _ (H ++ rt cl 0) _) := Lib.hid (by rw [rt_nil, List.append_nil]; exact S6.out)
  clear S6
  go_loopw [40] (fun i wr => i = .int .i64 0 ∧ Hid (Wt w w.heap.size bb #[.int .i64 3, .int .i64 N, .int .i64 C, .slice wa 0 wc, .slice va 0 vc, .slice ca n cc] (H ++ rt cl 0) wr)) (fun _ _ => 0)
  case atStart => exact ⟨rfl, S7⟩
  case round =>
    clear S7
    obtain ⟨rfl, R0⟩ := hrel
    obtain ⟨c0, c1, c2, c3, c4, c5⟩ := R0.out.cells
    go_wp2
    clear c0 c1 c2 c3 c4 c5
    go_loopw [58] (fun i wr => ∃ k : Nat, k ≤ n ∧ i = .int .i64 k ∧ Hid (Wt w w.heap.size bb #[.int .i64 3, .int .i64 N, .int .i64 C, .slice wa 0 wc, .slice va 0 vc, .slice ca n cc] (H ++ rt cl k) wr)) (fun i _ => n - (intOf i).toNat)
    case atStart => exact ⟨0, by omega, rfl, R0⟩
    case round =>
      clear R0
      obtain ⟨k, hk, rfl, R⟩ := hrel
      obtain ⟨c0, c1, c2, c3, c4, c5⟩ := R.out.cells
      by_cases hlt : k < n
      · have h1 : (k : Int) < (n : Int) := by omega
        obtain ⟨b, o, aj, cj, rfl, hb, d1, hi, hl⟩ := (I3.out.keep R.out.bel) k (by have := HL.out; omega)
        have hrn := hf5 k (by have := HL.out; omega)
        rw [HL.out.1] at hrn
        have hrw := row_ok 3 _ _ 0 (cost_ok 3 cl 0 hf6 k (by have := HL.out; omega))
        have hrt := rt_len 3 cl hf5 hf6 (by have := HL.out; omega) k (by have := HL.out; omega)
        have hrs := rt_succ cl k
        obtain ⟨row, hrow⟩ : ∃ row, cl[k]?.getD [] = row := ⟨_, rfl⟩
        rw [hrow] at d1 hi hl hrn hrw hrs
        obtain ⟨b', o', rfl, hb', -⟩ := hi 0 (by omega)
        have hcells : ∀ j, j < row.length → wr.cell? ⟨b', o' + j, none⟩ = some (.int .i64 (row[j]?.getD 0)) := fun j hj => by
          obtain ⟨b2, o2, e2, _, h2⟩ := hi j hj
          injection e2 with e2; injection e2 with e2 e3; subst e2 e3; exact h2
        have LL := Lib.hid (line_any b' o' cj row (by omega) (by omega) wr R.out.tab hb' (fun j hj => (hrw j hj).1) hcells)
        have hlk := lnk_len row (fun j hj => (hrw j hj).1) _ (Nat.le_refl _)
        have HKS := Lib.hid hrs
        have hacc : (H ++ rt cl k).length ≤ 80 + 600 * k := by rw [List.length_append]; omega
        rw [hrn] at d1 LL HKS hlk
        clear hrow hrs hrt hcells hi hl hrw
        go_wp2_with fail
        refine LL.out.mono ?_; rintro e w8 ⟨rfl, hb⟩
        have R1 := Lib.hid (R.out.keep hb)
        clear hb R LL c0 c1 c2 c3 c4 c5 d1
        go_wp2_with fail
        refine (R1.out.puts _ (H ++ rt cl (k + 1)) (by rw [HKS.out]; simp) (by show _ + (lnk row n ++ [10]).toArray.size ≤ 100000; simp only [List.size_toArray, List.length_append, List.length_cons, List.length_nil] at hacc ⊢; omega)).mono ?_; rintro e w9 ⟨rfl, R2u⟩
        have R2 := Lib.hid R2u
        clear R2u R1
        go_wp2
        go_roundw
        case rel => exact ⟨k + 1, by omega, by go_num, R2⟩
        case measure => simp [intOf]; omega
      · have h1 : ¬ (k : Int) < (n : Int) := by omega
        obtain rfl : k = n := by omega
        have HE2 := Lib.hid (show H ++ rt cl k = wtx 3 N C wl vl cl by unfold wtx; rw [if_neg (by omega), HH.out, HL.out.1])
        generalize H ++ rt cl k = TT at *
        go_wp2_with fail
        refine (Tryd.Builder_String_any_k bb bb TT _ R.out.bld (Nat.le_of_lt R.out.hB)).mono ?_; rintro e w9 ⟨rfl, _, hb, _⟩
        have hf : Below w.heap.size w w9 := R.out.bel.trans (hb.mono R.out.hw)
        clear hb
        go_wp2
        go_ret2
        exact ⟨by rw [HE2.out]; rfl, hf⟩
end Go.Proofs.YtjlaankgfpjeeaaDoor.ip

/-
  inst.Write and the reference's Write answer alike, whatever the problem.
-/
namespace Go.Proofs.YtjlaankgfpjeeaaDoor.ip
open Go.RowKit
set_option linter.unusedVariables false
def WPost (t : ByteArray) (er : Int) (w : World) (e : Ending) (w' : World) : Prop := e = .returned (.tuple #[.string t, .int .i64 er]) ∧ Below w.heap.size w w'
set_option maxRecDepth 100000 in
theorem write_bad (K N C : Int) (wl vl : List Int) (cl : List (List Int)) (wa va ca : Option Addr) (wc vc cc : Nat) (er : Int) (hz : chk K N C wl vl cl = er) (he : er ≠ 0) (l1 : wl.length ≤ 1000) (l2 : vl.length ≤ 1000) (l3 : cl.length ≤ 1000) (w : World) (i1 : Ints w wa wl) (i2 : Ints w va vl) (i3 : Rws w ca cl) :
    Calls Tryd.prog 9 #[.agg #[.int .i64 K, .int .i64 N, .int .i64 C, .slice wa wl.length wc, .slice va vl.length vc, .slice ca cl.length cc]] w (WPost ⟨#[]⟩ er w) := by
  have hb : ((er : Int) != 0) = true := by simpa using he
  have bA : ∀ o, Below w.heap.size w (w.alloc o) := fun o => bl_al (Below.refl _ _) _
  have C1 : Hid (∀ o, Calls Tryd.prog 13 #[.agg #[.int .i64 K, .int .i64 N, .int .i64 C, .slice wa wl.length wc, .slice va vl.length vc, .slice ca cl.length cc]] (w.alloc o) fun e w' => e = .returned (.int .i64 er) ∧ Below (w.alloc o).heap.size (w.alloc o) w') := Lib.hid fun o => by
    have := check_any K N C wl vl cl wa va ca wc vc cc (w.alloc o) (i1.keep (bA o)) (i2.keep (bA o)) (i3.keep (bA o)) l1 l2 l3
    rw [hz] at this; exact this
  have BA := Lib.hid bA
  clear i1 i2 i3 hz bA he
  go_enter Tryd.func9, Tryd.ntmps9
  go_wp2_with fail
  refine (C1.out _).mono ?_; rintro e w1 ⟨rfl, hb1⟩
  have HB := Lib.hid (bl_tr (BA.out _) hb1)
  clear hb1
  go_wp2
  go_ret2
  exact ⟨rfl, HB.out⟩
end Go.Proofs.YtjlaankgfpjeeaaDoor.ip
