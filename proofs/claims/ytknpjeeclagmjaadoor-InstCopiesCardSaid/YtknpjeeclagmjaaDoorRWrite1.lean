/-
  What the reference's Write answers of every problem in form of kind 1: the walk.
-/
import Derived.Test.YtknpjeeclagmjaaDoorWSt
import Derived.Test.YtknpjeeclagmjaaDoorRefW
import Derived.Test.YtknpjeeclagmjaaDoorChecksW
import Derived.Deep.Cut
namespace Go.Proofs.YtknpjeeclagmjaaDoor
open Go.RowKit
set_option linter.unusedVariables false
theorem rw_any1 (n : Int) (W : World) (h0 : -9223372036854775808 ≤ n) (h1 : n ≤ 9223372036854775807) : Calls Tryd.prog 28 #[.int .i64 n] W fun e w' => e = .returned (.string (sIt n)) ∧ Below W.heap.size W w' := by
  rw [sIt_eq]; exact refwrite_any n h0 h1 W
set_option maxRecDepth 100000 in
set_option maxHeartbeats 4000000 in
theorem rwrite1 (N C : Int) (wl vl : List Int) (cl : List (List Int)) (wa va ca : Option Addr) (wc vc cc : Nat) (w : World) (i1 : Ints w wa wl) (i2 : Ints w va vl) (i3 : Rws w ca cl) (hz : chk 1 N C wl vl cl = 0) :
    Calls Tryd.prog 13 #[.agg #[.int .i64 1, .int .i64 N, .int .i64 C, .slice wa wl.length wc, .slice va vl.length vc, .slice ca cl.length cc]] w fun e w' => e = .returned (.tuple #[.string ⟨(wtx 1 N C wl vl cl).toArray⟩, .int .i64 0]) ∧ Below w.heap.size w w' := by
  obtain ⟨hN1, hz2⟩ := chk_zero hz
  have hF : (wl.length : Int) = N ∧ (vl.length : Int) = N ∧ cl.length = 0 ∧ N ≤ 64 ∧ (0 ≤ C ∧ C ≤ 2147483647) ∧ itemsE wl vl = 0 := by 
    rcases hz2 with h | h
    · exact ⟨h.2.2.1, h.2.2.2.1, h.2.2.2.2.1, h.2.1, h.2.2.2.2.2.1, h.2.2.2.2.2.2⟩
    · omega
  have hbd : 1 ≤ N ∧ N ≤ 64 := by omega
  have hlen : wl.length ≤ 1000 ∧ vl.length ≤ 1000 ∧ cl.length ≤ 1000 := by omega
  have C1 : Hid (∀ o, Calls Tryd.prog 11 #[.agg #[.int .i64 1, .int .i64 N, .int .i64 C, .slice wa wl.length wc, .slice va vl.length vc, .slice ca cl.length cc]] (w.alloc o) fun e w' => e = .returned (.int .i64 0) ∧ Below (w.alloc o).heap.size (w.alloc o) w') := Lib.hid fun o => by
    have bA : Below w.heap.size w (w.alloc o) := bl_al (Below.refl _ _) _
    have := ref_any 1 N C wl vl cl wa va ca wc vc cc (w.alloc o) (i1.keep bA) (i2.keep bA) (i3.keep bA) hlen.1 hlen.2.1 hlen.2.2
    rw [hz] at this
    exact this
  obtain ⟨D, hD⟩ : ∃ D, sIt N = D := ⟨_, rfl⟩
  have hDl : D.data.toList = dg N := by rw [← hD, dg_sIt]
  have hDs : D.size ≤ 21 := by have := dg_len N (by omega); rw [← hDl] at this; simpa using this
  have D1 : Hid (∀ W, Calls Tryd.prog 28 #[.int .i64 N] W fun e w' => e = .returned (.string D) ∧ Below W.heap.size W w') := Lib.hid fun W => by have := rw_any1 N W (by omega) (by omega); rw [hD] at this; exact this
  have I1 := Lib.hid i1
  have I2 := Lib.hid i2
  have I3 := Lib.hid i3
  have HF := Lib.hid hF
  have HD := Lib.hid hDl
  obtain ⟨E, hE⟩ : ∃ E, sIt C = E := ⟨_, rfl⟩
  have hEl : E.data.toList = dg C := by rw [← hE, dg_sIt]
  have hEs : E.size ≤ 21 := by have := dg_len C (by omega); rw [← hEl] at this; simpa using this
  have E1 : Hid (∀ W, Calls Tryd.prog 28 #[.int .i64 C] W fun e w' => e = .returned (.string E) ∧ Below W.heap.size W w') := Lib.hid fun W => by have := rw_any1 C W (by omega) (by omega); rw [hE] at this; exact this
  have HE := Lib.hid hEl
  clear hE hEl
  clear i1 i2 i3 hz hz2 hF hlen hD hDl
  go_enter Tryd.func13, Tryd.ntmps13
  go_wp2_with fail
  refine (C1.out _).mono ?_; rintro e w1 ⟨rfl, hb1⟩
  have hs1 := hb1.size
  simp at hs1
  have q0 := Lib.hid ((hb1.block _ (by simp)).trans (heap_alloc_new w (.cells #[.int .i64 1, .int .i64 N, .int .i64 C, .slice wa wl.length wc, .slice va vl.length vc, .slice ca cl.length cc] 25)))
  have B0 := Lib.hid (bl_tr (bl_al (Below.refl _ _) _) hb1)
  clear hb1 C1
  obtain ⟨c0, c1, c2, c3, c4, c5⟩ := box6 q0.out
  go_wp2_with fail
  refine (D1.out _).mono ?_; rintro e w2 ⟨rfl, hb2⟩
  have q1 := Lib.hid ((hb2.block _ (lt_hp q0.out)).trans q0.out)
  have B1 := Lib.hid (bl_tr B0.out hb2)
  clear hb2 q0 B0 D1 c0 c1 c2 c3 c4 c5
  obtain ⟨c0, c1, c2, c3, c4, c5⟩ := box6 q1.out
  have hcat1 : ¬ 9223372036854775807 < 9 + D.size := by omega
  have hcat2 : ¬ 9223372036854775807 < 9 + D.size + 1 := by omega
  have hcat3 : ¬ 9223372036854775807 < 9 + D.size + 1 + E.size := by omega
  have hcat4 : ¬ 9223372036854775807 < 9 + D.size + 1 + E.size + 1 := by omega
  go_wp2_with fail
  refine (E1.out _).mono ?_; rintro e w3 ⟨rfl, hb3⟩
  have q2 := Lib.hid ((hb3.block _ (lt_hp q1.out)).trans q1.out)
  have B2 := Lib.hid (bl_tr B1.out hb3)
  clear hb3 q1 B1 E1 c0 c1 c2 c3 c4 c5
  go_upto_region 7 with fail
  clear hcat1 hcat2 hcat3 hcat4
  obtain ⟨S0, hS0⟩ : ∃ S, (⟨#[75, 78, 65, 80, 83, 65, 67, 75, 32]⟩ : ByteArray) ++ D ++ ⟨#[32]⟩ ++ E ++ ⟨#[10]⟩ = S := ⟨_, rfl⟩
  have hS1 : S0.data.toList = hd 1 N C := by rw [← hS0]; simp [hd, nameOf, HD.out, HE.out]
  rw [hS0]
  clear hS0
  obtain ⟨hf1, hf2, hf3, hf4, hf5, hf6⟩ := HF.out
  obtain ⟨H, hH⟩ : ∃ H, hd 1 N C = H := ⟨_, rfl⟩
  rw [hH] at hS1
  have HH := Lib.hid hH
  have hh : H.length ≤ 80 := by
    rw [← hH]; unfold hd; rw [if_pos rfl, ← HD.out, ← HE.out]
    simp only [List.length_append, List.length_cons, List.length_nil, Array.length_toList, nameOf, if_pos]
    show 8 + 1 + D.size + (1 + E.size) + 1 ≤ 80
    omega
  obtain ⟨n, hn⟩ : ∃ n, wl.length = n := ⟨_, rfl⟩
  have hvn : vl.length = n := by omega
  have HL := Lib.hid (show wl.length = n ∧ vl.length = n ∧ (n : Int) = N ∧ cl.length = 0 ∧ n ≤ 64 by omega)
  have hn64 : n ≤ 64 := by omega
  rw [hn, hvn, hf3] at q2 ⊢
  have HS0 : Hid (S0.data.toList = H ++ kt wl vl 0) := Lib.hid (by rw [kt_nil, List.append_nil]; exact hS1)
  clear hf1 hf2 hf3 hf4 hf5 hn hvn hH hS1 hs1
  go_wp2
  go_loopw [6, 7] (fun sv i wr => ∃ (k : Nat) (S : ByteArray), k ≤ n ∧ sv = .string S ∧ i = .int .i64 k ∧ Hid (S.data.toList = H ++ kt wl vl k) ∧ Hid (wr.heap[w.heap.size]? = some (.cells #[.int .i64 1, .int .i64 N, .int .i64 C, .slice wa n wc, .slice va n vc, .slice ca 0 cc] 25 (0, 0))) ∧ Hid (Below w.heap.size w wr)) (fun _ i _ => n - (intOf i).toNat)
  case atStart => exact ⟨0, S0, by omega, rfl, rfl, HS0, q2, B2⟩
  case round =>
    clear HS0 q2 B2
    obtain ⟨k, S, hk, rfl, rfl, HS, Q, B⟩ := hrel
    obtain ⟨c0, c1, c2, c3, c4, c5⟩ := box6 Q.out
    by_cases hlt : k < n
    · have h1 : (k : Int) < N := by have := HL.out; omega
      obtain ⟨b1, o1, rfl, hb1, d1⟩ := (I1.out.keep B.out) k (by have := HL.out; omega)
      obtain ⟨b2, o2, rfl, hb2, d2⟩ := (I2.out.keep B.out) k (by have := HL.out; omega)
      have hok := items_ok wl vl (by have := HL.out; omega) hf6 k (by have := HL.out; omega)
      unfold nth at hok
      have hkt := kt_len wl vl (by have := HL.out; omega) hf6 k (by have := HL.out; omega)
      have hks := kt_succ wl vl k
      obtain ⟨x, hx⟩ : ∃ x, wl[k]?.getD 0 = x := ⟨_, rfl⟩
      obtain ⟨y, hy⟩ : ∃ y, vl[k]?.getD 0 = y := ⟨_, rfl⟩
      rw [hx] at d1 hok hks
      rw [hy] at d2 hok hks
      obtain ⟨X, hX⟩ : ∃ X, sIt x = X := ⟨_, rfl⟩
      obtain ⟨Y, hY⟩ : ∃ Y, sIt y = Y := ⟨_, rfl⟩
      have RX : Hid (∀ W, Calls Tryd.prog 28 #[.int .i64 x] W fun e w' => e = .returned (.string X) ∧ Below W.heap.size W w') := Lib.hid fun W => by have := rw_any1 x W (by omega) (by omega); rw [hX] at this; exact this
      have RY : Hid (∀ W, Calls Tryd.prog 28 #[.int .i64 y] W fun e w' => e = .returned (.string Y) ∧ Below W.heap.size W w') := Lib.hid fun W => by have := rw_any1 y W (by omega) (by omega); rw [hY] at this; exact this
      have hXl : X.data.toList = dg x := by rw [← hX, dg_sIt]
      have hYl : Y.data.toList = dg y := by rw [← hY, dg_sIt]
      have hXs : X.size ≤ 21 := by have := dg_len x hok.1; rw [← hXl] at this; simpa using this
      have hYs : Y.size ≤ 21 := by have := dg_len y hok.2; rw [← hYl] at this; simpa using this
      have hSs : S.size ≤ 80 + 50 * k := by have h5 : S.size = S.data.toList.length := by simp
                                            rw [h5, HS.out, List.length_append]; omega
      have HN := Lib.hid (show (S ++ X ++ ⟨#[32]⟩ ++ Y ++ ⟨#[10]⟩ : ByteArray).data.toList = H ++ kt wl vl (k + 1) by rw [hks]; simp [HS.out, hXl, hYl])
      have HC : Hid (∀ W, Below wr.heap.size wr W → W.cell? ⟨w.heap.size, 3, none⟩ = some (.slice (some ⟨b1, o1, none⟩) n wc) ∧ W.cell? ⟨w.heap.size, 4, none⟩ = some (.slice (some ⟨b2, o2, none⟩) n vc) ∧ W.cell? ⟨b1, o1 + k, none⟩ = some (.int .i64 x) ∧ W.cell? ⟨b2, o2 + k, none⟩ = some (.int .i64 y)) := Lib.hid fun W hb => ⟨(hb.cell (p := ⟨w.heap.size, 3, none⟩) (lt_hp Q.out)).trans c3, (hb.cell (p := ⟨w.heap.size, 4, none⟩) (lt_hp Q.out)).trans c4, (hb.cell (p := ⟨b1, o1 + k, none⟩) hb1).trans d1, (hb.cell (p := ⟨b2, o2 + k, none⟩) hb2).trans d2⟩
      have HB := Lib.hid (Below.refl wr.heap.size wr).drew
      have K := Lib.hid (HC.out _ HB.out)
      have hcat1 : ¬ 9223372036854775807 < S.size + X.size := by omega
      have hcat2 : ¬ 9223372036854775807 < S.size + X.size + 1 := by omega
      have hcat3 : ¬ 9223372036854775807 < S.size + X.size + 1 + Y.size := by omega
      have hcat4 : ¬ 9223372036854775807 < S.size + X.size + 1 + Y.size + 1 := by omega
      clear hx hy hok hks hkt hX hY hXl hYl HS d1 d2
      go_upto_region 10 with fail
      clear c0 c1 c2 c3 c4 c5
      go_region_held3 (fun w' => w'.cell? ⟨w.heap.size, 3, none⟩ = some (.slice (some ⟨b1, o1, none⟩) n wc) ∧ w'.cell? ⟨w.heap.size, 4, none⟩ = some (.slice (some ⟨b2, o2, none⟩) n vc) ∧ w'.cell? ⟨b1, o1 + k, none⟩ = some (.int .i64 x) ∧ w'.cell? ⟨b2, o2 + k, none⟩ = some (.int .i64 y))
        (exact K.out)
        (first
          | (go_at_call 28; with_reducible refine (RX.out _).mono ?_; rintro e x1 ⟨rfl, hb3⟩; have HB := Lib.hid (bl_tr HB.out hb3); have K := Lib.hid (HC.out _ HB.out); clear hb3)
          | (go_at_call 28; with_reducible refine (RY.out _).mono ?_; rintro e x1 ⟨rfl, hb3⟩; have HB := Lib.hid (bl_tr HB.out hb3); have K := Lib.hid (HC.out _ HB.out); clear hb3))
      all_goals
        clear hcat1 hcat2 hcat3 hcat4 hSs
        go_wp2
        go_roundw
        case rel => exact ⟨k + 1, _, by omega, rfl, by go_num, HN, Lib.hid ((HB.out.block _ (lt_hp Q.out)).trans Q.out), Lib.hid (bl_tr B.out HB.out)⟩
        case measure => simp [intOf]; omega
    · have h1 : ¬ (k : Int) < N := by have := HL.out; omega
      obtain rfl : k = n := by omega
      have HE2 := Lib.hid (show S = ⟨(wtx 1 N C wl vl cl).toArray⟩ by
        unfold wtx; rw [if_pos rfl, HH.out, HL.out.1, ← HS.out])
      go_wp2
      go_ret2
      exact ⟨by rw [HE2.out]; rfl, B.out⟩
end Go.Proofs.YtknpjeeclagmjaaDoor
