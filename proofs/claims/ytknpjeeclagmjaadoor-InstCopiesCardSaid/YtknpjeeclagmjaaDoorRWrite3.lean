/-
  What the reference's Write answers of every problem in form of kind 3: the walk.
-/
import Derived.Test.YtknpjeeclagmjaaDoorWSt
import Derived.Test.YtknpjeeclagmjaaDoorRefW
import Derived.Test.YtknpjeeclagmjaaDoorChecksW
import Derived.Deep.Cut
namespace Go.Proofs.YtknpjeeclagmjaaDoor
open Go.RowKit
set_option linter.unusedVariables false
theorem rw_any3 (n : Int) (W : World) (h0 : -9223372036854775808 ≤ n) (h1 : n ≤ 9223372036854775807) : Calls Tryd.prog 28 #[.int .i64 n] W fun e w' => e = .returned (.string (sIt n)) ∧ Below W.heap.size W w' := by
  rw [sIt_eq]; exact refwrite_any n h0 h1 W
set_option maxRecDepth 100000 in
set_option maxHeartbeats 4000000 in
theorem rwrite3 (N C : Int) (wl vl : List Int) (cl : List (List Int)) (wa va ca : Option Addr) (wc vc cc : Nat) (w : World) (i1 : Ints w wa wl) (i2 : Ints w va vl) (i3 : Rws w ca cl) (hz : chk 3 N C wl vl cl = 0) :
    Calls Tryd.prog 13 #[.agg #[.int .i64 3, .int .i64 N, .int .i64 C, .slice wa wl.length wc, .slice va vl.length vc, .slice ca cl.length cc]] w fun e w' => e = .returned (.tuple #[.string ⟨(wtx 3 N C wl vl cl).toArray⟩, .int .i64 0]) ∧ Below w.heap.size w w' := by
  obtain ⟨hN1, hz2⟩ := chk_zero hz
  have hF : (cl.length : Int) = N ∧ wl.length = 0 ∧ vl.length = 0 ∧ N ≤ 24 ∧ rowsP cl ∧ costE 3 0 cl = 0 := by 
    rcases hz2 with h | h
    · omega
    · exact ⟨h.2.2.1, h.2.2.2.2.1, h.2.2.2.2.2.1, h.2.1, h.2.2.2.2.2.2.1, h.2.2.2.2.2.2.2⟩
  have hbd : 1 ≤ N ∧ N ≤ 64 := by omega
  have hlen : wl.length ≤ 1000 ∧ vl.length ≤ 1000 ∧ cl.length ≤ 1000 := by omega
  have C1 : Hid (∀ o, Calls Tryd.prog 11 #[.agg #[.int .i64 3, .int .i64 N, .int .i64 C, .slice wa wl.length wc, .slice va vl.length vc, .slice ca cl.length cc]] (w.alloc o) fun e w' => e = .returned (.int .i64 0) ∧ Below (w.alloc o).heap.size (w.alloc o) w') := Lib.hid fun o => by
    have bA : Below w.heap.size w (w.alloc o) := bl_al (Below.refl _ _) _
    have := ref_any 3 N C wl vl cl wa va ca wc vc cc (w.alloc o) (i1.keep bA) (i2.keep bA) (i3.keep bA) hlen.1 hlen.2.1 hlen.2.2
    rw [hz] at this
    exact this
  obtain ⟨D, hD⟩ : ∃ D, sIt N = D := ⟨_, rfl⟩
  have hDl : D.data.toList = dg N := by rw [← hD, dg_sIt]
  have hDs : D.size ≤ 21 := by have := dg_len N (by omega); rw [← hDl] at this; simpa using this
  have D1 : Hid (∀ W, Calls Tryd.prog 28 #[.int .i64 N] W fun e w' => e = .returned (.string D) ∧ Below W.heap.size W w') := Lib.hid fun W => by have := rw_any3 N W (by omega) (by omega); rw [hD] at this; exact this
  have I1 := Lib.hid i1
  have I2 := Lib.hid i2
  have I3 := Lib.hid i3
  have HF := Lib.hid hF
  have HD := Lib.hid hDl
  clear i1 i2 i3 hz hz2 hF hlen hD hDl
  go_enter Tryd.func13, Tryd.ntmps13
  go_wp2_with fail
  refine (C1.out _).mono ?_; rintro e w1 ⟨rfl, hb1⟩
  have hs1 := hb1.size
  simp at hs1
  have q0 := Lib.hid ((hb1.block _ (by simp)).trans (heap_alloc_new w (.cells #[.int .i64 3, .int .i64 N, .int .i64 C, .slice wa wl.length wc, .slice va vl.length vc, .slice ca cl.length cc] 25)))
  have B0 := Lib.hid (bl_tr (bl_al (Below.refl _ _) _) hb1)
  clear hb1 C1
  obtain ⟨c0, c1, c2, c3, c4, c5⟩ := box6 q0.out
  go_wp2_with fail
  refine (D1.out _).mono ?_; rintro e w2 ⟨rfl, hb2⟩
  have q1 := Lib.hid ((hb2.block _ (lt_hp q0.out)).trans q0.out)
  have B1 := Lib.hid (bl_tr B0.out hb2)
  clear hb2 q0 B0 D1 c0 c1 c2 c3 c4 c5
  obtain ⟨c0, c1, c2, c3, c4, c5⟩ := box6 q1.out
  have hcat1 : ¬ 9223372036854775807 < 11 + D.size := by omega
  have hcat2 : ¬ 9223372036854775807 < 11 + D.size + 1 := by omega
  go_upto_region 13 with fail
  clear hcat1 hcat2
  go_upto_region 14 with fail
  have hcat3 : ¬ 9223372036854775807 < 4 + D.size := by omega
  have hcat4 : ¬ 9223372036854775807 < 4 + D.size + 6 := by omega
  go_upto_region 15 with fail
  clear hcat3 hcat4
  clear c0 c1 c2 c3 c4 c5
  obtain ⟨S0, hS0⟩ : ∃ S, (⟨#[84, 83, 80, 32]⟩ : ByteArray) ++ D ++ ⟨#[32, 70, 85, 76, 76, 10]⟩ = S := ⟨_, rfl⟩
  have hS1 : S0.data.toList = hd 3 N C := by rw [← hS0]; simp [hd, nameOf, HD.out]
  rw [hS0]
  clear hS0
  obtain ⟨hf1, hf2, hf3, hf4, hf5, hf6⟩ := HF.out
  obtain ⟨H, hH⟩ : ∃ H, hd 3 N C = H := ⟨_, rfl⟩
  rw [hH] at hS1
  have HH := Lib.hid hH
  have hh : H.length ≤ 80 := by
    rw [← hS1]
    have e : S0.data.toList.length = (hd 3 N C).length := by rw [hS1, hH]
    rw [e]; unfold hd; rw [← HD.out]
    simp [nameOf]
    omega
  obtain ⟨n, hn⟩ : ∃ n, cl.length = n := ⟨_, rfl⟩
  have HL := Lib.hid (show cl.length = n ∧ (n : Int) = N ∧ wl.length = 0 ∧ vl.length = 0 ∧ n ≤ 24 by omega)
  have hn24 : n ≤ 24 := by omega
  rw [hn, hf2, hf3] at q1 ⊢
  have HS0 : Hid (S0.data.toList = H ++ rt cl 0) := Lib.hid (by rw [rt_nil, List.append_nil]; exact hS1)
  clear hf1 hf2 hf3 hf4 hn hH hS1 hs1
  go_wp2
  go_loopw [8, 9] (fun sv i wr => ∃ (r : Nat) (S : ByteArray), r ≤ n ∧ sv = .string S ∧ i = .int .i64 r ∧ Hid (S.data.toList = H ++ rt cl r) ∧ Hid (wr.heap[w.heap.size]? = some (.cells #[.int .i64 3, .int .i64 N, .int .i64 C, .slice wa 0 wc, .slice va 0 vc, .slice ca n cc] 25 (0, 0))) ∧ Hid (Below w.heap.size w wr)) (fun _ i _ => n - (intOf i).toNat)
  case atStart => exact ⟨0, S0, by omega, rfl, rfl, HS0, q1, B1⟩
  case round =>
    clear HS0 q1 B1
    obtain ⟨r, S, hk, rfl, rfl, HS, Q, B⟩ := hrel
    obtain ⟨c0, c1, c2, c3, c4, c5⟩ := box6 Q.out
    by_cases hlt : r < n
    · have h1 : (r : Int) < N := by have := HL.out; omega
      have hrn := hf5 r (by have := HL.out; omega)
      rw [HL.out.1] at hrn
      have hrw := row_ok 3 _ _ 0 (cost_ok 3 cl 0 hf6 r (by have := HL.out; omega))
      have hrt := rt_len 3 cl hf5 hf6 (by have := HL.out; omega) r (by have := HL.out; omega)
      have hrs := rt_succ cl r
      obtain ⟨row, hrow⟩ : ∃ row, cl[r]?.getD [] = row := ⟨_, rfl⟩
      have HI3 : Hid (∀ W, Below w.heap.size w W → ∃ b o b' o' cj, ca = some ⟨b, o, none⟩ ∧ b < W.heap.size ∧ b' < W.heap.size ∧ W.cell? ⟨b, o + r, none⟩ = some (.slice (some ⟨b', o', none⟩) n cj) ∧ ∀ j, j < n → W.cell? ⟨b', o' + j, none⟩ = some (.int .i64 (row[j]?.getD 0))) := Lib.hid fun W hb => by
        obtain ⟨b, o, aj, cj, e1, hb1, d1, hi, hl⟩ := (I3.out.keep hb) r (by have := HL.out; omega)
        rw [hrow] at d1 hi hl hrn
        obtain ⟨b', o', rfl, hb', -⟩ := hi 0 (by omega)
        refine ⟨b, o, b', o', cj, e1, hb1, hb', by rw [hrn] at d1; exact d1, fun j hj => ?_⟩
        obtain ⟨b2, o2, e2, _, h2⟩ := hi j (by omega)
        injection e2 with e2; injection e2 with e2 e3; subst e2 e3; exact h2
      rw [hrow] at hrn hrw hrs
      have HRW := Lib.hid (show ∀ j, j < n → 0 ≤ row[j]?.getD 0 ∧ row[j]?.getD 0 ≤ 2147483647 from fun j hj => (hrw j (by omega)).1)
      have hlk : ∀ c, c ≤ n → (lnk row c).length ≤ 22 * c := fun c hc => lnk_len row (fun j hj => (hrw j hj).1) c (by omega)
      have HLK := Lib.hid hlk
      rw [hrn] at hrs
      have HRS := Lib.hid hrs
      have hSl : (H ++ rt cl r).length ≤ 80 + 600 * r := by rw [List.length_append]; omega
      clear hrow hrs hrt hrw hrn hlk
      go_wp2
      clear c0 c1 c2 c3 c4 c5
      have HS1 : Hid (S.data.toList = H ++ rt cl r ++ lnk row 0) := Lib.hid (by rw [lnk_zero, List.append_nil]; exact HS.out)
      clear HS
      go_loopw [8, 10] (fun sv i wi => ∃ (c : Nat) (S : ByteArray), c ≤ n ∧ sv = .string S ∧ i = .int .i64 c ∧ Hid (S.data.toList = H ++ rt cl r ++ lnk row c) ∧ Hid (wi.heap[w.heap.size]? = some (.cells #[.int .i64 3, .int .i64 N, .int .i64 C, .slice wa 0 wc, .slice va 0 vc, .slice ca n cc] 25 (0, 0))) ∧ Hid (Below w.heap.size w wi)) (fun _ i _ => n - (intOf i).toNat)
      case atStart => exact ⟨0, S, by omega, rfl, rfl, HS1, Q, B⟩
      case round =>
        clear HS1 Q B
        obtain ⟨c, S2, hc, rfl, rfl, HS2, Q2, B2⟩ := hrel
        obtain ⟨c0, c1, c2, c3, c4, c5⟩ := box6 Q2.out
        have hS2 : S2.size ≤ 80 + 600 * r + 22 * c := by
          have h5 : S2.size = S2.data.toList.length := by simp
          have h6 := HLK.out c (by omega)
          rw [h5, HS2.out, List.length_append]; omega
        by_cases hcn : c < n
        · have h2 : (c : Int) < N := by have := HL.out; omega
          obtain ⟨b, o, b', o', cj, rfl, hb1, hb2, d1, dall⟩ := HI3.out _ B2.out
          have d2 := dall c hcn
          clear dall
          have hok := HRW.out c hcn
          have hlk0 := lnk_zero row
          have hlk1 := lnk_one row
          have hlks := lnk_succ row c
          obtain ⟨x, hx⟩ : ∃ x, row[c]?.getD 0 = x := ⟨_, rfl⟩
          rw [hx] at d2 hok hlks
          obtain ⟨X, hX⟩ : ∃ X, sIt x = X := ⟨_, rfl⟩
          have RX : Hid (∀ W, Calls Tryd.prog 28 #[.int .i64 x] W fun e w' => e = .returned (.string X) ∧ Below W.heap.size W w') := Lib.hid fun W => by have := rw_any3 x W (by omega) (by omega); rw [hX] at this; exact this
          have hXl : X.data.toList = dg x := by rw [← hX, dg_sIt]
          have hXs : X.size ≤ 21 := by have := dg_len x hok; rw [← hXl] at this; simpa using this
          by_cases hc0 : c = 0
          · subst hc0
            have HN := Lib.hid (show (S2 ++ X : ByteArray).data.toList = H ++ rt cl r ++ lnk row (0 + 1) by rw [hlk1, hx]; simp [HS2.out, hXl, hlk0])
            have hcatH := Lib.hid (show ¬ 9223372036854775807 < S2.size + X.size by omega)
            rw [Nat.add_zero] at d2
            clear hlk0 hlk1 hlks hx hX hXl HS2
            go_wp2_with fail
            refine (RX.out _).mono ?_; rintro e x1 ⟨rfl, hb3⟩
            have hcat := hcatH.out
            have Q3 := Lib.hid ((hb3.block _ (lt_hp Q2.out)).trans Q2.out)
            have B3 := Lib.hid (bl_tr B2.out hb3)
            go_upto_region 20 with fail
            clear hcat hb3 hS2 c0 c1 c2 c3 c4 c5 d1 d2
            go_wp2
            go_roundw
            case rel => exact ⟨1, _, by omega, rfl, by go_num, HN, Q3, B3⟩
            case measure => simp [intOf]; omega
          · have hc1 : (0 : Int) < (c : Int) := by omega
            have HN := Lib.hid (show (S2 ++ ⟨#[32]⟩ ++ X : ByteArray).data.toList = H ++ rt cl r ++ lnk row (c + 1) by rw [hlks (by omega)]; simp [HS2.out, hXl])
            have hcatH := Lib.hid (show ¬ 9223372036854775807 < S2.size + 1 + X.size by omega)
            have hcatG := Lib.hid (show ¬ 9223372036854775807 < S2.size + 1 by omega)
            clear hlk0 hlk1 hlks hx hX hXl HS2
            go_upto_region 22 with fail
            have hcat0 := hcatG.out
            go_upto_region 23 with fail
            clear hcat0
            go_wp2_with fail
            refine (RX.out _).mono ?_; rintro e x1 ⟨rfl, hb3⟩
            have hcat := hcatH.out
            have Q3 := Lib.hid ((hb3.block _ (lt_hp Q2.out)).trans Q2.out)
            have B3 := Lib.hid (bl_tr B2.out hb3)
            go_upto_region 20 with fail
            clear hcat hb3 hS2 c0 c1 c2 c3 c4 c5 d1 d2
            go_wp2
            go_roundw
            case rel => exact ⟨c + 1, _, by omega, rfl, by go_num, HN, Q3, B3⟩
            case measure => simp [intOf]; omega
        · have h2 : ¬ (c : Int) < N := by have := HL.out; omega
          obtain rfl : c = n := by omega
          have HN := Lib.hid (show (S2 ++ ⟨#[10]⟩ : ByteArray).data.toList = H ++ rt cl (r + 1) by rw [HRS.out]; simp [HS2.out])
          have hcatH := Lib.hid (show ¬ 9223372036854775807 < S2.size + 1 by omega)
          clear HS2
          go_upto_region 24 with fail
          have hcat := hcatH.out
          go_upto_region 17 with fail
          clear hcat hS2 c0 c1 c2 c3 c4 c5
          go_wp2
          go_roundw
          case rel => exact ⟨r + 1, _, by omega, rfl, by go_num, HN, Q2, B2⟩
          case measure => simp [intOf]; omega
    · have h1 : ¬ (r : Int) < N := by have := HL.out; omega
      obtain rfl : r = n := by omega
      have HE2 := Lib.hid (show S = ⟨(wtx 3 N C wl vl cl).toArray⟩ by
        unfold wtx; rw [if_neg (by omega), HH.out, HL.out.1, ← HS.out])
      go_wp2
      go_ret2
      exact ⟨by rw [HE2.out]; rfl, B.out⟩
end Go.Proofs.YtknpjeeclagmjaaDoor
