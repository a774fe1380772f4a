/-
  The walk through kurganlaw18.PoolAlone.
-/
import Derived.Test.YtaihmkflhapjeaaPoN
import Derived.Deep.Cut
import Derived.Deep.DeepCutAuto
namespace Go.Proofs.Ytaihmkflhapjeaa
open Go.RowKit Go.MuLone
set_option linter.unusedVariables false
set_option maxRecDepth 100000 in
set_option maxHeartbeats 32000000 in
theorem alone_any (x U : Int) (n r : Nat) (hU : IntKind.u64.wrap x = U) (hU1 : 0 ≤ U) (hr : U % 30 = (r : Int)) (hr2 : r ≤ 29) (hn : n = r + 1) (a : Option Addr) (m c : Nat) (L : List Int) (w : World) (hA : Arg 30 w a m c L) :
    Calls Try.prog 5 #[.int .i64 x, .slice a m c] w fun e w' => e = .returned (.bool true) ∧ Below w.heap.size w w' := by
  have FR := Lib.hid (fresh_any n 1 (by omega) (by omega) (by omega) (by omega) w)
  rw [show ((1 : Nat) : Int) = 1 from rfl] at FR
  have AR := Lib.hid hA
  have PA := Lib.hid pools_any
  have RN := Lib.hid (rnew_any n (by omega) (by omega))
  have a1 : (1 : Int) + (r : Int) = (n : Int) := by omega
  have a2 : IntKind.i64.wrap (r : Int) = (r : Int) := IntWalk.i64_in _ (by omega)
  have a3 : IntKind.i64.wrap ((1 : Int) + (r : Int)) = (n : Int) := by rw [a1]; exact IntWalk.i64_in _ (by omega)
  have b1 : 1 ≤ n := by omega
  have b2 : n ≤ 30 := by omega
  clear hA hn
  go_enter Try.func5, Try.ntmps5
  go_wp2_with fail
  refine FR.out.mono ?_; rintro e w1 ⟨A, l', rfl, hbase, hAn, hAk, hsz, hln, hlf, po, bl⟩
  subst hAn
  have PO := Lib.hid po
  have B := Lib.hid bl
  have SZ := Lib.hid hsz
  have LFh := Lib.hid hlf
  have HL := Lib.hid hln
  have hbase := Lib.hid hbase
  have hAk := Lib.hid hAk
  clear po bl hsz hln hlf FR a1 a2 a3 hr hU hU1
  go_wp2_with fail
  refine (PA.out _).mono ?_; rintro e w3 ⟨rfl, hb3⟩
  have PO := Lib.hid (PO.out.up hb3)
  have B := Lib.hid (bl_tr B.out hb3)
  clear hb3 PA
  go_wp2_with fail
  refine (RN.out _).mono ?_; rintro e w4 ⟨g, cap, rfl, hg, hR, hb4⟩
  have ST : Hid (Sta A w3.heap.size g cap w.heap.size w A.n (A.n + 1) w4) := Lib.hid (sta_begin hbase.out hAk.out SZ.out LFh.out HL.out PO.out B.out rfl hg hR hb4 b2)
  clear PO B SZ LFh HL hbase hAk hg hR hb4 RN
  generalize w3.heap.size = q at *
  go_wp2_with fail
  go_loopw [9] (fun i wr => ∃ k : Nat, i = .int .i64 k ∧ k ≤ 2 ∧ Hid (Sta A q g cap w.heap.size w A.n (A.n + 1 + 400 * k) wr)) (fun i _ => 2 - (intOf i).toNat)
  case atStart => exact ⟨0, rfl, by omega, by simpa using ST⟩
  case round =>
    clear ST
    obtain ⟨rd, rfl, hrd, ST⟩ := hrel
    by_cases hlt : rd < 2
    · have i0 : (rd : Int) < 2 := by omega
      have hwr : IntKind.i64.wrap ((rd : Int) + 1) = (rd : Int) + 1 := IntWalk.i64_in _ (by omega)
      generalize hbb : ((A.n : Int) + 1 + 400 * (rd : Int)) = bb at *
      have HBB := Lib.hid (show bb ≤ 2000 by omega)
      have HBE := Lib.hid hbb
      clear hbb
      go_wp2_with fail
      go_loopw [10] (fun i wr => ∃ k : Nat, i = .int .i64 k ∧ k ≤ A.n ∧ Hid (Sta A q g cap w.heap.size w (A.n - k) (bb + 3 * k) wr)) (fun i _ => A.n - (intOf i).toNat)
      case atStart => exact ⟨0, rfl, by omega, by simpa using ST⟩
      case round =>
        clear ST
        obtain ⟨k, rfl, hk, ST⟩ := hrel
        by_cases hlk : k < A.n
        · have i1 : (k : Int) < (A.n : Int) := by omega
          have hwk : IntKind.i64.wrap ((k : Int) + 1) = (k : Int) + 1 := IntWalk.i64_in _ (by omega)
          go_wp2_with fail
          refine (sta_take ST.out).mono ?_; rintro e w5 ⟨b, rfl, hb, hH, hac, hst⟩
          have RU := Lib.hid (fun W (h1 : Sta A q g cap w.heap.size w (A.n - k) (bb + 3 * k) W) (h2 : Ac b A 0 false 1 (-1) 0 0 W) => sta_run (by omega) (by have := HBB.out; omega) h1 h2 hb hH)
          have S5 := Lib.hid hst.dr
          have A5 := Lib.hid (show Ac b A 0 false 1 (-1) 0 0 w5.drew from hac)
          clear ST hb hH hac hst
          go_upto_region 13 with fail
          go_cut [70] (fun v wx => v = .bool false ∧ Hid (∃ (s : Nat) (tp' bl' : Int), s < A.n ∧ Ac b A 0 false 4 s tp' bl' wx ∧ Pend A q g cap w.heap.size w s true (A.n - k - 1) (bb + 3 * k + 3) wx))
          case first =>
            go_region_with (first
            | (go_at_call 23; go_loud ((with_reducible refine (RU.out _ S5.out A5.out).mono ?_); rintro e w6 ⟨z, s, tp', bl', rfl, hz, hs, hac, hpd⟩; have A6 := Lib.hid hac; have P6 := Lib.hid hpd; obtain ⟨c0, c1, cf, cc⟩ := hpd.cells hs; have d1 : decide (z < 0) = false := (decide_eq_false (Int.not_lt.mpr hz)); have d2 : decide ((s : Int) < 0) = false := (decide_eq_false (Int.not_lt.mpr (Int.natCast_nonneg s))); have i2 : (s : Int) < (A.n : Int) := (Int.ofNat_lt.mpr hs); have d3 : decide (A.n ≤ s) = false := (decide_eq_false (Nat.not_le.mpr hs)); have c1 : w6.cell? ⟨g, s, none⟩ = some (.int .i64 (-1)) := c1; clear hac hpd RU S5 A5))
            | (go_at_call 18; (with_reducible refine (slot_any A6.out).mono ?_); rintro e w7 ⟨rfl, rfl⟩))
            all_goals go_wp2
            all_goals go_meet
            all_goals exact ⟨rfl, Lib.hid ⟨s, tp', bl', hs, A6.out, P6.out⟩⟩
          case rest =>
            obtain ⟨rfl, HP⟩ := hcut
            obtain ⟨s, tp', bl', hs, hac, hpd⟩ := HP.out
            have A7 := Lib.hid (show Ac b A 0 false 4 s tp' bl' (World.drew _) from hac)
            have S7 := Lib.hid hpd.dr
            obtain ⟨e0, e1, ef, ec⟩ := hpd.cells hs
            have ef1 := ef s
            have i2 : (s : Int) < (A.n : Int) := Int.ofNat_lt.mpr hs
            clear HP hac hpd RU S5 A5 ef
            go_upto_region 15 with fail
            go_region_with (first
              | (go_at_call 18; (with_reducible refine (slot_any A7.out).mono ?_); rintro e w7 ⟨rfl, rfl⟩))
            all_goals
              have S8 := Lib.hid ((S7.out.tell hs : Sta A q g cap w.heap.size w (A.n - k - 1) (bb + 3 * k + 3) _))
              clear S7 A7 e0 e1 ef1
              go_wp2
              go_roundw
              case rel => exact ⟨k + 1, by go_num, by omega, Lib.hid (by have h := S8.out.mono (b' := bb + 3 * ((k + 1 : Nat) : Int)) (by omega); exact h)⟩
              case measure => simp [intOf]; omega
        · have i1 : ¬ (k : Int) < (A.n : Int) := by omega
          have ST0 : Hid (Sta A q g cap w.heap.size w 0 (bb + 90) wr) := Lib.hid (by have h := ST.out.mono (b' := bb + 90) (by omega); rw [show A.n - k = 0 by omega] at h; exact h)
          clear ST
          go_wp2_with fail
          refine (sta_take ST0.out).mono ?_; rintro e w5 ⟨b, rfl, hb, hH, hac, hst⟩
          have RU := Lib.hid (sta_none (by have := HBB.out; omega) hst hac hb hH)
          clear ST0 hb hH hac hst
          go_wp2_with fail
          refine RU.out.mono ?_; rintro e w6 ⟨tp', bl', rfl, hac, hst⟩
          have A6 := Lib.hid hac
          have S6 := Lib.hid hst
          clear hac hst RU
          go_wp2_with fail
          refine (slot_any A6.out).mono ?_; rintro e w7 ⟨rfl, rfl⟩
          clear A6
          have nn : ¬ (A.n : Int) = 0 := by omega
          have un : IntKind.u64.wrap (A.n : Int) = (A.n : Int) := IntWalk.u64_in _ (by omega)
          go_wp2_with fail
          go_loopw [13] (fun v wr => ∃ k : Nat, v = .int .i64 k ∧ k ≤ A.n ∧ Hid (Sta A q g cap w.heap.size w k (bb + 91 + 3 * k) wr)) (fun v _ => A.n - (intOf v).toNat)
          case atStart => exact ⟨0, rfl, by omega, Lib.hid (by have h := S6.out.mono (b' := bb + 91) (by omega); simpa using h)⟩
          case round =>
            clear S6
            obtain ⟨k, rfl, hk, ST⟩ := hrel
            by_cases hlk : k < A.n
            · have i1 : (k : Int) < (A.n : Int) := by omega
              have hwk : IntKind.i64.wrap ((k : Int) + 1) = (k : Int) + 1 := IntWalk.i64_in _ (by omega)
              go_upto_if 97 with fail
              go_cut [14] (fun v wx => ∃ s : Nat, v = .int .i64 s ∧ s < A.n ∧ Hid (Sta A q g cap w.heap.size w k (bb + 91 + 3 * k) wx))
              case first =>
                by_cases hm : k < m
                · have i2 : (k : Int) < (m : Int) := by omega
                  obtain ⟨b9, o9, rfl, q1, q2, q3, q4, q5⟩ : ∃ b o, a = some ⟨b, o, none⟩ ∧ m ≤ c ∧ c ≤ 9223372036854775807 ∧ b < w.heap.size ∧ (∀ j, j < L.length → w.cell? ⟨b, o + j, none⟩ = some (.int .i64 (nth L j))) ∧ ((m ≤ 30 ∧ L.length = m) ∨ (30 < m ∧ L.length = 30)) := by
                    rcases AR.out with ⟨_, h, _⟩ | ⟨_, _, h, _⟩ | h
                    · omega
                    · omega
                    · exact h
                  have c9 := (ST.out.bel.cell (p := ⟨b9, o9 + k, none⟩) q3).trans (q4 k (by omega))
                  obtain ⟨U2, s, hU2, u0, hr1, hr3, hs, hws⟩ := rem_n (nth L k) A.n b1 (by omega)
                  have FIN := Lib.hid (And.intro hs ST.out)
                  clear q3 q4 q5 ST AR
                  generalize nth L k = xx at *
                  go_wp2
                  go_meet
                  exact ⟨s, rfl, FIN.out.1, Lib.hid FIN.out.2⟩
                · have i2 : ¬ (k : Int) < (m : Int) := by omega
                  go_wp2
                  go_meet
                  exact ⟨k, rfl, hlk, ST⟩
              case rest =>
                clear ST un
                obtain ⟨s, rfl, hs, ST⟩ := hcut
                obtain ⟨j, hj, cj⟩ := ST.out.held hlk
                obtain ⟨cq, cs, cc⟩ := ST.out.cells
                have CS := Lib.hid cs
                have CJ := Lib.hid cj
                clear cs cj
                go_wp2_with fail
                go_loop [14] (fun v => ∃ s : Nat, v = .int .i64 s ∧ s < A.n) (fun v => if (intOf v).toNat ≤ j then j - (intOf v).toNat else j + A.n - (intOf v).toNat)
                case atStart => exact ⟨s, rfl, hs⟩
                case round =>
                  clear hs
                  obtain ⟨s, rfl, hs⟩ := hrel
                  have i2 : (s : Int) < (A.n : Int) := by omega
                  rcases CS.out s hs with c1 | c1
                  · have GV := Lib.hid (sta_give2 s hs c1 ST.out)
                    clear CS CJ
                    go_wp2_with fail
                    refine GV.out.mono ?_; rintro e w5 ⟨⟨b, rfl, hb, hH, hac, hst⟩, hc5⟩
                    have RU := Lib.hid (sta_back s hs hc5 (by have := HBB.out; omega) hst hac hb hH)
                    clear GV ST hb hH hac hst hc5 c1 cq
                    go_wp2_with fail
                    refine RU.out.mono ?_; rintro e w6 ⟨z, tp', bl', rfl, hz, hac, hpd⟩
                    have A6 := Lib.hid hac
                    have P6 := Lib.hid hpd
                    have d1 : decide (z < 0) = false := decide_eq_false (Int.not_lt.mpr hz)
                    have d2 : ((s : Int) != (s : Int)) = false := by simp
                    obtain ⟨e0, e1, ef, ec⟩ := hpd.cells hs
                    have ef1 := ef s
                    clear ef
                    clear hac hpd RU
                    go_wp2_with fail
                    refine (slot_any A6.out).mono ?_; rintro e w7 ⟨rfl, rfl⟩
                    have S8 := Lib.hid (P6.out.tell hs)
                    clear A6 P6
                    go_wp2
                    go_roundw
                    case rel => exact ⟨k + 1, by go_num, by omega, Lib.hid (by have h := S8.out.mono (b' := bb + 91 + 3 * ((k + 1 : Nat) : Int)) (by omega); exact h)⟩
                    case measure => simp [intOf]; omega
                  · have hne : s ≠ j := fun h => by subst h; have h := CJ.out; rw [c1] at h; simp at h
                    obtain ⟨s2, hs2, ht, hms⟩ := nxt hs hj hne
                    have HM := Lib.hid hms
                    have hws : IntKind.i64.wrap ((s : Int) + 1) = (s : Int) + 1 := IntWalk.i64_in _ (by omega)
                    have hws2 : IntKind.i64.wrap (s2 : Int) = (s2 : Int) := IntWalk.i64_in _ (by omega)
                    clear CS CJ hms hne ST
                    go_wp2
                    go_round
                    case rel => exact ⟨s2, rfl, hs2⟩
                    case measure =>
                      have h := HM.out
                      first
                        | (simp [intOf]; exact h)
                        | exact h
            · have ST2 : Hid (Sta A q g cap w.heap.size w A.n (A.n + 1 + 400 * (rd + 1 : Nat)) wr) := Lib.hid (by have h := ST.out.mono (b' := (A.n : Int) + 1 + 400 * ((rd + 1 : Nat) : Int)) (by have := HBE.out; omega); rw [show k = A.n by omega] at h; exact h)
              have i1 : ¬ (k : Int) < (A.n : Int) := by omega
              clear ST un
              go_wp2_with fail
              refine (sta_own ST2.out).mono ?_; rintro e w5 ⟨x1, c1, own, C, rfl, h1⟩
              have H1 := Lib.hid h1
              clear h1 ST2
              go_wp2_with fail
              refine (sta_shared (Nat.le_refl _) H1.out).mono ?_; rintro e w6 ⟨x2, c2, st, rfl, h2⟩
              have ON := Lib.hid (sta_once (c1 := c1) (c2 := c2) b1 (by omega) (by omega) h2)
              clear H1 h2
              generalize own.length = ol at *
              generalize st.length = sl at *
              go_wp2_with fail
              refine ON.out.mono ?_; rintro e w7 ⟨rfl, hst⟩
              have ST3 := Lib.hid hst
              clear hst ON
              go_wp2
              go_roundw
              case rel => exact ⟨rd + 1, by go_num, by omega, ST3⟩
              case measure => simp [intOf]; omega
    · have i0 : ¬ (rd : Int) < 2 := by omega
      have BF := Lib.hid ST.out.bel
      clear ST
      go_wp2
      go_ret
      exact ⟨rfl, BF.out⟩
end Go.Proofs.Ytaihmkflhapjeaa
