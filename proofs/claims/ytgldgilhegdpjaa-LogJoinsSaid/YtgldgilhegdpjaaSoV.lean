/-
  The reference's Sorted, walked.
-/
import Derived.Test.YtgldgilhegdpjaaSoT
import Derived.RangeFuncBox
import Derived.Deep.DeepCutAuto
import Derived.Deep.Cut
namespace Go.Proofs.Ytgldgilhegdpjaa.so
open Go.RowKit
set_option linter.unusedVariables false
theorem map_tbl {C : Nat} {ks : List (Int × Value)} {rs : List Rec} {U : List Int} {w : World} (hp : Ps C ks rs w) (h : Rng rs.length U) (hl : U.length = rs.length) : U.map (tblz ks).e = U.map (tbl ks).e := by
  apply List.map_congr_left
  intro x hx
  obtain ⟨j, hj, e⟩ := List.getElem_of_mem hx
  have e2 : nth U j = x := by rw [nth_at U j hj]; exact e
  have := h j (by omega)
  rw [e2] at this
  obtain ⟨X, rfl⟩ : ∃ X : Nat, x = X := ⟨x.toNat, by omega⟩
  obtain ⟨b, a, n, c, l, hk, _⟩ := ps_at hp (j := X) (by omega)
  exact (tblz_at hk).2.2.2.2
theorem pth_at {rs : List Rec} {x : Nat} {b : Int} {l : List Int} (h : rs[x]? = some (b, l)) : pth rs (x : Int) = l := by simp [pth, h]
def SortP (ks : List (Int × Value)) (rs : List Rec) (w : World) (e : Ending) (w' : World) : Prop := ∃ v' U, e = .returned v' ∧ IsRk (ltj rs) rs.length U ∧ Rng rs.length U ∧ w'.ownsRow w.heap.size 45 2 v' (U.map (tbl ks).e).length (enc (U.map (tbl ks).e)) ∧ Below w.heap.size w w'
set_option maxRecDepth 100000 in
set_option maxHeartbeats 16000000 in
theorem sortd_any {B C : Nat} {v : Value} {ks : List (Int × Value)} {rs : List Rec} {w : World} (ho : w.ownsRow B 45 2 v ks.length (enc ks)) (hp : Ps C ks rs w) (hn : rs.length ≤ 200) :
    Calls Try.prog 17 #[v] w (SortP ks rs w) := by
  obtain ⟨i0, hi, hz0, hz1, hz2⟩ := info_parts info45
  obtain ⟨va, vc, rfl⟩ := row_sl ho
  have HR := Lib.hid (fun k (hk : k < ks.length) => row_at ho hk)
  have HL := Lib.hid hp.1
  have HM := Lib.hid (fun U => map_tbl (U := U) hp)
  have HK := Lib.hid (fun k (hk : k < rs.length) W (h : Below w.heap.size w W) => show ∃ gl, va = some ⟨gl, 0, none⟩ ∧ W.cell? ⟨gl, k * 2, none⟩ = some (.int .i64 ((tblz ks).k k)) ∧ W.cell? ⟨gl, k * 2 + 1, none⟩ = some (.slice ((tblz ks).a k) ((tblz ks).n k) ((tblz ks).c k)) from by
    obtain ⟨g, b, p, hva, hbp, _, hg, hc⟩ := row_at ho (by rw [hp.1]; exact hk)
    obtain ⟨b', a, n, c, l, hk2, _⟩ := ps_at hp hk
    rw [hbp] at hk2
    cases hk2
    obtain ⟨t1, t2, t3, t4, _⟩ := tblz_at hbp
    obtain ⟨c0, c1, _⟩ := hc W (h.block g hg)
    exact ⟨g, hva, by rw [t1]; exact c0, by rw [t2, t3, t4]; exact c1⟩)
  have HI := Lib.hid (fun k (hk : k < rs.length) W (h : Below w.heap.size w W) => show (tblz ks).n k = (pth rs k).length ∧ (pth rs k).length ≤ 20 ∧ Ints W ((tblz ks).a k) (pth rs k) from by
    obtain ⟨b, a, n, c, l, hk2, hr, hnl, hl, h20⟩ := ps_at hp hk
    obtain ⟨t1, t2, t3, t4, _⟩ := tblz_at hk2
    rw [pth_at hr, t2, t3]
    obtain ⟨a', c', e, hi⟩ := (hl.up h).ints
    injection e with e _ _
    exact ⟨hnl, h20, by rw [e]; exact hi⟩)
  have TE := Lib.hid (tblz_end hp.1)
  have hkl := hp.1
  rw [hkl]
  generalize tblz ks = TB at *
  obtain ⟨n, hkn⟩ : ∃ n, rs.length = n := ⟨_, rfl⟩
  rw [hkn] at hn HK HI TE HM ⊢
  have HKN := Lib.hid hkn
  clear ho hp HR hkl hkn
  have S0 := Lib.hid (srt_nil rs)
  have R0 : Hid (Rwn TB w.heap.size w.heap.size 0 0 [] w (w.alloc (.cells #[] 45))) := Lib.hid ⟨rfl, Nat.le_refl _, World.ownsRow_lit w #[] 0 (Nat.le_refl _) (by decide) (by decide), bl_al (Below.refl _ _) _⟩
  go_enter Try.func17, Try.ntmps17
  go_wp2
  go_loopw [3, 4] (fun o i wr => ∃ (k g cap : Nat) (U : List Int), k ≤ n ∧ i = .int .i64 k ∧ o = .slice (some ⟨g, 0, none⟩) k cap ∧ Hid (SrtU rs k U) ∧ Hid (Rwn TB w.heap.size g k cap U w wr)) (fun _ i _ => n - (intOf i).toNat)
  case atStart => exact ⟨0, w.heap.size, 0, [], by omega, rfl, rfl, S0, R0⟩
  case round =>
    clear S0 R0
    obtain ⟨k, g, cap, U, hk, rfl, rfl, SU, RW⟩ := hrel
    by_cases hlt : k < n
    · have i1 : (k : Int) < (n : Int) := by omega
      have hwk : IntKind.i64.wrap ((k : Int) + 1) = (k : Int) + 1 := IntWalk.i64_in _ (by omega)
      go_wp2_with fail
      have SU0 := SU
      go_loopw [5] (fun i wr => ∃ p : Nat, p ≤ k ∧ i = .int .i64 p ∧ Hid (∀ j, p ≤ j → j < k → cj rs k (nth U j) < 0) ∧ Hid (Rwn TB w.heap.size g k cap U w wr)) (fun i _ => (intOf i).toNat)
      case atStart => exact ⟨k, by omega, rfl, Lib.hid (fun j h1 h2 => by omega), RW⟩
      case round =>
        obtain ⟨p, hpk, rfl, H1, R1⟩ := hrel
        by_cases hp0 : 0 < p
        · obtain ⟨p, rfl⟩ : ∃ p', p = p' + 1 := ⟨p - 1, by omega⟩
          obtain ⟨gl, hgl, c0, c1⟩ := HK.out k hlt _ R1.out.2.2.2
          subst hgl
          obtain ⟨e0, e1⟩ := R1.out.cell p (by omega)
          have hlo := SU.out.lo p (by omega)
          obtain ⟨q, hq⟩ : ∃ q : Nat, nth U p = q := ⟨(nth U p).toNat, by omega⟩
          rw [hq] at e0 e1 hlo
          obtain ⟨n1, m1, _⟩ := HI.out k hlt _ R1.out.2.2.2
          obtain ⟨n2, m2, _⟩ := HI.out q (by omega) _ R1.out.2.2.2
          have CC := Lib.hid (fun W (hb : Below w.heap.size w W) => rahead_any (pth rs k) (pth rs q) (by omega) (by omega) (TB.a k) (TB.a q) (TB.c k) (TB.c q) W (HI.out k hlt W hb).2.2 (HI.out q (by omega) W hb).2.2)
          rw [← n1, ← n2] at CC
          have RD := Lib.hid (show Rwn TB w.heap.size g k cap U w _ from R1.out.keep (bl_drew _))
          have C1 := Lib.hid (CC.out _ RD.out.2.2.2)
          have KC := Lib.hid (fun W (hb : Below w.heap.size w W) => HK.out k hlt W hb)
          have RC := Lib.hid (fun W (h : Rwn TB w.heap.size g k cap U w W) => show W.cell? ⟨g, p * 2 + 1, none⟩ = some (.slice (TB.a q) (TB.n q) (TB.c q)) from by rw [← hq]; exact (h.cell p (by omega)).2)
          have KC2 := Lib.hid (fun W (hb : Below w.heap.size w W) => show W.cell? ⟨gl, k * 2 + 1, none⟩ = some (.slice (TB.a k) (TB.n k) (TB.c k)) from by
            obtain ⟨gl', h1, _, h3⟩ := HK.out k hlt W hb
            cases h1
            exact h3)
          have hd : decide (0 < p + 1) = true := by simp
          have g1 : (0 : Int) < (p : Int) + 1 := by omega
          have g3 : (0 : Int) ≤ (p : Int) := by omega
          have g4 : (p : Int) < (k : Int) := by omega
          have g5 : IntKind.i64.wrap ((p : Int) + 1 - 1) = (p : Int) := IntWalk.i64_in _ (by omega) |>.trans (by omega)
          have g6 : IntKind.i64.wrap (p : Int) = (p : Int) := IntWalk.i64_in _ (by omega)
          have hcq : Hid (cj rs k (nth U p) = lexc (pth rs k) (pth rs q)) := Lib.hid (by rw [hq]; rfl)
          by_cases hc : lexc (pth rs k) (pth rs q) < 0
          · have ha : ahd (pth rs k) (pth rs q) = true := decide_eq_true hc
            have H1' : Hid (∀ j, p ≤ j → j < k → cj rs k (nth U j) < 0) := Lib.hid (fun j h1 h2 => by
              by_cases e : j = p
              · subst e; rw [hcq.out]; exact hc
              · exact H1.out j (by omega) h2)
            rw [ha] at C1
            clear ha hc hcq hq n1 m1 n2 m2 CC c0 e0 hlo HI HK KC
            go_wp2_with fail
            go_region_held3 (fun w' => w'.cell? ⟨gl, k * 2 + 1, none⟩ = some (.slice (TB.a k) (TB.n k) (TB.c k)) ∧ w'.cell? ⟨g, p * 2 + 1, none⟩ = some (.slice (TB.a q) (TB.n q) (TB.c q))) (first | exact ⟨c1, e1⟩ | exact ⟨f1, f2⟩)
              (first
                | (go_at_call 15; (with_reducible refine C1.out.mono ?_); rintro e w2 ⟨rfl, m, hw2⟩; have R2 := Lib.hid (show Rwn TB w.heap.size g k cap U w w2 from by rw [hw2]; exact RD.out.keep (bl_dn (Below.refl _ _) _)); have f1 := KC2.out w2 R2.out.2.2.2; have f2 := RC.out w2 R2.out; clear hw2))
            clear f1 f2
            go_wp2
            go_roundw
            case rel => exact ⟨p, by omega, by go_num, H1', R2⟩
            case measure => simp [intOf]
          · have ha : ahd (pth rs k) (pth rs q) = false := decide_eq_false hc
            have H2 : Hid (p + 1 = 0 ∨ ¬ cj rs k (nth U (p + 1 - 1)) < 0) := Lib.hid (.inr (by rw [show p + 1 - 1 = p by omega, hcq.out]; exact hc))
            rw [ha] at C1
            clear ha hc hcq hq n1 m1 n2 m2 CC c0 e0 hlo KC R1
            go_wp2_with fail
            go_region_held3 (fun w' => w'.cell? ⟨gl, k * 2 + 1, none⟩ = some (.slice (TB.a k) (TB.n k) (TB.c k)) ∧ w'.cell? ⟨g, p * 2 + 1, none⟩ = some (.slice (TB.a q) (TB.n q) (TB.c q))) (first | exact ⟨c1, e1⟩ | exact ⟨f1, f2⟩)
              (first
                | (go_at_call 15; (with_reducible refine C1.out.mono ?_); rintro e w2 ⟨rfl, m, hw2⟩; have R2 := Lib.hid (show Rwn TB w.heap.size g k cap U w w2 from by rw [hw2]; exact RD.out.keep (bl_dn (Below.refl _ _) _)); have f1 := KC2.out w2 R2.out.2.2.2; have f2 := RC.out w2 R2.out; clear hw2))
            clear f1 f2
            have H1h := H1
            have R1 := R2
            have pI : ((p + 1 : Nat) : Int) = (p : Int) + 1 := by omega
            clear pI RC KC2 C1 RD R2 e1 c1 hd g1 g3 g4 g5 g6 hp0
            have hnil := TE.out
            obtain ⟨z1, z2, z3, z4, z5⟩ := hnil
            have hbs := R1.out.2.2.2.size
            clear SU0 H1h z1 z2 z3 z4
            go_wp2_with (at_builtin; refine wpList_append_own _ rfl _ _ 22 rfl w.heap.size 45 i0 (.agg #[.int .i64 0, .slice none 0 0]) 2 32 Try.underlying22 hi hz0 hz1 hz2 rfl (by decide) _ k _ rfl (R1.out.2.2.1.alloc _) ⟨_, 0, none⟩ 1 1 [.int .i64 0, .slice none 0 0] rfl rfl (rec_new _ _ _ _) (by simp [Value.oneCell']) (by unfold maxLen; omega) (by omega) (by rw [World.size_alloc]; omega) ?_)
            intro v4 w4 ho4 hg4 _
            obtain ⟨g2, cap2, rfl⟩ := ownsRow_succ ho4
            have F4 := app_fr (B := w.heap.size) R1.out.2.2.1 (Nat.le_refl _) hg4
            have B4 := F4.below R1.out.2.2.2 hbs
            have R4 := Lib.hid (rwn_snoc R1.out z5 ho4 B4 (ho4.lt g2 rfl).1)
            have SH := Lib.hid (shf_start (z := (n : Int)) SU.out.len (p + 1))
            clear ho4 hg4 F4 B4 z5 R1 RW
            go_wp2_with fail
            go_loopw [6] (fun i wr => ∃ (j : Nat) (V : List Int), (p + 1) ≤ j ∧ j ≤ k ∧ i = .int .i64 j ∧ Hid (Shf U V (p + 1) j k) ∧ Hid (Rwn TB w.heap.size g2 (k + 1) cap2 V w wr)) (fun i _ => (intOf i).toNat)
            case atStart => exact ⟨k, U ++ [(n : Int)], by omega, by omega, by go_num, SH, R4⟩
            case round =>
              clear SH R4
              obtain ⟨j, V, hpj, hjk, rfl, SH, R4⟩ := hrel
              by_cases hjp : (p + 1) < j
              · obtain ⟨j, rfl⟩ : ∃ j', j = j' + 1 := ⟨j - 1, by omega⟩
                have i3 : ((p : Int) + 1) < (j : Int) + 1 := by omega
                obtain ⟨e1, e2⟩ := R4.out.cell j (by omega)
                have hj1 := R4.out.cell (j + 1) (by omega)
                obtain ⟨e3, e4⟩ := hj1
                have f1 := R4.out.frozen ((j + 1) * 2)
                have f2 := R4.out.frozen ((j + 1) * 2 + 1)
                have RS := Lib.hid (R4.out.set (j + 1) (nth V j))
                have SS := Lib.hid (shf_step SH.out (by omega))
                have g1 : (0 : Int) ≤ (j : Int) + 1 := by omega
                have g2' : (j : Int) + 1 < (k : Int) + 1 := by omega
                have g3 : (0 : Int) ≤ (j : Int) := by omega
                have g4 : (j : Int) < (k : Int) + 1 := by omega
                have g5 : IntKind.i64.wrap ((j : Int) + 1 - 1) = (j : Int) := IntWalk.i64_in _ (by omega) |>.trans (by omega)
                have g6 : IntKind.i64.wrap (j : Int) = (j : Int) := IntWalk.i64_in _ (by omega)
                have g7 : ((j : Int) + 1).toNat = j + 1 := by omega
                clear SH R4
                generalize nth V j = x at *
                generalize nth V (j + 1) = y at *
                go_wp2
                go_roundw
                case rel => exact ⟨j, V.set (j + 1) x, by omega, by omega, by go_num, SS, RS⟩
                case measure => simp [intOf]
              · obtain rfl : j = (p + 1) := by omega
                have i3 : ¬ ((p : Int) + 1) < ((p : Int) + 1) := by omega
                obtain ⟨gl2, hgl, c0, c1⟩ := HK.out k hlt _ R4.out.2.2.2
                cases hgl
                obtain ⟨e3, e4⟩ := R4.out.cell (p + 1) (by omega)
                have f1 := R4.out.frozen ((p + 1) * 2)
                have f2 := R4.out.frozen ((p + 1) * 2 + 1)
                have RS := Lib.hid (R4.out.set (p + 1) (k : Int))
                have E := shf_end (z := (k : Int)) SH.out hpk
                have SE := Lib.hid (srt_put SU.out hpk H1.out (by have h := H2.out; omega) E.1 E.2)
                have q1 : (0 : Int) ≤ (p : Int) + 1 := by omega
                have q2 : (p : Int) + 1 < (k : Int) + 1 := by omega
                have q3 : ((p : Int) + 1).toNat = p + 1 := by omega
                clear SH R4 E
                generalize nth V (p + 1) = y at *
                go_wp2
                go_roundw
                case rel => exact ⟨k + 1, g2, cap2, _, by omega, by go_num, rfl, SE, RS⟩
                case measure => simp [intOf]; omega
        · obtain rfl : p = 0 := by omega
          have H2 : Hid (0 = 0 ∨ ¬ cj rs k (nth U (0 - 1)) < 0) := Lib.hid (.inl rfl)
          have H1h := H1
          have hd : decide ((0 : Nat) < 0) = false := by simp
          go_wp2_with fail
          go_quiet (fail)
          generalize hW : World.drewN _ _ = W
          have R1 : Hid (Rwn TB w.heap.size g k cap U w W) := Lib.hid (by rw [← hW]; exact R1.out.keep (bl_dn (Below.refl _ _) _))
          clear hd hW
          have hnil := TE.out
          obtain ⟨z1, z2, z3, z4, z5⟩ := hnil
          have hbs := R1.out.2.2.2.size
          clear SU0 H1h z1 z2 z3 z4
          go_wp2_with (at_builtin; refine wpList_append_own _ rfl _ _ 22 rfl w.heap.size 45 i0 (.agg #[.int .i64 0, .slice none 0 0]) 2 32 Try.underlying22 hi hz0 hz1 hz2 rfl (by decide) _ k _ rfl (R1.out.2.2.1.alloc _) ⟨_, 0, none⟩ 1 1 [.int .i64 0, .slice none 0 0] rfl rfl (rec_new _ _ _ _) (by simp [Value.oneCell']) (by unfold maxLen; omega) (by omega) (by rw [World.size_alloc]; omega) ?_)
          intro v4 w4 ho4 hg4 _
          obtain ⟨g2, cap2, rfl⟩ := ownsRow_succ ho4
          have F4 := app_fr (B := w.heap.size) R1.out.2.2.1 (Nat.le_refl _) hg4
          have B4 := F4.below R1.out.2.2.2 hbs
          have R4 := Lib.hid (rwn_snoc R1.out z5 ho4 B4 (ho4.lt g2 rfl).1)
          have SH := Lib.hid (shf_start (z := (n : Int)) SU.out.len 0)
          clear ho4 hg4 F4 B4 z5 R1 RW
          go_wp2_with fail
          go_loopw [6] (fun i wr => ∃ (j : Nat) (V : List Int), 0 ≤ j ∧ j ≤ k ∧ i = .int .i64 j ∧ Hid (Shf U V 0 j k) ∧ Hid (Rwn TB w.heap.size g2 (k + 1) cap2 V w wr)) (fun i _ => (intOf i).toNat)
          case atStart => exact ⟨k, U ++ [(n : Int)], by omega, by omega, by go_num, SH, R4⟩
          case round =>
            clear SH R4
            obtain ⟨j, V, hpj, hjk, rfl, SH, R4⟩ := hrel
            by_cases hjp : 0 < j
            · obtain ⟨j, rfl⟩ : ∃ j', j = j' + 1 := ⟨j - 1, by omega⟩
              have i3 : (0 : Int) < (j : Int) + 1 := by omega
              obtain ⟨e1, e2⟩ := R4.out.cell j (by omega)
              have hj1 := R4.out.cell (j + 1) (by omega)
              obtain ⟨e3, e4⟩ := hj1
              have f1 := R4.out.frozen ((j + 1) * 2)
              have f2 := R4.out.frozen ((j + 1) * 2 + 1)
              have RS := Lib.hid (R4.out.set (j + 1) (nth V j))
              have SS := Lib.hid (shf_step SH.out (by omega))
              have g1 : (0 : Int) ≤ (j : Int) + 1 := by omega
              have g2' : (j : Int) + 1 < (k : Int) + 1 := by omega
              have g3 : (0 : Int) ≤ (j : Int) := by omega
              have g4 : (j : Int) < (k : Int) + 1 := by omega
              have g5 : IntKind.i64.wrap ((j : Int) + 1 - 1) = (j : Int) := IntWalk.i64_in _ (by omega) |>.trans (by omega)
              have g6 : IntKind.i64.wrap (j : Int) = (j : Int) := IntWalk.i64_in _ (by omega)
              have g7 : ((j : Int) + 1).toNat = j + 1 := by omega
              clear SH R4
              generalize nth V j = x at *
              generalize nth V (j + 1) = y at *
              go_wp2
              go_roundw
              case rel => exact ⟨j, V.set (j + 1) x, by omega, by omega, by go_num, SS, RS⟩
              case measure => simp [intOf]
            · obtain rfl : j = 0 := by omega
              have i3 : ¬ (0 : Int) < (0 : Int) := by omega
              obtain ⟨gl2, hgl, c0, c1⟩ := HK.out k hlt _ R4.out.2.2.2
              subst hgl
              obtain ⟨e3, e4⟩ := R4.out.cell 0 (by omega)
              have f1 := R4.out.frozen (0 * 2)
              have f2 := R4.out.frozen (0 * 2 + 1)
              have RS := Lib.hid (R4.out.set 0 (k : Int))
              have E := shf_end (z := (k : Int)) SH.out hpk
              have SE := Lib.hid (srt_put SU.out hpk H1.out (by have h := H2.out; omega) E.1 E.2)
              simp at e3 e4 f1 f2 RS
              have q2 : (0 : Int) < (k : Int) + 1 := by omega
              clear SH R4 E
              generalize nth V 0 = y at *
              go_wp2
              go_roundw
              case rel => exact ⟨k + 1, g2, cap2, _, by omega, by go_num, rfl, SE, RS⟩
              case measure => simp [intOf]; omega
    · obtain rfl : k = n := by omega
      have i1 : ¬ (k : Int) < (k : Int) := by omega
      have FIN := Lib.hid (And.intro (srt_rk SU.out) (fun j hj => SU.out.lo j hj : Rng k U))
      go_wp2
      go_ret
      refine ⟨_, U, rfl, by rw [HKN.out]; exact FIN.out.1, by rw [HKN.out]; exact FIN.out.2, ?_, RW.out.2.2.2⟩
      have e := HM.out U FIN.out.2 SU.out.len
      have h := RW.out.2.2.1
      rw [e] at h
      rw [List.length_map, SU.out.len]
      exact h
end Go.Proofs.Ytgldgilhegdpjaa.so
