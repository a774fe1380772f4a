/-
  The walk through kurganlaw25.LogAdds.
-/
import Derived.Test.YtgldgilhegdpjaaLgD
namespace Go.Proofs.Ytgldgilhegdpjaa
open Go.RowKit
set_option linter.unusedVariables false
def JP (N : Nat) (ks : List (Int × Value)) (rs : List Rec) (w : World) : Prop := ∀ (j : Nat) (k : Int × Value) (r : Rec), ks[j]? = some k → rs[j]? = some r → (k.2 = .slice none 0 0 ∧ r.2 = []) ∨ ∃ g cap, k.2 = .slice (some ⟨g, 0, none⟩) r.2.length cap ∧ N ≤ g ∧ Junk g r.2.length w
theorem JP.of {N : Nat} {ks : List (Int × Value)} {rs : List Rec} {w : World} (h : Ps N ks rs w) : JP N ks rs w := fun j k r h1 h2 => by
  rcases Junk.lst (h.2 j k r h1 h2).2.1 with h | ⟨g, cap, e1, e2, _, _, e3⟩
  · exact .inl h
  · exact .inr ⟨g, cap, e1, e2, e3⟩
theorem Junk.any {g m g' j : Nat} {x : Int} {w : World} (h : Junk g m w) : Junk g m (w.setCell ⟨g', j, none⟩ (.int .i64 x)) := by
  by_cases e : g = g'
  · subst e; exact h.st j x
  · obtain ⟨⟨cur, hc⟩, h2⟩ := h
    have t : Tw [g'] w (w.setCell ⟨g', j, none⟩ (.int .i64 x)) := (Tw.refl _ w).st g' (.inl (by simp)) j _
    exact ⟨⟨cur, blk_tw hc t (by simp [e])⟩, fun i hi => by rw [cell_tw t (lt_hp hc) (by simp [e])]; exact h2 i hi⟩
theorem JP.st {N g' j : Nat} {x : Int} {ks : List (Int × Value)} {rs : List Rec} {w : World} (h : JP N ks rs w) : JP N ks rs (w.setCell ⟨g', j, none⟩ (.int .i64 x)) := fun i k r h1 h2 => by
  rcases h i k r h1 h2 with h | ⟨g, cap, e1, e2, e3⟩
  · exact .inl h
  · exact .inr ⟨g, cap, e1, e2, e3.any⟩
/-- what stands while the paths are written over -/
def Ov (w2 : World) (v3 : Value) (ks3 : List (Int × Value)) (rs : List Rec) (w : World) : Prop := Below w2.heap.size w2 w ∧ w.ownsRow w2.heap.size 36 2 v3 ks3.length (enc ks3) ∧ JP w2.heap.size ks3 rs w
theorem Ov.st {w2 w : World} {v3 : Value} {ks3 : List (Int × Value)} {rs : List Rec} {g m j : Nat} {x : Int} (h : Ov w2 v3 ks3 rs w) (hg : w2.heap.size ≤ g) (hj : Junk g m w) : Ov w2 v3 ks3 rs (w.setCell ⟨g, j, none⟩ (.int .i64 x)) := by
  obtain ⟨h1, h2, h3⟩ := h
  obtain ⟨⟨cur, hc⟩, _⟩ := hj
  have f : Fr w2.heap.size (fun t => t = 3) w (w.setCell ⟨g, j, none⟩ (.int .i64 x)) := ⟨[g], (Tw.refl _ w).st g (.inl (by simp)) j _, fun i hi => by simp at hi; subst hi; exact ⟨hg, .inr ⟨_, _, hc, rfl⟩⟩⟩
  exact ⟨f.below h1 h1.size, f.row h2 (by decide), h3.st⟩
set_option maxRecDepth 100000 in
set_option maxHeartbeats 16000000 in
theorem adds_walk (a : Option Addr) (n c : Nat) (rs : List Rec) (w : World) (hA : RArg w a n c rs) :
    Calls Try.prog 3 #[.slice a n c] w fun e w' => e = .returned (.bool true) ∧ Below w.heap.size w w' := by
  have FI := Lib.hid (fill_any a n c rs w hA)
  have NO := Lib.hid none_any
  have AN := Lib.hid (add_none 1)
  have LN := Lib.hid len_none
  have LL := Lib.hid all_none
  have LG := Lib.hid logs_any
  have hr40 : rs.length ≤ 40 := by rcases hA.1 with h | h <;> omega
  clear hA
  go_enter Try.func3, Try.ntmps3
  go_wp2_with fail
  refine (NO.out _).mono ?_; rintro e w0 ⟨rfl, rfl⟩
  go_wp2_with fail
  refine (AN.out _).mono ?_; rintro e w0 ⟨rfl, rfl⟩
  go_wp2_with fail
  refine FI.out.mono ?_; rintro e w1 ⟨wv, rfl, v, ks, wks, hq, ho, hp, hwo, hwp, hb⟩
  rw [List.take_length] at hp hwp
  obtain ⟨wa, wc, rfl⟩ := row_sl hwo
  have GV := Lib.hid (row_sl ho)
  have hkl : ks.length = wks.length := hp.1.trans hwp.1.symm
  have hk40 : wks.length ≤ 40 := by rw [hwp.1]; exact hr40
  have QQ := Lib.hid hq
  have OO := Lib.hid ho
  have PP := Lib.hid hp
  have WO := Lib.hid hwo
  have WP := Lib.hid hwp
  have B1 := Lib.hid hb
  have HKL := Lib.hid hkl
  clear hq ho hp hwo hwp hb hkl FI AN
  go_wp2_with fail
  refine (LG.out _).mono ?_; rintro e w2 ⟨rfl, hb2⟩
  have QQ := Lib.hid ((hb2.block _ (lt_hp QQ.out)).trans QQ.out)
  have OO := Lib.hid ((Fr.of (B := 0) (P := fun _ => False) hb2).row OO.out (fun h => h))
  have PP := Lib.hid (PP.out.up hb2)
  have WO := Lib.hid ((Fr.of (B := 0) (P := fun _ => False) hb2).row WO.out (fun h => h))
  have WP := Lib.hid (WP.out.up hb2)
  have B2 := Lib.hid (B1.out.trans (hb2.mono B1.out.size))
  clear hb2 B1 LG
  go_wp2_with fail
  refine (NO.out _).mono ?_; rintro e w0 ⟨rfl, rfl⟩
  go_wp2_with fail
  refine (LN.out _).mono ?_; rintro e w0 ⟨rfl, rfl⟩
  go_wp2_with fail
  refine (NO.out _).mono ?_; rintro e w0 ⟨rfl, rfl⟩
  go_wp2_with fail
  refine (LL.out _).mono ?_; rintro e w0 ⟨rfl, rfl⟩
  have LA := Lib.hid (len_any _ v ks.length w2 QQ.out GV.out)
  rw [HKL.out] at LA
  have AL := Lib.hid (fun W (h : Below w2.heap.size w2 W) => all_any ((h.block _ (lt_hp QQ.out)).trans QQ.out) ((Fr.of (B := 0) (P := fun _ => False) h).row OO.out (fun h => h)) (PP.out.up h) (by rw [HKL.out]; omega))
  have WU := Lib.hid (fun W (h : Below w2.heap.size w2 W) => And.intro ((Fr.of (B := 0) (P := fun _ => False) h).row WO.out (fun h => h)) (WP.out.up h))
  clear QQ OO PP WO WP NO LN LL
  have nn : ((wks.length : Int) != (wks.length : Int)) = false := by simp
  go_wp2_with fail
  refine LA.out.mono ?_; rintro e w0 ⟨rfl, rfl⟩
  clear LA GV HKL
  go_wp2_with fail
  refine (AL.out _ (Below.refl _ _)).mono ?_; rintro e w3 ⟨v3, ks3, rfl, ho3, hp3, hb3⟩
  have FR := Lib.hid (from_any ho3 hp3 (by rw [hp3.1]; omega))
  have O3 := Lib.hid ho3
  have P3 := Lib.hid hp3
  have B3 := Lib.hid hb3
  clear ho3 hp3 hb3
  go_wp2_with fail
  refine FR.out.mono ?_; rintro e w4 ⟨v4, rfl, ho4, hb4⟩
  have hs3 := B3.out.size
  have B4 := Lib.hid (B3.out.trans (hb4.mono hs3))
  have SM := Lib.hid (same_any ho4 (P3.out.up hb4) (WU.out _ B4.out).1 (WU.out _ B4.out).2 (by rw [P3.out.1]; omega))
  have O4 := Lib.hid ((Fr.of (B := 0) (P := fun _ => False) hb4).row O3.out (fun h => h))
  have P4 := Lib.hid (P3.out.up hb4)
  clear ho4 hb4 FR O3 P3 B3
  go_wp2_with fail
  refine SM.out.mono ?_; rintro e w5 ⟨rfl, hb5⟩
  have hs4 := B4.out.size
  have OV := Lib.hid (show Ov w2 v3 ks3 rs w5 from ⟨B4.out.trans (hb5.mono hs4), (Fr.of (B := 0) (P := fun _ => False) hb5).row O4.out (fun h => h), JP.of (P4.out.up hb5)⟩)
  have KL := Lib.hid P4.out.1
  have L20 := Lib.hid (fun (j : Nat) (r : Rec) (h : rs[j]? = some r) => show r.2.length ≤ 20 from by
    have hj : j < ks3.length := by rw [P4.out.1]; exact (List.getElem?_eq_some_iff.1 h).1
    exact (P4.out.2 j _ r (List.getElem?_eq_getElem hj) h).2.2)
  clear hb5 SM O4 P4 B4 hs3 hs4
  obtain ⟨va, vc, rfl⟩ := row_sl OV.out.2.1
  have hm40 : ks3.length ≤ 40 := by rw [KL.out]; omega
  go_wp2_with fail
  go_loopw [6] (fun i wr => ∃ k : Nat, i = .int .i64 k ∧ k ≤ ks3.length ∧ Hid (Ov w2 (.slice va ks3.length vc) ks3 rs wr)) (fun i _ => ks3.length - (intOf i).toNat)
  case atStart => exact ⟨0, rfl, by omega, OV⟩
  case round =>
    clear OV
    obtain ⟨k, rfl, hk, OV⟩ := hrel
    by_cases hlt : k < ks3.length
    · have i1 : (k : Int) < (ks3.length : Int) := by omega
      have hwk : IntKind.i64.wrap ((k : Int) + 1) = (k : Int) + 1 := IntWalk.i64_in _ (by omega)
      go_wp2_with fail
      go_loopw [7] (fun i wr => ∃ j : Nat, i = .int .i64 j ∧ j ≤ 20 ∧ Hid (Ov w2 (.slice va ks3.length vc) ks3 rs wr)) (fun i _ => 20 - (intOf i).toNat)
      case atStart => exact ⟨0, rfl, by omega, OV⟩
      case round =>
        clear OV
        obtain ⟨j, rfl, hj, OV⟩ := hrel
        obtain ⟨ga, b, p, rfl, hbp, hBg, hg, hc⟩ := row_at OV.out.2.1 hlt
        obtain ⟨r, hr⟩ : ∃ r, rs[k]? = some r := ⟨_, List.getElem?_eq_getElem (by rw [← KL.out]; exact hlt)⟩
        have h20 := L20.out k r hr
        obtain ⟨d0, d1, df⟩ := hc _ rfl
        rcases OV.out.2.2 k _ _ hbp hr with ⟨e1, e2⟩ | ⟨g, cap, e1, e2, e3⟩
        · have e1 : p = .slice none 0 0 := e1
          subst e1
          have i3 : ¬ (j : Int) < 0 := by omega
          clear hc hbp hr e2 d0 df
          go_wp2
          go_roundw
          case rel => exact ⟨k + 1, by go_num, by omega, OV⟩
          case measure => simp [intOf]; omega
        · have e1 : p = .slice (some ⟨g, 0, none⟩) r.2.length cap := e1
          subst e1
          obtain ⟨ml, hml⟩ : ∃ ml, r.2.length = ml := ⟨_, rfl⟩
          rw [hml] at d1 e3 h20
          clear hc hbp hr d0 hml
          by_cases hjl : j < ml
          · have i3 : (j : Int) < (ml : Int) := by omega
            have hwj : IntKind.i64.wrap ((j : Int) + 1) = (j : Int) + 1 := IntWalk.i64_in _ (by omega)
            obtain ⟨z, hz⟩ := e3.2 j hjl
            have hf := e3.fz j
            have OV2 := Lib.hid (OV.out.st (x := 77) (j := j) e2 e3)
            clear e3 OV df
            go_wp2
            go_roundw
            case rel => exact ⟨j + 1, by go_num, by omega, OV2⟩
            case measure => simp [intOf]; omega
          · have i3 : ¬ (j : Int) < (ml : Int) := by omega
            clear e3 df
            go_wp2
            go_roundw
            case rel => exact ⟨k + 1, by go_num, by omega, OV⟩
            case measure => simp [intOf]; omega
    · have i1 : ¬ (k : Int) < (ks3.length : Int) := by omega
      have B6 := Lib.hid OV.out.1
      have A6 := Lib.hid (AL.out _ OV.out.1)
      have hs6 := OV.out.1.size
      clear OV AL KL L20
      go_wp2_with fail
      refine A6.out.mono ?_; rintro e w7 ⟨v7, ks7, rfl, ho7, hp7, hb7⟩
      have FR := Lib.hid (from_any ho7 hp7 (by rw [hp7.1]; omega))
      have P7 := Lib.hid hp7
      have B7 := Lib.hid (B6.out.trans (hb7.mono hs6))
      clear ho7 hp7 hb7 A6 B6
      go_wp2_with fail
      refine FR.out.mono ?_; rintro e w8 ⟨v8, rfl, ho8, hb8⟩
      have hs7 := B7.out.size
      have B8 := Lib.hid (B7.out.trans (hb8.mono hs7))
      have SM := Lib.hid (same_any ho8 (P7.out.up hb8) (WU.out _ B8.out).1 (WU.out _ B8.out).2 (by rw [P7.out.1]; omega))
      clear ho8 hb8 FR P7 B7 WU
      go_wp2_with fail
      refine SM.out.mono ?_; rintro e w9 ⟨rfl, hb9⟩
      have hs8 := B8.out.size
      have BF := Lib.hid (B2.out.trans ((B8.out.trans (hb9.mono hs8)).mono B2.out.size))
      clear SM hb9 B8 B2
      go_wp2
      go_ret
      exact ⟨rfl, BF.out⟩
end Go.Proofs.Ytgldgilhegdpjaa
