/-
  The walk of kurgantop.KurganQuiet.
-/
import Derived.Test.YtegieoajjfodcaaGreatDoorQm
import Derived.Test.YtegieoajjfodcaaGreatDoorStA
import Derived.Lib.ItoaLen
import Derived.Deep.Cut
namespace Go.Proofs.YtegieoajjfodcaaGreatDoor
open Go.RowKit
set_option linter.unusedVariables false
theorem plc_up (s : ByteArray) (at' : Int) : ∀ (b pos : Nat) (l c : Int), 1 ≤ c → (plc s at' b pos l c).1 ≤ l + b ∧ (plc s at' b pos l c).2 ≤ c + b
  | 0, pos, l, c, h => by simp only [plc]; omega
  | b + 1, pos, l, c, h => by
    simp only [plc]
    split
    · split
      · have := plc_up s at' b (pos + (Utf8.decode s pos).2) (l + 1) 1 (by omega)
        omega
      · have := plc_up s at' b (pos + (Utf8.decode s pos).2) l (c + 1) (by omega)
        omega
    · show l ≤ _ ∧ c ≤ _
      omega
theorem sIt_size (n : Int) (h0 : -9223372036854775808 ≤ n) (h1 : n ≤ 9223372036854775807) : (sIt n).size ≤ 21 := by
  rw [sIt_eq, mk_size]; exact Lib.itoa_length_le n h0 h1
def erB : ByteArray := ⟨#[69, 82, 82, 79, 82]⟩
/-- the line that tells an error -/
def flt (t : ByteArray) (q : Nat) (f : Int) : ByteArray := ((((((erB ++ ⟨#[32]⟩) ++ sIt f) ++ ⟨#[32, 97, 116, 32]⟩) ++ sIt (plc t q t.size 0 1 1).1) ++ ⟨#[32]⟩) ++ sIt (plc t q t.size 0 1 1).2) ++ ⟨#[10]⟩
theorem flt_head (t : ByteArray) (q : Nat) (f : Int) : 6 < (flt t q f).size ∧ (flt t q f).extract 0 6 = ⟨#[69, 82, 82, 79, 82, 32]⟩ := by
  have e : ∃ R : ByteArray, 1 ≤ R.size ∧ flt t q f = (erB ++ ⟨#[32]⟩) ++ R := ⟨((((sIt f ++ ⟨#[32, 97, 116, 32]⟩) ++ sIt (plc t q t.size 0 1 1).1) ++ ⟨#[32]⟩) ++ sIt (plc t q t.size 0 1 1).2) ++ ⟨#[10]⟩, by
    rw [ByteArray.size_append]; show 1 ≤ _ + 1; omega, by
    unfold flt; simp only [ByteArray.append_assoc]⟩
  obtain ⟨R, h1, h2⟩ := e
  rw [h2]
  refine ⟨by rw [ByteArray.size_append]; show 6 < 6 + R.size; omega, ?_⟩
  apply ByteArray.ext_getElem
  · rw [ByteArray.size_extract, ByteArray.size_append]; show min 6 (6 + R.size) - 0 = 6; omega
  · intro i h3 h4
    have h4' : i < 6 := h4
    rw [ByteArray.getElem_extract, ByteArray.getElem_append_left (by show 0 + i < 6; omega)]
    rcases i with _ | _ | _ | _ | _ | _ | i
    all_goals first | rfl | omega
set_option maxRecDepth 100000 in
set_option maxHeartbeats 2000000 in
theorem fault_any (t : ByteArray) (q : Nat) (f : Int) (ht : t.size ≤ 6000) (f0 : 0 ≤ f) (f1 : f ≤ 8) (w : World) (hT : Tab w) : Calls Tryz.prog 9 #[.string ⟨#[69, 82, 82, 79, 82]⟩, .int .i64 f, .string t, .int .i64 q] w fun e w' => e = .returned (.string (flt t q f)) ∧ Below w.heap.size w w' := by
  have HP := Lib.hid (place_any t q ht w)
  have hu := plc_up t q t.size 0 1 1 (by decide)
  have hg := plc_ge t q t.size 0 1 1 (by decide) (by decide)
  have hR : Hid (flt t q f = ((((((erB ++ ⟨#[32]⟩) ++ sIt f) ++ ⟨#[32, 97, 116, 32]⟩) ++ sIt (plc t q t.size 0 1 1).1) ++ ⟨#[32]⟩) ++ sIt (plc t q t.size 0 1 1).2) ++ ⟨#[10]⟩) := Lib.hid rfl
  generalize (plc t q t.size 0 1 1).1 = l at *
  generalize (plc t q t.size 0 1 1).2 = c at *
  generalize flt t q f = F at *
  have s1 := sIt_size f (by omega) (by omega)
  have s2 := sIt_size l (by omega) (by omega)
  have s3 := sIt_size c (by omega) (by omega)
  have W1 := Lib.hid (fun W hW => write_any f W (by omega) (by omega) hW)
  have W2 := Lib.hid (fun W hW => write_any l W (by omega) (by omega) hW)
  have W3 := Lib.hid (fun W hW => write_any c W (by omega) (by omega) hW)
  have HT := Lib.hid hT
  unfold erB at hR
  generalize sIt f = S1 at *
  generalize sIt l = S2 at *
  generalize sIt c = S3 at *
  have k1 : ¬ 9223372036854775807 < 6 + S1.size := by omega
  have k2 : ¬ 9223372036854775807 < 6 + S1.size + 4 := by omega
  have k3 : ¬ 9223372036854775807 < 6 + S1.size + 4 + S2.size := by omega
  have k4 : ¬ 9223372036854775807 < 6 + S1.size + 4 + S2.size + 1 := by omega
  have k5 : ¬ 9223372036854775807 < 6 + S1.size + 4 + S2.size + 1 + S3.size := by omega
  have k6 : ¬ 9223372036854775807 < 6 + S1.size + 4 + S2.size + 1 + S3.size + 1 := by omega
  clear hu hg ht hT s1 s2 s3 f0 f1
  go_enter Tryz.func9, Tryz.ntmps9
  go_wp2_with fail
  refine HP.out.mono ?_; rintro e w1 ⟨rfl, hb1⟩
  have T1 := Lib.hid (tab_keep _ _ HT.out hb1)
  have B1 := Lib.hid hb1
  clear hb1 HP HT
  go_wp2_with fail
  refine (W1.out _ T1.out).mono ?_; rintro e w2 ⟨rfl, hb2⟩
  have T2 := Lib.hid (tab_keep _ _ T1.out hb2)
  have B2 := Lib.hid (bl_tr B1.out hb2)
  clear hb2 W1 T1 B1
  go_wp2_with fail
  refine (W2.out _ T2.out).mono ?_; rintro e w3 ⟨rfl, hb3⟩
  have T3 := Lib.hid (tab_keep _ _ T2.out hb3)
  have B3 := Lib.hid (bl_tr B2.out hb3)
  clear hb3 W2 T2 B2
  go_wp2_with fail
  refine (W3.out _ T3.out).mono ?_; rintro e w4 ⟨rfl, hb4⟩
  have B4 := Lib.hid (bl_tr B3.out hb4)
  clear hb4 W3 T3 B3
  go_wp2
  go_ret
  exact ⟨by rw [hR.out]; rfl, B4.out⟩
set_option maxRecDepth 100000 in
set_option maxHeartbeats 2000000 in
theorem solve_any (t c : ByteArray) (q : Nat) (f : Int) (hX : PXX t = .bad q f) (hf : f ≠ 0) (ht : t.size ≤ 6000) (f0 : 0 ≤ f) (f1 : f ≤ 8) (w : World) (hT : Tab w) : Calls Tryz.prog 5 #[.string t, .string c] w fun e w' => e = .returned (.string (flt t q f)) ∧ Below w.heap.size w w' := by
  have HP := Lib.hid (parse_any t w)
  rw [hX] at HP
  have dF : (f != 0) = true := by simpa using hf
  have HF := Lib.hid (fun W hW => fault_any t q f ht f0 f1 W hW)
  have HT := Lib.hid hT
  clear hX hf ht f0 f1 hT
  generalize flt t q f = F at *
  go_enter Tryz.func5, Tryz.ntmps5
  go_wp2_with fail
  refine HP.out.mono ?_
  rintro e w1 ⟨rfl, hB1⟩
  have B1 := Lib.hid (bl_al hB1 (.cells #[.int .i64 0, .int .i64 0, .int .i64 0, .slice none 0 0, .slice none 0 0, .slice none 0 0] 30))
  have T1 := Lib.hid (tab_keep _ _ HT.out B1.out)
  clear hB1 HP HT
  go_upto_region 2 with fail
  generalize w1.alloc (.cells #[.int .i64 0, .int .i64 0, .int .i64 0, .slice none 0 0, .slice none 0 0, .slice none 0 0] 30) = Y at B1 T1 ⊢
  go_wp2_with fail
  refine (HF.out _ T1.out).mono ?_; rintro e w2 ⟨rfl, hB2⟩
  have B2 := Lib.hid (bl_tr B1.out hB2)
  clear hB2 B1 T1 HF
  go_wp2
  go_ret
  exact ⟨rfl, B2.out⟩
set_option maxRecDepth 100000 in
set_option maxHeartbeats 2000000 in
theorem verify_any (t c : ByteArray) (q : Nat) (f : Int) (hX : PXX t = .bad q f) (hf : f ≠ 0) (ht : t.size ≤ 6000) (f0 : 0 ≤ f) (f1 : f ≤ 8) (w : World) (hT : Tab w) : Calls Tryz.prog 6 #[.string t, .string c] w fun e w' => e = .returned (.string (flt t q f)) ∧ Below w.heap.size w w' := by
  have HP := Lib.hid (parse_any t w)
  rw [hX] at HP
  have dF : (f != 0) = true := by simpa using hf
  have HF := Lib.hid (fun W hW => fault_any t q f ht f0 f1 W hW)
  have HT := Lib.hid hT
  clear hX hf ht f0 f1 hT
  generalize flt t q f = F at *
  go_enter Tryz.func6, Tryz.ntmps6
  go_wp2_with fail
  refine HP.out.mono ?_
  rintro e w1 ⟨rfl, hB1⟩
  have B1 := Lib.hid (bl_al hB1 (.cells #[.int .i64 0, .int .i64 0, .int .i64 0, .slice none 0 0, .slice none 0 0, .slice none 0 0] 30))
  have T1 := Lib.hid (tab_keep _ _ HT.out B1.out)
  clear hB1 HP HT
  go_upto_region 2 with fail
  generalize w1.alloc (.cells #[.int .i64 0, .int .i64 0, .int .i64 0, .slice none 0 0, .slice none 0 0, .slice none 0 0] 30) = Y at B1 T1 ⊢
  go_wp2_with fail
  refine (HF.out _ T1.out).mono ?_; rintro e w2 ⟨rfl, hB2⟩
  have B2 := Lib.hid (bl_tr B1.out hB2)
  clear hB2 B1 T1 HF
  go_wp2
  go_ret
  exact ⟨rfl, B2.out⟩
set_option maxRecDepth 100000 in
set_option maxHeartbeats 2000000 in
theorem quiet_long (s c : ByteArray) (h : 300 < s.size ∨ (¬ 300 < s.size ∧ 300 < c.size)) (w : World) : Calls Tryz.prog 3 #[.string s, .string c] w fun e w' => e = .returned (.bool true) ∧ Below w.heap.size w w' := by
  have H := Lib.hid ar.stands_any
  have d : (300 : Int) < (s.size : Int) ∨ (¬ (300 : Int) < (s.size : Int) ∧ (300 : Int) < (c.size : Int)) := by omega
  clear h
  rcases d with d | ⟨d, d2⟩
  all_goals
    go_enter Tryz.func3, Tryz.ntmps3
    go_wp2_with fail
    refine (H.out _).mono ?_; rintro e w1 ⟨rfl, hB1⟩
    have B1 := Lib.hid hB1
    clear hB1
    go_wp2_with fail
    refine (H.out _).mono ?_; rintro e w2 ⟨rfl, hB2⟩
    have B2 := Lib.hid (bl_tr B1.out hB2)
    clear hB2 B1 H
    go_wp2
    go_ret
    exact ⟨rfl, B2.out⟩
set_option maxRecDepth 100000 in
set_option maxHeartbeats 2000000 in
theorem quiet_walk (s c : ByteArray) (w : World) (ht : Tab w) : Calls Tryz.prog 3 #[.string s, .string c] w fun e w' => e = .returned (.bool true) ∧ Below w.heap.size w w' := by
  by_cases h1 : 300 < s.size
  · exact quiet_long s c (.inl h1) w
  · by_cases h2 : 300 < c.size
    · exact quiet_long s c (.inr ⟨h1, h2⟩) w
    · obtain ⟨q, f, hX, hf, hq, f0, f1⟩ := wrong_bad s (by omega)
      have tz : (wrongB ++ s).size ≤ 6000 := by rw [ByteArray.size_append]; show 6 + s.size ≤ 6000; omega
      have d1 : ¬ (300 : Int) < (s.size : Int) := by omega
      have d2 : ¬ (300 : Int) < (c.size : Int) := by omega
      have H := Lib.hid ar.stands_any
      have HS := Lib.hid (fun W hW => solve_any (wrongB ++ s) c q f hX hf tz f0 f1 W hW)
      have HV := Lib.hid (fun W hW => verify_any (wrongB ++ s) c q f hX hf tz f0 f1 W hW)
      obtain ⟨g1, g2⟩ := flt_head (wrongB ++ s) q f
      generalize flt (wrongB ++ s) q f = F at *
      have HT := Lib.hid ht
      unfold wrongB at HS HV
      have kc : ¬ 9223372036854775807 < 6 + s.size := by omega
      have g1' : (6 : Int) < (F.size : Int) := by omega
      have g3 : ¬ F.size < 6 := by omega
      clear hX hf hq f0 f1 tz h1 h2 ht g1
      go_enter Tryz.func3, Tryz.ntmps3
      go_wp2_with fail
      refine (H.out _).mono ?_; rintro e w1 ⟨rfl, hB1⟩
      have B1 := Lib.hid hB1
      have T1 := Lib.hid (tab_keep _ _ HT.out hB1)
      clear hB1 H HT
      go_wp2_with fail
      refine (HS.out _ T1.out).mono ?_; rintro e w2 ⟨rfl, hB2⟩
      have B2 := Lib.hid (bl_tr B1.out hB2)
      have T2 := Lib.hid (tab_keep _ _ T1.out hB2)
      clear hB2 B1 T1 HS
      go_wp2_with fail
      refine (HV.out _ T2.out).mono ?_; rintro e w3 ⟨rfl, hB3⟩
      have B3 := Lib.hid (bl_tr B2.out hB3)
      clear hB3 B2 T2 HV
      go_wp2
      go_ret
      exact ⟨rfl, B3.out⟩
end Go.Proofs.YtegieoajjfodcaaGreatDoor
