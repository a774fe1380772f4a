/-
  What the reference's Favor answers; both for every four numbers.
-/
import Derived.Test.YtdeflnnbnabbgaaFav
namespace Go.Proofs.Ytdeflnnbnabbgaa
open Go.RowKit
set_option linter.unusedVariables false
/-- a list that is answered -/
def LRes (l : List Int) (w : World) (v : Value) (w' : World) : Prop := ∃ a c, v = .slice a l.length c ∧ Ints w' a l ∧ Below w.heap.size w w'
def LCall (l : List Int) (w : World) (E : Ending) (w' : World) : Prop := ∃ v, E = .returned v ∧ LRes l w v w'
theorem ints_nil (w : World) (a : Option Addr) : Ints w a [] := fun j hj => by simp at hj
theorem own_lcall {g n cap : Nat} {l : List Int} {w w' : World} (h : Own w.heap.size g n cap l w w') : LCall l w (.returned (.slice (some ⟨g, 0, none⟩) n cap)) w' :=
  ⟨_, rfl, _, _, by rw [h.1], h.ints, h.2.2.2⟩
theorem owns_ints {B n : Nat} {v : Value} {l : List Int} {w : World} (hl : l.length = n) (h : w.ownsRow B 3 1 v n (l.map (Value.int .i64))) : ∃ a c, v = .slice a n c ∧ Ints w a l := by
  have h' := h
  rcases h.2 with ⟨hv, hx⟩ | ⟨g, cap, cur, hv, hg, hh, r⟩
  · have h0 : n = 0 := by simpa using hx
    subst h0
    obtain rfl : l = [] := List.length_eq_zero_iff.1 hl
    exact ⟨none, 0, hv, ints_nil _ _⟩
  · subst hv
    refine ⟨_, _, rfl, fun j hj => ⟨g, 0, rfl, lt_hp hh, ?_⟩⟩
    rw [Nat.zero_add, h'.cellAt j (by omega), List.getElem?_map, List.getElem?_eq_getElem (by omega), nth_at l j (by omega)]
    rfl
open Classical in
noncomputable def FAV (n who e c : Int) : List Int := if okF n who e c then FV n.toNat who.toNat e.toNat c.toNat else []
theorem FAV_no (n who e c : Int) (h : ¬ okF n who e c) : FAV n who e c = [] := if_neg h
theorem FAV_yes (n who e c : Nat) (h : okF n who e c) : FAV n who e c = FV n who e c := if_pos h
attribute [irreducible] FAV
theorem rfavor_no (n who e c : Int) (h : ¬ okF n who e c) (w : World) : Calls Try.prog 14 #[.int .i64 n, .int .i64 who, .int .i64 e, .int .i64 c] w fun E w' => E = .returned (.slice (some ⟨w.heap.size, 0, none⟩) 0 0) ∧ Below w.heap.size w w' := by
  unfold okF at h
  by_cases h1 : okN n c
  · have HM := Lib.hid (fun W => fine_yes n c h1 W)
    have h1' := h1
    clear h1
    obtain ⟨_, _, _, _⟩ := h1'
    by_cases h2 : who < 0
    · clear h
      go_enter Try.func14, Try.ntmps14
      go_wp2_with fail
      refine (HM.out _).mono ?_; rintro e w1 ⟨rfl, rfl⟩
      go_wp2
      go_ret
      exact ⟨rfl, bl_al (Below.refl _ _) _⟩
    · have d2 : decide (who < 0) = false := decide_eq_false h2
      by_cases h3 : n ≤ who
      · clear h
        go_enter Try.func14, Try.ntmps14
        go_wp2_with fail
        refine (HM.out _).mono ?_; rintro e w1 ⟨rfl, rfl⟩
        go_wp2
        go_ret
        exact ⟨rfl, bl_al (Below.refl _ _) _⟩
      · have d3 : decide (n ≤ who) = false := decide_eq_false h3
        have h4 : e < 1 := by
          rcases Int.lt_or_le e 1 with h4 | h4
          · exact h4
          · exact absurd ⟨⟨by assumption, by assumption, by assumption, by assumption⟩, by omega, by omega, h4⟩ h
        clear h h3 h2
        go_enter Try.func14, Try.ntmps14
        go_wp2_with fail
        refine (HM.out _).mono ?_; rintro e w1 ⟨rfl, rfl⟩
        go_wp2
        go_ret
        exact ⟨rfl, bl_al (Below.refl _ _) _⟩
  · have HM := Lib.hid (fun W => fine_no n c h1 W)
    clear h h1
    go_enter Try.func14, Try.ntmps14
    go_wp2_with fail
    refine (HM.out _).mono ?_; rintro e w1 ⟨rfl, rfl⟩
    go_wp2
    go_ret
    exact ⟨rfl, bl_al (Below.refl _ _) _⟩
theorem own_nil (w : World) : (w.alloc (.cells #[] 3)).ownsRow w.heap.size 3 1 (.slice (some ⟨w.heap.size, 0, none⟩) 0 0) 0 (([] : List Int).map (Value.int .i64)) := own0 w
set_option maxRecDepth 100000 in
set_option maxHeartbeats 4000000 in
theorem rfavor_ok (n who e count : Nat) (hn1 : 1 ≤ n) (hn : n ≤ 16) (hw : who < n) (he : 1 ≤ e) (he2 : e ≤ 9223372036854775807) (hc : count ≤ 2500) (w : World) :
    Calls Try.prog 14 #[.int .i64 n, .int .i64 who, .int .i64 e, .int .i64 count] w (LCall (FV n who e count) w) := by
  obtain ⟨i0, hi, hz0, hz1, hz2⟩ := info_parts info3
  have HM := Lib.hid (fun W => fine_yes n count ⟨by omega, by omega, by omega, by omega⟩ W)
  have g1 : ¬ (who : Int) < 0 := by omega
  have g2 : ¬ (n : Int) ≤ (who : Int) := by omega
  have g3 : ¬ (e : Int) < 1 := by omega
  have g4 : (0 : Int) < (n : Int) := by omega
  have g5 : (0 : Int) < (e : Int) := by omega
  have d1 : decide ((who : Int) < 0) = false := decide_eq_false (by omega)
  have d2 : decide (n ≤ who) = false := decide_eq_false (by omega)
  have d3 : decide ((e : Int) < 1) = false := decide_eq_false (by omega)
  have HO0 := Lib.hid (own_nil w)
  have HB0 := Lib.hid (bl_al (Below.refl _ w) (.cells #[] 3))
  go_enter Try.func14, Try.ntmps14
  go_wp2_with fail
  refine (HM.out _).mono ?_; rintro E w1 ⟨rfl, rfl⟩
  have HS := Lib.hid (FV_succ n who e)
  have HY := Lib.hid (fv_yes n who e)
  have HNo := Lib.hid (fv_no n who e)
  have H0 := Lib.hid (FV_zero n who e)
  have HD := Lib.hid (fun k => div_step e k he)
  have HL := Lib.hid (FV_len n who e)
  have HD0 : Hid (((0 / e : Nat) : Int) = 0) := by show _ = _; rw [Nat.zero_div]; rfl
  go_wp2
  go_loopw [9, 10, 11] (fun v t i wr => ∃ k : Nat, k ≤ count ∧ i = .int .i64 k ∧ t = .int .i64 ((k / e : Nat) : Int) ∧ Hid (wr.ownsRow w.heap.size 3 1 v k ((FV n who e k).map (Value.int .i64))) ∧ Hid (Below w.heap.size w wr)) (fun _ _ i _ => count - (intOf i).toNat)
  case atStart => exact ⟨0, by omega, rfl, by rw [HD0.out], by rw [H0.out]; exact HO0, HB0⟩
  case round =>
    clear HO0 HB0
    obtain ⟨k, hk, rfl, rfl, HO, HB⟩ := hrel
    by_cases hlt : k < count
    · have q1 : ((k : Int)).tmod (e : Int) = ((k % e : Nat) : Int) := rfl
      have q3 : (((k / e : Nat) : Int)).tmod (n : Int) = ((k / e % n : Nat) : Int) := rfl
      have hd := HD.out k
      have b1 : k / e ≤ k := Nat.div_le_self k e
      by_cases hm : k % e = e - 1
      · rw [if_pos hm] at hd
        have HDn := Lib.hid hd
        have hy := HY.out k hm
        have t1 : (((k % e : Nat) : Int) == (e : Int) - 1) = true := by simp; omega
        have hbs : w.heap.size ≤ (wr.alloc (.cells #[.int .i64 ((k / e % n : Nat) : Int)] 3)).heap.size := by have := HB.out.size; simp; omega
        have HN : Hid (∀ (v' : Value) (w1 : World), w1.ownsRow w.heap.size 3 1 v' (k + 1) ((FV n who e k).map (Value.int .i64) ++ [.int .i64 ((k / e % n : Nat) : Int)]) → w1.ownsRow w.heap.size 3 1 v' (k + 1) ((FV n who e (k + 1)).map (Value.int .i64))) := fun v' w1 h => by
          rw [HS.out k, List.map_append, ← hy]; exact h
        clear hd hy
        generalize k / e % n = R at *
        generalize k / e = D at *
        generalize hM : k % e = M at *
        clear hM hm
        go_wp2_with (at_builtin; refine wpList_append_own _ rfl _ _ 22 rfl w.heap.size 3 i0 (.int .i64 0) 1 8 Try.underlying22 hi hz0 hz1 hz2 rfl (by decide) _ k _ rfl (HO.out.alloc _) ⟨World.heap _ |>.size, 0, none⟩ 1 1 [.int .i64 R] rfl rfl (cell_one_new _ _ _) (by simp [Value.oneCell']) (by unfold maxLen; omega) (by omega) hbs ?_)
        intro v' w5 ho' hg' _
        have hrow := HO.out.lt
        have HO2 := Lib.hid (HN.out v' w5 ho')
        have HB2 := Lib.hid ((HB.out.alloc HB.out.size (.cells #[.int .i64 R] 3)).grown hg' hbs (fun kk hkk => (hrow kk hkk).1))
        clear ho' hg' HN HO HB hrow
        go_wp2
        go_roundw
        case rel => exact ⟨k + 1, by omega, by go_num, by rw [HDn.out]; go_num, HO2, HB2⟩
        case measure => simp [intOf]; omega
      · rw [if_neg hm] at hd
        have HDn := Lib.hid hd
        have hy := HNo.out k hm
        have t1 : (((k % e : Nat) : Int) == (e : Int) - 1) = false := by simp; omega
        have hbs : w.heap.size ≤ (wr.alloc (.cells #[.int .i64 (who : Int)] 3)).heap.size := by have := HB.out.size; simp; omega
        have HN : Hid (∀ (v' : Value) (w1 : World), w1.ownsRow w.heap.size 3 1 v' (k + 1) ((FV n who e k).map (Value.int .i64) ++ [.int .i64 (who : Int)]) → w1.ownsRow w.heap.size 3 1 v' (k + 1) ((FV n who e (k + 1)).map (Value.int .i64))) := fun v' w1 h => by
          rw [HS.out k, List.map_append, ← hy]; exact h
        clear hd hy
        generalize k / e % n = R at *
        generalize k / e = D at *
        generalize hM : k % e = M at *
        clear hM hm
        go_wp2_with (at_builtin; refine wpList_append_own _ rfl _ _ 22 rfl w.heap.size 3 i0 (.int .i64 0) 1 8 Try.underlying22 hi hz0 hz1 hz2 rfl (by decide) _ k _ rfl (HO.out.alloc _) ⟨World.heap _ |>.size, 0, none⟩ 1 1 [.int .i64 (who : Int)] rfl rfl (cell_one_new _ _ _) (by simp [Value.oneCell']) (by unfold maxLen; omega) (by omega) hbs ?_)
        intro v' w5 ho' hg' _
        have hrow := HO.out.lt
        have HO2 := Lib.hid (HN.out v' w5 ho')
        have HB2 := Lib.hid ((HB.out.alloc HB.out.size (.cells #[.int .i64 (who : Int)] 3)).grown hg' hbs (fun kk hkk => (hrow kk hkk).1))
        clear ho' hg' HN HO HB hrow
        go_wp2
        go_roundw
        case rel => exact ⟨k + 1, by omega, by go_num, by rw [HDn.out]; go_num, HO2, HB2⟩
        case measure => simp [intOf]; omega
    · obtain rfl : k = count := by omega
      obtain ⟨a, c, rfl, hI⟩ := owns_ints (HL.out k) HO.out
      have HIn := Lib.hid hI
      clear hI
      go_wp2
      go_ret
      exact ⟨_, rfl, a, c, by rw [HL.out k]; rfl, HIn.out, HB.out⟩
theorem nat_of (x : Int) (h : 0 ≤ x) : ∃ k : Nat, x = k := ⟨x.toNat, by omega⟩
theorem favor_any (n who e c : Int) (he2 : e ≤ 9223372036854775807) (hc : c ≤ 2500 ∨ 1000000 < c) (w : World) : Calls Try.prog 17 #[.int .i64 n, .int .i64 who, .int .i64 e, .int .i64 c] w (LCall (FAV n who e c) w) := by
  by_cases h : okF n who e c
  · have h' := h
    obtain ⟨⟨h1, h2, h3, h4⟩, h5, h6, h7⟩ := h'
    obtain ⟨n', rfl⟩ := nat_of n (by omega)
    obtain ⟨who', rfl⟩ := nat_of who (by omega)
    obtain ⟨e', rfl⟩ := nat_of e (by omega)
    obtain ⟨c', rfl⟩ := nat_of c (by omega)
    rw [FAV_yes n' who' e' c' h]
    exact (favor_ok n' who' e' c' (by omega) (by omega) (by omega) (by omega) (by omega) (by omega) w).mono fun E w' ⟨g, hE, ho⟩ => by subst hE; exact own_lcall ho
  · rw [FAV_no n who e c h]
    exact (favor_no n who e c h w).mono fun E w' ⟨hE, hw⟩ => by subst hE hw; exact ⟨_, rfl, _, _, rfl, ints_nil _ _, Below.refl _ _⟩
theorem rfavor_any (n who e c : Int) (he2 : e ≤ 9223372036854775807) (hc : c ≤ 2500 ∨ 1000000 < c) (w : World) : Calls Try.prog 14 #[.int .i64 n, .int .i64 who, .int .i64 e, .int .i64 c] w (LCall (FAV n who e c) w) := by
  by_cases h : okF n who e c
  · have h' := h
    obtain ⟨⟨h1, h2, h3, h4⟩, h5, h6, h7⟩ := h'
    obtain ⟨n', rfl⟩ := nat_of n (by omega)
    obtain ⟨who', rfl⟩ := nat_of who (by omega)
    obtain ⟨e', rfl⟩ := nat_of e (by omega)
    obtain ⟨c', rfl⟩ := nat_of c (by omega)
    rw [FAV_yes n' who' e' c' h]
    exact rfavor_ok n' who' e' c' (by omega) (by omega) (by omega) (by omega) (by omega) (by omega) w
  · rw [FAV_no n who e c h]
    exact (rfavor_no n who e c h w).mono fun E w' ⟨hE, hw⟩ => by subst hE; exact ⟨_, rfl, _, _, rfl, ints_nil _ _, hw⟩
theorem round_any (n c : Int) (hc : c ≤ 2500 ∨ 1000000 < c) (w : World) : Calls Try.prog 16 #[.int .i64 n, .int .i64 c] w (LCall (FAV n 0 1 c) w) := by
  have H := Lib.hid (fun W => favor_any n 0 1 c (by decide) hc W)
  clear hc
  go_enter Try.func16, Try.ntmps16
  go_wp2_with fail
  refine (H.out _).mono ?_; rintro E w1 ⟨v, rfl, h⟩
  have H2 := Lib.hid h
  clear h
  go_wp2
  go_ret
  exact ⟨v, rfl, H2.out⟩
end Go.Proofs.Ytdeflnnbnabbgaa
