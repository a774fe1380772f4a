/-
  What the reference's Read answers: what the package's does, for every text of at most 2000000 bytes and every place in it.
-/
import Derived.Test.YtjajpmbmkagcaaaDoorRead
namespace Go.Proofs.YtjajpmbmkagcaaaDoor
open Go.RowKit
set_option linter.unusedVariables false

theorem digit_yes (c : Nat) (h1 : 48 ≤ c) (h2 : c ≤ 57) (w : World) : Calls Tryd.prog 39 #[.int .u8 c] w fun e w' => e = .returned (.bool true) ∧ w = w' := by
  go_enter Tryd.func39, Tryd.ntmps39
  go_wp2
  go_ret
  exact ⟨by simp; omega, rfl⟩
theorem digit_no (c : Nat) (h : ¬ (48 ≤ c ∧ c ≤ 57)) (w : World) : Calls Tryd.prog 39 #[.int .u8 c] w fun e w' => e = .returned (.bool false) ∧ w = w' := by
  rcases Nat.lt_or_ge c 48 with h1 | h1
  · clear h
    go_enter Tryd.func39, Tryd.ntmps39
    go_wp2
    go_ret
    exact ⟨rfl, rfl⟩
  · have h2 : 57 < c := by omega
    clear h
    go_enter Tryd.func39, Tryd.ntmps39
    go_wp2
    go_ret
    exact ⟨by simp; omega, rfl⟩
theorem vi {x y : Int} (h : x = y) : Value.int .i64 x = .int .i64 y := by rw [h]
theorem size_sub (s : ByteArray) (a : Nat) (ha : a ≤ s.size) : (s.extract a s.size).size = s.size - a := by simp
theorem get_subk (s : ByteArray) (a k : Nat) (h : a + k < s.size) : (s.extract a s.size).get! k = s.get! (a + k) := by
  have h' : k < (s.extract a s.size).size := by rw [size_sub s a (by omega)]; omega
  rw [get_of _ k h', get_of s _ h, ByteArray.getElem_extract]
theorem isd_sub (s t : ByteArray) (a k e : Nat) (ht : s.extract a s.size = t) (ha : a ≤ s.size) (he : e = a + k) (hlt : e < s.size) : isd t k ↔ 48 ≤ (s[e]'hlt).toNat ∧ (s[e]'hlt).toNat ≤ 57 := by
  subst he
  unfold isd
  rw [← ht, size_sub s a ha, get_subk s a k hlt, get_of s _ hlt]
  constructor
  · exact fun h => h.2
  · exact fun h => ⟨by omega, h⟩
theorem isd_lt {t : ByteArray} {k : Nat} (h : isd t k) : k < t.size := by unfold isd at h; exact h.1

theorem ret3 {x y z : Int} {r : Int × Int × Int} (h : (x, y, z) = r) : Ending.returned (.tuple #[.int .i64 x, .int .i64 y, .int .i64 z]) = .returned (.tuple #[.int .i64 r.1, .int .i64 r.2.1, .int .i64 r.2.2]) := by
  subst h; rfl
theorem fin_eq (t : ByteArray) {i k : Nat} {x y : Int} (h : i = k) (g : x = y) : (dv t i, x, (0 : Int)) = (dv t k, y, 0) := by rw [h, g]
def R1 (t : ByteArray) (a n : Nat) (w : World) (v : Value) (wr : World) : Prop :=
  wr = w ∧ ∃ e k b : Nat, Hid (e = a + k) ∧ v = .int .i64 (e : Int) ∧ Hid (ndf t b k = nd t) ∧ e ≤ n ∧ n ≤ e + b ∧ a ≤ e ∧ Hid (∀ j, j < k → isd t j)
def R2 (t : ByteArray) (a k : Nat) (w : World) (v u : Value) (wr : World) : Prop :=
  wr = w ∧ ∃ e i : Nat, Hid (e = a + i) ∧ u = .int .i64 (e : Int) ∧ v = .int .i64 (dv t i) ∧ e ≤ a + k ∧ a ≤ e
set_option maxRecDepth 100000 in
set_option maxHeartbeats 400000 in
theorem refread_in (s t : ByteArray) (a : Nat) (ha : a ≤ s.size) (ht : s.extract a s.size = t) (hs : s.size ≤ 2000000) (w : World) :
    Calls Tryd.prog 33 #[.string s, .int .i64 a] w fun e w' => e = .returned (.tuple #[.int .i64 (rdv t a).1, .int .i64 (rdv t a).2.1, .int .i64 (rdv t a).2.2]) ∧ Below w.heap.size w w' := by
  have A0 : R1 t a s.size w (.int .i64 a) w := ⟨rfl, a, 0, t.size, Lib.hid rfl, rfl, Lib.hid rfl, ha, by rw [← ht, size_sub s a ha]; omega, Nat.le_refl _, Lib.hid (fun j hj => by omega)⟩
  have HT := Lib.hid ht
  clear ht
  go_enter Tryd.func33, Tryd.ntmps33
  go_wp2
  have e1 : decide (s.size < a) = false := by simp; omega
  have e2 : decide ((a : Int) < 0) = false := by simp
  simp only [e1, e2, Bool.or_self]
  clear e1 e2
  go_loopw [7] (fun v wr => R1 t a s.size w v wr) (fun v _ => s.size - (intOf v).toNat)
  case atStart => exact A0
  case round =>
    clear A0
    obtain ⟨rfl, e, k, b, HE, rfl, HN, he, hb, hae, HA⟩ := hrel
    by_cases hlt : e < s.size
    · have hi := isd_sub s t a k e HT.out ha HE.out hlt
      by_cases hd : isd t k
      · obtain ⟨d1, d2⟩ := hi.1 hd
        have HD := Lib.hid hd
        clear hi hd
        obtain ⟨b, rfl⟩ : ∃ b', b = b' + 1 := ⟨b - 1, by omega⟩
        have HK := Lib.hid (fun W => digit_yes (s[e]'hlt).toNat d1 d2 W)
        have d3 : (s[e]'hlt).toNat < 256 := by omega
        go_wp2_with fail
        refine (HK.out _).mono ?_; rintro e' w1 ⟨rfl, rfl⟩
        go_wp2
        go_roundw
        case rel =>
          refine ⟨rfl, e + 1, k + 1, b, Lib.hid (by rw [HE.out]; omega), vi (by omega), Lib.hid ((ndf_step t b k HD.out).symm.trans HN.out), by omega, by omega, by omega, Lib.hid (fun j hj => ?_)⟩
          rcases Nat.lt_or_ge j k with h | h
          · exact HA.out j h
          · obtain rfl : j = k := by omega
            exact HD.out
        case measure => simp [intOf]; omega
      · have HK := Lib.hid (fun W => digit_no (s[e]'hlt).toNat (fun h => hd (hi.2 h)) W)
        have hnd : nd t = k := by rw [← HN.out]; exact ndf_end t b k hd
        have d3 : (s[e]'hlt).toNat < 256 := (s[e]'hlt).toNat_lt
        have h0 : k ≠ 0 → 0 < t.size := fun hk => by have := isd_lt (HA.out 0 (by omega)); omega
        have H0 := Lib.hid h0
        clear hi hd h0
        go_wp2_with fail
        refine (HK.out _).mono ?_; rintro e' w1 ⟨rfl, rfl⟩
        clear HK
        by_cases hk0 : k = 0
        · have E := Lib.hid (show rdv t a = (0, 0, 4) from by unfold rdv; rw [if_pos (Or.inl (by omega))])
          have hne : ((e : Int) == (a : Int)) = true := by have := HE.out; simp; omega
          go_wp2
          go_ret3
          exact ⟨ret3 (by rw [E.out]), Below.refl _ _⟩
        · have has : a < s.size := by have := H0.out hk0; rw [← HT.out, size_sub s a ha] at this; omega
          have hs0 : s.get! a = t.get! 0 := by rw [← HT.out]; exact (get_subk s a 0 has).symm
          have hga := get_of s a has
          obtain ⟨hea1, hea2⟩ : e ≤ a + k ∧ a + k ≤ e := by have := HE.out; omega
          have hne : ((e : Int) == (a : Int)) = false := by simp; omega
          by_cases hz : 1 < k ∧ (t.get! 0).toNat = 48
          · obtain ⟨z1, z2⟩ := hz
            have hz' : ((s[a]'has).toNat == 48) = true := by rw [← hga, hs0]; simp [z2]
            have E := Lib.hid (show rdv t a = (0, 0, 4) from by unfold rdv; rw [if_pos (Or.inr ⟨by omega, z2⟩)])
            clear z2 hga hs0
            go_wp2
            go_ret3
            exact ⟨ret3 (by rw [E.out]), Below.refl _ _⟩
          · have hz' : 1 < k → ((s[a]'has).toNat == 48) = false := by intro h1; rw [← hga, hs0]; simp; intro h2; exact hz ⟨h1, h2⟩
            by_cases h18 : 18 < k
            · have E := Lib.hid (show rdv t a = (0, 0, 5) from by unfold rdv; rw [if_neg (by omega), if_pos (by omega)])
              have hz2 := hz' (by omega)
              clear hz hz' hga hs0
              go_wp2
              go_ret3
              exact ⟨ret3 (by rw [E.out]), Below.refl _ _⟩
            · have E : rdv t a = (dv t k, (a : Int) + k, 0) := by unfold rdv; rw [if_neg (by omega), if_neg (by omega), hnd]
              have EH := Lib.hid E
              have hk18 : k ≤ 18 := by omega
              have B0 : R2 t a k wr (.int .i64 0) (.int .i64 a) wr := ⟨rfl, a, 0, Lib.hid rfl, rfl, by rw [dv_zero], by omega, by omega⟩
              have HZ := Lib.hid hz'
              clear hz hz' hga hs0 E h18
              rcases Nat.lt_or_ge 1 k with z1 | z1
              · have hz2 := HZ.out z1
                go_wp2
                go_loopw [8, 9] (fun v u w2 => R2 t a k wr v u w2) (fun _ u _ => a + k - (intOf u).toNat)
                case atStart => exact B0
                case round =>
                  clear B0
                  obtain ⟨rfl, e2, i, HE2, rfl, rfl, hi1, hi2⟩ := hrel
                  by_cases hlt2 : e2 < e
                  · have hik : i < k := by have := HE2.out; omega
                    have hls : e2 < s.size := by omega
                    obtain ⟨d1, d2⟩ := (isd_sub s t a i e2 HT.out ha HE2.out hls).1 (HA.out i hik)
                    have hg : (t.get! i).toNat = (s[e2]'hls).toNat := by rw [← HT.out, get_subk s a i (by have := HE2.out; omega), ← HE2.out, get_of s e2 hls]
                    obtain ⟨v1, v2⟩ := dv_b t i (fun j hj => HA.out j (by omega))
                    have v3 := pow_le17 i (by omega)
                    have v4 : dv t i < 200000000000000000 := by omega
                    have DV := dv_succ t i
                    rw [hg] at DV
                    have DH := Lib.hid DV
                    clear DV hg v2 v3
                    go_wp2
                    go_roundw
                    case rel => exact ⟨rfl, e2 + 1, i + 1, Lib.hid (by rw [HE2.out]; omega), vi (by omega), vi (by rw [DH.out]; omega), by omega, by omega⟩
                    case measure => simp [intOf]; omega
                  · obtain ⟨hik1, hik2⟩ : i ≤ k ∧ k ≤ i := by have := HE2.out; omega
                    go_wp2
                    go_ret3
                    exact ⟨ret3 (by rw [EH.out]; exact fin_eq t (by omega) (by omega)), Below.refl _ _⟩
              · obtain rfl : k = 1 := by omega
                go_wp2
                go_loopw [8, 9] (fun v u w2 => R2 t a 1 wr v u w2) (fun _ u _ => a + 1 - (intOf u).toNat)
                case atStart => exact B0
                case round =>
                  clear B0
                  obtain ⟨rfl, e2, i, HE2, rfl, rfl, hi1, hi2⟩ := hrel
                  by_cases hlt2 : e2 < e
                  · have hik : i < 1 := by have := HE2.out; omega
                    have hls : e2 < s.size := by omega
                    obtain ⟨d1, d2⟩ := (isd_sub s t a i e2 HT.out ha HE2.out hls).1 (HA.out i hik)
                    have hg : (t.get! i).toNat = (s[e2]'hls).toNat := by rw [← HT.out, get_subk s a i (by have := HE2.out; omega), ← HE2.out, get_of s e2 hls]
                    obtain ⟨v1, v2⟩ := dv_b t i (fun j hj => HA.out j (by omega))
                    have v3 := pow_le17 i (by omega)
                    have v4 : dv t i < 200000000000000000 := by omega
                    have DV := dv_succ t i
                    rw [hg] at DV
                    have DH := Lib.hid DV
                    clear DV hg v2 v3
                    go_wp2
                    go_roundw
                    case rel => exact ⟨rfl, e2 + 1, i + 1, Lib.hid (by rw [HE2.out]; omega), vi (by omega), vi (by rw [DH.out]; omega), by omega, by omega⟩
                    case measure => simp [intOf]; omega
                  · obtain ⟨hik1, hik2⟩ : i ≤ 1 ∧ 1 ≤ i := by have := HE2.out; omega
                    go_wp2
                    go_ret3
                    exact ⟨ret3 (by rw [EH.out]; exact fin_eq t (by omega) (by omega)), Below.refl _ _⟩
    · have hnd : nd t = k := by rw [← HN.out]; exact ndf_end t b k (fun h => by have := isd_lt h; rw [← HT.out, size_sub s a ha] at this; have := HE.out; omega)
      have h0 : k ≠ 0 → 0 < t.size := fun hk => by have := isd_lt (HA.out 0 (by omega)); omega
      have H0 := Lib.hid h0
      clear h0
      by_cases hk0 : k = 0
      · have E := Lib.hid (show rdv t a = (0, 0, 4) from by unfold rdv; rw [if_pos (Or.inl (by omega))])
        have hne : ((e : Int) == (a : Int)) = true := by have := HE.out; simp; omega
        go_wp2
        go_ret3
        exact ⟨ret3 (by rw [E.out]), Below.refl _ _⟩
      · have has : a < s.size := by have := H0.out hk0; rw [← HT.out, size_sub s a ha] at this; omega
        have hs0 : s.get! a = t.get! 0 := by rw [← HT.out]; exact (get_subk s a 0 has).symm
        have hga := get_of s a has
        obtain ⟨hea1, hea2⟩ : e ≤ a + k ∧ a + k ≤ e := by have := HE.out; omega
        have hne : ((e : Int) == (a : Int)) = false := by simp; omega
        by_cases hz : 1 < k ∧ (t.get! 0).toNat = 48
        · obtain ⟨z1, z2⟩ := hz
          have hz' : ((s[a]'has).toNat == 48) = true := by rw [← hga, hs0]; simp [z2]
          have E := Lib.hid (show rdv t a = (0, 0, 4) from by unfold rdv; rw [if_pos (Or.inr ⟨by omega, z2⟩)])
          clear z2 hga hs0
          go_wp2
          go_ret3
          exact ⟨ret3 (by rw [E.out]), Below.refl _ _⟩
        · have hz' : 1 < k → ((s[a]'has).toNat == 48) = false := by intro h1; rw [← hga, hs0]; simp; intro h2; exact hz ⟨h1, h2⟩
          by_cases h18 : 18 < k
          · have E := Lib.hid (show rdv t a = (0, 0, 5) from by unfold rdv; rw [if_neg (by omega), if_pos (by omega)])
            have hz2 := hz' (by omega)
            clear hz hz' hga hs0
            go_wp2
            go_ret3
            exact ⟨ret3 (by rw [E.out]), Below.refl _ _⟩
          · have E : rdv t a = (dv t k, (a : Int) + k, 0) := by unfold rdv; rw [if_neg (by omega), if_neg (by omega), hnd]
            have EH := Lib.hid E
            have hk18 : k ≤ 18 := by omega
            have B0 : R2 t a k wr (.int .i64 0) (.int .i64 a) wr := ⟨rfl, a, 0, Lib.hid rfl, rfl, by rw [dv_zero], by omega, by omega⟩
            have HZ := Lib.hid hz'
            clear hz hz' hga hs0 E h18
            rcases Nat.lt_or_ge 1 k with z1 | z1
            · have hz2 := HZ.out z1
              go_wp2
              go_loopw [8, 9] (fun v u w2 => R2 t a k wr v u w2) (fun _ u _ => a + k - (intOf u).toNat)
              case atStart => exact B0
              case round =>
                clear B0
                obtain ⟨rfl, e2, i, HE2, rfl, rfl, hi1, hi2⟩ := hrel
                by_cases hlt2 : e2 < e
                · have hik : i < k := by have := HE2.out; omega
                  have hls : e2 < s.size := by omega
                  obtain ⟨d1, d2⟩ := (isd_sub s t a i e2 HT.out ha HE2.out hls).1 (HA.out i hik)
                  have hg : (t.get! i).toNat = (s[e2]'hls).toNat := by rw [← HT.out, get_subk s a i (by have := HE2.out; omega), ← HE2.out, get_of s e2 hls]
                  obtain ⟨v1, v2⟩ := dv_b t i (fun j hj => HA.out j (by omega))
                  have v3 := pow_le17 i (by omega)
                  have v4 : dv t i < 200000000000000000 := by omega
                  have DV := dv_succ t i
                  rw [hg] at DV
                  have DH := Lib.hid DV
                  clear DV hg v2 v3
                  go_wp2
                  go_roundw
                  case rel => exact ⟨rfl, e2 + 1, i + 1, Lib.hid (by rw [HE2.out]; omega), vi (by omega), vi (by rw [DH.out]; omega), by omega, by omega⟩
                  case measure => simp [intOf]; omega
                · obtain ⟨hik1, hik2⟩ : i ≤ k ∧ k ≤ i := by have := HE2.out; omega
                  go_wp2
                  go_ret3
                  exact ⟨ret3 (by rw [EH.out]; exact fin_eq t (by omega) (by omega)), Below.refl _ _⟩
            · obtain rfl : k = 1 := by omega
              go_wp2
              go_loopw [8, 9] (fun v u w2 => R2 t a 1 wr v u w2) (fun _ u _ => a + 1 - (intOf u).toNat)
              case atStart => exact B0
              case round =>
                clear B0
                obtain ⟨rfl, e2, i, HE2, rfl, rfl, hi1, hi2⟩ := hrel
                by_cases hlt2 : e2 < e
                · have hik : i < 1 := by have := HE2.out; omega
                  have hls : e2 < s.size := by omega
                  obtain ⟨d1, d2⟩ := (isd_sub s t a i e2 HT.out ha HE2.out hls).1 (HA.out i hik)
                  have hg : (t.get! i).toNat = (s[e2]'hls).toNat := by rw [← HT.out, get_subk s a i (by have := HE2.out; omega), ← HE2.out, get_of s e2 hls]
                  obtain ⟨v1, v2⟩ := dv_b t i (fun j hj => HA.out j (by omega))
                  have v3 := pow_le17 i (by omega)
                  have v4 : dv t i < 200000000000000000 := by omega
                  have DV := dv_succ t i
                  rw [hg] at DV
                  have DH := Lib.hid DV
                  clear DV hg v2 v3
                  go_wp2
                  go_roundw
                  case rel => exact ⟨rfl, e2 + 1, i + 1, Lib.hid (by rw [HE2.out]; omega), vi (by omega), vi (by rw [DH.out]; omega), by omega, by omega⟩
                  case measure => simp [intOf]; omega
                · obtain ⟨hik1, hik2⟩ : i ≤ 1 ∧ 1 ≤ i := by have := HE2.out; omega
                  go_wp2
                  go_ret3
                  exact ⟨ret3 (by rw [EH.out]; exact fin_eq t (by omega) (by omega)), Below.refl _ _⟩
end Go.Proofs.YtjajpmbmkagcaaaDoor
