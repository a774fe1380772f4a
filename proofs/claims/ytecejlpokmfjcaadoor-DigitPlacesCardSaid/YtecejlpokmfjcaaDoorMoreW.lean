/-
  What the reference's more answers: the walk.
-/
import Derived.Test.YtecejlpokmfjcaaDoorMore
namespace Go.Proofs.YtecejlpokmfjcaaDoor
open Go.RowKit
set_option linter.unusedVariables false

theorem more_v {x y : Int} (h : x = y) : Value.int .i64 x = .int .i64 y := by rw [h]
def ML (s : ByteArray) (i n lo hi : Nat) (w : World) (v7 v8 v9 : Value) (wr : World) : Prop :=
  wr = w ∧ ∃ k L H : Nat, v9 = .int .i64 (k : Int) ∧ v7 = .int .u8 (L : Int) ∧ v8 = .int .u8 (H : Int) ∧ Hid (L = if k = 1 then lo else 128) ∧ Hid (H = if k = 1 then hi else 191) ∧
    1 ≤ k ∧ k ≤ n + 1 ∧ L ≤ 255 ∧ H ≤ 255 ∧ Hid (∀ j, 1 ≤ j → j < k → okk s i lo hi j)
theorem okk_lo {s : ByteArray} {i lo hi k L H : Nat} (hL : L = if k = 1 then lo else 128) (hH : H = if k = 1 then hi else 191) (hin : i + k < s.size) (h : (s[i + k]'hin).toNat < L ∨ H < (s[i + k]'hin).toNat) : ¬ okk s i lo hi k := by
  unfold okk okb
  rw [get_of s (i + k) hin, ← hL, ← hH]
  omega
theorem okk_ok {s : ByteArray} {i lo hi k L H : Nat} (hL : L = if k = 1 then lo else 128) (hH : H = if k = 1 then hi else 191) (hin : i + k < s.size) (h1 : ¬ (s[i + k]'hin).toNat < L) (h2 : ¬ H < (s[i + k]'hin).toNat) : okk s i lo hi k := by
  unfold okk okb
  rw [get_of s (i + k) hin, ← hL, ← hH]
  omega
theorem okk_out {s : ByteArray} {i lo hi k : Nat} (hin : ¬ i + k < s.size) : ¬ okk s i lo hi k := fun h => hin h.1

set_option maxRecDepth 100000 in
set_option maxHeartbeats 800000 in
theorem more_none_lo (s : ByteArray) (i : Nat) (hi : i < s.size) (hs : s.size ≤ 2000) (c1 : (s[i]'hi).toNat < 194) (w : World) :
    Calls Tryd.prog 19 #[.string s, .int .i64 i] w fun e w' => e = .returned (.int .i64 (((Utf8.decode s i).2 : Int) - 1)) ∧ w = w' := by
  have HC := Lib.hid (show cls (s.get! i).toNat 0 128 191 from by
    rw [get_of s i hi]
    exact Or.inl ⟨rfl, Or.inl (by omega)⟩)
  go_enter Tryd.func19, Tryd.ntmps19
  go_wp2
  go_loopw [7, 8, 9] (fun v7 v8 v9 wr => ML s i 0 128 191 w v7 v8 v9 wr) (fun _ _ v9 _ => 0 + 1 - (intOf v9).toNat)
  case atStart => exact ⟨rfl, 1, 128, 191, rfl, rfl, rfl, Lib.hid rfl, Lib.hid rfl, by omega, by omega, by omega, by omega, Lib.hid (fun j h1 h2 => by omega)⟩
  case round =>
    obtain ⟨rfl, k, L, H, rfl, rfl, rfl, HL, HH, k1, k2, l1, l2, HA⟩ := hrel
    have hkn : ¬ k ≤ 0 := by omega
    have E := Lib.hid (width_yes s i 0 128 191 HC.out (fun j h1 h2 => HA.out j h1 (by omega)))
    go_wp2
    go_ret
    exact ⟨ret_int (by rw [E.out]; rfl), rfl⟩
set_option maxRecDepth 100000 in
set_option maxHeartbeats 800000 in
theorem more_none_hi (s : ByteArray) (i : Nat) (hi : i < s.size) (hs : s.size ≤ 2000) (c1 : 244 < (s[i]'hi).toNat) (w : World) :
    Calls Tryd.prog 19 #[.string s, .int .i64 i] w fun e w' => e = .returned (.int .i64 (((Utf8.decode s i).2 : Int) - 1)) ∧ w = w' := by
  have HC := Lib.hid (show cls (s.get! i).toNat 0 128 191 from by
    rw [get_of s i hi]
    exact Or.inl ⟨rfl, Or.inr (by omega)⟩)
  go_enter Tryd.func19, Tryd.ntmps19
  go_wp2
  go_loopw [7, 8, 9] (fun v7 v8 v9 wr => ML s i 0 128 191 w v7 v8 v9 wr) (fun _ _ v9 _ => 0 + 1 - (intOf v9).toNat)
  case atStart => exact ⟨rfl, 1, 128, 191, rfl, rfl, rfl, Lib.hid rfl, Lib.hid rfl, by omega, by omega, by omega, by omega, Lib.hid (fun j h1 h2 => by omega)⟩
  case round =>
    obtain ⟨rfl, k, L, H, rfl, rfl, rfl, HL, HH, k1, k2, l1, l2, HA⟩ := hrel
    have hkn : ¬ k ≤ 0 := by omega
    have E := Lib.hid (width_yes s i 0 128 191 HC.out (fun j h1 h2 => HA.out j h1 (by omega)))
    go_wp2
    go_ret
    exact ⟨ret_int (by rw [E.out]; rfl), rfl⟩
set_option maxRecDepth 100000 in
set_option maxHeartbeats 800000 in
theorem more_two (s : ByteArray) (i : Nat) (hi : i < s.size) (hs : s.size ≤ 2000) (c1 : 194 ≤ (s[i]'hi).toNat) (c2 : (s[i]'hi).toNat ≤ 223) (w : World) :
    Calls Tryd.prog 19 #[.string s, .int .i64 i] w fun e w' => e = .returned (.int .i64 (((Utf8.decode s i).2 : Int) - 1)) ∧ w = w' := by
  have HC := Lib.hid (show cls (s.get! i).toNat 1 128 191 from by
    rw [get_of s i hi]
    exact Or.inr (Or.inl ⟨rfl, by omega, by omega, rfl, rfl⟩))
  go_enter Tryd.func19, Tryd.ntmps19
  go_wp2
  have d5 : decide (((s[i]'hi).toNat : Int) ≤ 223) = true := by simp; omega
  try simp only [d5]
  go_loopw [7, 8, 9] (fun v7 v8 v9 wr => ML s i 1 128 191 w v7 v8 v9 wr) (fun _ _ v9 _ => 1 + 1 - (intOf v9).toNat)
  case atStart => exact ⟨rfl, 1, 128, 191, rfl, rfl, rfl, Lib.hid rfl, Lib.hid rfl, by omega, by omega, by omega, by omega, Lib.hid (fun j h1 h2 => by omega)⟩
  case round =>
    obtain ⟨rfl, k, L, H, rfl, rfl, rfl, HL, HH, k1, k2, l1, l2, HA⟩ := hrel
    by_cases hkn : k ≤ 1
    · by_cases hin : i + k < s.size
      · by_cases hlo : (s[i + k]'hin).toNat < L
        · have E := Lib.hid (width_no s i 1 128 191 k HC.out k1 hkn (okk_lo HL.out HH.out hin (Or.inl hlo)))
          go_wp2
          go_ret
          exact ⟨ret_int (by rw [E.out]; rfl), rfl⟩
        · by_cases hhi : H < (s[i + k]'hin).toNat
          · have E := Lib.hid (width_no s i 1 128 191 k HC.out k1 hkn (okk_lo HL.out HH.out hin (Or.inr hhi)))
            go_wp2
            go_ret
            exact ⟨ret_int (by rw [E.out]; rfl), rfl⟩
          · have OK := Lib.hid (okk_ok HL.out HH.out hin hlo hhi)
            have hlt := byte_lt s (i + k)
            rw [get_of s (i + k) hin] at hlt
            go_wp2
            go_roundw
            case rel =>
              refine ⟨rfl, k + 1, 128, 191, more_v (by omega), rfl, rfl, Lib.hid (by rw [if_neg (by omega)]), Lib.hid (by rw [if_neg (by omega)]), by omega, by omega, by omega, by omega, Lib.hid (fun j h1 h2 => ?_)⟩
              rcases Nat.lt_or_ge j k with h | h
              · exact HA.out j h1 h
              · obtain rfl : j = k := by omega
                exact OK.out
            case measure => simp [intOf]; omega
      · have E := Lib.hid (width_no s i 1 128 191 k HC.out k1 hkn (okk_out hin))
        go_wp2
        go_ret
        exact ⟨ret_int (by rw [E.out]; rfl), rfl⟩
    · have E := Lib.hid (width_yes s i 1 128 191 HC.out (fun j h1 h2 => HA.out j h1 (by omega)))
      go_wp2
      go_ret
      exact ⟨ret_int (by rw [E.out]; rfl), rfl⟩
set_option maxRecDepth 100000 in
set_option maxHeartbeats 800000 in
theorem more_e0 (s : ByteArray) (i : Nat) (hi : i < s.size) (hs : s.size ≤ 2000) (c1 : (s[i]'hi).toNat = 224) (w : World) :
    Calls Tryd.prog 19 #[.string s, .int .i64 i] w fun e w' => e = .returned (.int .i64 (((Utf8.decode s i).2 : Int) - 1)) ∧ w = w' := by
  have HC := Lib.hid (show cls (s.get! i).toNat 2 160 191 from by
    rw [get_of s i hi]
    exact Or.inr (Or.inr (Or.inl ⟨rfl, by omega, rfl, rfl⟩)))
  go_enter Tryd.func19, Tryd.ntmps19
  go_wp2
  go_loopw [7, 8, 9] (fun v7 v8 v9 wr => ML s i 2 160 191 w v7 v8 v9 wr) (fun _ _ v9 _ => 2 + 1 - (intOf v9).toNat)
  case atStart => exact ⟨rfl, 1, 160, 191, rfl, rfl, rfl, Lib.hid rfl, Lib.hid rfl, by omega, by omega, by omega, by omega, Lib.hid (fun j h1 h2 => by omega)⟩
  case round =>
    obtain ⟨rfl, k, L, H, rfl, rfl, rfl, HL, HH, k1, k2, l1, l2, HA⟩ := hrel
    by_cases hkn : k ≤ 2
    · by_cases hin : i + k < s.size
      · by_cases hlo : (s[i + k]'hin).toNat < L
        · have E := Lib.hid (width_no s i 2 160 191 k HC.out k1 hkn (okk_lo HL.out HH.out hin (Or.inl hlo)))
          go_wp2
          go_ret
          exact ⟨ret_int (by rw [E.out]; rfl), rfl⟩
        · by_cases hhi : H < (s[i + k]'hin).toNat
          · have E := Lib.hid (width_no s i 2 160 191 k HC.out k1 hkn (okk_lo HL.out HH.out hin (Or.inr hhi)))
            go_wp2
            go_ret
            exact ⟨ret_int (by rw [E.out]; rfl), rfl⟩
          · have OK := Lib.hid (okk_ok HL.out HH.out hin hlo hhi)
            have hlt := byte_lt s (i + k)
            rw [get_of s (i + k) hin] at hlt
            go_wp2
            go_roundw
            case rel =>
              refine ⟨rfl, k + 1, 128, 191, more_v (by omega), rfl, rfl, Lib.hid (by rw [if_neg (by omega)]), Lib.hid (by rw [if_neg (by omega)]), by omega, by omega, by omega, by omega, Lib.hid (fun j h1 h2 => ?_)⟩
              rcases Nat.lt_or_ge j k with h | h
              · exact HA.out j h1 h
              · obtain rfl : j = k := by omega
                exact OK.out
            case measure => simp [intOf]; omega
      · have E := Lib.hid (width_no s i 2 160 191 k HC.out k1 hkn (okk_out hin))
        go_wp2
        go_ret
        exact ⟨ret_int (by rw [E.out]; rfl), rfl⟩
    · have E := Lib.hid (width_yes s i 2 160 191 HC.out (fun j h1 h2 => HA.out j h1 (by omega)))
      go_wp2
      go_ret
      exact ⟨ret_int (by rw [E.out]; rfl), rfl⟩
set_option maxRecDepth 100000 in
set_option maxHeartbeats 800000 in
theorem more_ed (s : ByteArray) (i : Nat) (hi : i < s.size) (hs : s.size ≤ 2000) (c1 : (s[i]'hi).toNat = 237) (w : World) :
    Calls Tryd.prog 19 #[.string s, .int .i64 i] w fun e w' => e = .returned (.int .i64 (((Utf8.decode s i).2 : Int) - 1)) ∧ w = w' := by
  have HC := Lib.hid (show cls (s.get! i).toNat 2 128 159 from by
    rw [get_of s i hi]
    exact Or.inr (Or.inr (Or.inr (Or.inl ⟨rfl, by omega, rfl, rfl⟩))))
  go_enter Tryd.func19, Tryd.ntmps19
  go_wp2
  go_loopw [7, 8, 9] (fun v7 v8 v9 wr => ML s i 2 128 159 w v7 v8 v9 wr) (fun _ _ v9 _ => 2 + 1 - (intOf v9).toNat)
  case atStart => exact ⟨rfl, 1, 128, 159, rfl, rfl, rfl, Lib.hid rfl, Lib.hid rfl, by omega, by omega, by omega, by omega, Lib.hid (fun j h1 h2 => by omega)⟩
  case round =>
    obtain ⟨rfl, k, L, H, rfl, rfl, rfl, HL, HH, k1, k2, l1, l2, HA⟩ := hrel
    by_cases hkn : k ≤ 2
    · by_cases hin : i + k < s.size
      · by_cases hlo : (s[i + k]'hin).toNat < L
        · have E := Lib.hid (width_no s i 2 128 159 k HC.out k1 hkn (okk_lo HL.out HH.out hin (Or.inl hlo)))
          go_wp2
          go_ret
          exact ⟨ret_int (by rw [E.out]; rfl), rfl⟩
        · by_cases hhi : H < (s[i + k]'hin).toNat
          · have E := Lib.hid (width_no s i 2 128 159 k HC.out k1 hkn (okk_lo HL.out HH.out hin (Or.inr hhi)))
            go_wp2
            go_ret
            exact ⟨ret_int (by rw [E.out]; rfl), rfl⟩
          · have OK := Lib.hid (okk_ok HL.out HH.out hin hlo hhi)
            have hlt := byte_lt s (i + k)
            rw [get_of s (i + k) hin] at hlt
            go_wp2
            go_roundw
            case rel =>
              refine ⟨rfl, k + 1, 128, 191, more_v (by omega), rfl, rfl, Lib.hid (by rw [if_neg (by omega)]), Lib.hid (by rw [if_neg (by omega)]), by omega, by omega, by omega, by omega, Lib.hid (fun j h1 h2 => ?_)⟩
              rcases Nat.lt_or_ge j k with h | h
              · exact HA.out j h1 h
              · obtain rfl : j = k := by omega
                exact OK.out
            case measure => simp [intOf]; omega
      · have E := Lib.hid (width_no s i 2 128 159 k HC.out k1 hkn (okk_out hin))
        go_wp2
        go_ret
        exact ⟨ret_int (by rw [E.out]; rfl), rfl⟩
    · have E := Lib.hid (width_yes s i 2 128 159 HC.out (fun j h1 h2 => HA.out j h1 (by omega)))
      go_wp2
      go_ret
      exact ⟨ret_int (by rw [E.out]; rfl), rfl⟩
set_option maxRecDepth 100000 in
set_option maxHeartbeats 800000 in
theorem more_e (s : ByteArray) (i : Nat) (hi : i < s.size) (hs : s.size ≤ 2000) (c1 : 225 ≤ (s[i]'hi).toNat) (c2 : (s[i]'hi).toNat ≤ 239) (c3 : ((((s[i]'hi).toNat : Int)) == 237) = false) (w : World) :
    Calls Tryd.prog 19 #[.string s, .int .i64 i] w fun e w' => e = .returned (.int .i64 (((Utf8.decode s i).2 : Int) - 1)) ∧ w = w' := by
  have HC := Lib.hid (show cls (s.get! i).toNat 2 128 191 from by
    rw [get_of s i hi]
    exact Or.inr (Or.inr (Or.inr (Or.inr (Or.inl ⟨rfl, by omega, by omega, by simp at c3; omega, rfl, rfl⟩)))))
  go_enter Tryd.func19, Tryd.ntmps19
  go_wp2
  have d5 : decide (((s[i]'hi).toNat : Int) ≤ 239) = true := by simp; omega
  have d6 : (((s[i]'hi).toNat : Int) == 224) = false := by simp; omega
  try simp only [d5, d6]
  go_loopw [7, 8, 9] (fun v7 v8 v9 wr => ML s i 2 128 191 w v7 v8 v9 wr) (fun _ _ v9 _ => 2 + 1 - (intOf v9).toNat)
  case atStart => exact ⟨rfl, 1, 128, 191, rfl, rfl, rfl, Lib.hid rfl, Lib.hid rfl, by omega, by omega, by omega, by omega, Lib.hid (fun j h1 h2 => by omega)⟩
  case round =>
    obtain ⟨rfl, k, L, H, rfl, rfl, rfl, HL, HH, k1, k2, l1, l2, HA⟩ := hrel
    by_cases hkn : k ≤ 2
    · by_cases hin : i + k < s.size
      · by_cases hlo : (s[i + k]'hin).toNat < L
        · have E := Lib.hid (width_no s i 2 128 191 k HC.out k1 hkn (okk_lo HL.out HH.out hin (Or.inl hlo)))
          go_wp2
          go_ret
          exact ⟨ret_int (by rw [E.out]; rfl), rfl⟩
        · by_cases hhi : H < (s[i + k]'hin).toNat
          · have E := Lib.hid (width_no s i 2 128 191 k HC.out k1 hkn (okk_lo HL.out HH.out hin (Or.inr hhi)))
            go_wp2
            go_ret
            exact ⟨ret_int (by rw [E.out]; rfl), rfl⟩
          · have OK := Lib.hid (okk_ok HL.out HH.out hin hlo hhi)
            have hlt := byte_lt s (i + k)
            rw [get_of s (i + k) hin] at hlt
            go_wp2
            go_roundw
            case rel =>
              refine ⟨rfl, k + 1, 128, 191, more_v (by omega), rfl, rfl, Lib.hid (by rw [if_neg (by omega)]), Lib.hid (by rw [if_neg (by omega)]), by omega, by omega, by omega, by omega, Lib.hid (fun j h1 h2 => ?_)⟩
              rcases Nat.lt_or_ge j k with h | h
              · exact HA.out j h1 h
              · obtain rfl : j = k := by omega
                exact OK.out
            case measure => simp [intOf]; omega
      · have E := Lib.hid (width_no s i 2 128 191 k HC.out k1 hkn (okk_out hin))
        go_wp2
        go_ret
        exact ⟨ret_int (by rw [E.out]; rfl), rfl⟩
    · have E := Lib.hid (width_yes s i 2 128 191 HC.out (fun j h1 h2 => HA.out j h1 (by omega)))
      go_wp2
      go_ret
      exact ⟨ret_int (by rw [E.out]; rfl), rfl⟩
set_option maxRecDepth 100000 in
set_option maxHeartbeats 800000 in
theorem more_f0 (s : ByteArray) (i : Nat) (hi : i < s.size) (hs : s.size ≤ 2000) (c1 : (s[i]'hi).toNat = 240) (w : World) :
    Calls Tryd.prog 19 #[.string s, .int .i64 i] w fun e w' => e = .returned (.int .i64 (((Utf8.decode s i).2 : Int) - 1)) ∧ w = w' := by
  have HC := Lib.hid (show cls (s.get! i).toNat 3 144 191 from by
    rw [get_of s i hi]
    exact Or.inr (Or.inr (Or.inr (Or.inr (Or.inr (Or.inl ⟨rfl, by omega, rfl, rfl⟩))))))
  go_enter Tryd.func19, Tryd.ntmps19
  go_wp2
  go_loopw [7, 8, 9] (fun v7 v8 v9 wr => ML s i 3 144 191 w v7 v8 v9 wr) (fun _ _ v9 _ => 3 + 1 - (intOf v9).toNat)
  case atStart => exact ⟨rfl, 1, 144, 191, rfl, rfl, rfl, Lib.hid rfl, Lib.hid rfl, by omega, by omega, by omega, by omega, Lib.hid (fun j h1 h2 => by omega)⟩
  case round =>
    obtain ⟨rfl, k, L, H, rfl, rfl, rfl, HL, HH, k1, k2, l1, l2, HA⟩ := hrel
    by_cases hkn : k ≤ 3
    · by_cases hin : i + k < s.size
      · by_cases hlo : (s[i + k]'hin).toNat < L
        · have E := Lib.hid (width_no s i 3 144 191 k HC.out k1 hkn (okk_lo HL.out HH.out hin (Or.inl hlo)))
          go_wp2
          go_ret
          exact ⟨ret_int (by rw [E.out]; rfl), rfl⟩
        · by_cases hhi : H < (s[i + k]'hin).toNat
          · have E := Lib.hid (width_no s i 3 144 191 k HC.out k1 hkn (okk_lo HL.out HH.out hin (Or.inr hhi)))
            go_wp2
            go_ret
            exact ⟨ret_int (by rw [E.out]; rfl), rfl⟩
          · have OK := Lib.hid (okk_ok HL.out HH.out hin hlo hhi)
            have hlt := byte_lt s (i + k)
            rw [get_of s (i + k) hin] at hlt
            go_wp2
            go_roundw
            case rel =>
              refine ⟨rfl, k + 1, 128, 191, more_v (by omega), rfl, rfl, Lib.hid (by rw [if_neg (by omega)]), Lib.hid (by rw [if_neg (by omega)]), by omega, by omega, by omega, by omega, Lib.hid (fun j h1 h2 => ?_)⟩
              rcases Nat.lt_or_ge j k with h | h
              · exact HA.out j h1 h
              · obtain rfl : j = k := by omega
                exact OK.out
            case measure => simp [intOf]; omega
      · have E := Lib.hid (width_no s i 3 144 191 k HC.out k1 hkn (okk_out hin))
        go_wp2
        go_ret
        exact ⟨ret_int (by rw [E.out]; rfl), rfl⟩
    · have E := Lib.hid (width_yes s i 3 144 191 HC.out (fun j h1 h2 => HA.out j h1 (by omega)))
      go_wp2
      go_ret
      exact ⟨ret_int (by rw [E.out]; rfl), rfl⟩
set_option maxRecDepth 100000 in
set_option maxHeartbeats 800000 in
theorem more_f4 (s : ByteArray) (i : Nat) (hi : i < s.size) (hs : s.size ≤ 2000) (c1 : (s[i]'hi).toNat = 244) (w : World) :
    Calls Tryd.prog 19 #[.string s, .int .i64 i] w fun e w' => e = .returned (.int .i64 (((Utf8.decode s i).2 : Int) - 1)) ∧ w = w' := by
  have HC := Lib.hid (show cls (s.get! i).toNat 3 128 143 from by
    rw [get_of s i hi]
    exact Or.inr (Or.inr (Or.inr (Or.inr (Or.inr (Or.inr (Or.inl ⟨rfl, by omega, rfl, rfl⟩)))))))
  go_enter Tryd.func19, Tryd.ntmps19
  go_wp2
  go_loopw [7, 8, 9] (fun v7 v8 v9 wr => ML s i 3 128 143 w v7 v8 v9 wr) (fun _ _ v9 _ => 3 + 1 - (intOf v9).toNat)
  case atStart => exact ⟨rfl, 1, 128, 143, rfl, rfl, rfl, Lib.hid rfl, Lib.hid rfl, by omega, by omega, by omega, by omega, Lib.hid (fun j h1 h2 => by omega)⟩
  case round =>
    obtain ⟨rfl, k, L, H, rfl, rfl, rfl, HL, HH, k1, k2, l1, l2, HA⟩ := hrel
    by_cases hkn : k ≤ 3
    · by_cases hin : i + k < s.size
      · by_cases hlo : (s[i + k]'hin).toNat < L
        · have E := Lib.hid (width_no s i 3 128 143 k HC.out k1 hkn (okk_lo HL.out HH.out hin (Or.inl hlo)))
          go_wp2
          go_ret
          exact ⟨ret_int (by rw [E.out]; rfl), rfl⟩
        · by_cases hhi : H < (s[i + k]'hin).toNat
          · have E := Lib.hid (width_no s i 3 128 143 k HC.out k1 hkn (okk_lo HL.out HH.out hin (Or.inr hhi)))
            go_wp2
            go_ret
            exact ⟨ret_int (by rw [E.out]; rfl), rfl⟩
          · have OK := Lib.hid (okk_ok HL.out HH.out hin hlo hhi)
            have hlt := byte_lt s (i + k)
            rw [get_of s (i + k) hin] at hlt
            go_wp2
            go_roundw
            case rel =>
              refine ⟨rfl, k + 1, 128, 191, more_v (by omega), rfl, rfl, Lib.hid (by rw [if_neg (by omega)]), Lib.hid (by rw [if_neg (by omega)]), by omega, by omega, by omega, by omega, Lib.hid (fun j h1 h2 => ?_)⟩
              rcases Nat.lt_or_ge j k with h | h
              · exact HA.out j h1 h
              · obtain rfl : j = k := by omega
                exact OK.out
            case measure => simp [intOf]; omega
      · have E := Lib.hid (width_no s i 3 128 143 k HC.out k1 hkn (okk_out hin))
        go_wp2
        go_ret
        exact ⟨ret_int (by rw [E.out]; rfl), rfl⟩
    · have E := Lib.hid (width_yes s i 3 128 143 HC.out (fun j h1 h2 => HA.out j h1 (by omega)))
      go_wp2
      go_ret
      exact ⟨ret_int (by rw [E.out]; rfl), rfl⟩
set_option maxRecDepth 100000 in
set_option maxHeartbeats 800000 in
theorem more_f (s : ByteArray) (i : Nat) (hi : i < s.size) (hs : s.size ≤ 2000) (c1 : 241 ≤ (s[i]'hi).toNat) (c2 : (s[i]'hi).toNat ≤ 243) (w : World) :
    Calls Tryd.prog 19 #[.string s, .int .i64 i] w fun e w' => e = .returned (.int .i64 (((Utf8.decode s i).2 : Int) - 1)) ∧ w = w' := by
  have HC := Lib.hid (show cls (s.get! i).toNat 3 128 191 from by
    rw [get_of s i hi]
    exact Or.inr (Or.inr (Or.inr (Or.inr (Or.inr (Or.inr (Or.inr ⟨rfl, by omega, by omega, rfl, rfl⟩)))))))
  go_enter Tryd.func19, Tryd.ntmps19
  go_wp2
  have d5 : decide (((s[i]'hi).toNat : Int) ≤ 244) = true := by simp; omega
  have d6 : (((s[i]'hi).toNat : Int) == 240) = false := by simp; omega
  have d7 : (((s[i]'hi).toNat : Int) == 244) = false := by simp; omega
  try simp only [d5, d6, d7]
  go_loopw [7, 8, 9] (fun v7 v8 v9 wr => ML s i 3 128 191 w v7 v8 v9 wr) (fun _ _ v9 _ => 3 + 1 - (intOf v9).toNat)
  case atStart => exact ⟨rfl, 1, 128, 191, rfl, rfl, rfl, Lib.hid rfl, Lib.hid rfl, by omega, by omega, by omega, by omega, Lib.hid (fun j h1 h2 => by omega)⟩
  case round =>
    obtain ⟨rfl, k, L, H, rfl, rfl, rfl, HL, HH, k1, k2, l1, l2, HA⟩ := hrel
    by_cases hkn : k ≤ 3
    · by_cases hin : i + k < s.size
      · by_cases hlo : (s[i + k]'hin).toNat < L
        · have E := Lib.hid (width_no s i 3 128 191 k HC.out k1 hkn (okk_lo HL.out HH.out hin (Or.inl hlo)))
          go_wp2
          go_ret
          exact ⟨ret_int (by rw [E.out]; rfl), rfl⟩
        · by_cases hhi : H < (s[i + k]'hin).toNat
          · have E := Lib.hid (width_no s i 3 128 191 k HC.out k1 hkn (okk_lo HL.out HH.out hin (Or.inr hhi)))
            go_wp2
            go_ret
            exact ⟨ret_int (by rw [E.out]; rfl), rfl⟩
          · have OK := Lib.hid (okk_ok HL.out HH.out hin hlo hhi)
            have hlt := byte_lt s (i + k)
            rw [get_of s (i + k) hin] at hlt
            go_wp2
            go_roundw
            case rel =>
              refine ⟨rfl, k + 1, 128, 191, more_v (by omega), rfl, rfl, Lib.hid (by rw [if_neg (by omega)]), Lib.hid (by rw [if_neg (by omega)]), by omega, by omega, by omega, by omega, Lib.hid (fun j h1 h2 => ?_)⟩
              rcases Nat.lt_or_ge j k with h | h
              · exact HA.out j h1 h
              · obtain rfl : j = k := by omega
                exact OK.out
            case measure => simp [intOf]; omega
      · have E := Lib.hid (width_no s i 3 128 191 k HC.out k1 hkn (okk_out hin))
        go_wp2
        go_ret
        exact ⟨ret_int (by rw [E.out]; rfl), rfl⟩
    · have E := Lib.hid (width_yes s i 3 128 191 HC.out (fun j h1 h2 => HA.out j h1 (by omega)))
      go_wp2
      go_ret
      exact ⟨ret_int (by rw [E.out]; rfl), rfl⟩
theorem more_any (s : ByteArray) (i : Nat) (hi : i < s.size) (hs : s.size ≤ 2000) (w : World) :
    Calls Tryd.prog 19 #[.string s, .int .i64 i] w fun e w' => e = .returned (.int .i64 (((Utf8.decode s i).2 : Int) - 1)) ∧ w = w' := by
  by_cases a1 : (s[i]'hi).toNat < 194
  · exact more_none_lo s i hi hs a1 w
  by_cases a2 : 244 < (s[i]'hi).toNat
  · exact more_none_hi s i hi hs a2 w
  by_cases a3 : (s[i]'hi).toNat ≤ 223
  · exact more_two s i hi hs (by omega) a3 w
  by_cases a4 : (s[i]'hi).toNat = 224
  · exact more_e0 s i hi hs a4 w
  by_cases a5 : (s[i]'hi).toNat = 237
  · exact more_ed s i hi hs a5 w
  by_cases a6 : (s[i]'hi).toNat ≤ 239
  · exact more_e s i hi hs (by omega) a6 (by simp; omega) w
  by_cases a7 : (s[i]'hi).toNat = 240
  · exact more_f0 s i hi hs a7 w
  by_cases a8 : (s[i]'hi).toNat = 244
  · exact more_f4 s i hi hs a8 w
  exact more_f s i hi hs (by omega) (by omega) w
end Go.Proofs.YtecejlpokmfjcaaDoor
