/-
  What the functions Signs and Read of the package digit answer, for every text.
-/
import Derived.Test.YtegieoajjfodcaaGreatDoorKind
import Derived.OwnWalk
namespace Go.Proofs.YtegieoajjfodcaaGreatDoor
open Go.RowKit
set_option linter.unusedVariables false

/-- how many signs from a place on -/
def sgn (s : ByteArray) : Nat → Nat → Int → Int
  | 0, _, n => n
  | b + 1, pos, n => if pos < s.size then sgn s b (pos + (Utf8.decode s pos).2) (n + 1) else n
theorem sgn_end (s : ByteArray) (b pos : Nat) (n : Int) (h : ¬ pos < s.size) : sgn s b pos n = n := by
  cases b with
  | zero => rfl
  | succ b => simp only [sgn]; rw [if_neg h]
def SgAt (s : ByteArray) (w : World) (l : Value) (wr : World) : Prop :=
  ∃ (pos b : Nat) (x : Int), wr = w.iter s pos ∧ l = .int .i64 x ∧ sgn s b pos x = sgn s s.size 0 0 ∧ s.size ≤ pos + b ∧ 0 ≤ x ∧ x ≤ pos ∧ pos ≤ s.size
def isd (t : ByteArray) (k : Nat) : Prop := k < t.size ∧ 48 ≤ (t.get! k).toNat ∧ (t.get! k).toNat ≤ 57
instance (t : ByteArray) (k : Nat) : Decidable (isd t k) := by unfold isd; exact inferInstance
def ndf (t : ByteArray) : Nat → Nat → Nat
  | 0, k => k
  | b + 1, k => if isd t k then ndf t b (k + 1) else k
def nd (t : ByteArray) : Nat := ndf t t.size 0
def dv (t : ByteArray) : Nat → Int
  | 0 => 0
  | k + 1 => 10 * dv t k + (((t.get! k).toNat : Int) - 48)
theorem ndf_ge (t : ByteArray) : ∀ b k, k ≤ ndf t b k
  | 0, k => Nat.le_refl _
  | b + 1, k => by
    simp only [ndf]; split
    · exact Nat.le_trans (Nat.le_succ k) (ndf_ge t b (k + 1))
    · exact Nat.le_refl _
theorem ndf_end (t : ByteArray) (b k : Nat) (h : ¬ isd t k) : ndf t b k = k := by
  cases b with
  | zero => rfl
  | succ b => simp only [ndf]; rw [if_neg h]
theorem ndf_step (t : ByteArray) (b k : Nat) (h : isd t k) : ndf t (b + 1) k = ndf t b (k + 1) := by simp only [ndf]; rw [if_pos h]
theorem dv_b (t : ByteArray) : ∀ k, (∀ j, j < k → isd t j) → 0 ≤ dv t k ∧ dv t k < 10 ^ k
  | 0, _ => by simp [dv]
  | k + 1, h => by
    have h1 := dv_b t k (fun j hj => h j (by omega))
    obtain ⟨_, h2, h3⟩ := h k (by omega)
    simp only [dv]
    have e : (10 : Int) ^ (k + 1) = 10 * 10 ^ k := by rw [Int.pow_succ]; omega
    rw [e]; omega
theorem pow_le18 : ∀ k : Nat, k ≤ 18 → (10 : Int) ^ k ≤ 1000000000000000000
  | 0, _ => by decide
  | 1, _ => by decide
  | 2, _ => by decide
  | 3, _ => by decide
  | 4, _ => by decide
  | 5, _ => by decide
  | 6, _ => by decide
  | 7, _ => by decide
  | 8, _ => by decide
  | 9, _ => by decide
  | 10, _ => by decide
  | 11, _ => by decide
  | 12, _ => by decide
  | 13, _ => by decide
  | 14, _ => by decide
  | 15, _ => by decide
  | 16, _ => by decide
  | 17, _ => by decide
  | 18, _ => by decide
  | k + 19, h => by omega
/-- the answer of Read -/
def rdv (t : ByteArray) (a : Int) : Int × Int × Int :=
  if nd t = 0 ∨ (1 < nd t ∧ (t.get! 0).toNat = 48) then (0, 0, 4) else if 18 < nd t then (0, 0, 5) else (dv t (nd t), a + nd t, 0)
theorem get_of (t : ByteArray) (k : Nat) (h : k < t.size) : t.get! k = t[k]'h := by simpa using get_at t k h
theorem decode_digit (t : ByteArray) (k : Nat) (h : isd t k) : Utf8.decode t k = ((t.get! k).toNat, 1) := by
  obtain ⟨h1, h2, h3⟩ := h
  rw [get_of t k h1] at *
  exact decode_ascii t k h1 (by omega)
theorem decode_other (t : ByteArray) (k : Nat) (hk : k < t.size) (h : ¬ isd t k) : ¬ (48 ≤ (Utf8.decode t k).1 ∧ (Utf8.decode t k).1 ≤ 57) := by
  by_cases ha : (t[k]'hk).toNat < 128
  · rw [decode_ascii t k hk ha]
    intro hc; apply h
    rw [isd, get_of t k hk]; exact ⟨hk, hc⟩
  · have := (decode_high t k hk (by omega)).1
    omega
theorem kindv_digit (r : Int) : kindv r = 2 ↔ 48 ≤ r ∧ r ≤ 57 := by
  unfold kindv
  constructor
  · intro h
    split at h
    · omega
    · split at h
      · assumption
      · split at h
        · omega
        · split at h <;> omega
  · intro h; rw [if_neg (by omega), if_pos h]
theorem dv_succ (t : ByteArray) (k : Nat) : dv t (k + 1) = 10 * dv t k + (((t.get! k).toNat : Int) - 48) := rfl
theorem dv_zero (t : ByteArray) : dv t 0 = 0 := rfl
theorem pow_le17 : ∀ k : Nat, k ≤ 17 → (10 : Int) ^ k ≤ 100000000000000000
  | 0, _ => by decide
  | 1, _ => by decide
  | 2, _ => by decide
  | 3, _ => by decide
  | 4, _ => by decide
  | 5, _ => by decide
  | 6, _ => by decide
  | 7, _ => by decide
  | 8, _ => by decide
  | 9, _ => by decide
  | 10, _ => by decide
  | 11, _ => by decide
  | 12, _ => by decide
  | 13, _ => by decide
  | 14, _ => by decide
  | 15, _ => by decide
  | 16, _ => by decide
  | 17, _ => by decide
  | k + 18, h => by omega
theorem nd_le (t : ByteArray) (b k : Nat) (hk : k ≤ t.size) : ndf t b k ≤ t.size := by
  induction b generalizing k with
  | zero => exact hk
  | succ b ih =>
    simp only [ndf]; split
    · rename_i h; exact ih (k + 1) h.1
    · exact hk
theorem get_sub (s : ByteArray) (a : Nat) (ha : a ≤ s.size) (h : 0 < (s.extract a s.size).size) : s.get! a = (s.extract a s.size).get! 0 := by
  have h' := h
  simp only [ByteArray.size_extract] at h'
  rw [get_of s a (by omega), get_of _ 0 h, ByteArray.getElem_extract]
  simp
attribute [irreducible] sgn isd ndf dv

def RdAt (t : ByteArray) (w : World) (n d : Value) (wr : World) : Prop :=
  ∃ (k b : Nat), wr = w.iter t k ∧ n = .int .i64 (dv t k) ∧ d = .int .i64 k ∧ ndf t b k = nd t ∧ t.size ≤ k + b ∧ k ≤ 18 ∧ k ≤ t.size ∧ (∀ j, j < k → isd t j)
set_option maxRecDepth 100000 in
set_option maxHeartbeats 400000 in
theorem read_in (s t : ByteArray) (a : Nat) (ha : a ≤ s.size) (ht : s.extract a s.size = t) (hs : s.size ≤ 1000000) (w : World) :
    Calls Tryz.prog 39 #[.string s, .int .i64 a] w fun e w' => e = .returned (.tuple #[.int .i64 (rdv t a).1, .int .i64 (rdv t a).2.1, .int .i64 (rdv t a).2.2]) ∧ Below w.heap.size w w' := by
  have A0 : RdAt t w (.int .i64 0) (.int .i64 0) (w.iter t 0) := ⟨0, t.size, rfl, by rw [dv_zero], rfl, rfl, by omega, by omega, by omega, fun j hj => by omega⟩
  go_enter Tryz.func39, Tryz.ntmps39
  go_wp2
  have e1 : decide (s.size < a) = false := by simp; omega
  have e2 : decide ((a : Int) < 0) = false := by simp
  simp only [e1, e2, Bool.or_self]
  clear e1 e2
  have HT := Lib.hid ht
  clear ht
  go_loopw [4, 7] (fun n d wr => RdAt t w n d wr) (fun _ _ wr => t.size - wr.iterPos w.heap.size)
  case atStart => exact A0
  case round =>
    clear A0
    obtain ⟨k, b, rfl, rfl, rfl, hc, hb, k18, hk, hall⟩ := hrel
    obtain ⟨dv1, dv2⟩ := dv_b t k hall
    have p18 := pow_le18 k k18
    have dv3 : dv t k < 1000000000000000000 := by omega
    have HP := Lib.hid (show k ≤ 17 → dv t k < 100000000000000000 from fun h => by have := pow_le17 k h; omega)
    have HC := Lib.hid hc
    have HA := Lib.hid hall
    clear hc hall p18 dv2
    by_cases hd : isd t k
    · have hlt : k < t.size := by unfold isd at hd; exact hd.1
      have hg : 48 ≤ (t.get! k).toNat ∧ (t.get! k).toNat ≤ 57 := by unfold isd at hd; exact hd.2
      obtain ⟨g1, g2⟩ := hg
      have dec := decode_digit t k hd
      have HD := Lib.hid hd
      have hnx : ∀ ty, (Instr.next (.pointer (some ⟨w.heap.size, 0, none⟩)) true ty).run Tryz.prog (w.iter t k) = .ok (.tuple #[.bool true, .int .i64 k, .int .i32 ((t.get! k).toNat : Int)]) (w.iter t (k + 1)) := fun ty => by rw [run_next_any w t k ty hlt, dec]
      have kd : kindv ((t.get! k).toNat : Int) = 2 := (kindv_digit _).2 (by omega)
      have HK := fun W => kind_any ((t.get! k).toNat : Int) (by omega) (by omega) W
      rw [kd] at HK
      have HKH := Lib.hid HK
      have DV := Lib.hid (dv_succ t k)
      clear hd dec kd HK
      obtain ⟨b, rfl⟩ : ∃ b', b = b' + 1 := ⟨b - 1, by omega⟩
      by_cases hk18 : k < 18
      · have dv4 := HP.out (by omega)
        clear dv3
        generalize hgk : (t.get! k).toNat = g at *
        have HG := Lib.hid hgk
        clear hgk
        have N2 : 0 ≤ 10 * dv t k + ((g : Int) - 48) := by omega
        have N3 : 10 * dv t k + ((g : Int) - 48) < 1000000000000000000 := by omega
        go_wp2_with fail
        refine (HKH.out _).mono ?_; rintro e w1 ⟨rfl, rfl⟩
        go_wp2
        go_roundw
        case rel =>
          refine ⟨k + 1, b, rfl, by rw [DV.out], rfl, (ndf_step t b k HD.out).symm.trans HC.out, by omega, by omega, by omega, fun j hj => ?_⟩
          rcases Nat.lt_or_ge j k with h | h
          · exact HA.out j h
          · obtain rfl : j = k := by omega
            exact HD.out
        case measure => simp; omega
      · obtain rfl : k = 18 := by omega
        have hbig : 18 < nd t := by
          have := ndf_ge t b (18 + 1)
          rw [← HC.out, ndf_step t b 18 HD.out]; omega
        have h0 : 0 < t.size := by omega
        have hs0 : s.get! a = t.get! 0 := by rw [← HT.out]; exact get_sub s a ha (by rw [HT.out]; exact h0)
        have has : a < s.size := by have := congrArg ByteArray.size HT.out; simp only [ByteArray.size_extract] at this; omega
        have hga := get_of s a has
        go_wp2_with fail
        refine (HKH.out _).mono ?_; rintro e w1 ⟨rfl, rfl⟩
        clear hnx
        by_cases hz : (t.get! 0).toNat = 48
        · have hz' : ((s[a]'has).toNat == 48) = true := by rw [← hga, hs0]; simp [hz]
          have E : rdv t a = (0, 0, 4) := by unfold rdv; rw [if_pos (Or.inr ⟨by omega, hz⟩)]
          clear hz
          go_wp2
          go_ret3
          exact ⟨by rw [E]; rfl, bl_it w t _⟩
        · have hz' : ((s[a]'has).toNat == 48) = false := by rw [← hga, hs0]; simp [hz]
          have E : rdv t a = (0, 0, 5) := by unfold rdv; rw [if_neg (by omega), if_pos hbig]
          clear hz
          go_wp2
          go_ret3
          exact ⟨by rw [E]; rfl, bl_it w t _⟩
    · have hnd : nd t = k := by rw [← HC.out]; exact ndf_end t b k hd
      have HX := fun (hk0 : k ≠ 0) => (show 0 < t.size ∧ s.get! a = t.get! 0 ∧ a < s.size from by
        have h0 : 0 < t.size := by omega
        have has : a < s.size := by have := congrArg ByteArray.size HT.out; simp only [ByteArray.size_extract] at this; omega
        exact ⟨h0, by rw [← HT.out]; exact get_sub s a ha (by rw [HT.out]; exact h0), has⟩)
      have HXH := Lib.hid HX
      clear HX HC HP HA
      by_cases hlt : k < t.size
      · have hnx : ∀ ty, (Instr.next (.pointer (some ⟨w.heap.size, 0, none⟩)) true ty).run Tryz.prog (w.iter t k) = _ := fun ty => run_next_any w t k ty hlt
        have ho := decode_other t k hlt hd
        have hle := decode_le t k
        have HK := fun W => kind_any ((Utf8.decode t k).1 : Int) (by omega) (by omega) W
        have kd : (kindv ((Utf8.decode t k).1 : Int) == 2) = false := by
          have := kindv_digit ((Utf8.decode t k).1 : Int)
          simp; intro h; exact ho (by have := this.1 h; omega)
        have HKH := Lib.hid HK
        clear HK hd ho
        generalize (Utf8.decode t k).1 = r at *
        generalize hkv : kindv (r : Int) = kv at *
        clear hkv
        go_wp2_with fail
        refine (HKH.out _).mono ?_; rintro e w1 ⟨rfl, rfl⟩
        clear hnx HKH
        by_cases hk0 : k = 0
        · have E : rdv t a = (0, 0, 4) := by unfold rdv; rw [if_pos (Or.inl (by omega))]
          subst hk0
          go_wp2
          go_ret3
          exact ⟨by rw [E]; rfl, bl_it w t _⟩
        · obtain ⟨h0, hs0, has⟩ := HXH.out hk0
          have hga := get_of s a has
          by_cases hz : 1 < k ∧ (t.get! 0).toNat = 48
          · obtain ⟨z1, z2⟩ := hz
            have hz' : ((s[a]'has).toNat == 48) = true := by rw [← hga, hs0]; simp [z2]
            have E : rdv t a = (0, 0, 4) := by unfold rdv; rw [if_pos (Or.inr ⟨by omega, z2⟩)]
            clear z2 HXH
            go_wp2
            go_ret3
            exact ⟨by rw [E]; rfl, bl_it w t _⟩
          · have E : rdv t a = (dv t k, (a : Int) + k, 0) := by unfold rdv; rw [if_neg (by omega), if_neg (by omega), hnd]
            rcases Nat.lt_or_ge 1 k with z1 | z1
            · have hz' : ((s[a]'has).toNat == 48) = false := by rw [← hga, hs0]; simp; omega
              clear hz HXH
              go_wp2
              go_ret3
              exact ⟨by rw [E]; rfl, bl_it w t _⟩
            · clear hz HXH
              obtain rfl : k = 1 := by omega
              go_wp2
              go_ret3
              exact ⟨by rw [E]; rfl, bl_it w t _⟩
      · have hnx : ∀ ty, (Instr.next (.pointer (some ⟨w.heap.size, 0, none⟩)) true ty).run Tryz.prog (w.iter t k) = _ := fun ty => run_next_end w t k ty hlt
        clear hd
        by_cases hk0 : k = 0
        · have E : rdv t a = (0, 0, 4) := by unfold rdv; rw [if_pos (Or.inl (by omega))]
          subst hk0
          go_wp2
          go_ret3
          exact ⟨by rw [E]; rfl, bl_it w t _⟩
        · obtain ⟨h0, hs0, has⟩ := HXH.out hk0
          have hga := get_of s a has
          by_cases hz : 1 < k ∧ (t.get! 0).toNat = 48
          · obtain ⟨z1, z2⟩ := hz
            have hz' : ((s[a]'has).toNat == 48) = true := by rw [← hga, hs0]; simp [z2]
            have E : rdv t a = (0, 0, 4) := by unfold rdv; rw [if_pos (Or.inr ⟨by omega, z2⟩)]
            clear z2 HXH
            go_wp2
            go_ret3
            exact ⟨by rw [E]; rfl, bl_it w t _⟩
          · have E : rdv t a = (dv t k, (a : Int) + k, 0) := by unfold rdv; rw [if_neg (by omega), if_neg (by omega), hnd]
            rcases Nat.lt_or_ge 1 k with z1 | z1
            · have hz' : ((s[a]'has).toNat == 48) = false := by rw [← hga, hs0]; simp; omega
              clear hz HXH
              go_wp2
              go_ret3
              exact ⟨by rw [E]; rfl, bl_it w t _⟩
            · clear hz HXH
              obtain rfl : k = 1 := by omega
              go_wp2
              go_ret3
              exact ⟨by rw [E]; rfl, bl_it w t _⟩
end Go.Proofs.YtegieoajjfodcaaGreatDoor
