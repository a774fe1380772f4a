import Derived.Test.YtjlaankgfpjeeaaProg
import Derived.WalkKit
import Derived.ProofKit
import Derived.WalkSpells
import Derived.WalkLawsBesides
import Derived.Laws.RangeAny
import Derived.Lib.Hide
import Derived.Below
import Derived.IntWalk
import Derived.OwnWalk
import Derived.Laws.AppendOwn
import Derived.Laws.OwnMore
import Derived.Deep.AppendLies
import Derived.Maps.AppendAt

/-
  What the functions Kind, Place and Signs of the package digit answer, for every sign and every text, told by the model's own reading of a text rune by rune.
-/
namespace Go.Proofs.Ytjlaankgfpjeeaa
open Go.RowKit
set_option linter.unusedVariables false

theorem bl_al {a w : World} (h : Below a.heap.size a w) (o : Obj) : Below a.heap.size a (w.alloc o) := h.alloc h.size o
theorem bl_tr {a w w' : World} (h : Below a.heap.size a w) (k : Below w.heap.size w w') : Below a.heap.size a w' := h.trans (k.mono h.size)
theorem bl_dn {B : Nat} {a w : World} (h : Below B a w) (n : Nat) : Below B a (w.drewN n) := ⟨h.os, h.tape, h.output, h.size, h.block⟩
theorem bl_it (w : World) (s : ByteArray) (p : Nat) : Below w.heap.size w (w.iter s p) := by
  unfold World.iter
  exact bl_al (Below.refl _ _) _

/-- the kind of a sign -/
def kindv (r : Int) : Int := if r = 32 ∨ r = 9 ∨ r = 10 ∨ r = 13 then 1 else if 48 ≤ r ∧ r ≤ 57 then 2 else if (65 ≤ r ∧ r ≤ 90) ∨ (97 ≤ r ∧ r ≤ 122) then 3 else if r = 35 then 4 else 0
theorem ret_int {k : IntKind} {a b : Int} (h : a = b) : Ending.returned (.int k a) = .returned (.int k b) := by rw [h]
theorem kind_any (r : Int) (r1 : -2147483648 ≤ r) (r2 : r ≤ 2147483647) (w : World) :
    Calls Try.prog 18 #[.int .i32 r] w fun e w' => e = .returned (.int .i64 (kindv r)) ∧ w = w' := by
  by_cases hb : r = 32 ∨ r = 9 ∨ r = 10 ∨ r = 13
  · have hk : kindv r = 1 := by unfold kindv; rw [if_pos hb]
    rw [hk]
    rcases hb with rfl | rfl | rfl | rfl
    all_goals
      go_enter Try.func18, Try.ntmps18
      go_wp2
      go_ret
      exact ⟨rfl, rfl⟩
  · have b1 : (r == 32) = false := by simp; omega
    have b2 : (r == 9) = false := by simp; omega
    have b3 : (r == 10) = false := by simp; omega
    have b4 : (r == 13) = false := by simp; omega
    by_cases hd : 48 ≤ r ∧ r ≤ 57
    · have hk : kindv r = 2 := by unfold kindv; rw [if_neg hb, if_pos hd]
      obtain ⟨d1, d2⟩ := hd
      rw [hk]; clear hk hb
      go_enter Try.func18, Try.ntmps18
      go_wp2
      go_ret
      exact ⟨rfl, rfl⟩
    · by_cases hl : (65 ≤ r ∧ r ≤ 90) ∨ (97 ≤ r ∧ r ≤ 122)
      · have hk : kindv r = 3 := by unfold kindv; rw [if_neg hb, if_neg hd, if_pos hl]
        rw [hk]; clear hk hb hd
        rcases hl with ⟨l1, l2⟩ | ⟨l1, l2⟩
        all_goals
          go_enter Try.func18, Try.ntmps18
          go_wp2
          go_ret
          exact ⟨rfl, rfl⟩
      · by_cases hr : r = 35
        · have hk : kindv r = 4 := by unfold kindv; rw [if_neg hb, if_neg hd, if_neg hl, if_pos hr]
          rw [hk]; subst hr; clear hk hb hd hl
          go_enter Try.func18, Try.ntmps18
          go_wp2
          go_ret
          exact ⟨rfl, rfl⟩
        · have hk : kindv r = 0 := by unfold kindv; rw [if_neg hb, if_neg hd, if_neg hl, if_neg hr]
          have b5 : (r == 35) = false := by simp; omega
          rw [hk]; clear hk hb
          rcases Int.lt_or_le r 48 with c1 | c1
          · clear hd hl hr
            go_enter Try.func18, Try.ntmps18
            go_wp2
            go_ret
            exact ⟨rfl, rfl⟩
          · rcases Int.lt_or_le r 65 with c2 | c2
            · have c3 : 57 < r := by omega
              clear hd hl hr
              go_enter Try.func18, Try.ntmps18
              go_wp2
              go_ret
              exact ⟨rfl, rfl⟩
            · rcases Int.lt_or_le r 97 with c4 | c4
              · have c5 : 90 < r := by omega
                clear hd hl hr
                go_enter Try.func18, Try.ntmps18
                go_wp2
                go_ret
                exact ⟨rfl, rfl⟩
              · have c5 : 122 < r := by omega
                clear hd hl hr
                go_enter Try.func18, Try.ntmps18
                go_wp2
                go_ret
                exact ⟨rfl, rfl⟩

/-- the line and the column of a place, from a place on that is known -/
def plc (s : ByteArray) (at' : Int) : Nat → Nat → Int → Int → Int × Int
  | 0, _, l, c => (l, c)
  | b + 1, pos, l, c => if pos < s.size ∧ (pos : Int) < at' then (if (Utf8.decode s pos).1 = 10 then plc s at' b (pos + (Utf8.decode s pos).2) (l + 1) 1 else plc s at' b (pos + (Utf8.decode s pos).2) l (c + 1)) else (l, c)
theorem width_pos (s : ByteArray) (pos : Nat) (h : pos < s.size) : 1 ≤ (Utf8.decode s pos).2 := by
  by_cases ha : (s[pos]'h).toNat < 128
  · rw [decode_ascii s pos h ha]
    exact Nat.le_refl _
  · exact (decode_high s pos h (by omega)).2
theorem plc_end (s : ByteArray) (at' : Int) (b pos : Nat) (l c : Int) (h : ¬ (pos < s.size ∧ (pos : Int) < at')) : plc s at' b pos l c = (l, c) := by
  cases b with
  | zero => rfl
  | succ b => simp only [plc]; rw [if_neg h]
/-- what stands behind so many rounds -/
def PlAt (s : ByteArray) (at' : Int) (w : World) (l c : Value) (wr : World) : Prop :=
  ∃ (pos b : Nat) (x y : Int), wr = w.iter s pos ∧ l = .int .i64 x ∧ c = .int .i64 y ∧ plc s at' b pos x y = plc s at' s.size 0 1 1 ∧ s.size ≤ pos + b ∧ 1 ≤ x ∧ 1 ≤ y ∧ x ≤ pos + 1 ∧ y ≤ pos + 1 ∧ pos ≤ s.size
theorem ret_pair {a b c d : Int} (h : (a, b) = (c, d)) : Ending.returned (.tuple #[.int .i64 a, .int .i64 b]) = .returned (.tuple #[.int .i64 c, .int .i64 d]) := by
  injection h with h1 h2; rw [h1, h2]
theorem decode_in (s : ByteArray) (pos : Nat) (h : pos < s.size) : pos + (Utf8.decode s pos).2 ≤ s.size := by
  simp only [Utf8.decode]
  repeat' split
  all_goals simp_all
  all_goals omega
theorem decode_nl (s : ByteArray) (pos : Nat) : ((Utf8.decode s pos).1 : Int) ≤ 2147483647 := by have := decode_le s pos; omega
attribute [irreducible] plc
end Go.Proofs.Ytjlaankgfpjeeaa

/-
  What the functions Signs and Read of the package digit answer, for every text.
-/
namespace Go.Proofs.Ytjlaankgfpjeeaa
open Go.RowKit
set_option linter.unusedVariables false

/-- how many signs from a place on -/
def sgn (s : ByteArray) : Nat → Nat → Int → Int
  | 0, _, n => n
  | b + 1, pos, n => if pos < s.size then sgn s b (pos + (Utf8.decode s pos).2) (n + 1) else n
theorem sgn_end (s : ByteArray) (b pos : Nat) (n : Int) (h : ¬ pos < s.size) : sgn s b pos n = n := by
  cases b with
  | zero => rfl
  | succ b => simp only [sgn]; rw [if_neg h]
def SgAt (s : ByteArray) (w : World) (l : Value) (wr : World) : Prop :=
  ∃ (pos b : Nat) (x : Int), wr = w.iter s pos ∧ l = .int .i64 x ∧ sgn s b pos x = sgn s s.size 0 0 ∧ s.size ≤ pos + b ∧ 0 ≤ x ∧ x ≤ pos ∧ pos ≤ s.size
def isd (t : ByteArray) (k : Nat) : Prop := k < t.size ∧ 48 ≤ (t.get! k).toNat ∧ (t.get! k).toNat ≤ 57
instance (t : ByteArray) (k : Nat) : Decidable (isd t k) := by unfold isd; exact inferInstance
def ndf (t : ByteArray) : Nat → Nat → Nat
  | 0, k => k
  | b + 1, k => if isd t k then ndf t b (k + 1) else k
def nd (t : ByteArray) : Nat := ndf t t.size 0
def dv (t : ByteArray) : Nat → Int
  | 0 => 0
  | k + 1 => 10 * dv t k + (((t.get! k).toNat : Int) - 48)
theorem ndf_ge (t : ByteArray) : ∀ b k, k ≤ ndf t b k
  | 0, k => Nat.le_refl _
  | b + 1, k => by
    simp only [ndf]; split
    · exact Nat.le_trans (Nat.le_succ k) (ndf_ge t b (k + 1))
    · exact Nat.le_refl _
theorem ndf_end (t : ByteArray) (b k : Nat) (h : ¬ isd t k) : ndf t b k = k := by
  cases b with
  | zero => rfl
  | succ b => simp only [ndf]; rw [if_neg h]
theorem ndf_step (t : ByteArray) (b k : Nat) (h : isd t k) : ndf t (b + 1) k = ndf t b (k + 1) := by simp only [ndf]; rw [if_pos h]
theorem dv_b (t : ByteArray) : ∀ k, (∀ j, j < k → isd t j) → 0 ≤ dv t k ∧ dv t k < 10 ^ k
  | 0, _ => by simp [dv]
  | k + 1, h => by
    have h1 := dv_b t k (fun j hj => h j (by omega))
    obtain ⟨_, h2, h3⟩ := h k (by omega)
    simp only [dv]
    have e : (10 : Int) ^ (k + 1) = 10 * 10 ^ k := by rw [Int.pow_succ]; omega
    rw [e]; omega
theorem pow_le18 : ∀ k : Nat, k ≤ 18 → (10 : Int) ^ k ≤ 1000000000000000000
  | 0, _ => by decide
  | 1, _ => by decide
  | 2, _ => by decide
  | 3, _ => by decide
  | 4, _ => by decide
  | 5, _ => by decide
  | 6, _ => by decide
  | 7, _ => by decide
  | 8, _ => by decide
  | 9, _ => by decide
  | 10, _ => by decide
  | 11, _ => by decide
  | 12, _ => by decide
  | 13, _ => by decide
  | 14, _ => by decide
  | 15, _ => by decide
  | 16, _ => by decide
  | 17, _ => by decide
  | 18, _ => by decide
  | k + 19, h => by omega
/-- the answer of Read -/
def rdv (t : ByteArray) (a : Int) : Int × Int × Int :=
  if nd t = 0 ∨ (1 < nd t ∧ (t.get! 0).toNat = 48) then (0, 0, 4) else if 18 < nd t then (0, 0, 5) else (dv t (nd t), a + nd t, 0)
theorem get_of (t : ByteArray) (k : Nat) (h : k < t.size) : t.get! k = t[k]'h := by simpa using get_at t k h
theorem decode_digit (t : ByteArray) (k : Nat) (h : isd t k) : Utf8.decode t k = ((t.get! k).toNat, 1) := by
  obtain ⟨h1, h2, h3⟩ := h
  rw [get_of t k h1] at *
  exact decode_ascii t k h1 (by omega)
theorem decode_other (t : ByteArray) (k : Nat) (hk : k < t.size) (h : ¬ isd t k) : ¬ (48 ≤ (Utf8.decode t k).1 ∧ (Utf8.decode t k).1 ≤ 57) := by
  by_cases ha : (t[k]'hk).toNat < 128
  · rw [decode_ascii t k hk ha]
    intro hc; apply h
    rw [isd, get_of t k hk]; exact ⟨hk, hc⟩
  · have := (decode_high t k hk (by omega)).1
    omega
theorem kindv_digit (r : Int) : kindv r = 2 ↔ 48 ≤ r ∧ r ≤ 57 := by
  unfold kindv
  constructor
  · intro h
    split at h
    · omega
    · split at h
      · assumption
      · split at h
        · omega
        · split at h <;> omega
  · intro h; rw [if_neg (by omega), if_pos h]
theorem dv_succ (t : ByteArray) (k : Nat) : dv t (k + 1) = 10 * dv t k + (((t.get! k).toNat : Int) - 48) := rfl
theorem dv_zero (t : ByteArray) : dv t 0 = 0 := rfl
theorem pow_le17 : ∀ k : Nat, k ≤ 17 → (10 : Int) ^ k ≤ 100000000000000000
  | 0, _ => by decide
  | 1, _ => by decide
  | 2, _ => by decide
  | 3, _ => by decide
  | 4, _ => by decide
  | 5, _ => by decide
  | 6, _ => by decide
  | 7, _ => by decide
  | 8, _ => by decide
  | 9, _ => by decide
  | 10, _ => by decide
  | 11, _ => by decide
  | 12, _ => by decide
  | 13, _ => by decide
  | 14, _ => by decide
  | 15, _ => by decide
  | 16, _ => by decide
  | 17, _ => by decide
  | k + 18, h => by omega
theorem nd_le (t : ByteArray) (b k : Nat) (hk : k ≤ t.size) : ndf t b k ≤ t.size := by
  induction b generalizing k with
  | zero => exact hk
  | succ b ih =>
    simp only [ndf]; split
    · rename_i h; exact ih (k + 1) h.1
    · exact hk
theorem get_sub (s : ByteArray) (a : Nat) (ha : a ≤ s.size) (h : 0 < (s.extract a s.size).size) : s.get! a = (s.extract a s.size).get! 0 := by
  have h' := h
  simp only [ByteArray.size_extract] at h'
  rw [get_of s a (by omega), get_of _ 0 h, ByteArray.getElem_extract]
  simp
attribute [irreducible] sgn isd ndf dv

def RdAt (t : ByteArray) (w : World) (n d : Value) (wr : World) : Prop :=
  ∃ (k b : Nat), wr = w.iter t k ∧ n = .int .i64 (dv t k) ∧ d = .int .i64 k ∧ ndf t b k = nd t ∧ t.size ≤ k + b ∧ k ≤ 18 ∧ k ≤ t.size ∧ (∀ j, j < k → isd t j)
set_option maxRecDepth 100000 in
set_option maxHeartbeats 400000 in
theorem read_in (s t : ByteArray) (a : Nat) (ha : a ≤ s.size) (ht : s.extract a s.size = t) (hs : s.size ≤ 1000000) (w : World) :
    Calls Try.prog 20 #[.string s, .int .i64 a] w fun e w' => e = .returned (.tuple #[.int .i64 (rdv t a).1, .int .i64 (rdv t a).2.1, .int .i64 (rdv t a).2.2]) ∧ Below w.heap.size w w' := by
  have A0 : RdAt t w (.int .i64 0) (.int .i64 0) (w.iter t 0) := ⟨0, t.size, rfl, by rw [dv_zero], rfl, rfl, by omega, by omega, by omega, fun j hj => by omega⟩
  go_enter Try.func20, Try.ntmps20
  go_wp2
  have e1 : decide (s.size < a) = false := by simp; omega
  have e2 : decide ((a : Int) < 0) = false := by simp
  simp only [e1, e2, Bool.or_self]
  clear e1 e2
  have HT := Lib.hid ht
  clear ht
  go_loopw [4, 7] (fun n d wr => RdAt t w n d wr) (fun _ _ wr => t.size - wr.iterPos w.heap.size)
  case atStart => exact A0
  case round =>
    clear A0
    obtain ⟨k, b, rfl, rfl, rfl, hc, hb, k18, hk, hall⟩ := hrel
    obtain ⟨dv1, dv2⟩ := dv_b t k hall
    have p18 := pow_le18 k k18
    have dv3 : dv t k < 1000000000000000000 := by omega
    have HP := Lib.hid (show k ≤ 17 → dv t k < 100000000000000000 from fun h => by have := pow_le17 k h; omega)
    have HC := Lib.hid hc
    have HA := Lib.hid hall
    clear hc hall p18 dv2
    by_cases hd : isd t k
    · have hlt : k < t.size := by unfold isd at hd; exact hd.1
      have hg : 48 ≤ (t.get! k).toNat ∧ (t.get! k).toNat ≤ 57 := by unfold isd at hd; exact hd.2
      obtain ⟨g1, g2⟩ := hg
      have dec := decode_digit t k hd
      have HD := Lib.hid hd
      have hnx : ∀ ty, (Instr.next (.pointer (some ⟨w.heap.size, 0, none⟩)) true ty).run Try.prog (w.iter t k) = .ok (.tuple #[.bool true, .int .i64 k, .int .i32 ((t.get! k).toNat : Int)]) (w.iter t (k + 1)) := fun ty => by rw [run_next_any w t k ty hlt, dec]
      have kd : kindv ((t.get! k).toNat : Int) = 2 := (kindv_digit _).2 (by omega)
      have HK := fun W => kind_any ((t.get! k).toNat : Int) (by omega) (by omega) W
      rw [kd] at HK
      have HKH := Lib.hid HK
      have DV := Lib.hid (dv_succ t k)
      clear hd dec kd HK
      obtain ⟨b, rfl⟩ : ∃ b', b = b' + 1 := ⟨b - 1, by omega⟩
      by_cases hk18 : k < 18
      · have dv4 := HP.out (by omega)
        clear dv3
        generalize hgk : (t.get! k).toNat = g at *
        have HG := Lib.hid hgk
        clear hgk
        have N2 : 0 ≤ 10 * dv t k + ((g : Int) - 48) := by omega
        have N3 : 10 * dv t k + ((g : Int) - 48) < 1000000000000000000 := by omega
        go_wp2_with fail
        refine (HKH.out _).mono ?_; rintro e w1 ⟨rfl, rfl⟩
        go_wp2
        go_roundw
        case rel =>
          refine ⟨k + 1, b, rfl, by rw [DV.out], rfl, (ndf_step t b k HD.out).symm.trans HC.out, by omega, by omega, by omega, fun j hj => ?_⟩
          rcases Nat.lt_or_ge j k with h | h
          · exact HA.out j h
          · obtain rfl : j = k := by omega
            exact HD.out
        case measure => simp; omega
      · obtain rfl : k = 18 := by omega
        have hbig : 18 < nd t := by
          have := ndf_ge t b (18 + 1)
          rw [← HC.out, ndf_step t b 18 HD.out]; omega
        have h0 : 0 < t.size := by omega
        have hs0 : s.get! a = t.get! 0 := by rw [← HT.out]; exact get_sub s a ha (by rw [HT.out]; exact h0)
        have has : a < s.size := by have := congrArg ByteArray.size HT.out; simp only [ByteArray.size_extract] at this; omega
        have hga := get_of s a has
        go_wp2_with fail
        refine (HKH.out _).mono ?_; rintro e w1 ⟨rfl, rfl⟩
        clear hnx
        by_cases hz : (t.get! 0).toNat = 48
        · have hz' : ((s[a]'has).toNat == 48) = true := by rw [← hga, hs0]; simp [hz]
          have E : rdv t a = (0, 0, 4) := by unfold rdv; rw [if_pos (Or.inr ⟨by omega, hz⟩)]
          clear hz
          go_wp2
          go_ret3
          exact ⟨by rw [E]; rfl, bl_it w t _⟩
        · have hz' : ((s[a]'has).toNat == 48) = false := by rw [← hga, hs0]; simp [hz]
          have E : rdv t a = (0, 0, 5) := by unfold rdv; rw [if_neg (by omega), if_pos hbig]
          clear hz
          go_wp2
          go_ret3
          exact ⟨by rw [E]; rfl, bl_it w t _⟩
    · have hnd : nd t = k := by rw [← HC.out]; exact ndf_end t b k hd
      have HX := fun (hk0 : k ≠ 0) => (show 0 < t.size ∧ s.get! a = t.get! 0 ∧ a < s.size from by
        have h0 : 0 < t.size := by omega
        have has : a < s.size := by have := congrArg ByteArray.size HT.out; simp only [ByteArray.size_extract] at this; omega
        exact ⟨h0, by rw [← HT.out]; exact get_sub s a ha (by rw [HT.out]; exact h0), has⟩)
      have HXH := Lib.hid HX
      clear HX HC HP HA
      by_cases hlt : k < t.size
      · have hnx : ∀ ty, (Instr.next (.pointer (some ⟨w.heap.size, 0, none⟩)) true ty).run Try.prog (w.iter t k) = _ := fun ty => run_next_any w t k ty hlt
        have ho := decode_other t k hlt hd
        have hle := decode_le t k
        have HK := fun W => kind_any ((Utf8.decode t k).1 : Int) (by omega) (by omega) W
        have kd : (kindv ((Utf8.decode t k).1 : Int) == 2) = false := by
          have := kindv_digit ((Utf8.decode t k).1 : Int)
          simp; intro h; exact ho (by have := this.1 h; omega)
        have HKH := Lib.hid HK
        clear HK hd ho
        generalize (Utf8.decode t k).1 = r at *
        generalize hkv : kindv (r : Int) = kv at *
        clear hkv
        go_wp2_with fail
        refine (HKH.out _).mono ?_; rintro e w1 ⟨rfl, rfl⟩
        clear hnx HKH
        by_cases hk0 : k = 0
        · have E : rdv t a = (0, 0, 4) := by unfold rdv; rw [if_pos (Or.inl (by omega))]
          subst hk0
          go_wp2
          go_ret3
          exact ⟨by rw [E]; rfl, bl_it w t _⟩
        · obtain ⟨h0, hs0, has⟩ := HXH.out hk0
          have hga := get_of s a has
          by_cases hz : 1 < k ∧ (t.get! 0).toNat = 48
          · obtain ⟨z1, z2⟩ := hz
            have hz' : ((s[a]'has).toNat == 48) = true := by rw [← hga, hs0]; simp [z2]
            have E : rdv t a = (0, 0, 4) := by unfold rdv; rw [if_pos (Or.inr ⟨by omega, z2⟩)]
            clear z2 HXH
            go_wp2
            go_ret3
            exact ⟨by rw [E]; rfl, bl_it w t _⟩
          · have E : rdv t a = (dv t k, (a : Int) + k, 0) := by unfold rdv; rw [if_neg (by omega), if_neg (by omega), hnd]
            rcases Nat.lt_or_ge 1 k with z1 | z1
            · have hz' : ((s[a]'has).toNat == 48) = false := by rw [← hga, hs0]; simp; omega
              clear hz HXH
              go_wp2
              go_ret3
              exact ⟨by rw [E]; rfl, bl_it w t _⟩
            · clear hz HXH
              obtain rfl : k = 1 := by omega
              go_wp2
              go_ret3
              exact ⟨by rw [E]; rfl, bl_it w t _⟩
      · have hnx : ∀ ty, (Instr.next (.pointer (some ⟨w.heap.size, 0, none⟩)) true ty).run Try.prog (w.iter t k) = _ := fun ty => run_next_end w t k ty hlt
        clear hd
        by_cases hk0 : k = 0
        · have E : rdv t a = (0, 0, 4) := by unfold rdv; rw [if_pos (Or.inl (by omega))]
          subst hk0
          go_wp2
          go_ret3
          exact ⟨by rw [E]; rfl, bl_it w t _⟩
        · obtain ⟨h0, hs0, has⟩ := HXH.out hk0
          have hga := get_of s a has
          by_cases hz : 1 < k ∧ (t.get! 0).toNat = 48
          · obtain ⟨z1, z2⟩ := hz
            have hz' : ((s[a]'has).toNat == 48) = true := by rw [← hga, hs0]; simp [z2]
            have E : rdv t a = (0, 0, 4) := by unfold rdv; rw [if_pos (Or.inr ⟨by omega, z2⟩)]
            clear z2 HXH
            go_wp2
            go_ret3
            exact ⟨by rw [E]; rfl, bl_it w t _⟩
          · have E : rdv t a = (dv t k, (a : Int) + k, 0) := by unfold rdv; rw [if_neg (by omega), if_neg (by omega), hnd]
            rcases Nat.lt_or_ge 1 k with z1 | z1
            · have hz' : ((s[a]'has).toNat == 48) = false := by rw [← hga, hs0]; simp; omega
              clear hz HXH
              go_wp2
              go_ret3
              exact ⟨by rw [E]; rfl, bl_it w t _⟩
            · clear hz HXH
              obtain rfl : k = 1 := by omega
              go_wp2
              go_ret3
              exact ⟨by rw [E]; rfl, bl_it w t _⟩
end Go.Proofs.Ytjlaankgfpjeeaa

/-
  What the reference's Read answers: what the package's does, for every text of at most 1000000 bytes and every place in it.
-/
namespace Go.Proofs.Ytjlaankgfpjeeaa
open Go.RowKit
set_option linter.unusedVariables false

theorem vi {x y : Int} (h : x = y) : Value.int .i64 x = .int .i64 y := by rw [h]
theorem size_sub (s : ByteArray) (a : Nat) (ha : a ≤ s.size) : (s.extract a s.size).size = s.size - a := by simp
theorem get_subk (s : ByteArray) (a k : Nat) (h : a + k < s.size) : (s.extract a s.size).get! k = s.get! (a + k) := by
  have h' : k < (s.extract a s.size).size := by rw [size_sub s a (by omega)]; omega
  rw [get_of _ k h', get_of s _ h, ByteArray.getElem_extract]
theorem isd_sub (s t : ByteArray) (a k e : Nat) (ht : s.extract a s.size = t) (ha : a ≤ s.size) (he : e = a + k) (hlt : e < s.size) : isd t k ↔ 48 ≤ (s[e]'hlt).toNat ∧ (s[e]'hlt).toNat ≤ 57 := by
  subst he
  unfold isd
  rw [← ht, size_sub s a ha, get_subk s a k hlt, get_of s _ hlt]
  constructor
  · exact fun h => h.2
  · exact fun h => ⟨by omega, h⟩
theorem isd_lt {t : ByteArray} {k : Nat} (h : isd t k) : k < t.size := by unfold isd at h; exact h.1

theorem ret3 {x y z : Int} {r : Int × Int × Int} (h : (x, y, z) = r) : Ending.returned (.tuple #[.int .i64 x, .int .i64 y, .int .i64 z]) = .returned (.tuple #[.int .i64 r.1, .int .i64 r.2.1, .int .i64 r.2.2]) := by
  subst h; rfl
theorem fin_eq (t : ByteArray) {i k : Nat} {x y : Int} (h : i = k) (g : x = y) : (dv t i, x, (0 : Int)) = (dv t k, y, 0) := by rw [h, g]
def R1 (t : ByteArray) (a n : Nat) (w : World) (v : Value) (wr : World) : Prop :=
  wr = w ∧ ∃ e k b : Nat, Hid (e = a + k) ∧ v = .int .i64 (e : Int) ∧ Hid (ndf t b k = nd t) ∧ e ≤ n ∧ n ≤ e + b ∧ a ≤ e ∧ Hid (∀ j, j < k → isd t j)
def R2 (t : ByteArray) (a k : Nat) (w : World) (v u : Value) (wr : World) : Prop :=
  wr = w ∧ ∃ e i : Nat, Hid (e = a + i) ∧ u = .int .i64 (e : Int) ∧ v = .int .i64 (dv t i) ∧ e ≤ a + k ∧ a ≤ e
end Go.Proofs.Ytjlaankgfpjeeaa

/-
  The tokens of a text, byte by byte: plain mathematics.
-/
namespace Go.Proofs.Ytjlaankgfpjeeaa
open Go.RowKit
set_option linter.unusedVariables false
/-- the kind of a byte -/
def kb (s : ByteArray) (i : Nat) : Int := kindv ((s.get! i).toNat : Int)
def runF (k : Int) (s : ByteArray) : Nat → Nat → Nat
  | 0, p => p
  | b + 1, p => if p < s.size ∧ kb s p = k then runF k s b (p + 1) else p
/-- where the bytes of a kind end -/
def run (k : Int) (s : ByteArray) (p : Nat) : Nat := runF k s (s.size - p) p
theorem runF_fuel (k : Int) (s : ByteArray) : ∀ b c p, s.size - p ≤ b → s.size - p ≤ c → runF k s b p = runF k s c p
  | 0, c, p, h1, h2 => by
    cases c with
    | zero => rfl
    | succ c => simp only [runF]; rw [if_neg (by omega)]
  | b + 1, 0, p, h1, h2 => by simp only [runF]; rw [if_neg (by omega)]
  | b + 1, c + 1, p, h1, h2 => by
    simp only [runF]
    by_cases h : p < s.size ∧ kb s p = k
    · rw [if_pos h, if_pos h]; exact runF_fuel k s b c (p + 1) (by omega) (by omega)
    · rw [if_neg h, if_neg h]
theorem run_in {k : Int} {s : ByteArray} {p : Nat} (h : p < s.size) (hk : kb s p = k) : run k s p = run k s (p + 1) := by
  unfold run
  rw [runF_fuel k s (s.size - p) (s.size - (p + 1) + 1) p (by omega) (by omega)]
  simp only [runF]
  rw [if_pos ⟨h, hk⟩]
theorem run_out {k : Int} {s : ByteArray} {p : Nat} (h : ¬ (p < s.size ∧ kb s p = k)) : run k s p = p := by
  unfold run
  cases s.size - p with
  | zero => rfl
  | succ b => simp only [runF]; rw [if_neg h]
theorem runF_ge (k : Int) (s : ByteArray) : ∀ b p, p ≤ runF k s b p
  | 0, p => Nat.le_refl _
  | b + 1, p => by
    simp only [runF]; split
    · exact Nat.le_trans (Nat.le_succ p) (runF_ge k s b (p + 1))
    · exact Nat.le_refl _
theorem run_ge (k : Int) (s : ByteArray) (p : Nat) : p ≤ run k s p := runF_ge k s _ p
theorem runF_le (k : Int) (s : ByteArray) : ∀ b p, p ≤ s.size → runF k s b p ≤ s.size
  | 0, p, h => h
  | b + 1, p, h => by
    simp only [runF]; split
    · rename_i q; exact runF_le k s b (p + 1) q.1
    · exact h
theorem run_le (k : Int) (s : ByteArray) (p : Nat) (h : p ≤ s.size) : run k s p ≤ s.size := runF_le k s _ p h
def nlF (s : ByteArray) : Nat → Nat → Nat
  | 0, p => p
  | b + 1, p => if p < s.size ∧ (s.get! p).toNat ≠ 10 then nlF s b (p + 1) else p
/-- where a line ends -/
def nl (s : ByteArray) (p : Nat) : Nat := nlF s (s.size - p) p
theorem nlF_fuel (s : ByteArray) : ∀ b c p, s.size - p ≤ b → s.size - p ≤ c → nlF s b p = nlF s c p
  | 0, c, p, h1, h2 => by
    cases c with
    | zero => rfl
    | succ c => simp only [nlF]; rw [if_neg (by omega)]
  | b + 1, 0, p, h1, h2 => by simp only [nlF]; rw [if_neg (by omega)]
  | b + 1, c + 1, p, h1, h2 => by
    simp only [nlF]
    by_cases h : p < s.size ∧ (s.get! p).toNat ≠ 10
    · rw [if_pos h, if_pos h]; exact nlF_fuel s b c (p + 1) (by omega) (by omega)
    · rw [if_neg h, if_neg h]
theorem nl_in {s : ByteArray} {p : Nat} (h : p < s.size) (hk : (s.get! p).toNat ≠ 10) : nl s p = nl s (p + 1) := by
  unfold nl
  rw [nlF_fuel s (s.size - p) (s.size - (p + 1) + 1) p (by omega) (by omega)]
  simp only [nlF]
  rw [if_pos ⟨h, hk⟩]
theorem nl_out {s : ByteArray} {p : Nat} (h : ¬ (p < s.size ∧ (s.get! p).toNat ≠ 10)) : nl s p = p := by
  unfold nl
  cases s.size - p with
  | zero => rfl
  | succ b => simp only [nlF]; rw [if_neg h]
theorem nlF_ge (s : ByteArray) : ∀ b p, p ≤ nlF s b p
  | 0, p => Nat.le_refl _
  | b + 1, p => by
    simp only [nlF]; split
    · exact Nat.le_trans (Nat.le_succ p) (nlF_ge s b (p + 1))
    · exact Nat.le_refl _
theorem nl_ge (s : ByteArray) (p : Nat) : p ≤ nl s p := nlF_ge s _ p
theorem nlF_le (s : ByteArray) : ∀ b p, p ≤ s.size → nlF s b p ≤ s.size
  | 0, p, h => h
  | b + 1, p, h => by
    simp only [nlF]; split
    · rename_i q; exact nlF_le s b (p + 1) q.1
    · exact h
theorem nl_le (s : ByteArray) (p : Nat) (h : p ≤ s.size) : nl s p ≤ s.size := nlF_le s _ p h
theorem kb_ten {s : ByteArray} {p : Nat} (h : kb s p = 4) : (s.get! p).toNat ≠ 10 := fun e => by
  unfold kb at h
  rw [e] at h
  simp [kindv] at h
theorem nl_rem {s : ByteArray} {p : Nat} (hp : p < s.size) (h : kb s p = 4) : nl s p = nl s (p + 1) := nl_in hp (kb_ten h)
/-- a token -/
structure Tok where
  kind : Int
  text : ByteArray
  num : Int
  at_ : Nat
/-- what a scan tells -/
inductive Res where
  | ok (l : List Tok)
  | bad (p : Nat) (e : Int)
def noText : ByteArray := ⟨#[]⟩
def sp (s : ByteArray) : Nat → Nat → List Tok → Res
  | 0, p, l => .ok (l ++ [⟨3, noText, 0, s.size⟩])
  | b + 1, p, l =>
    if s.size ≤ p then .ok (l ++ [⟨3, noText, 0, s.size⟩])
    else if kb s p = 1 then sp s b (p + 1) l
    else if kb s p = 4 then sp s b (nl s (p + 1)) l
    else if kb s p = 2 then
      (if (rdv (s.extract p s.size) p).2.2 ≠ 0 then .bad p (rdv (s.extract p s.size) p).2.2
       else if run 2 s (p + 1) < s.size ∧ kb s (run 2 s (p + 1)) = 3 then .bad (run 2 s (p + 1)) 2
       else sp s b (run 2 s (p + 1)) (l ++ [⟨2, noText, (rdv (s.extract p s.size) p).1, p⟩]))
    else if kb s p = 3 then
      (if 16 < run 3 s (p + 1) - p then .bad p 5
       else if run 3 s (p + 1) < s.size ∧ kb s (run 3 s (p + 1)) = 2 then .bad (run 3 s (p + 1)) 2
       else sp s b (run 3 s (p + 1)) (l ++ [⟨1, s.extract p (run 3 s (p + 1)), 0, p⟩]))
    else .bad p 2
theorem sp_fuel (s : ByteArray) : ∀ b c p l, s.size - p ≤ b → s.size - p ≤ c → sp s b p l = sp s c p l
  | 0, c, p, l, h1, h2 => by
    cases c with
    | zero => rfl
    | succ c => simp only [sp]; rw [if_pos (by omega)]
  | b + 1, 0, p, l, h1, h2 => by simp only [sp]; rw [if_pos (by omega)]
  | b + 1, c + 1, p, l, h1, h2 => by
    have g2 := run_ge 2 s (p + 1)
    have g3 := run_ge 3 s (p + 1)
    have g4 := nl_ge s (p + 1)
    simp only [sp]
    have e : ∀ q l', s.size - q ≤ b → s.size - q ≤ c → sp s b q l' = sp s c q l' := fun q l' h1 h2 => sp_fuel s b c q l' h1 h2
    rw [e (p + 1) _ (by omega) (by omega), e (nl s (p + 1)) _ (by omega) (by omega), e (run 2 s (p + 1)) _ (by omega) (by omega), e (run 3 s (p + 1)) _ (by omega) (by omega)]
/-- what a scan from a place on tells, tokens being there -/
def SP (s : ByteArray) (p : Nat) (l : List Tok) : Res := sp s (s.size - p) p l
theorem SP_end {s : ByteArray} {p : Nat} {l : List Tok} (h : s.size ≤ p) : SP s p l = .ok (l ++ [⟨3, noText, 0, s.size⟩]) := by
  unfold SP; rw [show s.size - p = 0 by omega]; rfl
theorem SP_go {s : ByteArray} {p : Nat} {l : List Tok} (h : p < s.size) : SP s p l =
    if kb s p = 1 then SP s (p + 1) l
    else if kb s p = 4 then SP s (nl s (p + 1)) l
    else if kb s p = 2 then
      (if (rdv (s.extract p s.size) p).2.2 ≠ 0 then .bad p (rdv (s.extract p s.size) p).2.2
       else if run 2 s (p + 1) < s.size ∧ kb s (run 2 s (p + 1)) = 3 then .bad (run 2 s (p + 1)) 2
       else SP s (run 2 s (p + 1)) (l ++ [⟨2, noText, (rdv (s.extract p s.size) p).1, p⟩]))
    else if kb s p = 3 then
      (if 16 < run 3 s (p + 1) - p then .bad p 5
       else if run 3 s (p + 1) < s.size ∧ kb s (run 3 s (p + 1)) = 2 then .bad (run 3 s (p + 1)) 2
       else SP s (run 3 s (p + 1)) (l ++ [⟨1, s.extract p (run 3 s (p + 1)), 0, p⟩]))
    else .bad p 2 := by
  have g2 := run_ge 2 s (p + 1)
  have g3 := run_ge 3 s (p + 1)
  have g4 := nl_ge s (p + 1)
  unfold SP
  obtain ⟨b, hb⟩ : ∃ b, s.size - p = b + 1 := ⟨s.size - p - 1, by omega⟩
  rw [hb]
  simp only [sp]
  rw [if_neg (by omega)]
  have e : ∀ q l', p < q → sp s b q l' = sp s (s.size - q) q l' := fun q l' h => sp_fuel s b _ q l' (by omega) (Nat.le_refl _)
  rw [e (p + 1) _ (by omega), e (nl s (p + 1)) _ (by omega), e (run 2 s (p + 1)) _ (by omega), e (run 3 s (p + 1)) _ (by omega)]
end Go.Proofs.Ytjlaankgfpjeeaa

/-
  Tokens in memory; what the reference's kind and the package's follows answer.
-/
namespace Go.Proofs.Ytjlaankgfpjeeaa
open Go.RowKit
set_option linter.unusedVariables false
def encT (t : Tok) : List Value := [.int .i64 t.kind, .string t.text, .int .i64 t.num, .int .i64 t.at_]
def encL (l : List Tok) : List Value := l.flatMap encT
theorem encL_app (l : List Tok) (t : Tok) : encL (l ++ [t]) = encL l ++ encT t := by simp [encL]
theorem encL_nil : encL [] = [] := rfl
theorem infoL : (Try.prog.info? 46).map (fun i => (i.zero, i.size, i.bytes)) = some (some (.agg #[.int .i64 0, .string ⟨#[]⟩, .int .i64 0, .int .i64 0]), 4, 40) := by kernel_rfl
/-- may a sign of a kind stand behind one of another? -/
def fol (a k : Int) : Bool := if k = 0 then false else if k = 3 then decide (a ≠ 2) else if k = 2 then decide (a ≠ 3) else true
theorem follows_any (a k : Int) (ha : a = 1 ∨ a = 2 ∨ a = 3 ∨ a = 4) (hk : k = 0 ∨ k = 1 ∨ k = 2 ∨ k = 3 ∨ k = 4) (w : World) : Calls Try.prog 19 #[.int .i64 a, .int .i64 k] w fun e w' => e = .returned (.bool (fol a k)) ∧ w = w' := by
  rcases ha with rfl | rfl | rfl | rfl <;> rcases hk with rfl | rfl | rfl | rfl | rfl
  all_goals
    go_enter Try.func19, Try.ntmps19
    go_wp2
    go_ret
    exact ⟨rfl, rfl⟩
end Go.Proofs.Ytjlaankgfpjeeaa

/-
  What the reference's Scan answers.
-/
namespace Go.Proofs.Ytjlaankgfpjeeaa
open Go.RowKit
set_option linter.unusedVariables false
theorem kb_of {s : ByteArray} {p : Nat} (h : p < s.size) : kb s p = kindv ((s[p]'h).toNat : Int) := by unfold kb; rw [get_of s p h]
theorem isd_kb (s t : ByteArray) (p k : Nat) (hp : p ≤ s.size) (ht : s.extract p s.size = t) : isd t k ↔ (p + k < s.size ∧ kb s (p + k) = 2) := by
  have hz : t.size = s.size - p := by rw [← ht]; simp
  constructor
  · intro h
    have hlt := isd_lt h
    refine ⟨by omega, ?_⟩
    unfold isd at h
    unfold kb
    rw [kindv_digit, ← get_subk s p k (by omega), ht]
    omega
  · rintro ⟨h1, h2⟩
    unfold kb at h2
    rw [kindv_digit, ← get_subk s p k h1, ht] at h2
    unfold isd
    omega
theorem run_ndf (s t : ByteArray) (p : Nat) (hp : p ≤ s.size) (ht : s.extract p s.size = t) : ∀ b k, t.size - k ≤ b → run 2 s (p + k) = p + ndf t b k
  | 0, k, h => by
    have hz : t.size = s.size - p := by rw [← ht]; simp
    rw [run_out (by omega)]
    have : ndf t 0 k = k := by
      by_cases q : isd t k
      · have := isd_lt q; omega
      · exact ndf_end t 0 k q
    rw [this]
  | b + 1, k, h => by
    by_cases q : isd t k
    · obtain ⟨h1, h2⟩ := (isd_kb s t p k hp ht).1 q
      rw [run_in h1 h2, ndf_step t b k q]
      have := run_ndf s t p hp ht b (k + 1) (by omega)
      rw [← this]; rfl
    · rw [run_out (fun h => q ((isd_kb s t p k hp ht).2 h)), ndf_end t (b + 1) k q]
/-- what a scan answers -/
def ScP (T : TypeId) (w : World) (r : Res) (e : Ending) (w' : World) : Prop := match r with
  | .ok l => ∃ v, e = .returned (.tuple #[v, .int .i64 0, .int .i64 0]) ∧ w'.ownsRow w.heap.size T 4 v l.length (encL l) ∧ Below w.heap.size w w'
  | .bad p er => e = .returned (.tuple #[.slice none 0 0, .int .i64 p, .int .i64 er]) ∧ Below w.heap.size w w'
theorem scp_bad {T : TypeId} {w w' : World} {r : Res} {p : Nat} {er : Int} (h : r = .bad p er) (hb : Below w.heap.size w w') : ScP T w r (.returned (.tuple #[.slice none 0 0, .int .i64 p, .int .i64 er])) w' := by
  subst h; exact ⟨rfl, hb⟩
theorem scp_ok {T : TypeId} {w w' : World} {r : Res} {l : List Tok} {v : Value} (h : r = .ok l) (hr : w'.ownsRow w.heap.size T 4 v l.length (encL l)) (hb : Below w.heap.size w w') : ScP T w r (.returned (.tuple #[v, .int .i64 0, .int .i64 0])) w' := by
  subst h; exact ⟨v, rfl, hr, hb⟩
theorem tok_new (W : World) (T : TypeId) (a b c d : Value) : ∀ j u, [a, b, c, d][j]? = some u → (W.alloc (.cells #[a, b, c, d] T)).cell? ((⟨W.heap.size, 0, none⟩ : Addr).add j) = some u :=
  World.news_of_block (cs := #[a, b, c, d]) (t := T) (fr := (0, 0)) (by show (W.heap.push (Obj.cells #[a, b, c, d] T))[W.heap.size]? = _; simp)
theorem ownsRow_up {B : Nat} {e : TypeId} {k : Nat} {v : Value} {n : Nat} {xs : List Value} {w w' : World} (h : w.ownsRow B e k v n xs) (hb : Below w.heap.size w w') : w'.ownsRow B e k v n xs := by
  refine ⟨h.1, ?_⟩
  rcases h.2 with hn | ⟨g, cap, cur, hv, hg, hh, r⟩
  · exact Or.inl hn
  · have hl : g < w.heap.size := by
      rcases Nat.lt_or_ge g w.heap.size with q | q
      · exact q
      · rw [Array.getElem?_eq_none q] at hh; cases hh
    exact Or.inr ⟨g, cap, cur, hv, hg, (hb.block _ hl).trans hh, r⟩
theorem below_app {w wr w2 : World} {T : TypeId} {k n : Nat} {v : Value} {xs : List Value} {o : Obj} (HB : Below w.heap.size w wr) (HO : wr.ownsRow w.heap.size T k v n xs) (hg : (wr.alloc o).grownBy w2 v.ownBlock) : Below w.heap.size w w2 :=
  ⟨hg.os.trans HB.os, hg.tape.trans HB.tape, hg.output.trans HB.output, Nat.le_trans HB.size (Nat.le_trans (by simp) hg.size), fun k hk => by
    have h1 := HB.size
    exact (hg.block k (by simp; omega) (fun e => by have := HO.lt k e.symm; omega)).trans ((heap_alloc_old wr o (show k < wr.heap.size by omega)).trans (HB.block k hk))⟩
theorem below_tr {w wr w2 : World} (h1 : Below w.heap.size w wr) (h2 : Below wr.heap.size wr w2) : Below w.heap.size w w2 :=
  ⟨h2.os.trans h1.os, h2.tape.trans h1.tape, h2.output.trans h1.output, Nat.le_trans h1.size h2.size, fun k hk => (h2.block k (Nat.lt_of_lt_of_le hk h1.size)).trans (h1.block k hk)⟩
theorem rdv_next (s : ByteArray) (p : Nat) (hp : p ≤ s.size) (h : (rdv (s.extract p s.size) p).2.2 = 0) : (rdv (s.extract p s.size) p).2.1 = (run 2 s p : Int) := by
  have hr := run_ndf s _ p hp rfl (s.extract p s.size).size 0 (by omega)
  unfold rdv at h ⊢
  split
  · rename_i q; rw [if_pos q] at h; simp at h
  · rename_i q; rw [if_neg q] at h
    split
    · rename_i q2; rw [if_pos q2] at h; simp at h
    · show (p : Int) + (nd (s.extract p s.size) : Int) = _
      have : run 2 s p = p + nd (s.extract p s.size) := hr
      omega
theorem own_tok {w : World} {B : Nat} {v : Value} {l : List Tok} {t : Tok} (h : w.ownsRow B 51 4 v (l.length + 1) (encL l ++ encT t)) : w.ownsRow B 51 4 v (l ++ [t]).length (encL (l ++ [t])) := by
  rw [encL_app, List.length_append]; exact h
theorem ScP_end {w w' : World} {s : ByteArray} {l : List Tok} {v : Value} {T : TypeId} (hE : SP s 0 [] = .ok (l ++ [⟨3, noText, 0, s.size⟩])) (hr : w'.ownsRow w.heap.size T 4 v (l.length + 1) (encL l ++ [.int .i64 3, .string ⟨#[]⟩, .int .i64 0, .int .i64 s.size])) (hb : Below w.heap.size w w') : ScP T w (SP s 0 []) (.returned (.tuple #[v, .int .i64 0, .int .i64 0])) w' :=
  scp_ok hE (by rw [encL_app, List.length_append]; exact hr) hb
end Go.Proofs.Ytjlaankgfpjeeaa

/-
  What the package's Scan knows on its way through a text.
-/
namespace Go.Proofs.Ytjlaankgfpjeeaa
open Go.RowKit
set_option linter.unusedVariables false
/-- inside a number -/
def IN2 (s : ByteArray) (p : Nat) (l : List Tok) : Res := if run 2 s p < s.size ∧ kb s (run 2 s p) = 3 then .bad (run 2 s p) 2 else SP s (run 2 s p) l
/-- inside a word -/
def IN3 (s : ByteArray) (q p : Nat) (l : List Tok) : Res :=
  if 16 < run 3 s p - q then .bad q 5 else if run 3 s p < s.size ∧ kb s (run 3 s p) = 2 then .bad (run 3 s p) 2 else SP s (run 3 s p) (l ++ [⟨1, s.extract q (run 3 s p), 0, q⟩])
theorem IN2_in {s : ByteArray} {p : Nat} {l : List Tok} (h : p < s.size) (hk : kb s p = 2) : IN2 s p l = IN2 s (p + 1) l := by unfold IN2; rw [run_in h hk]
theorem IN2_letter {s : ByteArray} {p : Nat} {l : List Tok} (h : p < s.size) (hk : kb s p = 3) : IN2 s p l = .bad p 2 := by
  unfold IN2; rw [run_out (fun h => by omega), if_pos ⟨h, hk⟩]
theorem IN2_out {s : ByteArray} {p : Nat} {l : List Tok} (h2 : ¬ (p < s.size ∧ kb s p = 2)) (h3 : ¬ (p < s.size ∧ kb s p = 3)) : IN2 s p l = SP s p l := by
  unfold IN2; rw [run_out h2, if_neg h3]
theorem IN3_in {s : ByteArray} {q p : Nat} {l : List Tok} (h : p < s.size) (hk : kb s p = 3) : IN3 s q p l = IN3 s q (p + 1) l := by unfold IN3; rw [run_in h hk]
theorem IN3_long {s : ByteArray} {q p : Nat} {l : List Tok} (h : p < s.size) (hk : kb s p = 3) (hl : 16 < p + 1 - q) : IN3 s q p l = .bad q 5 := by
  unfold IN3; rw [run_in h hk]
  have := run_ge 3 s (p + 1)
  rw [if_pos (by omega)]
theorem IN3_digit {s : ByteArray} {q p : Nat} {l : List Tok} (h : p < s.size) (hk : kb s p = 2) (hl : p - q ≤ 16) : IN3 s q p l = .bad p 2 := by
  unfold IN3; rw [run_out (fun h => by omega), if_neg (by omega), if_pos ⟨h, hk⟩]
theorem IN3_out {s : ByteArray} {q p : Nat} {l : List Tok} (h3 : ¬ (p < s.size ∧ kb s p = 3)) (h2 : ¬ (p < s.size ∧ kb s p = 2)) (hl : p - q ≤ 16) : IN3 s q p l = SP s p (l ++ [⟨1, s.extract q p, 0, q⟩]) := by
  unfold IN3; rw [run_out h3, if_neg (by omega), if_neg h2]
theorem SP_blank {s : ByteArray} {p : Nat} {l : List Tok} (h : p < s.size) (hk : kb s p = 1) : SP s p l = SP s (p + 1) l := by rw [SP_go h, if_pos hk]
theorem SP_remark {s : ByteArray} {p : Nat} {l : List Tok} (h : p < s.size) (hk : kb s p = 4) : SP s p l = SP s (nl s (p + 1)) l := by rw [SP_go h, if_neg (by omega), if_pos hk]
theorem SP_other {s : ByteArray} {p : Nat} {l : List Tok} (h : p < s.size) (hk : kb s p = 0) : SP s p l = .bad p 2 := by rw [SP_go h, if_neg (by omega), if_neg (by omega), if_neg (by omega), if_neg (by omega)]
theorem SP_badnum {s : ByteArray} {p : Nat} {l : List Tok} (h : p < s.size) (hk : kb s p = 2) (he : (rdv (s.extract p s.size) p).2.2 ≠ 0) : SP s p l = .bad p (rdv (s.extract p s.size) p).2.2 := by
  rw [SP_go h, if_neg (by omega), if_neg (by omega), if_pos hk, if_pos he]
theorem SP_number {s : ByteArray} {p : Nat} {l : List Tok} (h : p < s.size) (hk : kb s p = 2) (he : (rdv (s.extract p s.size) p).2.2 = 0) : SP s p l = IN2 s (p + 1) (l ++ [⟨2, noText, (rdv (s.extract p s.size) p).1, p⟩]) := by
  rw [SP_go h, if_neg (by omega), if_neg (by omega), if_pos hk, if_neg (by simp [he])]; rfl
theorem SP_word {s : ByteArray} {p : Nat} {l : List Tok} (h : p < s.size) (hk : kb s p = 3) : SP s p l = IN3 s p (p + 1) l := by
  rw [SP_go h, if_neg (by omega), if_neg (by omega), if_neg (by omega), if_pos hk]; rfl
/-- where a scan is: what stands before, the place, the tokens -/
def BSt (s : ByteArray) (R : Res) (b : Int) (p : Nat) (l : List Tok) : Prop :=
  (b = 1 ∧ SP s p l = R) ∨ (b = 4 ∧ SP s (nl s p) l = R) ∨ (b = 2 ∧ IN2 s p l = R) ∨ (b = 3 ∧ ∃ l0 q, l = l0 ++ [⟨1, s.extract q p, 0, q⟩] ∧ q < p ∧ p - q ≤ 16 ∧ IN3 s q p l0 = R)
theorem BSt_kinds {s : ByteArray} {R : Res} {b : Int} {p : Nat} {l : List Tok} (h : BSt s R b p l) : b = 1 ∨ b = 2 ∨ b = 3 ∨ b = 4 := by
  rcases h with h | h | h | h
  · exact .inl h.1
  · exact .inr (.inr (.inr h.1))
  · exact .inr (.inl h.1)
  · exact .inr (.inr (.inl h.1))
theorem BSt_out {s : ByteArray} {R : Res} {b : Int} {p : Nat} {l : List Tok} (h : BSt s R b p l) (hb : b ≠ 4) (h2 : ¬ (p < s.size ∧ kb s p = 2) ∨ b = 1) (h3 : ¬ (p < s.size ∧ kb s p = 3) ∨ b = 1) : SP s p l = R := by
  rcases h with h | h | h | ⟨h, l0, q, rfl, h4, h5, h6⟩
  · exact h.2
  · exact absurd h.1 hb
  · have := h.1
    rw [← IN2_out (by rcases h2 with h | h; exact h; omega) (by rcases h3 with h | h; exact h; omega)]; exact h.2
  · rw [← IN3_out (by rcases h3 with h | h; exact h; omega) (by rcases h2 with h | h; exact h; omega) h5]; exact h6
theorem BSt_end {s : ByteArray} {R : Res} {b : Int} {p : Nat} {l : List Tok} (h : BSt s R b p l) (hp : s.size ≤ p) : R = .ok (l ++ [⟨3, noText, 0, s.size⟩]) := by
  by_cases hb : b = 4
  · rcases h with h | h | h | h
    · omega
    · rw [← h.2, nl_out (fun h => by omega), SP_end hp]
    · omega
    · omega
  · rw [← BSt_out h hb (.inl (fun h => by omega)) (.inl (fun h => by omega)), SP_end hp]
/-- a blank behind anything but a remark -/
theorem BSt_blank {s : ByteArray} {R : Res} {b : Int} {p : Nat} {l : List Tok} (h : BSt s R b p l) (hb : b ≠ 4) (hp : p < s.size) (hk : kb s p = 1) : BSt s R 1 (p + 1) l :=
  .inl ⟨rfl, by rw [← SP_blank hp hk]; exact BSt_out h hb (.inl (fun h => by omega)) (.inl (fun h => by omega))⟩
theorem BSt_remark {s : ByteArray} {R : Res} {b : Int} {p : Nat} {l : List Tok} (h : BSt s R b p l) (hb : b ≠ 4) (hp : p < s.size) (hk : kb s p = 4) : BSt s R 4 (p + 1) l :=
  .inr (.inl ⟨rfl, by rw [← SP_remark hp hk]; exact BSt_out h hb (.inl (fun h => by omega)) (.inl (fun h => by omega))⟩)
theorem BSt_other {s : ByteArray} {R : Res} {b : Int} {p : Nat} {l : List Tok} (h : BSt s R b p l) (hb : b ≠ 4) (hp : p < s.size) (hk : kb s p = 0) : R = .bad p 2 := by
  rw [← SP_other (l := l) hp hk]; exact (BSt_out h hb (.inl (fun h => by omega)) (.inl (fun h => by omega))).symm
/-- the end of a remark's line -/
theorem BSt_line {s : ByteArray} {R : Res} {p : Nat} {l : List Tok} (h : BSt s R 4 p l) (hp : p < s.size) (hk : (s.get! p).toNat = 10) : BSt s R 1 (p + 1) l := by
  have hkb : kb s p = 1 := by unfold kb; rw [hk]; simp [kindv]
  rcases h with h | h | h | h
  · omega
  · refine .inl ⟨rfl, ?_⟩
    rw [← SP_blank hp hkb, ← h.2, nl_out (fun h => by omega)]
  · omega
  · omega
/-- within a remark -/
theorem BSt_in4 {s : ByteArray} {R : Res} {p q : Nat} {l : List Tok} (h : BSt s R 4 p l) (hn : nl s p = nl s q) : BSt s R 4 q l := by
  rcases h with h | h | h | h
  · omega
  · exact .inr (.inl ⟨rfl, by rw [← hn]; exact h.2⟩)
  · omega
  · omega
theorem BSt_in2 {s : ByteArray} {R : Res} {p : Nat} {l : List Tok} (h : BSt s R 2 p l) (hp : p < s.size) (hk : kb s p = 2) : BSt s R 2 (p + 1) l := by
  rcases h with h | h | h | h
  · omega
  · omega
  · exact .inr (.inr (.inl ⟨rfl, by rw [← IN2_in hp hk]; exact h.2⟩))
  · omega
theorem BSt_bad23 {s : ByteArray} {R : Res} {p : Nat} {l : List Tok} (h : BSt s R 2 p l) (hp : p < s.size) (hk : kb s p = 3) : R = .bad p 2 := by
  rcases h with h | h | h | h
  · omega
  · omega
  · rw [← h.2, IN2_letter hp hk]
  · omega
theorem BSt_bad32 {s : ByteArray} {R : Res} {p : Nat} {l : List Tok} (h : BSt s R 3 p l) (hp : p < s.size) (hk : kb s p = 2) : R = .bad p 2 := by
  rcases h with h | h | h | ⟨_, l0, q, rfl, h4, h5, h6⟩
  · omega
  · omega
  · omega
  · rw [← h6, IN3_digit hp hk h5]
theorem BSt_num {s : ByteArray} {R : Res} {b : Int} {p : Nat} {l : List Tok} (h : BSt s R b p l) (hb : b = 1 ∨ b = 4) (hb4 : b ≠ 4) (hp : p < s.size) (hk : kb s p = 2) (he : (rdv (s.extract p s.size) p).2.2 = 0) : BSt s R 2 (p + 1) (l ++ [⟨2, noText, (rdv (s.extract p s.size) p).1, p⟩]) :=
  .inr (.inr (.inl ⟨rfl, by rw [← SP_number hp hk he]; exact BSt_out h hb4 (.inr (by omega)) (.inl (fun h => by omega))⟩))
theorem BSt_badnum {s : ByteArray} {R : Res} {b : Int} {p : Nat} {l : List Tok} (h : BSt s R b p l) (hb : b = 1) (hp : p < s.size) (hk : kb s p = 2) (he : (rdv (s.extract p s.size) p).2.2 ≠ 0) : R = .bad p (rdv (s.extract p s.size) p).2.2 := by
  rw [← SP_badnum (l := l) hp hk he]; exact (BSt_out h (by omega) (.inr hb) (.inr hb)).symm
theorem BSt_word {s : ByteArray} {R : Res} {b : Int} {p : Nat} {l : List Tok} (h : BSt s R b p l) (hb : b = 1) (hp : p < s.size) (hk : kb s p = 3) : BSt s R 3 (p + 1) (l ++ [⟨1, s.extract p (p + 1), 0, p⟩]) :=
  .inr (.inr (.inr ⟨rfl, l, p, rfl, by omega, by omega, by rw [← SP_word hp hk]; exact BSt_out h (by omega) (.inr hb) (.inr hb)⟩))
theorem BSt_grow {s : ByteArray} {R : Res} {p : Nat} {l : List Tok} (h : BSt s R 3 p l) (hp : p < s.size) (hk : kb s p = 3) :
    ∃ l0 q, l = l0 ++ [⟨1, s.extract q p, 0, q⟩] ∧ q < p ∧ p - q ≤ 16 ∧ (16 < p + 1 - q → R = .bad q 5) ∧ (p + 1 - q ≤ 16 → BSt s R 3 (p + 1) (l0 ++ [⟨1, s.extract q (p + 1), 0, q⟩])) := by
  rcases h with h | h | h | ⟨_, l0, q, rfl, h4, h5, h6⟩
  · omega
  · omega
  · omega
  · refine ⟨l0, q, rfl, h4, h5, fun h => ?_, fun h => .inr (.inr (.inr ⟨rfl, l0, q, rfl, by omega, h, ?_⟩))⟩
    · rw [← h6, IN3_long hp hk h]
    · rw [← IN3_in hp hk]; exact h6
/-- high bytes and runes are of no kind -/
theorem kindv_high {r : Int} (h : 128 ≤ r) : kindv r = 0 := by
  unfold kindv; rw [if_neg (by omega), if_neg (by omega), if_neg (by omega), if_neg (by omega)]
theorem kb_high {s : ByteArray} {p : Nat} (h : p < s.size) (hh : 128 ≤ (s[p]'h).toNat) : kb s p = 0 := by
  rw [kb_of h]; exact kindv_high (by omega)
/-- a rune's kind is its first byte's -/
theorem kind_rune {s : ByteArray} {p : Nat} (h : p < s.size) : kindv ((Utf8.decode s p).1 : Int) = kb s p := by
  rcases Nat.lt_or_ge (s[p]'h).toNat 128 with q | q
  · rw [decode_ascii s p h q, kb_of h]
  · rw [kb_high h q]; exact kindv_high (by have := (decode_high s p h q).1; omega)
/-- a rune of a kind is one byte wide -/
theorem wide_one {s : ByteArray} {p : Nat} (h : p < s.size) (hk : kb s p ≠ 0) : Utf8.decode s p = ((s[p]'h).toNat, 1) := by
  rcases Nat.lt_or_ge (s[p]'h).toNat 128 with q | q
  · exact decode_ascii s p h q
  · exact absurd (kb_high h q) hk
end Go.Proofs.Ytjlaankgfpjeeaa

/-
  The bytes of a rune.
-/
namespace Go.Proofs.Ytjlaankgfpjeeaa
open Go.RowKit
set_option linter.unusedVariables false
theorem get_out (s : ByteArray) (k : Nat) (h : s.size ≤ k) : s.get! k = 0 := by
  have : ¬ k < s.data.size := by have : s.data.size = s.size := rfl; omega
  show s.data[k]! = 0
  rw [getElem!_def, Array.getElem?_eq_none (by omega)]
  rfl
set_option maxHeartbeats 2000000 in
theorem decode_bytes (s : ByteArray) (p : Nat) (h : p < s.size) (ha : 128 ≤ (s[p]'h).toNat) : ∀ j, j < (Utf8.decode s p).2 → 128 ≤ (s.get! (p + j)).toNat := by
  have hn : ¬ (s[p]'h).toNat < 128 := by omega
  have h0 : 128 ≤ (s.get! (p + 0)).toNat := by rw [Nat.add_zero, get_of s p h]; exact ha
  intro j hj
  by_cases j0 : j = 0
  · subst j0; exact h0
  · simp only [Utf8.decode, get_at s p h, hn, if_false] at hj
    repeat' split at hj
    all_goals simp_all
    all_goals (try omega)
    all_goals
      have hj3 : j = 1 ∨ j = 2 ∨ j = 3 := by omega
      rcases hj3 with rfl | rfl | rfl <;> omega
theorem wide_le (s : ByteArray) (p : Nat) (h : p < s.size) : p + (Utf8.decode s p).2 ≤ s.size ∧ 1 ≤ (Utf8.decode s p).2 := by
  rcases Nat.lt_or_ge (s[p]'h).toNat 128 with q | q
  · rw [decode_ascii s p h q]; exact ⟨by simp; omega, Nat.le_refl _⟩
  · have h1 := (decode_high s p h q).2
    refine ⟨?_, h1⟩
    have hb := decode_bytes s p h q ((Utf8.decode s p).2 - 1) (by omega)
    rcases Nat.lt_or_ge (p + ((Utf8.decode s p).2 - 1)) s.size with g | g
    · omega
    · have hx : s.get! (p + ((Utf8.decode s p).2 - 1)) = 0 := get_out s _ g
      rw [hx] at hb
      simp at hb
theorem nl_steps {s : ByteArray} {p : Nat} : ∀ k, p + k ≤ s.size → (∀ j, j < k → (s.get! (p + j)).toNat ≠ 10) → nl s p = nl s (p + k)
  | 0, _, _ => rfl
  | k + 1, h1, h2 => by
    rw [nl_steps k (by omega) (fun j hj => h2 j (by omega)), nl_in (p := p + k) (by omega) (h2 k (by omega))]; rfl
/-- a rune that is no new line keeps the line -/
theorem nl_rune {s : ByteArray} {p : Nat} (h : p < s.size) (hr : (Utf8.decode s p).1 ≠ 10) : nl s p = nl s (p + (Utf8.decode s p).2) := by
  refine nl_steps _ (wide_le s p h).1 (fun j hj => ?_)
  rcases Nat.lt_or_ge (s[p]'h).toNat 128 with q | q
  · rw [decode_ascii s p h q] at hj hr
    obtain rfl : j = 0 := by simp at hj; exact hj
    rw [Nat.add_zero, get_of s p h]; exact hr
  · have := decode_bytes s p h q j hj; omega
theorem rune_ten {s : ByteArray} {p : Nat} (h : p < s.size) (hr : (Utf8.decode s p).1 = 10) : (s.get! p).toNat = 10 := by
  rcases Nat.lt_or_ge (s[p]'h).toNat 128 with q | q
  · rw [decode_ascii s p h q] at hr; rw [get_of s p h]; exact hr
  · have := (decode_high s p h q).1; omega
end Go.Proofs.Ytjlaankgfpjeeaa
