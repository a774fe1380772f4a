/-
  What the reference's Write answers of a number from nought on.
-/
import Derived.Test.YtjlaankgfpjeeaaPb
import Derived.Laws.IdiomStrings
import Derived.Laws.BytesString
namespace Go.Proofs.Ytjlaankgfpjeeaa
open Go.RowKit
set_option linter.unusedVariables false
/-- the digits of a number, none of nought -/
def dzf : Nat → Nat → List UInt8
  | 0, _ => []
  | b + 1, u => if u = 0 then [] else dzf b (u / 10) ++ [UInt8.ofNat (48 + u % 10)]
theorem dzf_zero (b : Nat) : dzf b 0 = [] := by cases b <;> simp [dzf]
theorem dzf_fuel : ∀ b c u, u < 10 ^ b → u < 10 ^ c → dzf b u = dzf c u
  | 0, c, u, h1, h2 => by
    obtain rfl : u = 0 := by simpa using h1
    rw [dzf_zero, dzf_zero]
  | b + 1, 0, u, h1, h2 => by
    obtain rfl : u = 0 := by simpa using h2
    rw [dzf_zero, dzf_zero]
  | b + 1, c + 1, u, h1, h2 => by
    simp only [dzf]
    split
    · rfl
    · rw [dzf_fuel b c (u / 10) (by rw [Nat.pow_succ] at h1; omega) (by rw [Nat.pow_succ] at h2; omega)]
def dz (u : Nat) : List UInt8 := dzf u u
theorem lt_ten (u : Nat) : u < 10 ^ u := Nat.lt_pow_self (by omega)
theorem dz_step (u : Nat) (h : u ≠ 0) : dz u = dz (u / 10) ++ [UInt8.ofNat (48 + u % 10)] := by
  unfold dz
  obtain ⟨b, hb⟩ : ∃ b, u = b + 1 := ⟨u - 1, by omega⟩
  have h1 := lt_ten u
  have h2 := lt_ten (u / 10)
  rw [dzf_fuel u (u / 10 + 1) u h1 (by rw [Nat.pow_succ]; omega)]
  simp only [dzf]
  rw [if_neg h]
theorem dz_zero : dz 0 = [] := rfl
/-- the text of a number -/
def dec (u : Nat) : ByteArray := if u = 0 then ⟨#[48]⟩ else ⟨(dz u).toArray⟩
theorem conv1 (W : World) (x : Nat) (hx : x < 256) (z : Int) (hz : z = x) :
    (convert 37 9 (.slice (some ⟨W.heap.size, 0, none⟩) 1 1)).run Try.prog (W.alloc (.cells #[.int .u8 z] 5)) = .ok (.string ⟨#[UInt8.ofNat x]⟩) (W.alloc (.cells #[.int .u8 z] 5)) := by
  subst hz
  refine run_convert_bytes_back _ 37 9 5 ⟨W.heap.size, 0, none⟩ 1 [UInt8.ofNat x] Try.underlying37 Try.underlying5 Try.underlying9 (fun j hj => ?_)
  obtain rfl : j = 0 := by simpa using hj
  have hb : (W.alloc (.cells #[.int .u8 (x : Int)] 5)).heap[W.heap.size]? = some (.cells #[.int .u8 (x : Int)] 5) := by
    show (W.heap.push _)[W.heap.size]? = _
    simp
  have hv : ((UInt8.ofNat x).toNat : Int) = x := by simp; omega
  show World.cell? _ (Addr.add ⟨W.heap.size, 0, none⟩ 0) = some (.int .u8 ((UInt8.ofNat x).toNat : Int))
  rw [hv]
  unfold World.cell? Addr.add
  rw [if_pos rfl, hb]
  rfl
attribute [irreducible] dz
theorem wv {x y : Int} (h : x = y) : Value.int .i64 x = .int .i64 y := by rw [h]
theorem cat_size (b : UInt8) (S : ByteArray) : ((⟨#[b]⟩ : ByteArray) ++ S).size = S.size + 1 := by
  rw [ByteArray.size_append]
  show 1 + S.size = _
  omega
def WrAt (u0 : Nat) (w : World) (v m i : Value) (wr : World) : Prop :=
  ∃ (S : ByteArray) (u k : Nat), v = .string S ∧ m = .int .i64 u ∧ i = .int .i64 k ∧ Hid (dz u ++ S.data.toList = dz u0) ∧ Hid (u < 10 ^ (19 - k)) ∧ k ≤ 19 ∧ u < 9223372036854775808 ∧ Below w.heap.size w wr ∧ S.size ≤ k
theorem wr_step {u u0 : Nat} {S : ByteArray} (h : u ≠ 0) (hd : dz u ++ S.data.toList = dz u0) : dz (u / 10) ++ ((⟨#[48 + UInt8.ofNat (u % 10)]⟩ : ByteArray) ++ S).data.toList = dz u0 := by
  rw [← hd, dz_step u h]
  have e : ((⟨#[48 + UInt8.ofNat (u % 10)]⟩ : ByteArray) ++ S).data = #[48 + UInt8.ofNat (u % 10)] ++ S.data := by simp
  rw [e]
  simp
theorem wr_end {u0 : Nat} {S : ByteArray} (hd : dz 0 ++ S.data.toList = dz u0) : S = ⟨(dz u0).toArray⟩ := by
  rw [dz_zero] at hd
  cases S with | mk d =>
  simp only [List.nil_append] at hd
  rw [← hd]
theorem wr_pow {u k : Nat} (h : u < 10 ^ (19 - k)) (hk : k < 19) : u / 10 < 10 ^ (19 - (k + 1)) := by
  have e : 10 ^ (19 - k) = 10 ^ (19 - (k + 1)) * 10 := by rw [← Nat.pow_succ]; congr 1; omega
  rw [e] at h
  omega
theorem wr_k {u k : Nat} (h : u < 10 ^ (19 - k)) (hk : k ≤ 19) (hu : u ≠ 0) : k < 19 := by
  rcases Nat.lt_or_ge k 19 with h' | h'
  · exact h'
  · rw [show 19 - k = 0 by omega] at h; omega
set_option maxRecDepth 100000 in
set_option maxHeartbeats 400000 in
theorem refwrite_pos (u0 : Nat) (h0 : u0 ≠ 0) (h1 : u0 < 9223372036854775808) (w : World) :
    Calls Try.prog 7 #[.int .i64 u0] w fun e w' => e = .returned (.string ⟨(dz u0).toArray⟩) ∧ Below w.heap.size w w' := by
  have A0 : WrAt u0 w (.string ⟨#[]⟩) (.int .i64 u0) (.int .i64 0) w := ⟨⟨#[]⟩, u0, 0, rfl, rfl, rfl, Lib.hid (by simp), Lib.hid (by omega), by omega, h1, Below.refl _ _, Nat.le_refl _⟩
  have hz : ((u0 : Int) == 0) = false := by simp; omega
  go_enter Try.func7, Try.ntmps7
  go_wp2
  go_loopw [3, 4, 5] (fun v m i wr => WrAt u0 w v m i wr) (fun _ _ i _ => 20 - (intOf i).toNat)
  case atStart => exact A0
  case round =>
    clear A0
    obtain ⟨S, u, k, rfl, rfl, rfl, HD, HU, hk, hu, hbl, hS⟩ := hrel
    by_cases hm : u = 0
    · subst hm
      have HE := Lib.hid (wr_end HD.out)
      clear HD HU
      go_wp2
      go_ret
      exact ⟨by rw [← HE.out]; rfl, hbl⟩
    · have hm' : ((u : Int) == 0) = false := by simp; omega
      have hk2 := wr_k HU.out hk hm
      have hcv := conv1 wr (48 + u % 10) (by omega) (48 + (u : Int) % 10) (by omega)
      have HM := Lib.hid hm
      clear hm
      go_wp2
      exact ⟨⟨_, u / 10, k + 1, rfl, wv (by omega), wv (by omega), Lib.hid (wr_step HM.out HD.out), Lib.hid (wr_pow HU.out hk2), by omega, by omega, bl_al hbl _, by rw [cat_size]; omega⟩, by simp [intOf]; omega⟩
theorem refwrite_nat (n : Nat) (h : n < 9223372036854775808) (w : World) :
    Calls Try.prog 7 #[.int .i64 n] w fun e w' => e = .returned (.string (dec n)) ∧ Below w.heap.size w w' := by
  unfold dec
  by_cases h0 : n = 0
  · subst h0
    rw [if_pos rfl]
    go_enter Try.func7, Try.ntmps7
    go_wp2
    go_ret
    exact ⟨rfl, Below.refl _ _⟩
  · rw [if_neg h0]
    exact refwrite_pos n h0 h w
end Go.Proofs.Ytjlaankgfpjeeaa
