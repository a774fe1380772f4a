/-
  What the reference's Write answers: what strconv.Itoa does, for every int.
-/
import Derived.Test.YtjajpmbmkagcaaaDoorDg
import Derived.Laws.IdiomStrings
import Derived.Lib.ItoaMem
import Derived.Lib.ItoaLen
import Derived.Laws.BytesString
namespace Go.Proofs.YtjajpmbmkagcaaaDoor
open Go.RowKit
set_option linter.unusedVariables false

/-- the digits of a number, none of nought -/
def dz (u : Nat) : List UInt8 := if u = 0 then [] else Lib.decDigits u
theorem dz_step (u : Nat) (h : u ≠ 0) : dz u = dz (u / 10) ++ [UInt8.ofNat (48 + u % 10)] := by
  unfold dz
  rw [if_neg h]
  by_cases h1 : u < 10
  · rw [if_pos (by omega), Lib.decDigits_one h1]
    simp [show u % 10 = u by omega]
  · rw [if_neg (by omega)]
    conv => lhs; rw [Lib.decDigits, dif_neg h1]
theorem dz_zero : dz 0 = [] := rfl
theorem dz_pos (u : Nat) (h : u ≠ 0) : dz u = Lib.decDigits u := by unfold dz; rw [if_neg h]
attribute [irreducible] dz
theorem conv1 (W : World) (x : Nat) (hx : x < 256) (z : Int) (hz : z = x) :
    (convert 43 9 (.slice (some ⟨W.heap.size, 0, none⟩) 1 1)).run Tryd.prog (W.alloc (.cells #[.int .u8 z] 5)) = .ok (.string ⟨#[UInt8.ofNat x]⟩) (W.alloc (.cells #[.int .u8 z] 5)) := by
  subst hz
  refine run_convert_bytes_back _ 43 9 5 ⟨W.heap.size, 0, none⟩ 1 [UInt8.ofNat x] Tryd.underlying43 Tryd.underlying5 Tryd.underlying9 (fun j hj => ?_)
  obtain rfl : j = 0 := by simpa using hj
  have hb : (W.alloc (.cells #[.int .u8 (x : Int)] 5)).heap[W.heap.size]? = some (.cells #[.int .u8 (x : Int)] 5) := by
    show (W.heap.push _)[W.heap.size]? = _
    simp
  have hv : ((UInt8.ofNat x).toNat : Int) = x := by simp; omega
  show World.cell? _ (Addr.add ⟨W.heap.size, 0, none⟩ 0) = some (.int .u8 ((UInt8.ofNat x).toNat : Int))
  rw [hv]
  unfold World.cell? Addr.add
  rw [if_pos rfl, hb]
  rfl
theorem wv {x y : Int} (h : x = y) : Value.int .i64 x = .int .i64 y := by rw [h]
theorem cat45 {S : ByteArray} {l : List UInt8} (h : S = ⟨l.toArray⟩) : Ending.returned (.string ((⟨#[45]⟩ : ByteArray) ++ S)) = .returned (.string ⟨(45 :: l).toArray⟩) := by
  subst h
  congr 2
theorem cat_size (b : UInt8) (S : ByteArray) : ((⟨#[b]⟩ : ByteArray) ++ S).size = S.size + 1 := by
  rw [ByteArray.size_append]
  show 1 + S.size = _
  omega
def WrAt (u0 : Nat) (neg : Bool) (w : World) (v m i : Value) (wr : World) : Prop :=
  ∃ (S : ByteArray) (u k : Nat), v = .string S ∧ m = .int .i64 (if neg then -(u : Int) else u) ∧ i = .int .i64 k ∧ Hid (dz u ++ S.data.toList = dz u0) ∧ Hid (u < 10 ^ (19 - k)) ∧ k ≤ 19 ∧ u ≤ 9223372036854775808 ∧ (neg = false → u < 9223372036854775808) ∧ Below w.heap.size w wr ∧ S.size ≤ k
theorem wr_step {u u0 : Nat} {S : ByteArray} (h : u ≠ 0) (hd : dz u ++ S.data.toList = dz u0) : dz (u / 10) ++ ((⟨#[48 + UInt8.ofNat (u % 10)]⟩ : ByteArray) ++ S).data.toList = dz u0 := by
  rw [← hd, dz_step u h]
  have e : ((⟨#[48 + UInt8.ofNat (u % 10)]⟩ : ByteArray) ++ S).data = #[48 + UInt8.ofNat (u % 10)] ++ S.data := by simp
  rw [e]
  simp
theorem wr_end {u0 : Nat} {S : ByteArray} (hd : dz 0 ++ S.data.toList = dz u0) : S = ⟨(dz u0).toArray⟩ := by
  rw [dz_zero] at hd
  cases S with | mk d =>
  simp only [List.nil_append] at hd
  rw [← hd]
theorem wr_pow {u k : Nat} (h : u < 10 ^ (19 - k)) (hk : k < 19) : u / 10 < 10 ^ (19 - (k + 1)) := by
  have e : 10 ^ (19 - k) = 10 ^ (19 - (k + 1)) * 10 := by rw [← Nat.pow_succ]; congr 1; omega
  rw [e] at h
  omega
theorem wr_k {u k : Nat} (h : u < 10 ^ (19 - k)) (hk : k ≤ 19) (hu : u ≠ 0) : k < 19 := by
  rcases Nat.lt_or_ge k 19 with h' | h'
  · exact h'
  · rw [show 19 - k = 0 by omega] at h; omega
set_option maxRecDepth 100000 in
set_option maxHeartbeats 400000 in
theorem refwrite_pos (u0 : Nat) (h0 : u0 ≠ 0) (h1 : u0 < 9223372036854775808) (w : World) :
    Calls Tryd.prog 19 #[.int .i64 u0] w fun e w' => e = .returned (.string ⟨(dz u0).toArray⟩) ∧ Below w.heap.size w w' := by
  have A0 : WrAt u0 false w (.string ⟨#[]⟩) (.int .i64 u0) (.int .i64 0) w := ⟨⟨#[]⟩, u0, 0, rfl, rfl, rfl, Lib.hid (by simp), Lib.hid (by omega), by omega, by omega, fun _ => h1, Below.refl _ _, Nat.le_refl _⟩
  have hz : ((u0 : Int) == 0) = false := by simp; omega
  go_enter Tryd.func19, Tryd.ntmps19
  go_wp2
  go_loopw [3, 4, 5] (fun v m i wr => WrAt u0 false w v m i wr) (fun _ _ i _ => 20 - (intOf i).toNat)
  case atStart => exact A0
  case round =>
    clear A0
    obtain ⟨S, u, k, rfl, rfl, rfl, HD, HU, hk, hu, hu2, hbl, hS⟩ := hrel
    by_cases hm : u = 0
    · subst hm
      have HE := Lib.hid (wr_end HD.out)
      simp only [Bool.false_eq_true, if_false]
      clear HD HU hu2
      go_wp2
      go_ret
      exact ⟨by rw [← HE.out]; rfl, hbl⟩
    · have hm' : ((u : Int) == 0) = false := by simp; omega
      have hk2 := wr_k HU.out hk hm
      simp only [Bool.false_eq_true, if_false]
      have hu3 := hu2 rfl
      have hcv := conv1 wr (48 + u % 10) (by omega) (48 + (u : Int) % 10) (by omega)
      have HM := Lib.hid hm
      clear hu2 hm
      go_wp2
      exact ⟨⟨_, u / 10, k + 1, rfl, wv (by rw [if_neg (by decide)]; omega), wv (by omega), Lib.hid (wr_step HM.out HD.out), Lib.hid (wr_pow HU.out hk2), by omega, by omega, fun _ => by omega, bl_al hbl _, by rw [cat_size]; omega⟩, by simp [intOf]; omega⟩
set_option maxRecDepth 100000 in
set_option maxHeartbeats 400000 in
theorem refwrite_neg (u0 : Nat) (h0 : u0 ≠ 0) (h1 : u0 ≤ 9223372036854775808) (w : World) :
    Calls Tryd.prog 19 #[.int .i64 (-(u0 : Int))] w fun e w' => e = .returned (.string ⟨(45 :: dz u0).toArray⟩) ∧ Below w.heap.size w w' := by
  have A0 : WrAt u0 true w (.string ⟨#[]⟩) (.int .i64 (-(u0 : Int))) (.int .i64 0) w := ⟨⟨#[]⟩, u0, 0, rfl, rfl, rfl, Lib.hid (by simp), Lib.hid (by omega), by omega, by omega, fun h => absurd h (by decide), Below.refl _ _, Nat.le_refl _⟩
  generalize hn : -(u0 : Int) = n at *
  have hz : (n == 0) = false := by simp; omega
  have n1 : n < 0 := by omega
  have n2 : -9223372036854775808 ≤ n := by omega
  clear hn
  go_enter Tryd.func19, Tryd.ntmps19
  go_wp2
  go_loopw [3, 4, 5] (fun v m i wr => WrAt u0 true w v m i wr) (fun _ _ i _ => 20 - (intOf i).toNat)
  case atStart => exact A0
  case round =>
    clear A0
    obtain ⟨S, u, k, rfl, rfl, rfl, HD, HU, hk, hu, hu2, hbl, hS⟩ := hrel
    simp only [if_true]
    clear hu2
    by_cases hm : u = 0
    · subst hm
      have HE := Lib.hid (wr_end HD.out)
      clear HD HU
      go_wp2
      go_ret
      exact ⟨cat45 HE.out, hbl⟩
    · have hk2 := wr_k HU.out hk hm
      have HM := Lib.hid hm
      by_cases hr0 : u % 10 = 0
      · generalize hmm : -(u : Int) = m at *
        have hm' : (m == 0) = false := by simp; omega
        have m1 : m < 0 := by omega
        have m2 : -9223372036854775808 ≤ m := by omega
        have hrm : Int.tmod m 10 = 0 := by rw [← hmm, Int.neg_tmod, show Int.tmod (u : Int) 10 = ((u % 10 : Nat) : Int) from rfl, hr0]; rfl
        have hqm : Int.tdiv m 10 = -((u / 10 : Nat) : Int) := by rw [← hmm, Int.neg_tdiv]; rfl
        have HQ := Lib.hid (show u / 10 ≤ 9223372036854775808 by omega)
        have HPW := Lib.hid (wr_pow HU.out hk2)
        have HSM := Lib.hid (wr_step (S := S) HM.out HD.out)
        rw [hr0, show (48 : UInt8) + UInt8.ofNat 0 = 48 from by decide] at HSM
        have hq9 := HQ.out
        generalize u / 10 = q at *
        have hcv := conv1 wr 48 (by omega) 48 (by omega)
        clear hm hmm hr0
        go_wp2
        exact ⟨⟨_, q, k + 1, rfl, wv (by rw [if_pos rfl]), wv (by omega), HSM, HPW, by omega, by omega, fun h => absurd h (by decide), bl_al hbl _, by rw [cat_size]; omega⟩, by simp [intOf]; omega⟩
      · generalize hmm : -(u : Int) = m at *
        have hm' : (m == 0) = false := by simp; omega
        have m1 : m < 0 := by omega
        have m2 : -9223372036854775808 ≤ m := by omega
        have hrm : Int.tmod m 10 = -((u % 10 : Nat) : Int) := by rw [← hmm, Int.neg_tmod]; rfl
        have hqm : Int.tdiv m 10 = -((u / 10 : Nat) : Int) := by rw [← hmm, Int.neg_tdiv]; rfl
        have hd10 : u % 10 < 10 := by omega
        have HQ := Lib.hid (show u / 10 ≤ 9223372036854775808 by omega)
        have HPW := Lib.hid (wr_pow HU.out hk2)
        have HSM := Lib.hid (wr_step (S := S) HM.out HD.out)
        have hq9 := HQ.out
        generalize u / 10 = q at *
        generalize u % 10 = d at *
        have hcv := conv1 wr (48 + d) (by omega) (48 + (d : Int)) (by omega)
        clear hm hmm
        go_wp2
        exact ⟨⟨_, q, k + 1, rfl, wv (by rw [if_pos rfl]), wv (by omega), HSM, HPW, by omega, by omega, fun h => absurd h (by decide), bl_al hbl _, by rw [cat_size]; omega⟩, by simp [intOf]; omega⟩
theorem refwrite_nought (w : World) :
    Calls Tryd.prog 19 #[.int .i64 0] w fun e w' => e = .returned (.string ⟨#[48]⟩) ∧ Below w.heap.size w w' := by
  go_enter Tryd.func19, Tryd.ntmps19
  go_wp2
  go_ret
  exact ⟨rfl, Below.refl _ _⟩
theorem refwrite_any (n : Int) (h0 : -9223372036854775808 ≤ n) (h1 : n ≤ 9223372036854775807) (w : World) :
    Calls Tryd.prog 19 #[.int .i64 n] w fun e w' => e = .returned (.string ⟨(Lib.itoa n).toArray⟩) ∧ Below w.heap.size w w' := by
  by_cases hz : n = 0
  · subst hz
    have e : Lib.itoa 0 = [48] := by decide +kernel
    rw [e]
    exact refwrite_nought w
  · rcases Int.lt_or_le n 0 with h | h
    · obtain ⟨u, rfl⟩ : ∃ u : Nat, n = -(u : Int) := ⟨n.natAbs, by omega⟩
      rw [Lib.itoa_neg u (by omega), ← dz_pos u (by omega)]
      exact refwrite_neg u (by omega) (by omega) w
    · obtain ⟨u, rfl⟩ : ∃ u : Nat, n = (u : Int) := ⟨n.toNat, by omega⟩
      rw [Lib.itoa_nonneg u, ← dz_pos u (by omega)]
      exact refwrite_pos u (by omega) (by omega) w
end Go.Proofs.YtjajpmbmkagcaaaDoor
