/-
  What math/bits.Div64 answers: the whole part of a number of 128 bits divided by one of 63.
-/
import Derived.Test.YtbcffefailhacaaShelf
import Derived.Test.YtbcffefailhacaaBase
import Derived.Lib.ItoaNum
import Derived.Laws.Bits64b
namespace Go.Proofs.Ytbcffefailhacaa
open Go.RowKit
set_option linter.unusedVariables false

namespace Dv
theorem gt_iff {q r u d y y1 y0 : Nat} (hy : y = y1 * 4294967296 + y0) (h : q * y1 + r = u) : 4294967296 * r + d < q * y0 ↔ u * 4294967296 + d < q * y := by
  have e : q * y = q * y1 * 4294967296 + q * y0 := by rw [hy, Nat.mul_add, Nat.mul_assoc]
  rw [e]
  generalize q * y1 = a at *
  generalize q * y0 = b at *
  omega
theorem dec {q U y : Nat} (hy : 0 < y) (h : U < q * y) : U / y ≤ q - 1 := by
  have := (Nat.div_lt_iff_lt_mul hy).2 h
  omega
theorem fin {q U y : Nat} (hy : 0 < y) (h : q * y ≤ U) (h2 : U / y ≤ q) : U / y = q := by
  have := (Nat.le_div_iff_mul_le hy).2 h
  omega
theorem dig {u d y : Nat} (hu : u < y) (hd : d < 4294967296) : (u * 4294967296 + d) / y < 4294967296 := by
  refine (Nat.div_lt_iff_lt_mul (by omega)).2 ?_
  have : (u + 1) * 4294967296 ≤ y * 4294967296 := Nat.mul_le_mul_right _ hu
  omega
theorem big {q u d y : Nat} (hu : u < y) (hd : d < 4294967296) (hq : 4294967296 ≤ q) : (u * 4294967296 + d) / y ≤ q - 1 := by
  have := dig hu hd
  omega
theorem init_ge {u d y y1 y0 : Nat} (hy : y = y1 * 4294967296 + y0) (h1 : 0 < y1) (hd : d < 4294967296) : (u * 4294967296 + d) / y ≤ u / y1 := by
  refine (Nat.le_div_iff_mul_le h1).2 ?_
  have h := Nat.div_mul_le_self (u * 4294967296 + d) y
  generalize (u * 4294967296 + d) / y = q at *
  have e : q * y = q * y1 * 4294967296 + q * y0 := by rw [hy, Nat.mul_add, Nat.mul_assoc]
  rw [e] at h
  generalize q * y1 = a at *
  generalize q * y0 = b at *
  omega
theorem init_le {u y y1 y0 : Nat} (hy : y = y1 * 4294967296 + y0) (h1 : 2147483648 ≤ y1) (h0 : y0 < 4294967296) (hu : u < y) : u / y1 ≤ 4294967297 := by
  have : u / y1 < 4294967298 := by
    refine (Nat.div_lt_iff_lt_mul (by omega)).2 ?_
    omega
  omega
theorem brk {q r u d y y1 y0 : Nat} (hy : y = y1 * 4294967296 + y0) (h0 : y0 < 4294967296) (h : q * y1 + r = u) (hq : q ≤ 4294967296) (hr : 4294967296 ≤ r) : q * y ≤ u * 4294967296 + d := by
  have e : q * y = q * y1 * 4294967296 + q * y0 := by rw [hy, Nat.mul_add, Nat.mul_assoc]
  have m : q * y0 ≤ 4294967296 * 4294967295 := Nat.mul_le_mul hq (by omega)
  rw [e]
  generalize q * y1 = a at *
  generalize q * y0 = b at *
  omega
theorem next {q r u y1 : Nat} (h : q * y1 + r = u) (hq : 1 ≤ q) : (q - 1) * y1 + (r + y1) = u := by
  obtain ⟨p, rfl⟩ : ∃ p, q = p + 1 := ⟨q - 1, by omega⟩
  rw [Nat.add_mul, Nat.one_mul] at h
  rw [Nat.add_sub_cancel]
  omega
theorem p0 {q y0 : Nat} (hq : q < 4294967296) (h : y0 < 4294967296) : q * y0 < 18446744073709551616 := by
  have : q * y0 ≤ 4294967295 * 4294967295 := Nat.mul_le_mul (by omega) (by omega)
  omega
/-- what the remainder's three steps of 64 bits come to -/
theorem rest {q u d y : Nat} (hy : 0 < y) (hy2 : y < 18446744073709551616) (h : (u * 4294967296 + d) / y = q) :
    (((u : Int) * 4294967296 + d) - (q : Int) * y) % 18446744073709551616 = (((u * 4294967296 + d) % y : Nat) : Int) := by
  have e := Nat.div_add_mod (u * 4294967296 + d) y
  have l := Nat.mod_lt (u * 4294967296 + d) hy
  rw [h] at e
  generalize (u * 4294967296 + d) % y = m at *
  have e2 : (q : Int) * (y : Int) = ((y * q : Nat) : Int) := by rw [Nat.mul_comm]; exact (Int.natCast_mul q y).symm
  rw [e2]
  generalize y * q = P at *
  omega
theorem whole {N s y u ln d1 d0 q1 q0 : Nat} (hy : 0 < y) (hN : N * 2 ^ s = u * 18446744073709551616 + ln) (hl : ln = d1 * 4294967296 + d0) (h1 : (u * 4294967296 + d1) / (y * 2 ^ s) = q1)
    (h0 : ((u * 4294967296 + d1) % (y * 2 ^ s) * 4294967296 + d0) / (y * 2 ^ s) = q0) : N / y = q1 * 4294967296 + q0 := by
  have hp : 0 < 2 ^ s := Nat.two_pow_pos s
  rw [← Nat.mul_div_mul_right N y hp, hN, hl]
  generalize hY : y * 2 ^ s = Y at *
  have hY0 : 0 < Y := by rw [← hY]; exact Nat.mul_pos hy hp
  have e := Nat.div_add_mod (u * 4294967296 + d1) Y
  rw [h1] at e
  generalize (u * 4294967296 + d1) % Y = m at *
  have e3 : u * 18446744073709551616 + (d1 * 4294967296 + d0) = (m * 4294967296 + d0) + Y * (q1 * 4294967296) := by
    rw [← Nat.mul_assoc]
    generalize Y * q1 = P at *
    omega
  rw [e3, Nat.add_mul_div_left _ _ hY0, h0]
  omega
end Dv

theorem take_op {P : Program} {ops : Array Oper} {Q : Exit → Act → World → Prop} {a : Act} {w : World} {rest : List Oper} {o : Oper} (hw : Region.wanted o (yielded ops a.tmps) = true)
    (h : ∀ K : Act → World → Prop, (∀ a w, wpList P ops Q rest a w → K a w) → o.wp P a w K Q) : wpList P ops Q (o :: rest) a w :=
  wpList_step fun K hK => by rw [if_pos hw]; exact h K hK
theorem un21 {q u d y : Nat} (hy : 0 < y) (hy2 : y < 18446744073709551616) (h : (u * 4294967296 + d) / y = q) :
    IntKind.u64.wrap (IntKind.u64.wrap (IntKind.u64.wrap ((u : Int) * 4294967296) + (d : Int)) - IntKind.u64.wrap ((q : Int) * (y : Int))) = (((u * 4294967296 + d) % y : Nat) : Int) := by
  rw [← Dv.rest hy hy2 h]
  simp only [IntKind.wrap_u64]
  generalize (q : Int) * (y : Int) = P
  omega
theorem fin9 {u d1 d0 yn u2 q1 q0 : Nat} {x y : Int} (h1 : (u * 4294967296 + d1) / yn = q1) (h2 : (u * 4294967296 + d1) % yn = u2) (h3 : (u2 * 4294967296 + d0) / yn = q0) (hx : x = q1) (hy : y = q0) :
    x * 4294967296 + y = ((u : Int) * 4294967296 + d1) / yn * 4294967296 + (((u : Int) * 4294967296 + d1) % yn * 4294967296 + d0) / yn := by
  rw [hx, hy, ← h1, ← h3, ← h2]
  simp only [Int.natCast_add, Int.natCast_mul, Int.natCast_ediv, Int.natCast_emod, Int.cast_ofNat_Int]
theorem retq {x y r : Int} (h : x = y) : Ending.returned (.tuple #[.int .u64 x, .int .u64 r]) = .returned (.tuple #[.int .u64 y, .int .u64 r]) := by rw [h]
theorem uv {x y : Int} (h : x = y) : Value.int .u64 x = .int .u64 y := by rw [h]
theorem mulN (a b : Nat) (h : a * b < 18446744073709551616) : IntKind.u64.wrap ((a : Int) * (b : Int)) = ((a * b : Nat) : Int) := by
  rw [IntKind.wrap_u64, ← Int.natCast_mul]; omega
theorem cmp_iff {q r u d y y1 y0 : Nat} {a c m : Int} (hy : y = y1 * 4294967296 + y0) (h0 : y0 < 4294967296) (h : q * y1 + r = u) (ha : a = q) (hc : c = r) (hq : a < 4294967296) (hm : IntKind.u64.wrap (a * (y0 : Int)) = m) :
    4294967296 * c + (d : Int) < m ↔ u * 4294967296 + d < q * y := by
  rw [← Dv.gt_iff hy h, ← hm, ha, mulN q y0 (Dv.p0 (by omega) h0), hc]
  omega
/-- what stands in the two slots at a loop's head -/
def DvAt (u d y y1 : Nat) (w : World) (v15 v16 : Value) (wr : World) : Prop :=
  wr = w ∧ ∃ (q r : Nat) (a c : Int), v15 = .int .u64 a ∧ v16 = .int .u64 c ∧ Hid (a = q ∧ c = r) ∧ Hid (q * y1 + r = u) ∧ Hid ((u * 4294967296 + d) / y ≤ q) ∧ 0 ≤ a ∧ a ≤ 4294967297 ∧ 0 ≤ c ∧ c < 4294967296
set_option maxRecDepth 100000 in
set_option maxHeartbeats 2000000 in
theorem div64_core (hi lo y s yn y1 y0 hs l1 u ln d1 d0 : Nat) (h1 : hi < y) (h2 : y < 9223372036854775808) (h3 : lo < 18446744073709551616) (h4 : 1 ≤ s) (h5 : s ≤ 63) (hb : 64 - (Lib.bitLen y : Int) = s) (h0 : ((hi : Int) == 0) = false)
    (F1 : IntKind.u64.wrap ((y : Int) * 2 ^ s) = (yn : Int)) (F2 : bits .and .u64 (yn : Int) 4294967295 = (y0 : Int)) (F3 : IntKind.u64.wrap ((hi : Int) * 2 ^ s) = (hs : Int)) (F4 : (lo : Int) / 2 ^ (64 - s) = (l1 : Int))
    (F5 : bits .or .u64 (hs : Int) (l1 : Int) = (u : Int)) (F6 : IntKind.u64.wrap ((lo : Int) * 2 ^ s) = (ln : Int)) (F7 : (ln : Int) / 4294967296 = (d1 : Int)) (F8 : bits .and .u64 (ln : Int) 4294967295 = (d0 : Int)) (F9 : (yn : Int) / 4294967296 = (y1 : Int))
    (G1 : Hid (yn = y1 * 4294967296 + y0)) (G2 : 2147483648 ≤ y1) (G3 : y1 < 4294967296) (G4 : y0 < 4294967296) (G5 : Hid (u < yn)) (G6 : d1 < 4294967296) (G7 : d0 < 4294967296) (w : World) :
    Calls Try.prog 40 #[.int .u64 hi, .int .u64 lo, .int .u64 y] w fun e w' => (∃ r : Int, e = .returned (.tuple #[.int .u64 (((u * 4294967296 + d1) / yn * 4294967296 + ((u * 4294967296 + d1) % yn * 4294967296 + d0) / yn : Nat) : Int), .int .u64 r])) ∧ w = w' := by
  have HL := Lib.hid (fun W => Try.bits_LeadingZeros64 (y : Int) W (by omega) (by omega))
  simp only [Int.toNat_natCast, hb] at HL
  have hy0 : ((y : Int) == 0) = false := by simp; omega
  have hy1 : ((y1 : Int) == 0) = false := by simp; omega
  have hyn : yn < 18446744073709551616 := by have := G1.out; omega
  have hu := Nat.lt_trans G5.out hyn
  obtain ⟨q, hq⟩ : ∃ q, u / y1 = q := ⟨_, rfl⟩
  have E0 : q * y1 + u % y1 = u := by rw [← hq, Nat.mul_comm]; exact Nat.div_add_mod u y1
  have E1 := Nat.mod_lt u (show 0 < y1 by omega)
  generalize u % y1 = r0 at *
  obtain ⟨qa, F10⟩ : ∃ qa : Int, (u : Int) / (y1 : Int) = qa := ⟨_, rfl⟩
  have E2 : qa = q := by rw [← F10, ← hq]; exact (Int.natCast_ediv u y1).symm
  obtain ⟨Pa, F11⟩ : ∃ Pa : Int, IntKind.u64.wrap (qa * (y1 : Int)) = Pa := ⟨_, rfl⟩
  have E3 : Pa = ((q * y1 : Nat) : Int) := by rw [← F11, E2]; exact mulN q y1 (by omega)
  have hq0 : q ≤ 4294967297 := by rw [← hq]; exact Dv.init_le G1.out G2 G4 G5.out
  have hge := Dv.init_ge (u := u) (d := d1) G1.out (show 0 < y1 by omega) G6
  rw [hq] at hge
  obtain ⟨ra, F12⟩ : ∃ ra : Int, (u : Int) - Pa = ra := ⟨_, rfl⟩
  obtain ⟨P, hP⟩ : ∃ P, q * y1 = P := ⟨_, rfl⟩
  have E4 : ra = r0 := by rw [← F12, E3]; rw [hP] at E0 ⊢; omega
  have HYN := Lib.hid hyn
  have A1 : ∀ w, DvAt u d1 yn y1 w (.int .u64 qa) (.int .u64 ra) w := fun _ => ⟨rfl, q, r0, qa, ra, rfl, rfl, Lib.hid ⟨E2, E4⟩, Lib.hid E0, Lib.hid hge, by omega, by omega, by omega, by omega⟩
  have B1 : 0 ≤ qa ∧ qa ≤ 4294967297 ∧ 0 ≤ Pa ∧ Pa ≤ 18446744073709551615 ∧ 0 ≤ ra ∧ ra < 4294967296 := by rw [hP] at E0 E3; omega
  obtain ⟨b1, b2, b3, b4, b5, b6⟩ := B1
  clear hq E0 hP hb E1 E2 E3 E4 hq0 hge
  go_enter Try.func40, Try.ntmps40
  go_wp2_with fail
  refine (HL.out _).mono ?_; rintro e w1 ⟨rfl, rfl⟩
  go_wp2
  go_loopw [15, 16] (fun v15 v16 wr2 => DvAt u d1 yn y1 w1 v15 v16 wr2) (fun v15 _ _ => (intOf v15).toNat)
  case atStart => exact A1 _
  case round =>
    clear A1
    obtain ⟨rfl, q, r, a, c, rfl, rfl, HV, HE, HG, a1, a2, c1, c2⟩ := hrel
    by_cases hbig : 4294967296 ≤ a
    · have hq1 : 1 ≤ q := by have := HV.out.1; omega
      have HD := Lib.hid (Dv.big G5.out G6 (show 4294967296 ≤ q by have := HV.out.1; omega))
      have HN := Lib.hid (Dv.next HE.out hq1)
      have HW := Lib.hid (show a - 1 = ((q - 1 : Nat) : Int) ∧ c + (y1 : Int) = ((r + y1 : Nat) : Int) by have := HV.out; omega)
      have a0 : 1 ≤ a := by have := HV.out.1; omega
      clear HE HG HV
      by_cases hr : c + (y1 : Int) < 4294967296
      · go_wp2
        go_roundw
        case rel => exact ⟨rfl, q - 1, r + y1, a - 1, c + y1, rfl, rfl, HW, HN, HD, by omega, by omega, by omega, by omega⟩
        case measure => simp [intOf]; omega
      · have HF1 := Lib.hid (Dv.fin (show 0 < yn by have := G1.out; omega) (Dv.brk (d := d1) G1.out G4 HN.out (by have := HW.out; omega) (by have := HW.out; omega)) HD.out)
        obtain ⟨b1, Fb1⟩ : ∃ b : Int, a - 1 = b := ⟨_, rfl⟩
        have HQ1 := Lib.hid (show b1 = ((q - 1 : Nat) : Int) by rw [← Fb1]; exact HW.out.1)
        have b31 : b1 < 4294967296 := by
          have h1 := Dv.dig G5.out G6
          have h2 := HQ1.out
          rw [HF1.out] at h1
          omega
        clear HN HD HW
        have b7 : 0 ≤ b1 := by have := HQ1.out; omega
        have FU : IntKind.u64.wrap (IntKind.u64.wrap (IntKind.u64.wrap ((u : Int) * 4294967296) + (d1 : Int)) - IntKind.u64.wrap (b1 * (yn : Int))) = (((u * 4294967296 + d1) % yn : Nat) : Int) := by
          rw [HQ1.out]; exact un21 (by have := G1.out; omega) HYN.out HF1.out
        have H2 : (u * 4294967296 + d1) % yn < yn := Nat.mod_lt _ (by have := G1.out; omega)
        have HV2 := Lib.hid (rfl : (u * 4294967296 + d1) % yn = (u * 4294967296 + d1) % yn)
        generalize hu2 : (u * 4294967296 + d1) % yn = u2 at FU H2
        have HU2 := Lib.hid hu2
        clear hu2 HV2
        obtain ⟨q9, hq⟩ : ∃ q9, u2 / y1 = q9 := ⟨_, rfl⟩
        have E0 : q9 * y1 + u2 % y1 = u2 := by rw [← hq, Nat.mul_comm]; exact Nat.div_add_mod u2 y1
        have E1 := Nat.mod_lt u2 (show 0 < y1 by omega)
        generalize u2 % y1 = r9 at E0 E1
        obtain ⟨qb, K10⟩ : ∃ qb : Int, (u2 : Int) / (y1 : Int) = qb := ⟨_, rfl⟩
        have E2 : qb = q9 := by rw [← K10, ← hq]; exact (Int.natCast_ediv u2 y1).symm
        have hu2b := Nat.lt_trans H2 HYN.out
        obtain ⟨Pb, K11⟩ : ∃ Pb : Int, IntKind.u64.wrap (qb * (y1 : Int)) = Pb := ⟨_, rfl⟩
        have E3 : Pb = ((q9 * y1 : Nat) : Int) := by rw [← K11, E2]; exact mulN q9 y1 (by omega)
        have hq0 : q9 ≤ 4294967297 := by rw [← hq]; exact Dv.init_le G1.out G2 G4 H2
        have hge := Dv.init_ge (u := u2) (d := d0) G1.out (show 0 < y1 by omega) G7
        rw [hq] at hge
        obtain ⟨rb, K12⟩ : ∃ rb : Int, (u2 : Int) - Pb = rb := ⟨_, rfl⟩
        obtain ⟨P9, hP⟩ : ∃ P9, q9 * y1 = P9 := ⟨_, rfl⟩
        have E4 : rb = r9 := by rw [← K12, E3]; rw [hP] at E0 ⊢; omega
        have A2 : ∀ w, DvAt u2 d0 yn y1 w (.int .u64 qb) (.int .u64 rb) w := fun _ => ⟨rfl, q9, r9, qb, rb, rfl, rfl, Lib.hid ⟨E2, E4⟩, Lib.hid E0, Lib.hid hge, by omega, by omega, by omega, by omega⟩
        obtain ⟨k1, k2, k3, k4, k5, k6⟩ : 0 ≤ qb ∧ qb ≤ 4294967297 ∧ 0 ≤ Pb ∧ Pb ≤ 18446744073709551615 ∧ 0 ≤ rb ∧ rb < 4294967296 := by rw [hP] at E0 E3; omega
        have GU2 := Lib.hid H2
        clear hq E0 hP E1 E2 E3 E4 hq0 hge H2
        go_wp2
        go_loopw [18, 16] (fun v15 v16 wr2 => DvAt u2 d0 yn y1 wr v15 v16 wr2) (fun v15 _ _ => (intOf v15).toNat)
        case atStart => exact A2 _
        case round =>
          clear A2
          obtain ⟨rfl, p, t, e, f, rfl, rfl, HV, HE, HG, a4, a5, c4, c5⟩ := hrel
          by_cases hbig : 4294967296 ≤ e
          · have hq1 : 1 ≤ p := by have := HV.out.1; omega
            have HD := Lib.hid (Dv.big GU2.out G7 (show 4294967296 ≤ p by have := HV.out.1; omega))
            have HN := Lib.hid (Dv.next HE.out hq1)
            have HW := Lib.hid (show e - 1 = ((p - 1 : Nat) : Int) ∧ f + (y1 : Int) = ((t + y1 : Nat) : Int) by have := HV.out; omega)
            have a0 : 1 ≤ e := by have := HV.out.1; omega
            clear HE HG HV
            by_cases hr : f + (y1 : Int) < 4294967296
            · go_wp2
              go_roundw
              case rel => exact ⟨rfl, p - 1, t + y1, e - 1, f + y1, rfl, rfl, HW, HN, HD, by omega, by omega, by omega, by omega⟩
              case measure => simp [intOf]; omega
            · have HF2 := Lib.hid (Dv.fin (show 0 < yn by have := G1.out; omega) (Dv.brk (d := d0) G1.out G4 HN.out (by have := HW.out; omega) (by have := HW.out; omega)) HD.out)
              obtain ⟨b2, Fb2⟩ : ∃ b : Int, e - 1 = b := ⟨_, rfl⟩
              have HQ2 := Lib.hid (show b2 = ((p - 1 : Nat) : Int) by rw [← Fb2]; exact HW.out.1)
              have b32 : b2 < 4294967296 := by
                have h1 := Dv.dig GU2.out G7
                have h2 := HQ2.out
                rw [HF2.out] at h1
                omega
              clear HN HD HW
              have c7 : 0 ≤ b2 := by have := HQ2.out; omega
              go_wp2
              go_ret2
              exact ⟨⟨_, retq (fin9 HF1.out HU2.out HF2.out HQ1.out HQ2.out)⟩, rfl⟩
          · obtain ⟨m2, Fm2⟩ : ∃ m : Int, IntKind.u64.wrap (e * (y0 : Int)) = m := ⟨_, rfl⟩
            have GT := Lib.hid (cmp_iff (d := d0) G1.out G4 HE.out HV.out.1 HV.out.2 (by omega) Fm2)
            by_cases hgt : 4294967296 * f + (d0 : Int) < m2
            · have hq1 : 1 ≤ p := by
                rcases Nat.eq_zero_or_pos p with h | h
                · have := GT.out.1 hgt; rw [h, Nat.zero_mul] at this; omega
                · exact h
              have HD := Lib.hid (Dv.dec (show 0 < yn by have := G1.out; omega) (GT.out.1 hgt))
              have HN := Lib.hid (Dv.next HE.out hq1)
              have HW := Lib.hid (show e - 1 = ((p - 1 : Nat) : Int) ∧ f + (y1 : Int) = ((t + y1 : Nat) : Int) by have := HV.out; omega)
              have a0 : 1 ≤ e := by have := HV.out.1; omega
              clear HE HG HV
              by_cases hr : f + (y1 : Int) < 4294967296
              · go_wp2
                go_roundw
                case rel => exact ⟨rfl, p - 1, t + y1, e - 1, f + y1, rfl, rfl, HW, HN, HD, by omega, by omega, by omega, by omega⟩
                case measure => simp [intOf]; omega
              · have HF2 := Lib.hid (Dv.fin (show 0 < yn by have := G1.out; omega) (Dv.brk (d := d0) G1.out G4 HN.out (by have := HW.out; omega) (by have := HW.out; omega)) HD.out)
                obtain ⟨b2, Fb2⟩ : ∃ b : Int, e - 1 = b := ⟨_, rfl⟩
                have HQ2 := Lib.hid (show b2 = ((p - 1 : Nat) : Int) by rw [← Fb2]; exact HW.out.1)
                have b32 : b2 < 4294967296 := by
                  have h1 := Dv.dig GU2.out G7
                  have h2 := HQ2.out
                  rw [HF2.out] at h1
                  omega
                clear HN HD HW
                have c7 : 0 ≤ b2 := by have := HQ2.out; omega
                go_wp2
                go_ret2
                exact ⟨⟨_, retq (fin9 HF1.out HU2.out HF2.out HQ1.out HQ2.out)⟩, rfl⟩
            · have HF2 := Lib.hid (Dv.fin (show 0 < yn by have := G1.out; omega) (Nat.le_of_not_lt (fun h => hgt (GT.out.2 h))) HG.out)
              have a32 : e < 4294967296 := by omega
              have HQ2 := Lib.hid HV.out.1
              clear HE HG HV
              have c7 : 0 ≤ e := by have := HQ2.out; omega
              go_wp2
              go_ret2
              exact ⟨⟨_, retq (fin9 HF1.out HU2.out HF2.out HQ1.out HQ2.out)⟩, rfl⟩
    · obtain ⟨m, Fm1⟩ : ∃ m : Int, IntKind.u64.wrap (a * (y0 : Int)) = m := ⟨_, rfl⟩
      have GT := Lib.hid (cmp_iff (d := d1) G1.out G4 HE.out HV.out.1 HV.out.2 (by omega) Fm1)
      by_cases hgt : 4294967296 * c + (d1 : Int) < m
      · have hq1 : 1 ≤ q := by
          rcases Nat.eq_zero_or_pos q with h | h
          · have := GT.out.1 hgt; rw [h, Nat.zero_mul] at this; omega
          · exact h
        have HD := Lib.hid (Dv.dec (show 0 < yn by have := G1.out; omega) (GT.out.1 hgt))
        have HN := Lib.hid (Dv.next HE.out hq1)
        have HW := Lib.hid (show a - 1 = ((q - 1 : Nat) : Int) ∧ c + (y1 : Int) = ((r + y1 : Nat) : Int) by have := HV.out; omega)
        have a0 : 1 ≤ a := by have := HV.out.1; omega
        clear HE HG HV
        by_cases hr : c + (y1 : Int) < 4294967296
        · go_wp2
          go_roundw
          case rel => exact ⟨rfl, q - 1, r + y1, a - 1, c + y1, rfl, rfl, HW, HN, HD, by omega, by omega, by omega, by omega⟩
          case measure => simp [intOf]; omega
        · have HF1 := Lib.hid (Dv.fin (show 0 < yn by have := G1.out; omega) (Dv.brk (d := d1) G1.out G4 HN.out (by have := HW.out; omega) (by have := HW.out; omega)) HD.out)
          obtain ⟨b1, Fb1⟩ : ∃ b : Int, a - 1 = b := ⟨_, rfl⟩
          have HQ1 := Lib.hid (show b1 = ((q - 1 : Nat) : Int) by rw [← Fb1]; exact HW.out.1)
          have b31 : b1 < 4294967296 := by
            have h1 := Dv.dig G5.out G6
            have h2 := HQ1.out
            rw [HF1.out] at h1
            omega
          clear HN HD HW
          have b7 : 0 ≤ b1 := by have := HQ1.out; omega
          have FU : IntKind.u64.wrap (IntKind.u64.wrap (IntKind.u64.wrap ((u : Int) * 4294967296) + (d1 : Int)) - IntKind.u64.wrap (b1 * (yn : Int))) = (((u * 4294967296 + d1) % yn : Nat) : Int) := by
            rw [HQ1.out]; exact un21 (by have := G1.out; omega) HYN.out HF1.out
          have H2 : (u * 4294967296 + d1) % yn < yn := Nat.mod_lt _ (by have := G1.out; omega)
          have HV2 := Lib.hid (rfl : (u * 4294967296 + d1) % yn = (u * 4294967296 + d1) % yn)
          generalize hu2 : (u * 4294967296 + d1) % yn = u2 at FU H2
          have HU2 := Lib.hid hu2
          clear hu2 HV2
          obtain ⟨q9, hq⟩ : ∃ q9, u2 / y1 = q9 := ⟨_, rfl⟩
          have E0 : q9 * y1 + u2 % y1 = u2 := by rw [← hq, Nat.mul_comm]; exact Nat.div_add_mod u2 y1
          have E1 := Nat.mod_lt u2 (show 0 < y1 by omega)
          generalize u2 % y1 = r9 at E0 E1
          obtain ⟨qb, K10⟩ : ∃ qb : Int, (u2 : Int) / (y1 : Int) = qb := ⟨_, rfl⟩
          have E2 : qb = q9 := by rw [← K10, ← hq]; exact (Int.natCast_ediv u2 y1).symm
          have hu2b := Nat.lt_trans H2 HYN.out
          obtain ⟨Pb, K11⟩ : ∃ Pb : Int, IntKind.u64.wrap (qb * (y1 : Int)) = Pb := ⟨_, rfl⟩
          have E3 : Pb = ((q9 * y1 : Nat) : Int) := by rw [← K11, E2]; exact mulN q9 y1 (by omega)
          have hq0 : q9 ≤ 4294967297 := by rw [← hq]; exact Dv.init_le G1.out G2 G4 H2
          have hge := Dv.init_ge (u := u2) (d := d0) G1.out (show 0 < y1 by omega) G7
          rw [hq] at hge
          obtain ⟨rb, K12⟩ : ∃ rb : Int, (u2 : Int) - Pb = rb := ⟨_, rfl⟩
          obtain ⟨P9, hP⟩ : ∃ P9, q9 * y1 = P9 := ⟨_, rfl⟩
          have E4 : rb = r9 := by rw [← K12, E3]; rw [hP] at E0 ⊢; omega
          have A2 : ∀ w, DvAt u2 d0 yn y1 w (.int .u64 qb) (.int .u64 rb) w := fun _ => ⟨rfl, q9, r9, qb, rb, rfl, rfl, Lib.hid ⟨E2, E4⟩, Lib.hid E0, Lib.hid hge, by omega, by omega, by omega, by omega⟩
          obtain ⟨k1, k2, k3, k4, k5, k6⟩ : 0 ≤ qb ∧ qb ≤ 4294967297 ∧ 0 ≤ Pb ∧ Pb ≤ 18446744073709551615 ∧ 0 ≤ rb ∧ rb < 4294967296 := by rw [hP] at E0 E3; omega
          have GU2 := Lib.hid H2
          clear hq E0 hP E1 E2 E3 E4 hq0 hge H2
          go_wp2
          go_loopw [18, 16] (fun v15 v16 wr2 => DvAt u2 d0 yn y1 wr v15 v16 wr2) (fun v15 _ _ => (intOf v15).toNat)
          case atStart => exact A2 _
          case round =>
            clear A2
            obtain ⟨rfl, p, t, e, f, rfl, rfl, HV, HE, HG, a4, a5, c4, c5⟩ := hrel
            by_cases hbig : 4294967296 ≤ e
            · have hq1 : 1 ≤ p := by have := HV.out.1; omega
              have HD := Lib.hid (Dv.big GU2.out G7 (show 4294967296 ≤ p by have := HV.out.1; omega))
              have HN := Lib.hid (Dv.next HE.out hq1)
              have HW := Lib.hid (show e - 1 = ((p - 1 : Nat) : Int) ∧ f + (y1 : Int) = ((t + y1 : Nat) : Int) by have := HV.out; omega)
              have a0 : 1 ≤ e := by have := HV.out.1; omega
              clear HE HG HV
              by_cases hr : f + (y1 : Int) < 4294967296
              · go_wp2
                go_roundw
                case rel => exact ⟨rfl, p - 1, t + y1, e - 1, f + y1, rfl, rfl, HW, HN, HD, by omega, by omega, by omega, by omega⟩
                case measure => simp [intOf]; omega
              · have HF2 := Lib.hid (Dv.fin (show 0 < yn by have := G1.out; omega) (Dv.brk (d := d0) G1.out G4 HN.out (by have := HW.out; omega) (by have := HW.out; omega)) HD.out)
                obtain ⟨b2, Fb2⟩ : ∃ b : Int, e - 1 = b := ⟨_, rfl⟩
                have HQ2 := Lib.hid (show b2 = ((p - 1 : Nat) : Int) by rw [← Fb2]; exact HW.out.1)
                have b32 : b2 < 4294967296 := by
                  have h1 := Dv.dig GU2.out G7
                  have h2 := HQ2.out
                  rw [HF2.out] at h1
                  omega
                clear HN HD HW
                have c7 : 0 ≤ b2 := by have := HQ2.out; omega
                go_wp2
                go_ret2
                exact ⟨⟨_, retq (fin9 HF1.out HU2.out HF2.out HQ1.out HQ2.out)⟩, rfl⟩
            · obtain ⟨m2, Fm2⟩ : ∃ m : Int, IntKind.u64.wrap (e * (y0 : Int)) = m := ⟨_, rfl⟩
              have GT := Lib.hid (cmp_iff (d := d0) G1.out G4 HE.out HV.out.1 HV.out.2 (by omega) Fm2)
              by_cases hgt : 4294967296 * f + (d0 : Int) < m2
              · have hq1 : 1 ≤ p := by
                  rcases Nat.eq_zero_or_pos p with h | h
                  · have := GT.out.1 hgt; rw [h, Nat.zero_mul] at this; omega
                  · exact h
                have HD := Lib.hid (Dv.dec (show 0 < yn by have := G1.out; omega) (GT.out.1 hgt))
                have HN := Lib.hid (Dv.next HE.out hq1)
                have HW := Lib.hid (show e - 1 = ((p - 1 : Nat) : Int) ∧ f + (y1 : Int) = ((t + y1 : Nat) : Int) by have := HV.out; omega)
                have a0 : 1 ≤ e := by have := HV.out.1; omega
                clear HE HG HV
                by_cases hr : f + (y1 : Int) < 4294967296
                · go_wp2
                  go_roundw
                  case rel => exact ⟨rfl, p - 1, t + y1, e - 1, f + y1, rfl, rfl, HW, HN, HD, by omega, by omega, by omega, by omega⟩
                  case measure => simp [intOf]; omega
                · have HF2 := Lib.hid (Dv.fin (show 0 < yn by have := G1.out; omega) (Dv.brk (d := d0) G1.out G4 HN.out (by have := HW.out; omega) (by have := HW.out; omega)) HD.out)
                  obtain ⟨b2, Fb2⟩ : ∃ b : Int, e - 1 = b := ⟨_, rfl⟩
                  have HQ2 := Lib.hid (show b2 = ((p - 1 : Nat) : Int) by rw [← Fb2]; exact HW.out.1)
                  have b32 : b2 < 4294967296 := by
                    have h1 := Dv.dig GU2.out G7
                    have h2 := HQ2.out
                    rw [HF2.out] at h1
                    omega
                  clear HN HD HW
                  have c7 : 0 ≤ b2 := by have := HQ2.out; omega
                  go_wp2
                  go_ret2
                  exact ⟨⟨_, retq (fin9 HF1.out HU2.out HF2.out HQ1.out HQ2.out)⟩, rfl⟩
              · have HF2 := Lib.hid (Dv.fin (show 0 < yn by have := G1.out; omega) (Nat.le_of_not_lt (fun h => hgt (GT.out.2 h))) HG.out)
                have a32 : e < 4294967296 := by omega
                have HQ2 := Lib.hid HV.out.1
                clear HE HG HV
                have c7 : 0 ≤ e := by have := HQ2.out; omega
                go_wp2
                go_ret2
                exact ⟨⟨_, retq (fin9 HF1.out HU2.out HF2.out HQ1.out HQ2.out)⟩, rfl⟩
      · have HF1 := Lib.hid (Dv.fin (show 0 < yn by have := G1.out; omega) (Nat.le_of_not_lt (fun h => hgt (GT.out.2 h))) HG.out)
        have a31 : a < 4294967296 := by omega
        have HQ1 := Lib.hid HV.out.1
        clear HE HG HV
        have b7 : 0 ≤ a := by have := HQ1.out; omega
        have FU : IntKind.u64.wrap (IntKind.u64.wrap (IntKind.u64.wrap ((u : Int) * 4294967296) + (d1 : Int)) - IntKind.u64.wrap (a * (yn : Int))) = (((u * 4294967296 + d1) % yn : Nat) : Int) := by
          rw [HQ1.out]; exact un21 (by have := G1.out; omega) HYN.out HF1.out
        have H2 : (u * 4294967296 + d1) % yn < yn := Nat.mod_lt _ (by have := G1.out; omega)
        have HV2 := Lib.hid (rfl : (u * 4294967296 + d1) % yn = (u * 4294967296 + d1) % yn)
        generalize hu2 : (u * 4294967296 + d1) % yn = u2 at FU H2
        have HU2 := Lib.hid hu2
        clear hu2 HV2
        obtain ⟨q9, hq⟩ : ∃ q9, u2 / y1 = q9 := ⟨_, rfl⟩
        have E0 : q9 * y1 + u2 % y1 = u2 := by rw [← hq, Nat.mul_comm]; exact Nat.div_add_mod u2 y1
        have E1 := Nat.mod_lt u2 (show 0 < y1 by omega)
        generalize u2 % y1 = r9 at E0 E1
        obtain ⟨qb, K10⟩ : ∃ qb : Int, (u2 : Int) / (y1 : Int) = qb := ⟨_, rfl⟩
        have E2 : qb = q9 := by rw [← K10, ← hq]; exact (Int.natCast_ediv u2 y1).symm
        have hu2b := Nat.lt_trans H2 HYN.out
        obtain ⟨Pb, K11⟩ : ∃ Pb : Int, IntKind.u64.wrap (qb * (y1 : Int)) = Pb := ⟨_, rfl⟩
        have E3 : Pb = ((q9 * y1 : Nat) : Int) := by rw [← K11, E2]; exact mulN q9 y1 (by omega)
        have hq0 : q9 ≤ 4294967297 := by rw [← hq]; exact Dv.init_le G1.out G2 G4 H2
        have hge := Dv.init_ge (u := u2) (d := d0) G1.out (show 0 < y1 by omega) G7
        rw [hq] at hge
        obtain ⟨rb, K12⟩ : ∃ rb : Int, (u2 : Int) - Pb = rb := ⟨_, rfl⟩
        obtain ⟨P9, hP⟩ : ∃ P9, q9 * y1 = P9 := ⟨_, rfl⟩
        have E4 : rb = r9 := by rw [← K12, E3]; rw [hP] at E0 ⊢; omega
        have A2 : ∀ w, DvAt u2 d0 yn y1 w (.int .u64 qb) (.int .u64 rb) w := fun _ => ⟨rfl, q9, r9, qb, rb, rfl, rfl, Lib.hid ⟨E2, E4⟩, Lib.hid E0, Lib.hid hge, by omega, by omega, by omega, by omega⟩
        obtain ⟨k1, k2, k3, k4, k5, k6⟩ : 0 ≤ qb ∧ qb ≤ 4294967297 ∧ 0 ≤ Pb ∧ Pb ≤ 18446744073709551615 ∧ 0 ≤ rb ∧ rb < 4294967296 := by rw [hP] at E0 E3; omega
        have GU2 := Lib.hid H2
        clear hq E0 hP E1 E2 E3 E4 hq0 hge H2
        go_wp2
        go_loopw [18, 16] (fun v15 v16 wr2 => DvAt u2 d0 yn y1 wr v15 v16 wr2) (fun v15 _ _ => (intOf v15).toNat)
        case atStart => exact A2 _
        case round =>
          clear A2
          obtain ⟨rfl, p, t, e, f, rfl, rfl, HV, HE, HG, a4, a5, c4, c5⟩ := hrel
          by_cases hbig : 4294967296 ≤ e
          · have hq1 : 1 ≤ p := by have := HV.out.1; omega
            have HD := Lib.hid (Dv.big GU2.out G7 (show 4294967296 ≤ p by have := HV.out.1; omega))
            have HN := Lib.hid (Dv.next HE.out hq1)
            have HW := Lib.hid (show e - 1 = ((p - 1 : Nat) : Int) ∧ f + (y1 : Int) = ((t + y1 : Nat) : Int) by have := HV.out; omega)
            have a0 : 1 ≤ e := by have := HV.out.1; omega
            clear HE HG HV
            by_cases hr : f + (y1 : Int) < 4294967296
            · go_wp2
              go_roundw
              case rel => exact ⟨rfl, p - 1, t + y1, e - 1, f + y1, rfl, rfl, HW, HN, HD, by omega, by omega, by omega, by omega⟩
              case measure => simp [intOf]; omega
            · have HF2 := Lib.hid (Dv.fin (show 0 < yn by have := G1.out; omega) (Dv.brk (d := d0) G1.out G4 HN.out (by have := HW.out; omega) (by have := HW.out; omega)) HD.out)
              obtain ⟨b2, Fb2⟩ : ∃ b : Int, e - 1 = b := ⟨_, rfl⟩
              have HQ2 := Lib.hid (show b2 = ((p - 1 : Nat) : Int) by rw [← Fb2]; exact HW.out.1)
              have b32 : b2 < 4294967296 := by
                have h1 := Dv.dig GU2.out G7
                have h2 := HQ2.out
                rw [HF2.out] at h1
                omega
              clear HN HD HW
              have c7 : 0 ≤ b2 := by have := HQ2.out; omega
              go_wp2
              go_ret2
              exact ⟨⟨_, retq (fin9 HF1.out HU2.out HF2.out HQ1.out HQ2.out)⟩, rfl⟩
          · obtain ⟨m2, Fm2⟩ : ∃ m : Int, IntKind.u64.wrap (e * (y0 : Int)) = m := ⟨_, rfl⟩
            have GT := Lib.hid (cmp_iff (d := d0) G1.out G4 HE.out HV.out.1 HV.out.2 (by omega) Fm2)
            by_cases hgt : 4294967296 * f + (d0 : Int) < m2
            · have hq1 : 1 ≤ p := by
                rcases Nat.eq_zero_or_pos p with h | h
                · have := GT.out.1 hgt; rw [h, Nat.zero_mul] at this; omega
                · exact h
              have HD := Lib.hid (Dv.dec (show 0 < yn by have := G1.out; omega) (GT.out.1 hgt))
              have HN := Lib.hid (Dv.next HE.out hq1)
              have HW := Lib.hid (show e - 1 = ((p - 1 : Nat) : Int) ∧ f + (y1 : Int) = ((t + y1 : Nat) : Int) by have := HV.out; omega)
              have a0 : 1 ≤ e := by have := HV.out.1; omega
              clear HE HG HV
              by_cases hr : f + (y1 : Int) < 4294967296
              · go_wp2
                go_roundw
                case rel => exact ⟨rfl, p - 1, t + y1, e - 1, f + y1, rfl, rfl, HW, HN, HD, by omega, by omega, by omega, by omega⟩
                case measure => simp [intOf]; omega
              · have HF2 := Lib.hid (Dv.fin (show 0 < yn by have := G1.out; omega) (Dv.brk (d := d0) G1.out G4 HN.out (by have := HW.out; omega) (by have := HW.out; omega)) HD.out)
                obtain ⟨b2, Fb2⟩ : ∃ b : Int, e - 1 = b := ⟨_, rfl⟩
                have HQ2 := Lib.hid (show b2 = ((p - 1 : Nat) : Int) by rw [← Fb2]; exact HW.out.1)
                have b32 : b2 < 4294967296 := by
                  have h1 := Dv.dig GU2.out G7
                  have h2 := HQ2.out
                  rw [HF2.out] at h1
                  omega
                clear HN HD HW
                have c7 : 0 ≤ b2 := by have := HQ2.out; omega
                go_wp2
                go_ret2
                exact ⟨⟨_, retq (fin9 HF1.out HU2.out HF2.out HQ1.out HQ2.out)⟩, rfl⟩
            · have HF2 := Lib.hid (Dv.fin (show 0 < yn by have := G1.out; omega) (Nat.le_of_not_lt (fun h => hgt (GT.out.2 h))) HG.out)
              have a32 : e < 4294967296 := by omega
              have HQ2 := Lib.hid HV.out.1
              clear HE HG HV
              have c7 : 0 ≤ e := by have := HQ2.out; omega
              go_wp2
              go_ret2
              exact ⟨⟨_, retq (fin9 HF1.out HU2.out HF2.out HQ1.out HQ2.out)⟩, rfl⟩
end Go.Proofs.Ytbcffefailhacaa
