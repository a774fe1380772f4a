/-
  The walk of kurganlaw09.OrderKeys.
-/
import Derived.Test.YteceibafagekiaaKey
import Derived.Test.YteceibafagekiaaOrds
import Derived.Test.YteceibafagekiaaCut
namespace Go.Proofs.Yteceibafagekiaa
open Go.RowKit
set_option linter.unusedVariables false
theorem rk_isP {l T : List Int} (h1 : IsRk (ltK l) l.length T) (h2 : OnRk (ltK l) l.length T) : isP T := by
  refine ok_isP ⟨fun j hj => ?_, fun i j hij hj => ?_⟩
  · rw [h1.1] at hj ⊢
    obtain ⟨a, ha, _, e⟩ := h2 j hj
    rw [e]; omega
  · rw [h1.1] at hj
    obtain ⟨a, ha, ra, e⟩ := h2 i (by omega)
    obtain ⟨b, hb, rb, f⟩ := h2 j hj
    rw [e, f]
    intro q
    obtain rfl : a = b := by omega
    omega
theorem rk_steps {l T : List Int} (h1 : IsRk (ltK l) l.length T) (h2 : OnRk (ltK l) l.length T) (k : Nat) (hk : k + 1 < l.length) : 0 ≤ nth T k ∧ nth T k < l.length ∧ 0 ≤ nth T (k + 1) ∧ nth T (k + 1) < l.length ∧ ¬ nth l (nth T (k + 1)).toNat < nth l (nth T k).toNat := by
  obtain ⟨a, ha, ra, e⟩ := h2 k (by omega)
  obtain ⟨b, hb, rb, f⟩ := h2 (k + 1) hk
  have := (rko_iff (ltK_ord _ l) ha hb).1 (by omega)
  rw [ltK_iff] at this
  rw [e, f]
  simp only [Int.toNat_natCast]
  omega
theorem same_selfK (l : List Int) (hn : l.length ≤ 1000) (xa ya : Option Addr) (xc yc : Nat) (w : World) (h1 : Ints w xa l) (h2 : Ints w ya l) :
    Calls Try.prog 12 #[.slice xa l.length xc, .slice ya l.length yc] w fun e w' => e = .returned (.bool true) ∧ Below w.heap.size w w' := by
  have h := same_any l l hn hn xa ya xc yc w h1 h2
  have e : decide (l = l) = true := by simp
  rw [e] at h
  exact h
theorem cut200 (l : List Int) (a : Option Addr) (n c : Nat) (w : World) (h : Arg 200 w a n c l) :
    Calls Try.prog 8 #[.slice a n c, .int .i64 200] w fun e w' => ∃ g cap, e = .returned (.slice (some ⟨g, 0, none⟩) l.length cap) ∧ Own w.heap.size g l.length cap l w w' := cut_any 200 (by decide) l a n c w h
set_option maxRecDepth 100000 in
set_option maxHeartbeats 8000000 in
theorem orderKeys_core (p : List Int) (pa : Option Addr) (pn pc : Nat) (w : World) (h1 : Arg 200 w pa pn pc p) :
    Calls Try.prog 4 #[.slice pa pn pc] w fun e w' => e = .returned (.bool true) ∧ Below w.heap.size w w' := by
  have lp := h1.len
  have HC := Lib.hid (cut200 p pa pn pc w h1)
  have HOr := Lib.hid (fun W => orders_any W)
  have HK := Lib.hid (fun W (g c : Nat) (hI : Ints W (some ⟨g, 0, none⟩) p) => byKey_any p (by omega) (some ⟨g, 0, none⟩) c W hI)
  have HRK := Lib.hid (fun W (g c : Nat) (hI : Ints W (some ⟨g, 0, none⟩) p) => refByKey_any p (by omega) (some ⟨g, 0, none⟩) c W hI)
  have HSm := Lib.hid (fun (T : List Int) (hT : IsRk (ltK p) p.length T) (hO : OnRk (ltK p) p.length T) W (xa ya : Option Addr) (c1 c2 : Nat) (Z : List Int) (hZ : IsRk (ltK p) p.length Z) (q1 : Ints W xa T) (q2 : Ints W ya Z) => (show Calls Try.prog 12 #[.slice xa p.length c1, .slice ya p.length c2] W fun e w' => e = .returned (.bool true) ∧ Below W.heap.size W w' from by
    obtain rfl := isRk_one hT hO hZ
    have := same_selfK Z (by rw [hT.1]; omega) xa ya c1 c2 W q1 q2
    rw [hT.1] at this
    exact this))
  have HIs := Lib.hid (fun (T : List Int) (hT : IsRk (ltK p) p.length T) (hO : OnRk (ltK p) p.length T) W (a : Option Addr) (c : Nat) (q : Ints W a T) => (show Calls Try.prog 15 #[.slice a p.length c] W fun e w' => e = .returned (.bool true) ∧ Below W.heap.size W w' from by
    have := is_any T (by rw [hT.1]; omega) a c W q
    rw [hT.1] at this
    refine this.mono ?_
    rintro e w' ⟨he, hb⟩
    exact ⟨by rw [he]; simp [rk_isP hT hO], hb⟩))
  have HSt := Lib.hid (fun (T : List Int) (hT : IsRk (ltK p) p.length T) (hO : OnRk (ltK p) p.length T) (k : Nat) (hk : k + 1 < p.length) => rk_steps hT hO k hk)
  have HLen := Lib.hid (fun (T : List Int) (hT : IsRk (ltK p) p.length T) => hT.1)
  clear h1
  unfold KeyP at HK
  generalize hpn : p.length = k at *
  have HPn := Lib.hid hpn
  clear hpn
  go_enter Try.func4, Try.ntmps4
  go_wp2_with fail
  refine HC.out.mono ?_; rintro e w1 ⟨g, cap, rfl, ho⟩
  have HI1 := Lib.hid ho.ints
  have HB1 := Lib.hid ho.2.2.2
  clear ho HC
  go_wp2_with fail
  refine (HK.out w1 g cap HI1.out).mono ?_; rintro e w2 ⟨g2, cap2, T, rfl, t1, t2, t3, t4⟩
  have H1 := Lib.hid t1
  have H2 := Lib.hid t2
  have HI2 := Lib.hid t3
  have HB2 := Lib.hid (HB1.out.trans (t4.mono HB1.out.size))
  have HI1b := Lib.hid (HI1.out.keep t4)
  clear t1 t2 t3 t4 HI1 HB1 HK
  go_wp2_with fail
  refine (HOr.out w2).mono ?_; rintro e w3 ⟨rfl, b3⟩
  have HI1c := Lib.hid (HI1b.out.keep b3)
  have HI2c := Lib.hid (HI2.out.keep b3)
  have HB3 := Lib.hid (HB2.out.trans (b3.mono HB2.out.size))
  clear b3 HI1b HI2 HB2 HOr
  go_wp2_with fail
  refine (HRK.out w3 g cap HI1c.out).mono ?_; rintro e w4 ⟨g4, Z, rfl, z1, z2, b4⟩
  have HZ1 := Lib.hid z1
  have HZ2 := Lib.hid z2
  have HI1d := Lib.hid (HI1c.out.keep b4)
  have HI2d := Lib.hid (HI2c.out.keep b4)
  have HB4 := Lib.hid (HB3.out.trans (b4.mono HB3.out.size))
  clear b4 z1 z2 HI1c HI2c HB3 HRK
  go_wp2_with fail
  refine (HSm.out T H1.out H2.out w4 _ _ _ _ Z HZ1.out HI2d.out HZ2.out).mono ?_; rintro e w5 ⟨rfl, b5⟩
  have HI1e := Lib.hid (HI1d.out.keep b5)
  have HI2e := Lib.hid (HI2d.out.keep b5)
  have HB5 := Lib.hid (HB4.out.trans (b5.mono HB4.out.size))
  clear b5 HI1d HI2d HB4 HSm HZ1 HZ2
  go_wp2_with fail
  refine (HIs.out T H1.out H2.out w5 _ _ HI2e.out).mono ?_; rintro e w6 ⟨rfl, b6⟩
  have HI1f := Lib.hid (HI1e.out.keep b6)
  have HI2f := Lib.hid (HI2e.out.keep b6)
  have HB6 := Lib.hid (HB5.out.trans (b6.mono HB5.out.size))
  clear b6 HI1e HI2e HB5 HIs
  have HS := Lib.hid (HSt.out T H1.out H2.out)
  have HL := Lib.hid (HLen.out T H1.out)
  clear HSt HLen H1 H2
  go_wp2
  go_loopw [4] (fun i wr => ∃ j : Nat, 1 ≤ j ∧ (j ≤ k ∨ j = 1) ∧ i = .int .i64 j ∧ Hid (Below w6.heap.size w6 wr)) (fun i _ => k - (intOf i).toNat)
  case atStart => exact ⟨1, by omega, by omega, rfl, Below.refl _ _⟩
  case round =>
    obtain ⟨j, hj1, hj2, rfl, HB⟩ := hrel
    by_cases hlt : j < k
    · obtain ⟨j, rfl⟩ : ∃ i, j = i + 1 := ⟨j - 1, by omega⟩
      obtain ⟨s1, s2, s3, s4, s5⟩ := HS.out j hlt
      have hIp := HI1f.out.keep HB.out
      have hIt := HI2f.out.keep HB.out
      obtain ⟨b1, o1, ea, _, c1⟩ := hIt j (by rw [HL.out]; omega)
      simp only [Option.some.injEq, Addr.mk.injEq, and_true] at ea
      obtain ⟨rfl, rfl⟩ := ea
      obtain ⟨b1, o1, ea, _, c2⟩ := hIt (j + 1) (by rw [HL.out]; omega)
      simp only [Option.some.injEq, Addr.mk.injEq, and_true] at ea
      obtain ⟨rfl, rfl⟩ := ea
      obtain ⟨b1, o1, ea, _, c3⟩ := hIp (nth T j).toNat (by rw [HPn.out]; omega)
      simp only [Option.some.injEq, Addr.mk.injEq, and_true] at ea
      obtain ⟨rfl, rfl⟩ := ea
      obtain ⟨b1, o1, ea, _, c4⟩ := hIp (nth T (j + 1)).toNat (by rw [HPn.out]; omega)
      simp only [Option.some.injEq, Addr.mk.injEq, and_true] at ea
      obtain ⟨rfl, rfl⟩ := ea
      simp only [Nat.zero_add] at c1 c2 c3 c4
      have g1 : (0 : Int) ≤ (j : Int) + 1 := by omega
      have g2 : (j : Int) + 1 < (k : Int) := by omega
      have g5 : IntKind.i64.wrap ((j : Int) + 1 - 1) = (j : Int) := IntWalk.i64_in _ (by omega) |>.trans (by omega)
      have g7 : ((j : Int) + 1).toNat = j + 1 := by omega
      clear hIp hIt HS
      generalize nth p (nth T (j + 1)).toNat = y1 at *
      generalize nth p (nth T j).toNat = y0 at *
      generalize nth T (j + 1) = x1 at *
      generalize nth T j = x0 at *
      go_wp2
      go_quiet (fail)
      go_wp2
      go_roundw
      case rel => exact ⟨j + 1 + 1, by omega, by omega, by go_num, ⟨HB.out.os, HB.out.tape, HB.out.output, HB.out.size, HB.out.block⟩⟩
      case measure => simp [intOf]; omega
    · have hge : ¬ (j : Int) < (k : Int) := by omega
      go_wp2
      go_ret
      exact ⟨rfl, HB6.out.trans (HB.out.mono HB6.out.size)⟩
theorem orderKeys_walk (p : List Int) (pa : Option Addr) (pn pc : Nat) (w : World) (h1 : Arg 200 w pa pn pc p) :
    Calls Try.prog 4 #[.slice pa pn pc] w fun e w' => e = .returned (.bool true) ∧ Below w.heap.size w w' := orderKeys_core p pa pn pc w h1
end Go.Proofs.Yteceibafagekiaa
