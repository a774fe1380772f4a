/-
  What order.Next answers.
-/
import Derived.Test.YteceibafagekiaaClone
namespace Go.Proofs.Yteceibafagekiaa
open Go.RowKit
set_option linter.unusedVariables false

/-- one more than the last place from m - 1 down that isn't greater than the one behind it -/
def dn (p : List Int) : Nat → Nat
  | 0 => 0
  | m + 1 => if nth p (m + 1) < nth p m then dn p m else m + 1
theorem dn_zero (p : List Int) : dn p 0 = 0 := rfl
theorem dn_yes (p : List Int) (m : Nat) (h : nth p (m + 1) < nth p m) : dn p (m + 1) = dn p m := by simp only [dn]; rw [if_pos h]
theorem dn_no (p : List Int) (m : Nat) (h : ¬ nth p (m + 1) < nth p m) : dn p (m + 1) = m + 1 := by simp only [dn]; rw [if_neg h]
theorem dn_le (p : List Int) : ∀ m, dn p m ≤ m
  | 0 => Nat.le_refl _
  | m + 1 => by
    by_cases h : nth p (m + 1) < nth p m
    · rw [dn_yes p m h]; have := dn_le p m; omega
    · rw [dn_no p m h]; omega
/-- the first place from j on, behind k, that is greater than x -/
def fj (l : List Int) (k : Nat) (x : Int) : Nat → Nat → Nat
  | 0, j => j
  | f + 1, j => if x < nth l (k + j) then j else fj l k x f (j + 1)
theorem fj_zero (l : List Int) (k : Nat) (x : Int) (j : Nat) : fj l k x 0 j = j := rfl
theorem fj_yes (l : List Int) (k : Nat) (x : Int) (f j : Nat) (h : x < nth l (k + j)) : fj l k x (f + 1) j = j := by simp only [fj]; rw [if_pos h]
theorem fj_no (l : List Int) (k : Nat) (x : Int) (f j : Nat) (h : ¬ x < nth l (k + j)) : fj l k x (f + 1) j = fj l k x f (j + 1) := by simp only [fj]; rw [if_neg h]
attribute [irreducible] dn fj
/-- the order that comes next: k is one more than the place that grows -/
def nextA (p : List Int) (k : Nat) : List Int := rv p k (p.length - k) ((p.length - k) / 2)
def nextJ (p : List Int) (k : Nat) : Nat := fj (nextA p k) k (nth (nextA p k) (k - 1)) (p.length - k) 0
def nextB (p : List Int) (k : Nat) : List Int := if nextJ p k < p.length - k then sw (nextA p k) (k - 1) (k + nextJ p k) else nextA p k
open Classical in
set_option maxRecDepth 100000 in
set_option maxHeartbeats 2000000 in
theorem next_none (p : List Int) (h : ¬ isP p) (hn : p.length ≤ 1000) (a : Option Addr) (c : Nat) (w : World) (hI : Ints w a p) :
    Calls Try.prog 23 #[.slice a p.length c] w fun e w' => e = .returned (.tuple #[.slice none 0 0, .int .i64 1]) ∧ Below w.heap.size w w' := by
  have HIs := Lib.hid (is_any p hn a c w hI)
  have e1 : decide (isP p) = false := by simpa using h
  rw [e1] at HIs
  clear hI h e1
  generalize p.length = n at *
  go_enter Try.func23, Try.ntmps23
  go_wp2_with fail
  refine HIs.out.mono ?_; rintro e w1 ⟨rfl, hb1⟩
  go_wp2
  go_ret2
  exact ⟨rfl, hb1⟩
def NextP (p : List Int) (k : Nat) (w : World) (e : Ending) (w' : World) : Prop := ∃ g cap, e = .returned (.tuple #[.slice (some ⟨g, 0, none⟩) p.length cap, .int .i64 0]) ∧ Below w.heap.size w w' ∧ Ints w' (some ⟨g, 0, none⟩) (nextB p k) ∧ (nextB p k).length = p.length
theorem nextA_len (p : List Int) (k : Nat) : (nextA p k).length = p.length := by unfold nextA; rw [rv_len]
theorem next_done {p : List Int} {k B g cap : Nat} {w W w1 w2 : World} {l : List Int} (h : Own B g p.length cap l W w2) (hl : l = nextB p k) (hb : Below w.heap.size w w2) : NextP p k w (.returned (.tuple #[.slice (some ⟨g, 0, none⟩) p.length cap, .int .i64 0])) w2 := by
  subst hl
  exact ⟨g, cap, rfl, hb, h.ints, h.1⟩
open Classical in
set_option maxRecDepth 100000 in
set_option maxHeartbeats 4000000 in
theorem next_ok (p : List Int) (h : isP p) (hn : p.length ≤ 1000) (a : Option Addr) (c : Nat) (hc : p.length ≤ c) (hc2 : c ≤ 9223372036854775807) (w : World) (hI : Ints w a p) (hk : 0 < dn p (p.length - 1)) :
    Calls Try.prog 23 #[.slice a p.length c] w (NextP p (dn p (p.length - 1)) w) := by
  have hle := dn_le p (p.length - 1)
  have HIs := Lib.hid (is_any p hn a c w hI)
  have e1 : decide (isP p) = true := by simpa using h
  rw [e1] at HIs
  obtain ⟨b, o, rfl, lb, _⟩ := hI 0 (by omega)
  have HI := Lib.hid (fun (W : World) (hW : Below w.heap.size w W) j (hj : j < p.length) => (show W.cell? ⟨b, o + j, none⟩ = some (.int .i64 (nth p j)) from by
    obtain ⟨b', o', e, _, hcc⟩ := hI.keep hW j hj
    simp only [Option.some.injEq, Addr.mk.injEq, and_true] at e
    obtain ⟨rfl, rfl⟩ := e
    exact hcc))
  have HC := Lib.hid (fun (W : World) (hW : Below w.heap.size w W) => clone_any p b o c hc hn hc2 W (Nat.lt_of_lt_of_le lb hW.size) (fun j hj => HI.out W hW j hj))
  have HRv := Lib.hid (fun (g cap : Nat) (W W' : World) (k : Nat) (hk : 1 ≤ k) (hk2 : k < p.length) (hO : Own W.heap.size g p.length cap p W W') => reverse_any W.heap.size g p.length cap p W k (p.length - k) (cap - k) (by omega) (by omega) hn (by have := hO.cap; omega) W' hO)
  have HY := Lib.hid (dn_yes p)
  have HN := Lib.hid (dn_no p)
  have HD := Lib.hid (fun (k B g cap : Nat) (W w1 w2 : World) (l : List Int) (h : Own B g p.length cap l W w2) (hl : l = nextB p k) (hb : Below w.heap.size w w2) => next_done (w1 := w1) h hl hb)
  have HA := Lib.hid (show ∀ k, nextA p k = rv p k (p.length - k) ((p.length - k) / 2) from fun k => rfl)
  have HB := Lib.hid (show ∀ k, nextB p k = if nextJ p k < p.length - k then sw (nextA p k) (k - 1) (k + nextJ p k) else nextA p k from fun k => rfl)
  have HJ := Lib.hid (show ∀ k, nextJ p k = fj (nextA p k) k (nth (nextA p k) (k - 1)) (p.length - k) 0 from fun k => rfl)
  clear hI h e1
  generalize hK : dn p (p.length - 1) = K at *
  have HK := Lib.hid hK
  clear hK
  generalize hpn : p.length = n at *
  have HPn := Lib.hid hpn
  clear hpn
  have n2 : (n : Int) - 2 = ((n - 1 : Nat) : Int) - 1 := by omega
  go_enter Try.func23, Try.ntmps23
  go_wp2_with fail
  refine HIs.out.mono ?_; rintro e w1 ⟨rfl, hb1⟩
  have HB1 := Lib.hid hb1
  clear hb1 HIs
  go_wp2
  clear n2
  go_loopw [4] (fun t wr => ∃ m : Nat, K ≤ m ∧ m ≤ n - 1 ∧ t = .int .i64 ((m : Int) - 1) ∧ Hid (dn p m = K) ∧ ∃ q, wr = w1.drewN q) (fun t _ => (intOf t + 1).toNat)
  case atStart => exact ⟨n - 1, hle, Nat.le_refl _, rfl, HK, 0, rfl⟩
  case round =>
    obtain ⟨m, hm1, hm2, rfl, HM, q, rfl⟩ := hrel
    obtain ⟨m, rfl⟩ : ∃ m', m = m' + 1 := ⟨m - 1, by omega⟩
    have hmm : (((m + 1 : Nat) : Int)) - 1 = (m : Int) := by omega
    rw [hmm]
    have c1 := HI.out w1 HB1.out m (by omega)
    have c2 := HI.out w1 HB1.out (m + 1) (by omega)
    have g1 : (0 : Int) ≤ (m : Int) := by omega
    have g2 : (m : Int) < (n : Int) := by omega
    have g3 : (0 : Int) ≤ (m : Int) + 1 := by omega
    have g4 : (m : Int) + 1 < (n : Int) := by omega
    have g5 : IntKind.i64.wrap ((m : Int) + 1) = (m : Int) + 1 := IntWalk.i64_in _ (by omega)
    have g6 : ((m : Int) + 1).toNat = m + 1 := by omega
    by_cases hx : nth p (m + 1) < nth p m
    · have HM2 := Lib.hid ((HY.out m hx).symm.trans HM.out)
      generalize nth p (m + 1) = y at *
      generalize nth p m = x at *
      have hKm : K ≤ m := by
        have := dn_le p m
        rw [HM2.out] at this
        exact this
      go_wp2
      go_quiet (fail)
      go_wp2
      go_roundw
      case rel => exact ⟨m, hKm, by omega, rfl, HM2, _, rfl⟩
      case measure => simp [intOf]
    · have hKe : K = m + 1 := by have := HN.out m (by omega); rw [HM.out] at this; exact this
      subst hKe
      generalize nth p (m + 1) = y at *
      generalize nth p m = x at *
      have hcx : ∀ W, Below w.heap.size w W → Calls Try.prog 34 #[.slice (some ⟨b, o, none⟩) n c] W fun e w' => ∃ g cap, e = .returned (.slice (some ⟨g, 0, none⟩) n cap) ∧ Own W.heap.size g n cap p W w' := HC.out
      have HCx := Lib.hid hcx
      clear hcx HC HI HM HK hle hm1 hm2
      go_wp2
      go_quiet (fail)
      clear c1 c2
      have HBX := Lib.hid (bl_dn (bl_dn HB1.out q) nq)
      generalize ((w1.drewN q).drewN nq) = X at *
      go_wp2_with fail
      refine (HCx.out X HBX.out).mono ?_; rintro e w2 ⟨g, cap, rfl, ho⟩
      have HO := Lib.hid ho
      have hcap := ho.cap
      obtain ⟨k1, k2⟩ := hcap
      clear ho
      have s1 : (m : Int) + 1 ≤ (n : Int) := by omega
      have s2 : m + 1 < cap := by omega
      go_wp2_with fail
      refine (HRv.out g cap X w2 (m + 1) (by omega) (by omega) HO.out).mono ?_; rintro e w3 ⟨rfl, ho⟩
      have HAm := Lib.hid (HA.out (m + 1))
      rw [← HAm.out] at ho
      have HJm := Lib.hid (HJ.out (m + 1))
      have HBm := Lib.hid (HB.out (m + 1))
      have HO3 := Lib.hid ho
      clear ho HO HA HJ HB HY HN HRv HCx
      generalize nextA p (m + 1) = l at *
      have hm' : m + 1 - 1 = m := by omega
      rw [hm'] at HJm HBm
      have cm := HO3.out.cell m (by omega)
      have fm := HO3.out.frozen m
      have HBw : Hid (Below w.heap.size w w3) := HBX.out.trans (HO3.out.2.2.2.mono HBX.out.size)
      have HFy := Lib.hid (fj_yes l (m + 1) (nth l m))
      have HFn := Lib.hid (fj_no l (m + 1) (nth l m))
      have HF0 := Lib.hid (fj_zero l (m + 1) (nth l m))
      have HSw := Lib.hid (fun j => HO3.out.sw m (m + 1 + j))
      have HCell := Lib.hid (fun j (hj : j < n) => HO3.out.cell j hj)
      have HFr := Lib.hid (fun j => HO3.out.frozen j)
      generalize hx : nth l m = x at *
      have HX := Lib.hid hx
      clear hx
      go_wp2
      go_loop [43] (fun i => ∃ j : Nat, j ≤ n - (m + 1) ∧ i = .int .i64 j ∧ Hid (nextJ p (m + 1) = fj l (m + 1) x (n - (m + 1) - j) j)) (fun i => (n - (m + 1)) - (intOf i).toNat)
      case atStart => exact ⟨0, by omega, rfl, HJm⟩
      case round =>
        obtain ⟨j, hj, rfl, HE⟩ := hrel
        by_cases hjl : j < n - (m + 1)
        · have cj := HCell.out (m + 1 + j) (by omega)
          have fr := HFr.out (m + 1 + j)
          by_cases hxy : x < nth l (m + 1 + j)
          · have hJ : nextJ p (m + 1) = j := HE.out.trans (by rw [show n - (m + 1) - j = (n - (m + 1) - j - 1) + 1 by omega]; exact HFy.out _ j hxy)
            have HRes : Hid (sw l m (m + 1 + j) = nextB p (m + 1)) := by show _ = _; rw [HBm.out, hJ, if_pos hjl]
            have HSj := Lib.hid (HSw.out j)
            generalize hy : nth l (m + 1 + j) = y at *
            clear hJ hy
            go_wp2
            go_ret2
            exact HD.out (m + 1) _ g cap X w3 _ _ HSj.out HRes.out (HBX.out.trans (HSj.out.2.2.2.mono HBX.out.size))
          · have HE2 : Hid (nextJ p (m + 1) = fj l (m + 1) x (n - (m + 1) - (j + 1)) (j + 1)) := HE.out.trans (by rw [show n - (m + 1) - j = (n - (m + 1) - (j + 1)) + 1 by omega]; exact HFn.out _ j (by omega))
            generalize nth l (m + 1 + j) = y at *
            go_wp2
            go_round
            case rel => exact ⟨j + 1, by omega, by go_num, HE2⟩
            case measure => simp [intOf]; omega
        · obtain rfl : j = n - (m + 1) := by omega
          have hJ : nextJ p (m + 1) = n - (m + 1) := HE.out.trans (by rw [show n - (m + 1) - (n - (m + 1)) = 0 by omega]; exact HF0.out _)
          have HRes : Hid (l = nextB p (m + 1)) := by show _ = _; rw [HBm.out, hJ, if_neg (by omega)]
          clear hJ
          go_wp2
          go_ret2
          exact HD.out (m + 1) _ g cap X w3 _ _ HO3.out HRes.out HBw.out
end Go.Proofs.Yteceibafagekiaa
