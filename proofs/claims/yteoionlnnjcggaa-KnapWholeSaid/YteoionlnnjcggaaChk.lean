/-
  What inst.Check and what it calls answer of every problem whose lists lie in memory.
-/
import Derived.Test.YteoionlnnjcggaaBase
namespace Go.Proofs.Yteoionlnnjcggaa
open Go.RowKit
set_option linter.unusedVariables false

def num (n : Int) : Int := if n < 0 then 1 else if 2147483647 < n then 5 else 0
theorem entry_any (n : Int) (w : World) : Calls Try.prog 46 #[.int .i64 n] w fun e w' => e = .returned (.int .i64 (num n)) ∧ w = w' := by
  unfold num
  by_cases h : n < 0
  · rw [if_pos h]
    go_enter Try.func46, Try.ntmps46
    go_wp2
    go_ret
    exact ⟨rfl, rfl⟩
  · rw [if_neg h]
    by_cases h2 : 2147483647 < n
    · rw [if_pos h2]
      go_enter Try.func46, Try.ntmps46
      go_wp2
      go_ret
      exact ⟨rfl, rfl⟩
    · rw [if_neg h2]
      go_enter Try.func46, Try.ntmps46
      go_wp2
      go_ret
      exact ⟨rfl, rfl⟩
theorem number_any (n : Int) (w : World) : Calls Try.prog 32 #[.int .i64 n] w fun e w' => e = .returned (.int .i64 (num n)) ∧ w = w' := by
  unfold num
  by_cases h : n < 0
  · rw [if_pos h]
    go_enter Try.func32, Try.ntmps32
    go_wp2
    go_ret
    exact ⟨rfl, rfl⟩
  · rw [if_neg h]
    by_cases h2 : 2147483647 < n
    · rw [if_pos h2]
      go_enter Try.func32, Try.ntmps32
      go_wp2
      go_ret
      exact ⟨rfl, rfl⟩
    · rw [if_neg h2]
      go_enter Try.func32, Try.ntmps32
      go_wp2
      go_ret
      exact ⟨rfl, rfl⟩
attribute [irreducible] num
/-- a list of numbers in memory -/
def Ints (W : World) (a : Option Addr) (l : List Int) : Prop := ∀ j, j < l.length → ∃ b o, a = some ⟨b, o, none⟩ ∧ b < W.heap.size ∧ W.cell? ⟨b, o + j, none⟩ = some (.int .i64 (l[j]?.getD 0))
/-- a list of such lists -/
def Rws (W : World) (a : Option Addr) (l : List (List Int)) : Prop :=
  ∀ j, j < l.length → ∃ b o aj cj, a = some ⟨b, o, none⟩ ∧ b < W.heap.size ∧ W.cell? ⟨b, o + j, none⟩ = some (.slice aj (l[j]?.getD []).length cj) ∧ Ints W aj (l[j]?.getD []) ∧ (l[j]?.getD []).length ≤ 1000
theorem Ints.keep {W W1 : World} {a : Option Addr} {l : List Int} (h : Ints W a l) (hb : Below W.heap.size W W1) : Ints W1 a l := fun j hj => by
  obtain ⟨b, o, h1, h2, h3⟩ := h j hj
  exact ⟨b, o, h1, Nat.lt_of_lt_of_le h2 hb.size, (hb.cell (p := ⟨b, o + j, none⟩) h2).trans h3⟩
theorem Rws.keep {W W1 : World} {a : Option Addr} {l : List (List Int)} (h : Rws W a l) (hb : Below W.heap.size W W1) : Rws W1 a l := fun j hj => by
  obtain ⟨b, o, aj, cj, h1, h2, h3, h4, h5⟩ := h j hj
  exact ⟨b, o, aj, cj, h1, Nat.lt_of_lt_of_le h2 hb.size, (hb.cell (p := ⟨b, o + j, none⟩) h2).trans h3, h4.keep hb, h5⟩
def itemsE : List Int → List Int → Int
  | x :: xs, y :: ys => if num x = 0 then (if num y = 0 then itemsE xs ys else num y) else num x
  | _, _ => 0
theorem drop_get {l : List Int} {k : Nat} (h : k < l.length) : l.drop k = l[k]?.getD 0 :: l.drop (k + 1) := by
  rw [List.drop_eq_getElem_cons h, List.getElem?_eq_getElem h]; rfl
theorem drop_row {l : List (List Int)} {k : Nat} (h : k < l.length) : l.drop k = l[k]?.getD [] :: l.drop (k + 1) := by
  rw [List.drop_eq_getElem_cons h, List.getElem?_eq_getElem h]; rfl
theorem itemsE_at {xs ys : List Int} {k : Nat} (hx : k < xs.length) (hy : k < ys.length) : itemsE (xs.drop k) (ys.drop k) = if num (xs[k]?.getD 0) = 0 then (if num (ys[k]?.getD 0) = 0 then itemsE (xs.drop (k + 1)) (ys.drop (k + 1)) else num (ys[k]?.getD 0)) else num (xs[k]?.getD 0) := by
  rw [drop_get hx, drop_get hy]; rfl
theorem itemsE_end {xs ys : List Int} {k : Nat} (hx : xs.length ≤ k) : itemsE (xs.drop k) (ys.drop k) = 0 := by
  rw [List.drop_eq_nil_of_le hx]; unfold itemsE; rfl
attribute [irreducible] itemsE
theorem ret_i {a b : Int} (h : a = b) : Ending.returned (.int .i64 a) = .returned (.int .i64 b) := by rw [h]
set_option maxHeartbeats 1000000 in
theorem items_any (K N C : Int) (wl vl : List Int) (wa va ca : Option Addr) (wc vc cn cc : Nat) (w : World) (hw : Ints w wa wl) (hv : Ints w va vl) (hlen : vl.length = wl.length) (hl : wl.length ≤ 1000) :
    Calls Try.prog 37 #[.agg #[.int .i64 K, .int .i64 N, .int .i64 C, .slice wa wl.length wc, .slice va vl.length vc, .slice ca cn cc]] w
      fun e w' => e = .returned (.int .i64 (if num C = 0 then itemsE wl vl else num C)) ∧ Below w.heap.size w w' := by
  have EC := Lib.hid (fun W => entry_any C W)
  have HW := Lib.hid hw
  have HV := Lib.hid hv
  clear hw hv
  rw [hlen]
  by_cases hC : num C = 0
  · rw [if_pos hC]
    go_enter Try.func37, Try.ntmps37
    go_wp2_with fail
    refine (EC.out _).mono ?_; rintro e w1 ⟨rfl, rfl⟩
    go_wp2
    go_loop [17] (fun i => ∃ k : Nat, k ≤ wl.length ∧ i = .int .i64 k ∧ Hid (itemsE wl vl = itemsE (wl.drop k) (vl.drop k))) (fun i => wl.length - (intOf i).toNat)
    case atStart => exact ⟨0, by omega, rfl, rfl⟩
    case round =>
      obtain ⟨k, hk, rfl, HE⟩ := hrel
      by_cases hlt : k < wl.length
      · obtain ⟨b, o, rfl, hb, hc⟩ := HW.out k hlt
        obtain ⟨b2, o2, rfl, hb2, hc2⟩ := HV.out k (by omega)
        have hit := Lib.hid (itemsE_at hlt (show k < vl.length by omega))
        generalize wl[k]?.getD 0 = x at *
        generalize vl[k]?.getD 0 = y at *
        have EX := Lib.hid (fun W => entry_any x W)
        have EY := Lib.hid (fun W => entry_any y W)
        by_cases hx : num x = 0
        · by_cases hy : num y = 0
          · go_wp2_with fail
            refine (EX.out _).mono ?_; rintro e w1 ⟨rfl, rfl⟩
            go_wp2_with fail
            refine (EY.out _).mono ?_; rintro e w1 ⟨rfl, rfl⟩
            go_wp2
            go_round
            case rel => exact ⟨k + 1, by omega, by go_num, HE.out.trans (hit.out.trans (by rw [if_pos hx, if_pos hy]))⟩
            case measure => simp [intOf]; omega
          · go_wp2_with fail
            refine (EX.out _).mono ?_; rintro e w1 ⟨rfl, rfl⟩
            go_wp2_with fail
            refine (EY.out _).mono ?_; rintro e w1 ⟨rfl, rfl⟩
            go_wp2
            go_ret
            exact ⟨ret_i (HE.out.trans (hit.out.trans (by rw [if_pos hx, if_neg hy]))).symm, bl_al (Below.refl _ _) _⟩
        · go_wp2_with fail
          refine (EX.out _).mono ?_; rintro e w1 ⟨rfl, rfl⟩
          go_wp2
          go_ret
          exact ⟨ret_i (HE.out.trans (hit.out.trans (by rw [if_neg hx]))).symm, bl_al (Below.refl _ _) _⟩
      · go_wp2
        go_ret
        exact ⟨ret_i (HE.out.trans (itemsE_end (by omega))).symm, bl_al (Below.refl _ _) _⟩
  · rw [if_neg hC]
    go_enter Try.func37, Try.ntmps37
    go_wp2_with fail
    refine (EC.out _).mono ?_; rintro e w1 ⟨rfl, rfl⟩
    go_wp2
    go_ret
    exact ⟨rfl, bl_al (Below.refl _ _) _⟩
end Go.Proofs.Yteoionlnnjcggaa
