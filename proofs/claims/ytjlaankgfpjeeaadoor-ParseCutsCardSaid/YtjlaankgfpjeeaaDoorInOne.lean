import Derived.Test.YtjlaankgfpjeeaaDoorProg
import Derived.WalkKit
import Derived.ProofKit
import Derived.OpenShut
import Derived.Below
import Derived.Lib.Hide
import Derived.LoopTactic
import Derived.Deep.QuietTactic
import Derived.BigQuiet
import Derived.RegionTactic
import Derived.OwnWalk
import Derived.Laws.AppendOwn
import Derived.Laws.OwnMore
import Derived.Deep.AppendLies
import Derived.Maps.AppendAt
import Derived.Deep.RegionHeld3

/-
  What inst.Name answers of every number; what inst.Check answers of the one problem that the laws write down. No condition.
-/
namespace Go.Proofs.YtjlaankgfpjeeaaDoor.ip
open Go.RowKit
set_option linter.unusedVariables false

def nameOf (n : Int) : List UInt8 := if n = 1 then [75, 78, 65, 80, 83, 65, 67, 75] else if n = 2 then [65, 83, 83, 73, 71, 78, 77, 69, 78, 84] else if n = 3 then [84, 83, 80] else []
theorem name_any (n : Int) (w : World) : Calls Tryd.prog 22 #[.int .i64 n] w fun e w' => e = .returned (.string ⟨(nameOf n).toArray⟩) ∧ w = w' := by
  unfold nameOf
  by_cases h1 : n = 1
  · subst h1
    go_enter Tryd.func22, Tryd.ntmps22
    go_wp2
    go_ret
    exact ⟨rfl, rfl⟩
  · by_cases h2 : n = 2
    · subst h2
      go_enter Tryd.func22, Tryd.ntmps22
      go_wp2
      go_ret
      exact ⟨rfl, rfl⟩
    · by_cases h3 : n = 3
      · subst h3
        go_enter Tryd.func22, Tryd.ntmps22
        go_wp2
        go_ret
        exact ⟨rfl, rfl⟩
      · rw [if_neg h1, if_neg h2, if_neg h3]
        go_enter Tryd.func22, Tryd.ntmps22
        go_wp2
        go_ret
        exact ⟨rfl, rfl⟩
theorem entry_ok (n : Int) (h0 : 0 ≤ n) (h1 : n ≤ 2147483647) (w : World) : Calls Tryd.prog 50 #[.int .i64 n] w fun e w' => e = .returned (.int .i64 0) ∧ w = w' := by
  go_enter Tryd.func50, Tryd.ntmps50
  go_wp2
  go_ret
  exact ⟨rfl, rfl⟩
theorem bl_al {a w : World} (h : Below a.heap.size a w) (o : Obj) : Below a.heap.size a (w.alloc o) := h.alloc h.size o
theorem bl_tr {a w w1 : World} (h : Below a.heap.size a w) (k : Below w.heap.size w w1) : Below a.heap.size a w1 := h.trans (k.mono h.size)
theorem inform_one (b1 b2 : Nat) (w : World) :
    Calls Tryd.prog 29 #[.agg #[.int .i64 1, .int .i64 1, .int .i64 5, .slice (some ⟨b1, 0, none⟩) 1 1, .slice (some ⟨b2, 0, none⟩) 1 1, .slice none 0 0]] w fun e w' => e = .returned (.bool true) ∧ Below w.heap.size w w' := by
  go_enter Tryd.func29, Tryd.ntmps29
  go_wp2
  go_ret
  exact ⟨rfl, (Below.refl _ _).alloc (Nat.le_refl _) _⟩
set_option maxHeartbeats 400000 in
theorem items_one (b1 b2 : Nat) (w : World) (h1 : w.cell? ⟨b1, 0, none⟩ = some (.int .i64 3)) (h2 : w.cell? ⟨b2, 0, none⟩ = some (.int .i64 4)) (l1 : b1 < w.heap.size) (l2 : b2 < w.heap.size) :
    Calls Tryd.prog 30 #[.agg #[.int .i64 1, .int .i64 1, .int .i64 5, .slice (some ⟨b1, 0, none⟩) 1 1, .slice (some ⟨b2, 0, none⟩) 1 1, .slice none 0 0]] w fun e w' => e = .returned (.int .i64 0) ∧ Below w.heap.size w w' := by
  have E5 := Lib.hid (fun W => entry_ok 5 (by decide) (by decide) W)
  have E3 := Lib.hid (fun W => entry_ok 3 (by decide) (by decide) W)
  have E4 := Lib.hid (fun W => entry_ok 4 (by decide) (by decide) W)
  go_enter Tryd.func30, Tryd.ntmps30
  go_wp2_with fail
  refine (E5.out _).mono ?_; rintro e w1 ⟨rfl, rfl⟩
  go_wp2
  go_loop [17] (fun i => ∃ k : Nat, k ≤ 1 ∧ i = .int .i64 k) (fun i => 1 - (intOf i).toNat)
  case atStart => exact ⟨0, by omega, rfl⟩
  case round =>
    obtain ⟨k, hk, rfl⟩ := hrel
    by_cases hlt : k < 1
    · obtain rfl : k = 0 := by omega
      go_wp2_with fail
      refine (E3.out _).mono ?_; rintro e w1 ⟨rfl, rfl⟩
      go_wp2_with fail
      refine (E4.out _).mono ?_; rintro e w1 ⟨rfl, rfl⟩
      go_wp2
      go_round
      case rel => exact ⟨1, by omega, by go_num⟩
      case measure => simp [intOf]
    · go_wp2
      go_ret
      exact ⟨rfl, (Below.refl _ _).alloc (Nat.le_refl _) _⟩
theorem lt_cell {w : World} {b j : Nat} {v : Value} (h : w.cell? ⟨b, j, none⟩ = some v) : b < w.heap.size := by
  rcases Nat.lt_or_ge b w.heap.size with hlt | hge
  · exact hlt
  · unfold World.cell? at h
    rw [Array.getElem?_eq_none hge] at h
    cases h
theorem check_one (b1 b2 : Nat) (w : World) (h1 : w.cell? ⟨b1, 0, none⟩ = some (.int .i64 3)) (h2 : w.cell? ⟨b2, 0, none⟩ = some (.int .i64 4)) (l1 : b1 < w.heap.size) (l2 : b2 < w.heap.size) :
    Calls Tryd.prog 13 #[.agg #[.int .i64 1, .int .i64 1, .int .i64 5, .slice (some ⟨b1, 0, none⟩) 1 1, .slice (some ⟨b2, 0, none⟩) 1 1, .slice none 0 0]] w fun e w' => e = .returned (.int .i64 0) ∧ Below w.heap.size w w' := by
  have N1 := Lib.hid (show ∀ W, Calls Tryd.prog 22 #[.int .i64 1] W fun e w' => e = .returned (.string ⟨#[75, 78, 65, 80, 83, 65, 67, 75]⟩) ∧ W = w' from fun W => name_any 1 W)
  have F1 := Lib.hid (fun W => inform_one b1 b2 W)
  go_enter Tryd.func13, Tryd.ntmps13
  go_wp2_with fail
  refine (N1.out _).mono ?_; rintro e w1 ⟨rfl, rfl⟩
  go_wp2_with fail
  refine (F1.out _).mono ?_; rintro e w2 ⟨rfl, hb2⟩
  have g1 : w2.cell? ⟨b1, 0, none⟩ = some (.int .i64 3) := by rw [hb2.cell (p := ⟨b1, 0, none⟩) (by simp; omega)]; exact (((Below.refl _ w).alloc (Nat.le_refl _) _).cell (p := ⟨b1, 0, none⟩) l1).trans h1
  have g2 : w2.cell? ⟨b2, 0, none⟩ = some (.int .i64 4) := by rw [hb2.cell (p := ⟨b2, 0, none⟩) (by simp; omega)]; exact (((Below.refl _ w).alloc (Nat.le_refl _) _).cell (p := ⟨b2, 0, none⟩) l2).trans h2
  have I1 := Lib.hid (items_one b1 b2 w2 g1 g2 (lt_cell g1) (lt_cell g2))
  have hsz := hb2.size
  have bl := bl_tr (bl_al (Below.refl w.heap.size w) (.cells #[.int .i64 1, .int .i64 1, .int .i64 5, .slice (some ⟨b1, 0, none⟩) 1 1, .slice (some ⟨b2, 0, none⟩) 1 1, .slice none 0 0] 25)) hb2
  obtain ⟨hc, hf⟩ := (⟨fun b o h => hb2.cell (p := ⟨b, o, none⟩) h, fun b o h => hb2.frozen (p := ⟨b, o, none⟩) h⟩ : (∀ b o, b < (w.alloc (.cells #[.int .i64 1, .int .i64 1, .int .i64 5, .slice (some ⟨b1, 0, none⟩) 1 1, .slice (some ⟨b2, 0, none⟩) 1 1, .slice none 0 0] 25)).heap.size → w2.cell? ⟨b, o, none⟩ = (w.alloc (.cells #[.int .i64 1, .int .i64 1, .int .i64 5, .slice (some ⟨b1, 0, none⟩) 1 1, .slice (some ⟨b2, 0, none⟩) 1 1, .slice none 0 0] 25)).cell? ⟨b, o, none⟩) ∧ (∀ b o, b < (w.alloc (.cells #[.int .i64 1, .int .i64 1, .int .i64 5, .slice (some ⟨b1, 0, none⟩) 1 1, .slice (some ⟨b2, 0, none⟩) 1 1, .slice none 0 0] 25)).heap.size → w2.frozen? ⟨b, o, none⟩ = (w.alloc (.cells #[.int .i64 1, .int .i64 1, .int .i64 5, .slice (some ⟨b1, 0, none⟩) 1 1, .slice (some ⟨b2, 0, none⟩) 1 1, .slice none 0 0] 25)).frozen? ⟨b, o, none⟩))
  clear hb2 g1 g2
  go_wp2_with fail
  refine I1.out.mono ?_; rintro e w3 ⟨rfl, hb3⟩
  go_wp2
  go_ret
  exact ⟨rfl, bl_tr bl hb3⟩
end Go.Proofs.YtjlaankgfpjeeaaDoor.ip

/-
  What inst.Check and what it calls answer of every problem whose lists lie in memory.
-/
namespace Go.Proofs.YtjlaankgfpjeeaaDoor.ip
open Go.RowKit
set_option linter.unusedVariables false

def num (n : Int) : Int := if n < 0 then 1 else if 2147483647 < n then 5 else 0
theorem entry_any (n : Int) (w : World) : Calls Tryd.prog 50 #[.int .i64 n] w fun e w' => e = .returned (.int .i64 (num n)) ∧ w = w' := by
  unfold num
  by_cases h : n < 0
  · rw [if_pos h]
    go_enter Tryd.func50, Tryd.ntmps50
    go_wp2
    go_ret
    exact ⟨rfl, rfl⟩
  · rw [if_neg h]
    by_cases h2 : 2147483647 < n
    · rw [if_pos h2]
      go_enter Tryd.func50, Tryd.ntmps50
      go_wp2
      go_ret
      exact ⟨rfl, rfl⟩
    · rw [if_neg h2]
      go_enter Tryd.func50, Tryd.ntmps50
      go_wp2
      go_ret
      exact ⟨rfl, rfl⟩
attribute [irreducible] num
/-- a list of numbers in memory -/
def Ints (W : World) (a : Option Addr) (l : List Int) : Prop := ∀ j, j < l.length → ∃ b o, a = some ⟨b, o, none⟩ ∧ b < W.heap.size ∧ W.cell? ⟨b, o + j, none⟩ = some (.int .i64 (l[j]?.getD 0))
/-- a list of such lists -/
def Rws (W : World) (a : Option Addr) (l : List (List Int)) : Prop :=
  ∀ j, j < l.length → ∃ b o aj cj, a = some ⟨b, o, none⟩ ∧ b < W.heap.size ∧ W.cell? ⟨b, o + j, none⟩ = some (.slice aj (l[j]?.getD []).length cj) ∧ Ints W aj (l[j]?.getD []) ∧ (l[j]?.getD []).length ≤ 1000
theorem Ints.keep {W W1 : World} {a : Option Addr} {l : List Int} (h : Ints W a l) (hb : Below W.heap.size W W1) : Ints W1 a l := fun j hj => by
  obtain ⟨b, o, h1, h2, h3⟩ := h j hj
  exact ⟨b, o, h1, Nat.lt_of_lt_of_le h2 hb.size, (hb.cell (p := ⟨b, o + j, none⟩) h2).trans h3⟩
theorem Rws.keep {W W1 : World} {a : Option Addr} {l : List (List Int)} (h : Rws W a l) (hb : Below W.heap.size W W1) : Rws W1 a l := fun j hj => by
  obtain ⟨b, o, aj, cj, h1, h2, h3, h4, h5⟩ := h j hj
  exact ⟨b, o, aj, cj, h1, Nat.lt_of_lt_of_le h2 hb.size, (hb.cell (p := ⟨b, o + j, none⟩) h2).trans h3, h4.keep hb, h5⟩
def itemsE : List Int → List Int → Int
  | x :: xs, y :: ys => if num x = 0 then (if num y = 0 then itemsE xs ys else num y) else num x
  | _, _ => 0
theorem drop_get {l : List Int} {k : Nat} (h : k < l.length) : l.drop k = l[k]?.getD 0 :: l.drop (k + 1) := by
  rw [List.drop_eq_getElem_cons h, List.getElem?_eq_getElem h]; rfl
theorem drop_row {l : List (List Int)} {k : Nat} (h : k < l.length) : l.drop k = l[k]?.getD [] :: l.drop (k + 1) := by
  rw [List.drop_eq_getElem_cons h, List.getElem?_eq_getElem h]; rfl
theorem itemsE_at {xs ys : List Int} {k : Nat} (hx : k < xs.length) (hy : k < ys.length) : itemsE (xs.drop k) (ys.drop k) = if num (xs[k]?.getD 0) = 0 then (if num (ys[k]?.getD 0) = 0 then itemsE (xs.drop (k + 1)) (ys.drop (k + 1)) else num (ys[k]?.getD 0)) else num (xs[k]?.getD 0) := by
  rw [drop_get hx, drop_get hy]; rfl
theorem itemsE_end {xs ys : List Int} {k : Nat} (hx : xs.length ≤ k) : itemsE (xs.drop k) (ys.drop k) = 0 := by
  rw [List.drop_eq_nil_of_le hx]; unfold itemsE; rfl
attribute [irreducible] itemsE
theorem ret_i {a b : Int} (h : a = b) : Ending.returned (.int .i64 a) = .returned (.int .i64 b) := by rw [h]
set_option maxHeartbeats 1000000 in
theorem items_any (K N C : Int) (wl vl : List Int) (wa va ca : Option Addr) (wc vc cn cc : Nat) (w : World) (hw : Ints w wa wl) (hv : Ints w va vl) (hlen : vl.length = wl.length) (hl : wl.length ≤ 1000) :
    Calls Tryd.prog 30 #[.agg #[.int .i64 K, .int .i64 N, .int .i64 C, .slice wa wl.length wc, .slice va vl.length vc, .slice ca cn cc]] w
      fun e w' => e = .returned (.int .i64 (if num C = 0 then itemsE wl vl else num C)) ∧ Below w.heap.size w w' := by
  have EC := Lib.hid (fun W => entry_any C W)
  have HW := Lib.hid hw
  have HV := Lib.hid hv
  clear hw hv
  rw [hlen]
  by_cases hC : num C = 0
  · rw [if_pos hC]
    go_enter Tryd.func30, Tryd.ntmps30
    go_wp2_with fail
    refine (EC.out _).mono ?_; rintro e w1 ⟨rfl, rfl⟩
    go_wp2
    go_loop [17] (fun i => ∃ k : Nat, k ≤ wl.length ∧ i = .int .i64 k ∧ Hid (itemsE wl vl = itemsE (wl.drop k) (vl.drop k))) (fun i => wl.length - (intOf i).toNat)
    case atStart => exact ⟨0, by omega, rfl, rfl⟩
    case round =>
      obtain ⟨k, hk, rfl, HE⟩ := hrel
      by_cases hlt : k < wl.length
      · obtain ⟨b, o, rfl, hb, hc⟩ := HW.out k hlt
        obtain ⟨b2, o2, rfl, hb2, hc2⟩ := HV.out k (by omega)
        have hit := Lib.hid (itemsE_at hlt (show k < vl.length by omega))
        generalize wl[k]?.getD 0 = x at *
        generalize vl[k]?.getD 0 = y at *
        have EX := Lib.hid (fun W => entry_any x W)
        have EY := Lib.hid (fun W => entry_any y W)
        by_cases hx : num x = 0
        · by_cases hy : num y = 0
          · go_wp2_with fail
            refine (EX.out _).mono ?_; rintro e w1 ⟨rfl, rfl⟩
            go_wp2_with fail
            refine (EY.out _).mono ?_; rintro e w1 ⟨rfl, rfl⟩
            go_wp2
            go_round
            case rel => exact ⟨k + 1, by omega, by go_num, HE.out.trans (hit.out.trans (by rw [if_pos hx, if_pos hy]))⟩
            case measure => simp [intOf]; omega
          · go_wp2_with fail
            refine (EX.out _).mono ?_; rintro e w1 ⟨rfl, rfl⟩
            go_wp2_with fail
            refine (EY.out _).mono ?_; rintro e w1 ⟨rfl, rfl⟩
            go_wp2
            go_ret
            exact ⟨ret_i (HE.out.trans (hit.out.trans (by rw [if_pos hx, if_neg hy]))).symm, bl_al (Below.refl _ _) _⟩
        · go_wp2_with fail
          refine (EX.out _).mono ?_; rintro e w1 ⟨rfl, rfl⟩
          go_wp2
          go_ret
          exact ⟨ret_i (HE.out.trans (hit.out.trans (by rw [if_neg hx]))).symm, bl_al (Below.refl _ _) _⟩
      · go_wp2
        go_ret
        exact ⟨ret_i (HE.out.trans (itemsE_end (by omega))).symm, bl_al (Below.refl _ _) _⟩
  · rw [if_neg hC]
    go_enter Tryd.func30, Tryd.ntmps30
    go_wp2_with fail
    refine (EC.out _).mono ?_; rintro e w1 ⟨rfl, rfl⟩
    go_wp2
    go_ret
    exact ⟨rfl, bl_al (Below.refl _ _) _⟩
end Go.Proofs.YtjlaankgfpjeeaaDoor.ip

/-
  What inst.checkCosts and inst.inForm answer of every problem whose lists lie in memory.
-/
namespace Go.Proofs.YtjlaankgfpjeeaaDoor.ip
open Go.RowKit
set_option linter.unusedVariables false

def rowE (K : Int) (a b : Nat) : List Int → Int
  | [] => 0
  | x :: xs => if num x = 0 then (if K = 3 ∧ a = b ∧ x ≠ 0 then 8 else rowE K a (b + 1) xs) else num x
def costE (K : Int) (a : Nat) : List (List Int) → Int
  | [] => 0
  | r :: rs => if rowE K a 0 r = 0 then costE K (a + 1) rs else rowE K a 0 r
theorem rowE_at (K : Int) (a : Nat) {l : List Int} {k : Nat} (h : k < l.length) : rowE K a k (l.drop k) = if num (l[k]?.getD 0) = 0 then (if K = 3 ∧ a = k ∧ l[k]?.getD 0 ≠ 0 then 8 else rowE K a (k + 1) (l.drop (k + 1))) else num (l[k]?.getD 0) := by
  rw [drop_get h]; rfl
theorem rowE_end (K : Int) (a : Nat) {l : List Int} {k : Nat} (h : l.length ≤ k) : rowE K a k (l.drop k) = 0 := by rw [List.drop_eq_nil_of_le h]; rfl
theorem costE_at (K : Int) {l : List (List Int)} {k : Nat} (h : k < l.length) : costE K k (l.drop k) = if rowE K k 0 (l[k]?.getD []) = 0 then costE K (k + 1) (l.drop (k + 1)) else rowE K k 0 (l[k]?.getD []) := by
  rw [drop_row h]; rfl
theorem costE_end (K : Int) {l : List (List Int)} {k : Nat} (h : l.length ≤ k) : costE K k (l.drop k) = 0 := by rw [List.drop_eq_nil_of_le h]; rfl
attribute [irreducible] rowE costE
set_option maxHeartbeats 2000000 in
theorem costs_any (K N C : Int) (cl : List (List Int)) (wa va ca : Option Addr) (wn vn wc vc cc : Nat) (w : World) (hr : Rws w ca cl) (hl : cl.length ≤ 1000) :
    Calls Tryd.prog 31 #[.agg #[.int .i64 K, .int .i64 N, .int .i64 C, .slice wa wn wc, .slice va vn vc, .slice ca cl.length cc]] w
      fun e w' => e = .returned (.int .i64 (costE K 0 cl)) ∧ Below w.heap.size w w' := by
  have HR := Lib.hid hr
  clear hr
  go_enter Tryd.func31, Tryd.ntmps31
  go_wp2
  go_loop [11] (fun i => ∃ k : Nat, k ≤ cl.length ∧ i = .int .i64 k ∧ Hid (costE K 0 cl = costE K k (cl.drop k))) (fun i => cl.length - (intOf i).toNat)
  case atStart => exact ⟨0, by omega, rfl, rfl⟩
  case round =>
    obtain ⟨k, hk, rfl, HE⟩ := hrel
    by_cases hlt : k < cl.length
    · obtain ⟨b, o, aj, cj, rfl, hb, hc, hrow, hrl⟩ := HR.out k hlt
      have hit := Lib.hid (costE_at K hlt)
      generalize cl[k]?.getD [] = row at *
      have HI := Lib.hid hrow
      clear hrow
      go_wp2
      go_loop [18] (fun i => ∃ j : Nat, j ≤ row.length ∧ i = .int .i64 j ∧ Hid (rowE K k 0 row = rowE K k j (row.drop j))) (fun i => row.length - (intOf i).toNat)
      case atStart => exact ⟨0, by omega, rfl, rfl⟩
      case round =>
        obtain ⟨j, hj, rfl, HJ⟩ := hrel
        by_cases hltj : j < row.length
        · obtain ⟨b2, o2, rfl, hb2, hc2⟩ := HI.out j hltj
          have hitj := Lib.hid (rowE_at K k hltj)
          generalize row[j]?.getD 0 = x at *
          have EX := Lib.hid (fun W => entry_any x W)
          by_cases hx : num x = 0
          · by_cases h8 : K = 3 ∧ k = j ∧ x ≠ 0
            · have HF := Lib.hid (show costE K 0 cl = 8 from HE.out.trans (hit.out.trans (by
                have e : rowE K k 0 row = 8 := HJ.out.trans (hitj.out.trans (by rw [if_pos hx, if_pos h8]))
                rw [e]; simp)))
              obtain ⟨rfl, rfl, hx0⟩ := h8
              go_wp2_with fail
              refine (EX.out _).mono ?_; rintro e w1 ⟨rfl, rfl⟩
              go_wp2
              go_ret
              exact ⟨ret_i HF.out.symm, bl_al (Below.refl _ _) _⟩
            · have HF := Lib.hid (show rowE K k 0 row = rowE K k (j + 1) (row.drop (j + 1)) from HJ.out.trans (hitj.out.trans (by rw [if_pos hx, if_neg h8])))
              have h8' : (K ≠ 3) ∨ (K = 3 ∧ k ≠ j) ∨ (K = 3 ∧ k = j ∧ x = 0) := by
                by_cases h1 : K = 3
                · by_cases h2 : k = j
                  · by_cases h3 : x = 0
                    · exact Or.inr (Or.inr ⟨h1, h2, h3⟩)
                    · exact absurd ⟨h1, h2, h3⟩ h8
                  · exact Or.inr (Or.inl ⟨h1, h2⟩)
                · exact Or.inl h1
              clear h8
              rcases h8' with h8 | ⟨rfl, h8⟩ | ⟨rfl, rfl, rfl⟩
              all_goals
                go_wp2_with fail
                refine (EX.out _).mono ?_; rintro e w1 ⟨rfl, rfl⟩
                go_wp2
                all_goals
                  go_round
                  case rel => exact ⟨_, by omega, by go_num, HF⟩
                  case measure => simp [intOf]; omega
          · have HF := Lib.hid (show costE K 0 cl = num x from HE.out.trans (hit.out.trans (by
              have e : rowE K k 0 row = num x := HJ.out.trans (hitj.out.trans (by rw [if_neg hx]))
              rw [e, if_neg hx])))
            go_wp2_with fail
            refine (EX.out _).mono ?_; rintro e w1 ⟨rfl, rfl⟩
            go_wp2
            go_ret
            exact ⟨ret_i HF.out.symm, bl_al (Below.refl _ _) _⟩
        · have HF := Lib.hid (show costE K 0 cl = costE K (k + 1) (cl.drop (k + 1)) from HE.out.trans (hit.out.trans (by
            have e : rowE K k 0 row = 0 := HJ.out.trans (rowE_end K k (by omega))
            rw [e, if_pos rfl])))
          go_wp2
          go_round
          case rel => exact ⟨k + 1, by omega, by go_num, HF⟩
          case measure => simp [intOf]; omega
    · go_wp2
      go_ret
      exact ⟨ret_i (HE.out.trans (costE_end K (by omega))).symm, bl_al (Below.refl _ _) _⟩
end Go.Proofs.YtjlaankgfpjeeaaDoor.ip

/-
  What inst.inForm and inst.Check answer of every problem whose lists lie in memory.
-/
namespace Go.Proofs.YtjlaankgfpjeeaaDoor.ip
open Go.RowKit
set_option linter.unusedVariables false

def rowsP (cl : List (List Int)) : Prop := ∀ j, j < cl.length → (cl[j]?.getD []).length = cl.length
def formP (K N C : Int) (wn vn : Nat) (cl : List (List Int)) : Prop :=
  (K = 1 ∧ (wn : Int) = N ∧ (vn : Int) = N ∧ cl.length = 0) ∨ (K ≠ 1 ∧ (cl.length : Int) = N ∧ C = 0 ∧ wn = 0 ∧ vn = 0 ∧ rowsP cl)
set_option maxHeartbeats 1000000 in
theorem inform_rows (K : Int) (hK : K ≠ 1) (b : Bool) (cl : List (List Int)) (hb : b = true ↔ rowsP cl) (wa va ca : Option Addr) (wc vc cc : Nat) (w : World) (hr : Rws w ca cl) (hl : cl.length ≤ 1000) :
    Calls Tryd.prog 29 #[.agg #[.int .i64 K, .int .i64 cl.length, .int .i64 0, .slice wa 0 wc, .slice va 0 vc, .slice ca cl.length cc]] w
      fun e w' => e = .returned (.bool b) ∧ Below w.heap.size w w' := by
  have HR := Lib.hid hr
  have HB := Lib.hid hb
  clear hr hb
  go_enter Tryd.func29, Tryd.ntmps29
  go_wp2
  go_loop [54] (fun i => ∃ k : Nat, k ≤ cl.length ∧ i = .int .i64 k ∧ Hid (∀ j, j < k → (cl[j]?.getD []).length = cl.length)) (fun i => cl.length - (intOf i).toNat)
  case atStart => exact ⟨0, by omega, rfl, fun j hj => absurd hj (by omega)⟩
  case round =>
    obtain ⟨k, hk, rfl, HE⟩ := hrel
    by_cases hlt : k < cl.length
    · obtain ⟨b1, o, aj, cj, rfl, hb1, hc, hrow, hrl⟩ := HR.out k hlt
      have hg : ∃ g, cl[k]?.getD [] = g := ⟨_, rfl⟩
      obtain ⟨row, hrw⟩ := hg
      have HG := Lib.hid hrw
      rw [hrw] at hc hrow hrl
      clear hrw hrow
      by_cases he : row.length = cl.length
      · have HF : Hid (∀ j, j < k + 1 → (cl[j]?.getD []).length = cl.length) := fun j hj => by
          rcases Nat.lt_or_ge j k with h | h
          · exact HE.out j h
          · obtain rfl : j = k := by omega
            rw [HG.out]; exact he
        go_wp2
        go_round
        case rel => exact ⟨k + 1, by omega, by go_num, HF⟩
        case measure => simp [intOf]; omega
      · have hbf : b = false := by
          cases b
          · rfl
          · exact absurd (HB.out.1 rfl k hlt) (by rw [HG.out]; exact he)
        subst hbf
        have he' : ¬ (row.length : Int) = (cl.length : Int) := by omega
        go_wp2
        go_ret
        exact ⟨rfl, bl_al (Below.refl _ _) _⟩
    · have hbt : b = true := HB.out.2 (fun j hj => HE.out j (by omega))
      subst hbt
      go_wp2
      go_ret
      exact ⟨rfl, bl_al (Below.refl _ _) _⟩
set_option maxHeartbeats 1000000 in
theorem inform_any (K N C : Int) (b : Bool) (wn vn : Nat) (cl : List (List Int)) (hb : b = true ↔ formP K N C wn vn cl) (wa va ca : Option Addr) (wc vc cc : Nat) (w : World) (hr : Rws w ca cl) (hl : cl.length ≤ 1000) :
    Calls Tryd.prog 29 #[.agg #[.int .i64 K, .int .i64 N, .int .i64 C, .slice wa wn wc, .slice va vn vc, .slice ca cl.length cc]] w
      fun e w' => e = .returned (.bool b) ∧ Below w.heap.size w w' := by
  by_cases hK : K = 1
  · subst hK
    by_cases h1 : (wn : Int) = N
    · subst h1
      by_cases h2 : vn = wn
      · subst h2
        by_cases h3 : cl.length = 0
        · have hbt : b = true := hb.2 (Or.inl ⟨rfl, rfl, rfl, h3⟩)
          subst hbt
          rw [h3]
          clear hb hr hl
          go_enter Tryd.func29, Tryd.ntmps29
          go_wp2
          go_ret
          exact ⟨rfl, bl_al (Below.refl _ _) _⟩
        · have hbf : b = false := by
            cases b
            · rfl
            · rcases hb.1 rfl with h | h
              · exact absurd h.2.2.2 h3
              · exact absurd rfl h.1
          subst hbf
          generalize cl.length = m at *
          have h3' : ((m : Int) == 0) = false := by simp; omega
          clear hb hr hl
          go_enter Tryd.func29, Tryd.ntmps29
          go_wp2
          go_ret
          exact ⟨rfl, bl_al (Below.refl _ _) _⟩
      · have hbf : b = false := by
          cases b
          · rfl
          · rcases hb.1 rfl with h | h
            · exact absurd h.2.2.1 (by omega)
            · exact absurd rfl h.1
        subst hbf
        have h2' : ¬ (vn : Int) = (wn : Int) := by omega
        clear hb hr hl
        go_enter Tryd.func29, Tryd.ntmps29
        go_wp2
        go_ret
        exact ⟨rfl, bl_al (Below.refl _ _) _⟩
    · have hbf : b = false := by
        cases b
        · rfl
        · rcases hb.1 rfl with h | h
          · exact absurd h.2.1 h1
          · exact absurd rfl h.1
      subst hbf
      clear hb hr hl
      go_enter Tryd.func29, Tryd.ntmps29
      go_wp2
      go_ret
      exact ⟨rfl, bl_al (Below.refl _ _) _⟩
  · by_cases h1 : (cl.length : Int) = N
    · subst h1
      by_cases h2 : C = 0
      · subst h2
        by_cases h3 : wn = 0
        · subst h3
          by_cases h4 : vn = 0
          · subst h4
            exact inform_rows K hK b cl (hb.trans ⟨fun h => by
              rcases h with h | h
              · exact absurd h.1 hK
              · exact h.2.2.2.2.2, fun h => Or.inr ⟨hK, rfl, rfl, rfl, rfl, h⟩⟩) wa va ca wc vc cc w hr hl
          · have hbf : b = false := by
              cases b
              · rfl
              · rcases hb.1 rfl with h | h
                · exact absurd h.1 hK
                · exact absurd h.2.2.2.2.1 h4
            subst hbf
            have h4' : ¬ (vn : Int) = 0 := by omega
            clear hb hr hl
            go_enter Tryd.func29, Tryd.ntmps29
            go_wp2
            go_ret
            exact ⟨rfl, bl_al (Below.refl _ _) _⟩
        · have hbf : b = false := by
            cases b
            · rfl
            · rcases hb.1 rfl with h | h
              · exact absurd h.1 hK
              · exact absurd h.2.2.2.1 h3
          subst hbf
          have h3' : ¬ (wn : Int) = 0 := by omega
          clear hb hr hl
          go_enter Tryd.func29, Tryd.ntmps29
          go_wp2
          go_ret
          exact ⟨rfl, bl_al (Below.refl _ _) _⟩
      · have hbf : b = false := by
          cases b
          · rfl
          · rcases hb.1 rfl with h | h
            · exact absurd h.1 hK
            · exact absurd h.2.2.1 h2
        subst hbf
        clear hb hr hl
        go_enter Tryd.func29, Tryd.ntmps29
        go_wp2
        go_ret
        exact ⟨rfl, bl_al (Below.refl _ _) _⟩
    · have hbf : b = false := by
        cases b
        · rfl
        · rcases hb.1 rfl with h | h
          · exact absurd h.1 hK
          · exact absurd h.2.1 h1
      subst hbf
      clear hb hr hl
      go_enter Tryd.func29, Tryd.ntmps29
      go_wp2
      go_ret
      exact ⟨rfl, bl_al (Below.refl _ _) _⟩
attribute [irreducible] formP
end Go.Proofs.YtjlaankgfpjeeaaDoor.ip

/-
  What inst.Check answers of every problem whose lists lie in memory.
-/
namespace Go.Proofs.YtjlaankgfpjeeaaDoor.ip
open Go.RowKit
set_option linter.unusedVariables false

open Classical in
/-- the first thing that is wrong with a problem, 0: nothing -/
noncomputable def chk (K N C : Int) (wl vl : List Int) (cl : List (List Int)) : Int :=
  if K < 1 ∨ 3 < K then 14 else if N < 1 then 1 else if (K = 1 ∧ 64 < N) ∨ (K ≠ 1 ∧ 24 < N) then 5 else if ¬ formP K N C wl.length vl.length cl then 8
  else if K = 1 then (if num C = 0 then itemsE wl vl else num C) else costE K 0 cl
theorem chk_kind {K N C : Int} {wl vl : List Int} {cl : List (List Int)} (h : K < 1 ∨ 3 < K) : chk K N C wl vl cl = 14 := by unfold chk; rw [if_pos h]
theorem chk_arg {K N C : Int} {wl vl : List Int} {cl : List (List Int)} (h : ¬ (K < 1 ∨ 3 < K)) (h1 : N < 1) : chk K N C wl vl cl = 1 := by unfold chk; rw [if_neg h, if_pos h1]
theorem chk_big {K N C : Int} {wl vl : List Int} {cl : List (List Int)} (h : ¬ (K < 1 ∨ 3 < K)) (h1 : ¬ N < 1) (h2 : (K = 1 ∧ 64 < N) ∨ (K ≠ 1 ∧ 24 < N)) : chk K N C wl vl cl = 5 := by unfold chk; rw [if_neg h, if_neg h1, if_pos h2]
theorem chk_form {K N C : Int} {wl vl : List Int} {cl : List (List Int)} (h : ¬ (K < 1 ∨ 3 < K)) (h1 : ¬ N < 1) (h2 : ¬ ((K = 1 ∧ 64 < N) ∨ (K ≠ 1 ∧ 24 < N))) (h3 : ¬ formP K N C wl.length vl.length cl) : chk K N C wl vl cl = 8 := by
  unfold chk; rw [if_neg h, if_neg h1, if_neg h2, if_pos h3]
theorem chk_items {K N C : Int} {wl vl : List Int} {cl : List (List Int)} (h : ¬ (K < 1 ∨ 3 < K)) (h1 : ¬ N < 1) (h2 : ¬ ((K = 1 ∧ 64 < N) ∨ (K ≠ 1 ∧ 24 < N))) (h3 : formP K N C wl.length vl.length cl) (h4 : K = 1) : chk K N C wl vl cl = if num C = 0 then itemsE wl vl else num C := by
  unfold chk; rw [if_neg h, if_neg h1, if_neg h2, if_neg (by simpa using h3), if_pos h4]
theorem chk_costs {K N C : Int} {wl vl : List Int} {cl : List (List Int)} (h : ¬ (K < 1 ∨ 3 < K)) (h1 : ¬ N < 1) (h2 : ¬ ((K = 1 ∧ 64 < N) ∨ (K ≠ 1 ∧ 24 < N))) (h3 : formP K N C wl.length vl.length cl) (h4 : ¬ K = 1) : chk K N C wl vl cl = costE K 0 cl := by
  unfold chk; rw [if_neg h, if_neg h1, if_neg h2, if_neg (by simpa using h3), if_neg h4]
theorem form_items {K N C : Int} {wn vn : Nat} {cl : List (List Int)} (h : formP K N C wn vn cl) (h4 : K = 1) : (wn : Int) = N ∧ (vn : Int) = N ∧ cl.length = 0 := by
  unfold formP at h
  rcases h with h | h
  · exact h.2
  · exact absurd h4 h.1
theorem form_costs {K N C : Int} {wn vn : Nat} {cl : List (List Int)} (h : formP K N C wn vn cl) (h4 : K ≠ 1) : (cl.length : Int) = N ∧ C = 0 ∧ wn = 0 ∧ vn = 0 ∧ rowsP cl := by
  unfold formP at h
  rcases h with h | h
  · exact absurd h.1 h4
  · exact h.2
attribute [irreducible] chk
theorem box_cells {w w2 : World} {v0 v1 v2 v3 v4 v5 : Value} (hb : Below (w.alloc (.cells #[v0, v1, v2, v3, v4, v5] 25)).heap.size (w.alloc (.cells #[v0, v1, v2, v3, v4, v5] 25)) w2) :
    (w2.cell? ⟨w.heap.size, 0, none⟩ = some v0 ∧ w2.cell? ⟨w.heap.size, 1, none⟩ = some v1 ∧ w2.cell? ⟨w.heap.size, 2, none⟩ = some v2 ∧ w2.cell? ⟨w.heap.size, 3, none⟩ = some v3 ∧ w2.cell? ⟨w.heap.size, 4, none⟩ = some v4 ∧ w2.cell? ⟨w.heap.size, 5, none⟩ = some v5) ∧ Below w.heap.size w w2 := by
  have q : w2.heap[w.heap.size]? = some (.cells #[v0, v1, v2, v3, v4, v5] 25 (0, 0)) := (hb.block _ (by simp)).trans (heap_alloc_new w _)
  exact ⟨⟨cell_of_row _ _ 0 _ _ _ q, cell_of_row _ _ 1 _ _ _ q, cell_of_row _ _ 2 _ _ _ q, cell_of_row _ _ 3 _ _ _ q, cell_of_row _ _ 4 _ _ _ q, cell_of_row _ _ 5 _ _ _ q⟩, bl_tr (bl_al (Below.refl _ _) _) hb⟩
set_option maxHeartbeats 2000000 in
theorem check_any (K N C : Int) (wl vl : List Int) (cl : List (List Int)) (wa va ca : Option Addr) (wc vc cc : Nat) (w : World) (hw : Ints w wa wl) (hv : Ints w va vl) (hr : Rws w ca cl)
    (l1 : wl.length ≤ 1000) (l2 : vl.length ≤ 1000) (l3 : cl.length ≤ 1000) :
    Calls Tryd.prog 13 #[.agg #[.int .i64 K, .int .i64 N, .int .i64 C, .slice wa wl.length wc, .slice va vl.length vc, .slice ca cl.length cc]] w
      fun e w' => e = .returned (.int .i64 (chk K N C wl vl cl)) ∧ Below w.heap.size w w' := by
  have HN := Lib.hid (fun W => name_any K W)
  have bA : ∀ o, Below w.heap.size w (w.alloc o) := fun o => bl_al (Below.refl _ _) _
  by_cases hK : K < 1 ∨ 3 < K
  · have hs : nameOf K = [] := by unfold nameOf; rw [if_neg (by omega), if_neg (by omega), if_neg (by omega)]
    rw [hs] at HN
    rw [chk_kind hK]
    clear hw hv hr hs
    by_cases h1 : K = 1
    · omega
    · clear hK
      go_enter Tryd.func13, Tryd.ntmps13
      go_wp2_with fail
      refine (HN.out _).mono ?_; rintro e w1 ⟨rfl, rfl⟩
      go_wp2
      go_ret
      exact ⟨rfl, bl_al (Below.refl _ _) _⟩
  · have HK := Lib.hid hK
    by_cases h1 : N < 1
    · rw [chk_arg hK h1]
      clear hw hv hr
      obtain rfl | rfl | rfl : K = 1 ∨ K = 2 ∨ K = 3 := by omega
      all_goals
        clear hK
        go_enter Tryd.func13, Tryd.ntmps13
        go_wp2_with fail
        refine (HN.out _).mono ?_; rintro e w1 ⟨rfl, rfl⟩
        go_wp2
        go_ret
        exact ⟨rfl, bl_al (Below.refl _ _) _⟩
    · by_cases h2 : (K = 1 ∧ 64 < N) ∨ (K ≠ 1 ∧ 24 < N)
      · rw [chk_big hK h1 h2]
        clear hw hv hr
        obtain rfl | rfl | rfl : K = 1 ∨ K = 2 ∨ K = 3 := by omega
        all_goals
          first
            | (have h3 : 64 < N := by omega)
            | (have h3 : 24 < N := by omega)
          clear hK h2
          go_enter Tryd.func13, Tryd.ntmps13
          go_wp2_with fail
          refine (HN.out _).mono ?_; rintro e w1 ⟨rfl, rfl⟩
          go_wp2
          go_ret
          exact ⟨rfl, bl_al (Below.refl _ _) _⟩
      · by_cases h3 : formP K N C wl.length vl.length cl
        · have HF := Lib.hid (fun o => inform_any K N C true wl.length vl.length cl ⟨fun _ => h3, fun _ => rfl⟩ wa va ca wc vc cc (w.alloc o) (hr.keep (bA o)) l3)
          have HW := Lib.hid hw
          have HV := Lib.hid hv
          have HR := Lib.hid hr
          clear hw hv hr
          by_cases h4 : K = 1
          · rw [chk_items hK h1 h2 h3 h4]
            obtain ⟨f1, f2, f3⟩ := form_items h3 h4
            have HI := Lib.hid (fun W (hb : Below w.heap.size w W) => items_any K N C wl vl wa va ca wc vc cl.length cc W (HW.out.keep hb) (HV.out.keep hb) (by omega) l1)
            have b64 : N ≤ 64 := by omega
            clear hK h2 h3 f1 f2 f3 bA
            subst h4
            generalize (if num C = 0 then itemsE wl vl else num C) = r at *
            go_enter Tryd.func13, Tryd.ntmps13
            go_wp2_with fail
            refine (HN.out _).mono ?_; rintro e w1 ⟨rfl, rfl⟩
            go_wp2_with fail
            refine (HF.out _).mono ?_; rintro e w2 ⟨rfl, hb2⟩
            obtain ⟨⟨c0, c1, c2, c3, c4, c5⟩, bl⟩ := box_cells hb2
            have BL := Lib.hid bl
            clear hb2 bl
            go_wp2_with fail
            refine (HI.out _ BL.out).mono ?_; rintro e w3 ⟨rfl, hb3⟩
            clear c0 c1 c2 c3 c4 c5
            go_wp2
            go_ret
            exact ⟨rfl, bl_tr BL.out hb3⟩
          · rw [chk_costs hK h1 h2 h3 h4]
            have HI := Lib.hid (fun W (hb : Below w.heap.size w W) => costs_any K N C cl wa va ca wl.length vl.length wc vc cc W (HR.out.keep hb) l3)
            have b24 : N ≤ 24 := by omega
            clear h2 h3 bA
            generalize hrr : costE K 0 cl = r at *
            clear hrr
            obtain rfl | rfl : K = 2 ∨ K = 3 := by omega
            all_goals
              clear hK h4
              go_enter Tryd.func13, Tryd.ntmps13
              go_wp2_with fail
              refine (HN.out _).mono ?_; rintro e w1 ⟨rfl, rfl⟩
              go_wp2_with fail
              refine (HF.out _).mono ?_; rintro e w2 ⟨rfl, hb2⟩
              obtain ⟨⟨c0, c1, c2, c3, c4, c5⟩, bl⟩ := box_cells hb2
              have BL := Lib.hid bl
              clear hb2 bl
              go_wp2_with fail
              refine (HI.out _ BL.out).mono ?_; rintro e w3 ⟨rfl, hb3⟩
              clear c0 c1 c2 c3 c4 c5
              go_wp2
              go_ret
              exact ⟨rfl, bl_tr BL.out hb3⟩
        · rw [chk_form hK h1 h2 h3]
          have HF := Lib.hid (fun o => inform_any K N C false wl.length vl.length cl ⟨fun h => (by cases h), fun h => absurd h h3⟩ wa va ca wc vc cc (w.alloc o) (hr.keep (bA o)) l3)
          clear hw hv hr h3 bA
          obtain rfl | rfl | rfl : K = 1 ∨ K = 2 ∨ K = 3 := by omega
          all_goals
            first
              | (have b24 : N ≤ 24 := by omega)
              | (have b64 : N ≤ 64 := by omega)
            clear hK h2
            go_enter Tryd.func13, Tryd.ntmps13
            go_wp2_with fail
            refine (HN.out _).mono ?_; rintro e w1 ⟨rfl, rfl⟩
            go_wp2_with fail
            refine (HF.out _).mono ?_; rintro e w2 ⟨rfl, hb2⟩
            obtain ⟨-, bl⟩ := box_cells hb2
            clear hb2
            go_wp2
            go_ret
            exact ⟨rfl, bl⟩
end Go.Proofs.YtjlaankgfpjeeaaDoor.ip

/-
  What the reference's Check answers of every knapsack, and of every problem of no kind, without rows, or too great.
-/
namespace Go.Proofs.YtjlaankgfpjeeaaDoor.ip
open Go.RowKit
set_option linter.unusedVariables false

end Go.Proofs.YtjlaankgfpjeeaaDoor.ip

/-
  What the reference's Check answers of every assignment and tour.
-/
namespace Go.Proofs.YtjlaankgfpjeeaaDoor.ip
open Go.RowKit
set_option linter.unusedVariables false

theorem bl_dn {B : Nat} {a w : World} (h : Below B a w) (n : Nat) : Below B a (w.drewN n) := ⟨h.os, h.tape, h.output, h.size, h.block⟩
end Go.Proofs.YtjlaankgfpjeeaaDoor.ip

/-
  What the reference's cut answers: a list of its own, no longer than seventy.
-/
namespace Go.Proofs.YtjlaankgfpjeeaaDoor.ip
open Go.RowKit
set_option linter.unusedVariables false

theorem info3 : (Tryd.prog.info? 3).map (fun i => (i.zero, i.size, i.bytes)) = some (some (.int .i64 0), 1, 8) := by kernel_rfl
theorem own0 (w : World) : (w.alloc (.cells #[] 3)).ownsRow w.heap.size 3 1 (.slice (some ⟨w.heap.size, 0, none⟩) 0 0) 0 [] := World.ownsRow_lit w #[] 0 (Nat.le_refl _) (by decide) (by decide)
theorem own_form {w : World} {base : Nat} {e : TypeId} {v : Value} {n : Nat} {xs : List Value} (h : w.ownsRow base e 1 v n xs) (hne : ¬ v = .slice none 0 0) : ∃ g cap, v = .slice (some ⟨g, 0, none⟩) n cap := by
  rcases h.2 with ⟨h', _⟩ | ⟨g, cap, cur, hv, _⟩
  · exact absurd h' hne
  · exact ⟨g, cap, hv⟩
theorem cut_nil (w : World) :
    Calls Tryd.prog 20 #[.slice none 0 0] w fun e w' => ∃ g cap, e = .returned (.slice (some ⟨g, 0, none⟩) 0 cap) ∧ Below w.heap.size w w' ∧ w'.ownsRow w.heap.size 3 1 (.slice (some ⟨g, 0, none⟩) 0 cap) 0 [] := by
  go_enter Tryd.func20, Tryd.ntmps20
  go_wp2
  go_ret
  exact ⟨_, _, rfl, bl_al (Below.refl _ _) _, own0 w⟩
set_option maxHeartbeats 1000000 in
theorem cut_zero (x : Addr) (c : Nat) (w : World) (hc63 : c ≤ 9223372036854775807) :
    Calls Tryd.prog 20 #[.slice (some x) 0 c] w fun e w' => ∃ g cap, e = .returned (.slice (some ⟨g, 0, none⟩) 0 cap) ∧ Below w.heap.size w w' ∧ w'.ownsRow w.heap.size 3 1 (.slice (some ⟨g, 0, none⟩) 0 cap) 0 [] := by
  obtain ⟨i0, hi, hz0, hz1, hz2⟩ := info_parts info3
  have ho := own0 w
  go_enter Tryd.func20, Tryd.ntmps20
  go_wp2_with (at_builtin; refine wpList_append_own _ rfl _ _ 22 rfl w.heap.size 3 i0 (.int .i64 0) 1 8 Tryd.underlying22 hi hz0 hz1 hz2 rfl (by decide) _ _ _ rfl ho x 0 c [] rfl rfl (fun j u h => by simp at h) (by simp) (by decide) (by decide) (by simp) ?_)
  intro v' w1 hown hgrow hne
  obtain ⟨g, cap, rfl⟩ := own_form hown (by simpa using hne)
  have hb : Below w.heap.size w w1 := (bl_al (Below.refl _ _) _).grown hgrow (by simp) (fun j hj => by simp [Value.ownBlock] at hj; omega)
  clear hgrow
  go_wp2
  go_ret
  exact ⟨g, cap, rfl, hb, hown⟩
set_option maxHeartbeats 1000000 in
theorem cut_some (b o n c m : Nat) (l : List Int) (w : World) (hm : l.length = m) (hn : (n ≤ 70 ∧ m = n) ∨ (70 < n ∧ m = 70)) (hnc : n ≤ c) (hc63 : c ≤ 9223372036854775807) (hbw : b < w.heap.size) (hI : ∀ j, j < l.length → w.cell? ⟨b, o + j, none⟩ = some (.int .i64 (l[j]?.getD 0))) :
    Calls Tryd.prog 20 #[.slice (some ⟨b, o, none⟩) n c] w fun e w' => ∃ g cap, e = .returned (.slice (some ⟨g, 0, none⟩) m cap) ∧ Below w.heap.size w w' ∧ w'.ownsRow w.heap.size 3 1 (.slice (some ⟨g, 0, none⟩) m cap) m (l.map (Value.int .i64)) := by
  obtain ⟨i0, hi, hz0, hz1, hz2⟩ := info_parts info3
  have ho := own0 w
  have HN : ∀ j u, (l.map (Value.int .i64))[j]? = some u → (w.alloc (.cells #[] 3)).cell? ((⟨b, o, none⟩ : Addr).add j) = some u := fun j u hj => by
    rw [List.getElem?_map] at hj
    have hlt : j < l.length := by
      rcases Nat.lt_or_ge j l.length with h | h
      · exact h
      · rw [List.getElem?_eq_none h] at hj; cases hj
    have h := (((Below.refl _ w).alloc (Nat.le_refl _) (.cells #[] 3)).cell (p := ⟨b, o + j, none⟩) hbw).trans (hI j hlt)
    rw [List.getElem?_eq_getElem hlt] at hj h
    simp at hj
    rw [← hj]
    simp only [Option.getD_some] at h
    have e : (⟨b, o, none⟩ : Addr).add j = ⟨b, o + j, none⟩ := by
      unfold Addr.add
      split <;> simp_all
    rw [e]
    exact h
  have HNh := Lib.hid HN
  clear HN hI
  have hl70 : m ≤ 70 := by omega
  have hlc : m ≤ c := by omega
  rcases hn with ⟨h70, rfl⟩ | ⟨h70, rfl⟩
  all_goals
    go_enter Tryd.func20, Tryd.ntmps20
    go_wp2_with (at_builtin; refine wpList_append_own _ rfl _ _ 22 rfl w.heap.size 3 i0 (.int .i64 0) 1 8 Tryd.underlying22 hi hz0 hz1 hz2 rfl (by decide) _ _ _ rfl ho ⟨b, o, none⟩ _ c (l.map (Value.int .i64)) rfl (by simp [hm]) HNh.out (by simp [Value.oneCell']) (by unfold maxLen; omega) (by omega) (by simp) ?_)
  all_goals
    intro v' w1 hown hgrow hne
    obtain ⟨g, cap, rfl⟩ := own_form hown hne
    have hb : Below w.heap.size w w1 := (bl_al (Below.refl _ _) _).grown hgrow (by simp) (fun j hj => by simp [Value.ownBlock] at hj; omega)
    clear hgrow
    go_wp2
    go_ret
    exact ⟨g, cap, rfl, hb, hown⟩
end Go.Proofs.YtjlaankgfpjeeaaDoor.ip

/-
  What the reference's Copy answers: what it reads, and the words for it.
-/
namespace Go.Proofs.YtjlaankgfpjeeaaDoor.ip
open Go.RowKit
set_option linter.unusedVariables false

/-- a list to be copied: its first seventy numbers are l -/
def Src (W : World) (a : Option Addr) (n c : Nat) (l : List Int) : Prop :=
  l.length = min n 70 ∧ n ≤ c ∧ c ≤ 9223372036854775807 ∧ ((n = 0 ∧ (a = none → c = 0)) ∨ ∃ b o, a = some ⟨b, o, none⟩ ∧ b < W.heap.size ∧ ∀ j, j < l.length → W.cell? ⟨b, o + j, none⟩ = some (.int .i64 (l[j]?.getD 0)))
theorem Src.keep {W W1 : World} {a : Option Addr} {n c : Nat} {l : List Int} (h : Src W a n c l) (hb : Below W.heap.size W W1) : Src W1 a n c l := by
  obtain ⟨h1, h2, h3, h4⟩ := h
  refine ⟨h1, h2, h3, ?_⟩
  rcases h4 with h4 | ⟨b, o, e, hlt, hc⟩
  · exact Or.inl h4
  · exact Or.inr ⟨b, o, e, Nat.lt_of_lt_of_le hlt hb.size, fun j hj => (hb.cell (p := ⟨b, o + j, none⟩) hlt).trans (hc j hj)⟩
/-- a list of numbers in a block of its own -/
def IntsO (W : World) (g : Nat) (l : List Int) : Prop := ∃ cur : Array Value, W.heap[g]? = some (.cells cur 3 (0, 0)) ∧ ∀ j, j < l.length → cur[j]? = some (.int .i64 (l[j]?.getD 0))
theorem IntsO.same {W W1 : World} {g : Nat} {l : List Int} (h : IntsO W g l) (he : W1.heap[g]? = W.heap[g]?) : IntsO W1 g l := by
  obtain ⟨cur, h1, h2⟩ := h
  exact ⟨cur, he.trans h1, h2⟩
theorem lt_hp {w : World} {k : Nat} {o : Obj} (h : w.heap[k]? = some o) : k < w.heap.size := by
  rcases Nat.lt_or_ge k w.heap.size with hlt | hge
  · exact hlt
  · rw [Array.getElem?_eq_none hge] at h; cases h
theorem IntsO.lt {W : World} {g : Nat} {l : List Int} (h : IntsO W g l) : g < W.heap.size := by
  obtain ⟨cur, h1, h2⟩ := h
  exact lt_hp h1
theorem IntsO.keep {W W1 : World} {g : Nat} {l : List Int} (h : IntsO W g l) (hb : Below W.heap.size W W1) : IntsO W1 g l := h.same (hb.block _ h.lt)
theorem IntsO.ne {W : World} {g b : Nat} {l : List Int} {cs : Array Value} {t : TypeId} (h : IntsO W g l) (hb : W.heap[b]? = some (.cells cs t (0, 0))) (ht : t ≠ 3) : g ≠ b := by
  obtain ⟨cur, h1, h2⟩ := h
  rintro rfl
  rw [h1] at hb
  injection hb with hb
  injection hb with _ hb
  exact ht hb.symm
theorem IntsO.ints {W : World} {g : Nat} {l : List Int} (h : IntsO W g l) : Ints W (some ⟨g, 0, none⟩) l := fun j hj => by
  have hl := h.lt
  obtain ⟨cur, h1, h2⟩ := h
  refine ⟨g, 0, rfl, hl, ?_⟩
  rw [Nat.zero_add, cell_of_row _ _ _ _ _ _ h1]
  exact h2 j hj
theorem ints_own {W : World} {B g m cap : Nat} {l : List Int} (hl : l.length = m) (h : W.ownsRow B 3 1 (.slice (some ⟨g, 0, none⟩) m cap) m (l.map (Value.int .i64))) : IntsO W g l := by
  have hc := h.cellAt
  rcases h.2 with ⟨h', _⟩ | ⟨g', cap', cur, h', _, hg, _⟩
  · cases h'
  · injection h' with h' _ _
    injection h' with h'
    injection h' with h'
    subst h'
    refine ⟨cur, hg, fun j hj => ?_⟩
    have e := hc j (by omega)
    rw [cell_of_row _ _ _ _ _ _ hg] at e
    rw [e, List.getElem?_map, List.getElem?_eq_getElem hj]
    rfl
/-- a slice's room -/
def CapOK (n c : Nat) : Prop := n ≤ c ∧ c ≤ 9223372036854775807
theorem cap_own {W : World} {B g m cap : Nat} {T : TypeId} {xs : List Value} (h : W.ownsRow B T 1 (.slice (some ⟨g, 0, none⟩) m cap) m xs) : CapOK m cap := by
  rcases h.2 with ⟨h', _⟩ | ⟨g', cap', cur, h', _, hg, h3, h4, _⟩
  · cases h'
  · injection h' with h' h5 h6
    subst h6
    exact ⟨h3, by unfold maxLen at h4; omega⟩
theorem cut_src {W : World} {a : Option Addr} {n c : Nat} {l : List Int} (h : Src W a n c l) :
    Calls Tryd.prog 20 #[.slice a n c] W fun e w' => ∃ g cap, e = .returned (.slice (some ⟨g, 0, none⟩) l.length cap) ∧ Below W.heap.size W w' ∧ IntsO w' g l ∧ W.heap.size ≤ g ∧ CapOK l.length cap := by
  obtain ⟨h1, h2, h3, h4⟩ := h
  rcases h4 with ⟨rfl, h4⟩ | ⟨b, o, rfl, hlt, hc⟩
  · have hl : l = [] := List.eq_nil_of_length_eq_zero (by omega)
    subst hl
    cases a with
    | none =>
      obtain rfl := h4 rfl
      refine (cut_nil W).mono ?_
      rintro e w' ⟨g, cap, he, hb, ho⟩
      exact ⟨g, cap, he, hb, ints_own rfl ho, (ho.lt g rfl).1, cap_own ho⟩
    | some x =>
      refine (cut_zero x c W h3).mono ?_
      rintro e w' ⟨g, cap, he, hb, ho⟩
      exact ⟨g, cap, he, hb, ints_own rfl ho, (ho.lt g rfl).1, cap_own ho⟩
  · refine (cut_some b o n c l.length l W rfl (by omega) h2 h3 hlt hc).mono ?_
    rintro e w' ⟨g, cap, he, hb, ho⟩
    exact ⟨g, cap, he, hb, ints_own rfl ho, (ho.lt g rfl).1, cap_own ho⟩
/-- a list of lists to be copied: the first thirty, the first seventy of each -/
def RSrc (W : World) (a : Option Addr) (n c : Nat) (cl : List (List Int)) : Prop :=
  cl.length = min n 30 ∧ n ≤ c ∧ c ≤ 9223372036854775807 ∧ ((n = 0 ∧ (a = none → c = 0)) ∨ ∃ b o, a = some ⟨b, o, none⟩ ∧ b < W.heap.size ∧ ∀ j, j < cl.length → ∃ aj nj cj, W.cell? ⟨b, o + j, none⟩ = some (.slice aj nj cj) ∧ Src W aj nj cj (cl[j]?.getD []))
theorem RSrc.keep {W W1 : World} {a : Option Addr} {n c : Nat} {cl : List (List Int)} (h : RSrc W a n c cl) (hb : Below W.heap.size W W1) : RSrc W1 a n c cl := by
  obtain ⟨h1, h2, h3, h4⟩ := h
  refine ⟨h1, h2, h3, ?_⟩
  rcases h4 with h4 | ⟨b, o, e, hlt, hc⟩
  · exact Or.inl h4
  · refine Or.inr ⟨b, o, e, Nat.lt_of_lt_of_le hlt hb.size, fun j hj => ?_⟩
    obtain ⟨aj, nj, cj, k1, k2⟩ := hc j hj
    exact ⟨aj, nj, cj, (hb.cell (p := ⟨b, o + j, none⟩) hlt).trans k1, k2.keep hb⟩
/-- lists of numbers in blocks of their own, listed in a block of its own -/
def RwsO (B : Nat) (W : World) (a : Option Addr) (l : List (List Int)) : Prop :=
  ∀ j, j < l.length → ∃ (g : Nat) (cur : Array Value) (g' cj : Nat), a = some ⟨g, 0, none⟩ ∧ W.heap[g]? = some (.cells cur 22 (0, 0)) ∧ cur[j]? = some (.slice (some ⟨g', 0, none⟩) (l[j]?.getD []).length cj) ∧ IntsO W g' (l[j]?.getD []) ∧ (l[j]?.getD []).length ≤ 1000 ∧ B ≤ g' ∧ CapOK (l[j]?.getD []).length cj ∧ B ≤ g
theorem blk_ne {W : World} {a b : Nat} {c1 c2 : Array Value} {t1 t2 : TypeId} (h1 : W.heap[a]? = some (.cells c1 t1 (0, 0))) (h2 : W.heap[b]? = some (.cells c2 t2 (0, 0))) (h : t1 ≠ t2) : a ≠ b := by
  rintro rfl
  rw [h1] at h2
  injection h2 with h2
  injection h2 with _ h2
  exact h h2
theorem RwsO.other {B : Nat} {W W1 : World} {a : Option Addr} {l : List (List Int)} {b : Nat} {cs : Array Value} (h : RwsO B W a l) (hb : W.heap[b]? = some (.cells cs 25 (0, 0))) (he : ∀ k, k ≠ b → W1.heap[k]? = W.heap[k]?) : RwsO B W1 a l := fun j hj => by
  obtain ⟨g, cur, g', cj, e1, e2, e3, e4, e5⟩ := h j hj
  exact ⟨g, cur, g', cj, e1, (he g (blk_ne e2 hb (by decide))).trans e2, e3, e4.same (he g' (e4.ne hb (by decide))), e5⟩
theorem RwsO.keep {B : Nat} {W W1 : World} {a : Option Addr} {l : List (List Int)} (h : RwsO B W a l) (hb : Below W.heap.size W W1) : RwsO B W1 a l := fun j hj => by
  obtain ⟨g, cur, g', cj, e1, e2, e3, e4, e5⟩ := h j hj
  exact ⟨g, cur, g', cj, e1, (hb.block _ (lt_hp e2)).trans e2, e3, e4.keep hb, e5⟩
theorem RwsO.rws {B : Nat} {W : World} {a : Option Addr} {l : List (List Int)} (h : RwsO B W a l) : Rws W a l := fun j hj => by
  obtain ⟨g, cur, g', cj, e1, e2, e3, e4, e5⟩ := h j hj
  refine ⟨g, 0, some ⟨g', 0, none⟩, cj, e1, lt_hp e2, ?_, e4.ints, e5.1⟩
  rw [Nat.zero_add, cell_of_row _ _ _ _ _ _ e2]
  exact e3
theorem IntsO.src {W : World} {g c : Nat} {l : List Int} (h : IntsO W g l) (hl : l.length ≤ 70) (hc : CapOK l.length c) : Src W (some ⟨g, 0, none⟩) l.length c l := by
  obtain ⟨cur, h1, h2⟩ := h
  refine ⟨by omega, hc.1, hc.2, Or.inr ⟨g, 0, rfl, lt_hp h1, fun j hj => ?_⟩⟩
  rw [Nat.zero_add, cell_of_row _ _ _ _ _ _ h1]
  exact h2 j hj
theorem RwsO.rsrc {B : Nat} {W : World} {a : Option Addr} {c : Nat} {l : List (List Int)} (h : RwsO B W a l) (hl : l.length ≤ 30) (hr : ∀ j, j < l.length → (l[j]?.getD []).length ≤ 70) (hc : CapOK l.length c) (h0 : a = none → c = 0) : RSrc W a l.length c l := by
  refine ⟨by omega, hc.1, hc.2, ?_⟩
  by_cases hz : l.length = 0
  · exact Or.inl ⟨hz, h0⟩
  · obtain ⟨g, cur, g', cj, e1, e2, _⟩ := h 0 (by omega)
    refine Or.inr ⟨g, 0, e1, lt_hp e2, fun j hj => ?_⟩
    obtain ⟨gj, curj, g'', cj', d1, d2, d3, d4, d5⟩ := h j hj
    rw [e1] at d1
    injection d1 with d1; injection d1 with d1; subst d1
    rw [e2] at d2
    injection d2 with d2; injection d2 with d2; subst d2
    refine ⟨some ⟨g'', 0, none⟩, (l[j]?.getD []).length, cj', ?_, d4.src (hr j hj) d5.2.2.1⟩
    rw [Nat.zero_add, cell_of_row _ _ _ _ _ _ e2]
    exact d3
theorem box6 {W : World} {b : Nat} {v0 v1 v2 v3 v4 v5 : Value} (q : W.heap[b]? = some (.cells #[v0, v1, v2, v3, v4, v5] 25 (0, 0))) :
    W.cell? ⟨b, 0, none⟩ = some v0 ∧ W.cell? ⟨b, 1, none⟩ = some v1 ∧ W.cell? ⟨b, 2, none⟩ = some v2 ∧ W.cell? ⟨b, 3, none⟩ = some v3 ∧ W.cell? ⟨b, 4, none⟩ = some v4 ∧ W.cell? ⟨b, 5, none⟩ = some v5 :=
  ⟨cell_of_row _ _ 0 _ _ _ q, cell_of_row _ _ 1 _ _ _ q, cell_of_row _ _ 2 _ _ _ q, cell_of_row _ _ 3 _ _ _ q, cell_of_row _ _ 4 _ _ _ q, cell_of_row _ _ 5 _ _ _ q⟩
theorem fr6 {W : World} {b : Nat} {cs : Array Value} (q : W.heap[b]? = some (.cells cs 25 (0, 0))) : ∀ j, W.frozen? ⟨b, j, none⟩ = false := fun j => frozen_of_row _ _ _ _ _ q
theorem six {w : World} {g : Nat} {u0 u1 u2 u3 u4 u5 : Value} (h : w.heap[g]? = some (.cells #[u0, u1, u2, u3, u4, u5] 25 (0, 0))) (v0 v1 v2 v3 v4 v5 : Value) :
    ((((((w.setCell ⟨g, 0, none⟩ (v0)).setCell ⟨g, 1, none⟩ (v1)).setCell ⟨g, 2, none⟩ (v2)).setCell ⟨g, 3, none⟩ (v3)).setCell ⟨g, 4, none⟩ (v4)).setCell ⟨g, 5, none⟩ (v5)).heap[g]? = some (.cells #[v0, v1, v2, v3, v4, v5] 25 (0, 0)) := by
  have h0 := heap_setCell_same w g 0 _ 25 v0 h
  have h1 := heap_setCell_same _ g 1 _ 25 v1 h0
  have h2 := heap_setCell_same _ g 2 _ 25 v2 h1
  have h3 := heap_setCell_same _ g 3 _ 25 v3 h2
  have h4 := heap_setCell_same _ g 4 _ 25 v4 h3
  have h5 := heap_setCell_same _ g 5 _ 25 v5 h4
  exact h5
theorem six_other {w : World} {g k : Nat} (hk : k ≠ g) (v0 v1 v2 v3 v4 v5 : Value) : ((((((w.setCell ⟨g, 0, none⟩ (v0)).setCell ⟨g, 1, none⟩ (v1)).setCell ⟨g, 2, none⟩ (v2)).setCell ⟨g, 3, none⟩ (v3)).setCell ⟨g, 4, none⟩ (v4)).setCell ⟨g, 5, none⟩ (v5)).heap[k]? = w.heap[k]? :=
  (heap_setCell_other _ ⟨g, 5, none⟩ k _ hk).trans ((heap_setCell_other _ ⟨g, 4, none⟩ k _ hk).trans ((heap_setCell_other _ ⟨g, 3, none⟩ k _ hk).trans ((heap_setCell_other _ ⟨g, 2, none⟩ k _ hk).trans ((heap_setCell_other _ ⟨g, 1, none⟩ k _ hk).trans (heap_setCell_other _ ⟨g, 0, none⟩ k _ hk)))))
theorem six_below {B : Nat} {a w : World} (h : Below B a w) {g : Nat} (hg : B ≤ g) (v0 v1 v2 v3 v4 v5 : Value) : Below B a ((((((w.setCell ⟨g, 0, none⟩ (v0)).setCell ⟨g, 1, none⟩ (v1)).setCell ⟨g, 2, none⟩ (v2)).setCell ⟨g, 3, none⟩ (v3)).setCell ⟨g, 4, none⟩ (v4)).setCell ⟨g, 5, none⟩ (v5)) :=
  Below.setCell (p := ⟨g, 5, none⟩) (Below.setCell (p := ⟨g, 4, none⟩) (Below.setCell (p := ⟨g, 3, none⟩) (Below.setCell (p := ⟨g, 2, none⟩) (Below.setCell (p := ⟨g, 1, none⟩) (Below.setCell (p := ⟨g, 0, none⟩) h hg v0) hg v1) hg v2) hg v3) hg v4) hg v5
end Go.Proofs.YtjlaankgfpjeeaaDoor.ip

/-
  What the reference's same and Same answer of lists and problems that lie in memory.
-/
namespace Go.Proofs.YtjlaankgfpjeeaaDoor.ip
open Go.RowKit
set_option linter.unusedVariables false

theorem list_eq {l m : List Int} (hl : l.length = m.length) (h : ∀ j, j < l.length → l[j]?.getD 0 = m[j]?.getD 0) : l = m := by
  refine List.ext_getElem hl (fun j h1 h2 => ?_)
  have e := h j h1
  rw [List.getElem?_eq_getElem h1, List.getElem?_eq_getElem h2] at e
  exact e
set_option maxHeartbeats 1000000 in
theorem lists_any (b : Bool) (l m : List Int) (hb : b = true ↔ l = m) (la ma : Option Addr) (lc mc : Nat) (w : World) (hl : Ints w la l) (hm : Ints w ma m) (l1 : l.length ≤ 1000) (l2 : m.length ≤ 1000) :
    Calls Tryd.prog 28 #[.slice la l.length lc, .slice ma m.length mc] w fun e w' => e = .returned (.bool b) ∧ Below w.heap.size w w' := by
  have HL := Lib.hid hl
  have HM := Lib.hid hm
  have HB := Lib.hid hb
  clear hl hm hb
  by_cases hlen : l.length = m.length
  · rw [← hlen]
    have HE := Lib.hid hlen
    clear hlen l2
    go_enter Tryd.func28, Tryd.ntmps28
    go_wp2
    go_loopw [5] (fun i wr => ∃ k : Nat, k ≤ l.length ∧ i = .int .i64 k ∧ Hid (∀ j, j < k → l[j]?.getD 0 = m[j]?.getD 0) ∧ ∃ n, wr = w.drewN n) (fun i _ => l.length - (intOf i).toNat)
    case atStart => exact ⟨0, by omega, rfl, fun j hj => absurd hj (by omega), 0, rfl⟩
    case round =>
      obtain ⟨k, hk, rfl, HS, n, rfl⟩ := hrel
      by_cases hlt : k < l.length
      · obtain ⟨b1, o1, rfl, hb1, hc1⟩ := HL.out k hlt
        obtain ⟨b2, o2, rfl, hb2, hc2⟩ := HM.out k (by rw [← HE.out]; exact hlt)
        have kb : (0 : Int) ≤ (k : Int) ∧ (k : Int) < (l.length : Int) := by omega
        by_cases hxy : l[k]?.getD 0 = m[k]?.getD 0
        · have HF : Hid (∀ j, j < k + 1 → l[j]?.getD 0 = m[j]?.getD 0) := fun j hj => by
            rcases Nat.lt_or_ge j k with h | h
            · exact HS.out j h
            · obtain rfl : j = k := by omega
              exact hxy
          generalize l[k]?.getD 0 = x at *
          generalize m[k]?.getD 0 = y at *
          subst hxy
          go_wp2
          go_quiet (fail)
          all_goals go_wp2
          all_goals
            go_roundw
            case rel => exact ⟨k + 1, by omega, by go_num, HF, _, rfl⟩
            case measure => simp [intOf]; omega
        · have hbf : b = false := by
            cases b
            · rfl
            · exact absurd (by rw [HB.out.1 rfl]) hxy
          subst hbf
          generalize l[k]?.getD 0 = x at *
          generalize m[k]?.getD 0 = y at *
          go_wp2
          go_quiet (fail)
          all_goals go_wp2
          all_goals
            go_ret
            exact ⟨rfl, bl_dn (bl_dn (Below.refl _ _) _) _⟩
      · have hbt : b = true := HB.out.2 (list_eq HE.out (fun j hj => HS.out j (by omega)))
        subst hbt
        go_wp2
        go_ret
        exact ⟨rfl, bl_dn (Below.refl _ _) _⟩
  · have hbf : b = false := by
      cases b
      · rfl
      · exact absurd (by rw [HB.out.1 rfl]) hlen
    subst hbf
    have hne : ¬ (l.length : Int) = (m.length : Int) := by omega
    go_enter Tryd.func28, Tryd.ntmps28
    go_wp2
    go_ret
    exact ⟨rfl, Below.refl _ _⟩
end Go.Proofs.YtjlaankgfpjeeaaDoor.ip

/-
  What the reference's Same answers of problems that lie in memory.
-/
namespace Go.Proofs.YtjlaankgfpjeeaaDoor.ip
open Go.RowKit
set_option linter.unusedVariables false

theorem rows_eq {l m : List (List Int)} (hl : l.length = m.length) (h : ∀ j, j < l.length → l[j]?.getD [] = m[j]?.getD []) : l = m := by
  refine List.ext_getElem hl (fun j h1 h2 => ?_)
  have e := h j h1
  rw [List.getElem?_eq_getElem h1, List.getElem?_eq_getElem h2] at e
  exact e
theorem two_boxes {w w2 : World} {v0 v1 v2 v3 v4 v5 u0 u1 u2 u3 u4 u5 : Value} (hb : Below ((w.alloc (.cells #[v0, v1, v2, v3, v4, v5] 25)).alloc (.cells #[u0, u1, u2, u3, u4, u5] 25)).heap.size ((w.alloc (.cells #[v0, v1, v2, v3, v4, v5] 25)).alloc (.cells #[u0, u1, u2, u3, u4, u5] 25)) w2) :
    (w2.cell? ⟨w.heap.size, 0, none⟩ = some v0 ∧ w2.cell? ⟨w.heap.size, 1, none⟩ = some v1 ∧ w2.cell? ⟨w.heap.size, 2, none⟩ = some v2 ∧ w2.cell? ⟨w.heap.size, 3, none⟩ = some v3 ∧ w2.cell? ⟨w.heap.size, 4, none⟩ = some v4 ∧ w2.cell? ⟨w.heap.size, 5, none⟩ = some v5) ∧
    (w2.cell? ⟨w.heap.size + 1, 0, none⟩ = some u0 ∧ w2.cell? ⟨w.heap.size + 1, 1, none⟩ = some u1 ∧ w2.cell? ⟨w.heap.size + 1, 2, none⟩ = some u2 ∧ w2.cell? ⟨w.heap.size + 1, 3, none⟩ = some u3 ∧ w2.cell? ⟨w.heap.size + 1, 4, none⟩ = some u4 ∧ w2.cell? ⟨w.heap.size + 1, 5, none⟩ = some u5) := by
  have q : w2.heap[w.heap.size]? = some (.cells #[v0, v1, v2, v3, v4, v5] 25 (0, 0)) := (hb.block _ (by simp; omega)).trans (heap_alloc2_old w _ _)
  have p : w2.heap[w.heap.size + 1]? = some (.cells #[u0, u1, u2, u3, u4, u5] 25 (0, 0)) := (hb.block _ (by simp)).trans (heap_alloc2_new w _ _)
  exact ⟨⟨cell_of_row _ _ 0 _ _ _ q, cell_of_row _ _ 1 _ _ _ q, cell_of_row _ _ 2 _ _ _ q, cell_of_row _ _ 3 _ _ _ q, cell_of_row _ _ 4 _ _ _ q, cell_of_row _ _ 5 _ _ _ q⟩, ⟨cell_of_row _ _ 0 _ _ _ p, cell_of_row _ _ 1 _ _ _ p, cell_of_row _ _ 2 _ _ _ p, cell_of_row _ _ 3 _ _ _ p, cell_of_row _ _ 4 _ _ _ p, cell_of_row _ _ 5 _ _ _ p⟩⟩
theorem bl_undr2 {X w : World} (h : Below X.drew.heap.size X.drew w) : Below X.heap.size X w := ⟨h.os, h.tape, h.output, h.size, h.block⟩
theorem four_keep {W W1 : World} {p1 p2 p3 p4 n1 n2 n3 n4 : Nat} {z1 z2 z3 z4 : Value} (hb : Below W.heap.size W W1) (h1 : W.cell? ⟨p1, n1, none⟩ = some z1) (h2 : W.cell? ⟨p2, n2, none⟩ = some z2) (h3 : W.cell? ⟨p3, n3, none⟩ = some z3) (h4 : W.cell? ⟨p4, n4, none⟩ = some z4) :
    W1.cell? ⟨p1, n1, none⟩ = some z1 ∧ W1.cell? ⟨p2, n2, none⟩ = some z2 ∧ W1.cell? ⟨p3, n3, none⟩ = some z3 ∧ W1.cell? ⟨p4, n4, none⟩ = some z4 :=
  ⟨(hb.cell (p := ⟨p1, n1, none⟩) (lt_cell h1)).trans h1, (hb.cell (p := ⟨p2, n2, none⟩) (lt_cell h2)).trans h2, (hb.cell (p := ⟨p3, n3, none⟩) (lt_cell h3)).trans h3, (hb.cell (p := ⟨p4, n4, none⟩) (lt_cell h4)).trans h4⟩
set_option maxHeartbeats 4000000 in
theorem same_any (b : Bool) (K N C K' N' C' : Int) (wl vl wl' vl' : List Int) (cl cl' : List (List Int)) (hb : b = true ↔ K = K' ∧ N = N' ∧ C = C' ∧ wl = wl' ∧ vl = vl' ∧ cl = cl') (wa va ca wa' va' ca' : Option Addr) (wc vc cc wc' vc' cc' : Nat) (w : World)
    (i1 : Ints w wa wl) (i2 : Ints w va vl) (i3 : Rws w ca cl) (j1 : Ints w wa' wl') (j2 : Ints w va' vl') (j3 : Rws w ca' cl') (l1 : wl.length ≤ 1000) (l2 : vl.length ≤ 1000) (l3 : cl.length ≤ 1000) (m1 : wl'.length ≤ 1000) (m2 : vl'.length ≤ 1000) :
    Calls Tryd.prog 12 #[.agg #[.int .i64 K, .int .i64 N, .int .i64 C, .slice wa wl.length wc, .slice va vl.length vc, .slice ca cl.length cc], .agg #[.int .i64 K', .int .i64 N', .int .i64 C', .slice wa' wl'.length wc', .slice va' vl'.length vc', .slice ca' cl'.length cc']] w fun e w' => e = .returned (.bool b) ∧ Below w.heap.size w w' := by
  have HB := Lib.hid hb
  clear hb
  by_cases h1 : K = K'
  · subst h1
    by_cases h2 : N = N'
    · subst h2
      by_cases h3 : C = C'
      · subst h3
        have bA : Below w.heap.size w ((w.alloc (.cells #[.int .i64 K, .int .i64 N, .int .i64 C, .slice wa wl.length wc, .slice va vl.length vc, .slice ca cl.length cc] 25)).alloc (.cells #[.int .i64 K, .int .i64 N, .int .i64 C, .slice wa' wl'.length wc', .slice va' vl'.length vc', .slice ca' cl'.length cc'] 25)) := bl_al (bl_al (Below.refl _ _) _) _
        have BA := Lib.hid bA
        have I1 := Lib.hid i1; have I2 := Lib.hid i2; have I3 := Lib.hid i3; have J1 := Lib.hid j1; have J2 := Lib.hid j2; have J3 := Lib.hid j3
        clear i1 i2 i3 j1 j2 j3 bA
        by_cases h4 : wl = wl'
        · have C1 := Lib.hid (lists_any true wl wl' ⟨fun _ => h4, fun _ => rfl⟩ wa wa' wc wc' _ (I1.out.keep BA.out) (J1.out.keep BA.out) l1 m1)
          by_cases h5 : vl = vl'
          · have C2 := Lib.hid (fun W (hW : Below w.heap.size w W) => lists_any true vl vl' ⟨fun _ => h5, fun _ => rfl⟩ va va' vc vc' W (I2.out.keep hW) (J2.out.keep hW) l2 m2)
            have H4 := Lib.hid h4
            have H5 := Lib.hid h5
            clear h4 h5
            by_cases h6 : cl.length = cl'.length
            · have H6 := Lib.hid h6
              rw [← h6]
              rw [← h6] at C1 BA
              clear h6
              go_enter Tryd.func12, Tryd.ntmps12
              go_wp2_with fail
              refine C1.out.mono ?_; rintro e w2 ⟨rfl, hb2⟩
              have B2 := Lib.hid (bl_tr BA.out hb2)
              have D2 := Lib.hid hb2
              clear hb2 C1
              obtain ⟨⟨x0, x1, x2, x3, x4, x5⟩, ⟨x6, x7, x8, x9, xa, xb⟩⟩ := two_boxes D2.out
              go_wp2_with fail
              refine (C2.out _ B2.out).mono ?_; rintro e w3 ⟨rfl, hb3⟩
              have B3 := Lib.hid (bl_tr B2.out hb3)
              have D3 := Lib.hid (bl_tr D2.out hb3)
              clear hb3 C2 x0 x1 x2 x3 x4 x5 x6 x7 x8 x9 xa xb B2 D2
              obtain ⟨⟨y0, y1, y2, y3, y4, y5⟩, ⟨y6, y7, y8, y9, ya, yb⟩⟩ := two_boxes D3.out
              go_wp2
              clear y0 y1 y2 y3 y4 y5 y6 y7 y8 y9 ya yb
              go_loopw [5] (fun i wr => ∃ k : Nat, k ≤ cl.length ∧ i = .int .i64 k ∧ Hid (∀ j, j < k → cl[j]?.getD [] = cl'[j]?.getD []) ∧ Hid (Below ((w.alloc (.cells #[.int .i64 K, .int .i64 N, .int .i64 C, .slice wa wl.length wc, .slice va vl.length vc, .slice ca cl.length cc] 25)).alloc (.cells #[.int .i64 K, .int .i64 N, .int .i64 C, .slice wa' wl'.length wc', .slice va' vl'.length vc', .slice ca' cl.length cc'] 25)).heap.size ((w.alloc (.cells #[.int .i64 K, .int .i64 N, .int .i64 C, .slice wa wl.length wc, .slice va vl.length vc, .slice ca cl.length cc] 25)).alloc (.cells #[.int .i64 K, .int .i64 N, .int .i64 C, .slice wa' wl'.length wc', .slice va' vl'.length vc', .slice ca' cl.length cc'] 25)) wr) ∧ Hid (Below w.heap.size w wr)) (fun i _ => cl.length - (intOf i).toNat)
              case atStart => exact ⟨0, by omega, rfl, fun j hj => absurd hj (by omega), D3, B3⟩
              case round =>
                clear D3 B3
                obtain ⟨k, hk, rfl, HS, DR, BR⟩ := hrel
                obtain ⟨⟨y0, y1, y2, y3, y4, y5⟩, ⟨y6, y7, y8, y9, ya, yb⟩⟩ := two_boxes DR.out
                by_cases hlt : k < cl.length
                · obtain ⟨b1, o1, a1, c1, rfl, hb1, hc1, hr1, hl1⟩ := (I3.out.keep BR.out) k hlt
                  obtain ⟨b2, o2, a2, c2, rfl, hb2, hc2, hr2, hl2⟩ := (J3.out.keep BR.out) k (by rw [← H6.out]; exact hlt)
                  have kb : (0 : Int) ≤ (k : Int) ∧ (k : Int) < (cl.length : Int) := by omega
                  obtain ⟨row, hrw⟩ : ∃ g, cl[k]?.getD [] = g := ⟨_, rfl⟩
                  obtain ⟨row', hrw'⟩ : ∃ g, cl'[k]?.getD [] = g := ⟨_, rfl⟩
                  have G1 := Lib.hid hrw
                  have G2 := Lib.hid hrw'
                  rw [hrw] at hc1 hr1 hl1
                  rw [hrw'] at hc2 hr2 hl2
                  have R1 := Lib.hid hr1
                  have R2 := Lib.hid hr2
                  clear hrw hrw' hr1 hr2 y0 y1 y2 y3 y4 y6 y7 y8 y9 ya
                  have bw1 : w.heap.size < wr.heap.size := lt_cell y5
                  by_cases hxy : row = row'
                  · have HF : Hid (∀ j, j < k + 1 → cl[j]?.getD [] = cl'[j]?.getD []) := fun j hj => by
                      rcases Nat.lt_or_ge j k with h | h
                      · exact HS.out j h
                      · obtain rfl : j = k := by omega
                        rw [G1.out, G2.out]; exact hxy
                    have CR := Lib.hid (lists_any true row row' ⟨fun _ => hxy, fun _ => rfl⟩ a1 a2 c1 c2 wr.drew R1.out R2.out hl1 hl2)
                    clear hxy
                    go_wp2
                    go_region_held3 (fun w' => w'.cell? ⟨w.heap.size, 5, none⟩ = some (.slice (some ⟨b1, o1, none⟩) cl.length cc) ∧ w'.cell? ⟨b1, o1 + k, none⟩ = some (.slice a1 row.length c1) ∧ w'.cell? ⟨w.heap.size + 1, 5, none⟩ = some (.slice (some ⟨b2, o2, none⟩) cl.length cc') ∧ w'.cell? ⟨b2, o2 + k, none⟩ = some (.slice a2 row'.length c2)) (first | exact ⟨y5, hc1, yb, hc2⟩ | exact SK.out)
                      (first | (go_at_call 28; refine CR.out.mono ?_; rintro e x ⟨rfl, hbx⟩; have BX := Lib.hid (bl_undr2 hbx); have SK := Lib.hid (four_keep BX.out y5 hc1 yb hc2); clear hbx))
                    all_goals go_wp2
                    all_goals
                      go_roundw
                      case rel => exact ⟨k + 1, by omega, by go_num, HF, bl_tr DR.out BX.out, bl_tr BR.out BX.out⟩
                      case measure => simp [intOf]; omega
                  · have hbf : b = false := by
                      cases b
                      · rfl
                      · exact absurd (by rw [← G1.out, ← G2.out, (HB.out.1 rfl).2.2.2.2.2]) hxy
                    subst hbf
                    have CR := Lib.hid (lists_any false row row' ⟨fun h => (by cases h), fun h => absurd h hxy⟩ a1 a2 c1 c2 wr.drew R1.out R2.out hl1 hl2)
                    clear hxy
                    go_wp2
                    go_region_held3 (fun w' => w'.cell? ⟨w.heap.size, 5, none⟩ = some (.slice (some ⟨b1, o1, none⟩) cl.length cc) ∧ w'.cell? ⟨b1, o1 + k, none⟩ = some (.slice a1 row.length c1) ∧ w'.cell? ⟨w.heap.size + 1, 5, none⟩ = some (.slice (some ⟨b2, o2, none⟩) cl.length cc') ∧ w'.cell? ⟨b2, o2 + k, none⟩ = some (.slice a2 row'.length c2)) (first | exact ⟨y5, hc1, yb, hc2⟩ | exact SK.out)
                      (first | (go_at_call 28; refine CR.out.mono ?_; rintro e x ⟨rfl, hbx⟩; have BX := Lib.hid (bl_undr2 hbx); have SK := Lib.hid (four_keep BX.out y5 hc1 yb hc2); clear hbx))
                    all_goals go_wp2
                    all_goals
                      go_ret
                      exact ⟨rfl, bl_tr BR.out BX.out⟩
                · have hbt : b = true := HB.out.2 ⟨(by first | exact rfl | trivial), (by first | exact rfl | trivial), (by first | exact rfl | trivial), H4.out, H5.out, rows_eq H6.out (fun j hj => HS.out j (by omega))⟩
                  subst hbt
                  go_wp2
                  go_ret
                  exact ⟨rfl, BR.out⟩
            · have hbf : b = false := by
                cases b
                · rfl
                · exact absurd (by rw [(HB.out.1 rfl).2.2.2.2.2]) h6
              subst hbf
              have h6' : ¬ (cl.length : Int) = (cl'.length : Int) := by omega
              go_enter Tryd.func12, Tryd.ntmps12
              go_wp2_with fail
              refine C1.out.mono ?_; rintro e w2 ⟨rfl, hb2⟩
              have B2 := Lib.hid (bl_tr BA.out hb2)
              have D2 := Lib.hid hb2
              clear hb2 C1
              obtain ⟨⟨x0, x1, x2, x3, x4, x5⟩, ⟨x6, x7, x8, x9, xa, xb⟩⟩ := two_boxes D2.out
              go_wp2_with fail
              refine (C2.out _ B2.out).mono ?_; rintro e w3 ⟨rfl, hb3⟩
              have B3 := Lib.hid (bl_tr B2.out hb3)
              have D3 := Lib.hid (bl_tr D2.out hb3)
              clear hb3 C2 x0 x1 x2 x3 x4 x5 x6 x7 x8 x9 xa xb B2 D2
              obtain ⟨⟨y0, y1, y2, y3, y4, y5⟩, ⟨y6, y7, y8, y9, ya, yb⟩⟩ := two_boxes D3.out
              go_wp2
              go_ret
              exact ⟨rfl, B3.out⟩
          · have hbf : b = false := by
              cases b
              · rfl
              · exact absurd (HB.out.1 rfl).2.2.2.2.1 h5
            subst hbf
            have C2 := Lib.hid (fun W (hW : Below w.heap.size w W) => lists_any false vl vl' ⟨fun h => (by cases h), fun h => absurd h h5⟩ va va' vc vc' W (I2.out.keep hW) (J2.out.keep hW) l2 m2)
            clear h4 h5
            go_enter Tryd.func12, Tryd.ntmps12
            go_wp2_with fail
            refine C1.out.mono ?_; rintro e w2 ⟨rfl, hb2⟩
            have B2 := Lib.hid (bl_tr BA.out hb2)
            have D2 := Lib.hid hb2
            clear hb2 C1
            obtain ⟨⟨x0, x1, x2, x3, x4, x5⟩, ⟨x6, x7, x8, x9, xa, xb⟩⟩ := two_boxes D2.out
            go_wp2_with fail
            refine (C2.out _ B2.out).mono ?_; rintro e w3 ⟨rfl, hb3⟩
            go_wp2
            go_ret
            exact ⟨rfl, bl_tr B2.out hb3⟩
        · have hbf : b = false := by
            cases b
            · rfl
            · exact absurd (HB.out.1 rfl).2.2.2.1 h4
          subst hbf
          have C1 := Lib.hid (lists_any false wl wl' ⟨fun h => (by cases h), fun h => absurd h h4⟩ wa wa' wc wc' _ (I1.out.keep BA.out) (J1.out.keep BA.out) l1 m1)
          clear h4
          go_enter Tryd.func12, Tryd.ntmps12
          go_wp2_with fail
          refine C1.out.mono ?_; rintro e w2 ⟨rfl, hb2⟩
          go_wp2
          go_ret
          exact ⟨rfl, bl_tr BA.out hb2⟩
      · have h3' := h3
        have hbf : b = false := by
          cases b
          · rfl
          · exact absurd (HB.out.1 rfl).2.2.1 h3
        subst hbf
        go_enter Tryd.func12, Tryd.ntmps12
        go_wp2
        go_ret
        exact ⟨rfl, bl_al (bl_al (Below.refl _ _) _) _⟩
    · have hbf : b = false := by
        cases b
        · rfl
        · exact absurd (HB.out.1 rfl).2.1 h2
      subst hbf
      go_enter Tryd.func12, Tryd.ntmps12
      go_wp2
      go_ret
      exact ⟨rfl, bl_al (bl_al (Below.refl _ _) _) _⟩
  · have hbf : b = false := by
      cases b
      · rfl
      · exact absurd (HB.out.1 rfl).1 h1
    subst hbf
    go_enter Tryd.func12, Tryd.ntmps12
    go_wp2
    go_ret
    exact ⟨rfl, bl_al (bl_al (Below.refl _ _) _) _⟩
end Go.Proofs.YtjlaankgfpjeeaaDoor.ip

/-
  What the reference's Copy answers: what its loop keeps.
-/
namespace Go.Proofs.YtjlaankgfpjeeaaDoor.ip
open Go.RowKit
set_option linter.unusedVariables false

theorem info22 : (Tryd.prog.info? 22).map (fun i => (i.zero, i.size, i.bytes)) = some (some (.slice none 0 0), 1, 24) := by kernel_rfl
theorem cp_more {kd N C : Int} {wa va ca : Option Addr} {wn vn cn wc vc cc : Nat} {bx rb : Nat} {W0 W W1 : World} (hb : Below W.heap.size W W1) (q : W.heap[bx]? = some (.cells #[.int .i64 kd, .int .i64 N, .int .i64 C, .slice wa wn wc, .slice va vn vc, .slice ca cn cc] 25 (0, 0)) ∧ W.heap[rb]? = some (.cells #[.int .i64 0, .int .i64 0, .int .i64 0, .slice none 0 0, .slice none 0 0, .slice none 0 0] 25 (0, 0)) ∧ Below W0.heap.size W0 W) : W1.heap[bx]? = some (.cells #[.int .i64 kd, .int .i64 N, .int .i64 C, .slice wa wn wc, .slice va vn vc, .slice ca cn cc] 25 (0, 0)) ∧ W1.heap[rb]? = some (.cells #[.int .i64 0, .int .i64 0, .int .i64 0, .slice none 0 0, .slice none 0 0, .slice none 0 0] 25 (0, 0)) ∧ Below W0.heap.size W0 W1 :=
  ⟨(hb.block _ (lt_hp q.1)).trans q.1, (hb.block _ (lt_hp q.2.1)).trans q.2.1, bl_tr q.2.2 hb⟩
theorem cp_alloc {kd N C : Int} {wa va ca : Option Addr} {wn vn cn wc vc cc : Nat} {bx rb : Nat} {W0 W : World} (q : W.heap[bx]? = some (.cells #[.int .i64 kd, .int .i64 N, .int .i64 C, .slice wa wn wc, .slice va vn vc, .slice ca cn cc] 25 (0, 0)) ∧ W.heap[rb]? = some (.cells #[.int .i64 0, .int .i64 0, .int .i64 0, .slice none 0 0, .slice none 0 0, .slice none 0 0] 25 (0, 0)) ∧ Below W0.heap.size W0 W) (o : Obj) : (W.alloc o).heap[bx]? = some (.cells #[.int .i64 kd, .int .i64 N, .int .i64 C, .slice wa wn wc, .slice va vn vc, .slice ca cn cc] 25 (0, 0)) ∧ (W.alloc o).heap[rb]? = some (.cells #[.int .i64 0, .int .i64 0, .int .i64 0, .slice none 0 0, .slice none 0 0, .slice none 0 0] 25 (0, 0)) ∧ Below W0.heap.size W0 (W.alloc o) := cp_more (bl_al (Below.refl _ _) o) q
theorem cp_drew {kd N C : Int} {wa va ca : Option Addr} {wn vn cn wc vc cc : Nat} {bx rb : Nat} {W0 W : World} (q : W.heap[bx]? = some (.cells #[.int .i64 kd, .int .i64 N, .int .i64 C, .slice wa wn wc, .slice va vn vc, .slice ca cn cc] 25 (0, 0)) ∧ W.heap[rb]? = some (.cells #[.int .i64 0, .int .i64 0, .int .i64 0, .slice none 0 0, .slice none 0 0, .slice none 0 0] 25 (0, 0)) ∧ Below W0.heap.size W0 W) : W.drew.heap[bx]? = some (.cells #[.int .i64 kd, .int .i64 N, .int .i64 C, .slice wa wn wc, .slice va vn vc, .slice ca cn cc] 25 (0, 0)) ∧ W.drew.heap[rb]? = some (.cells #[.int .i64 0, .int .i64 0, .int .i64 0, .slice none 0 0, .slice none 0 0, .slice none 0 0] 25 (0, 0)) ∧ Below W0.heap.size W0 W.drew := ⟨q.1, q.2.1, q.2.2.drew⟩
theorem cp_store {kd N C : Int} {wa va ca : Option Addr} {wn vn cn wc vc cc : Nat} {bx rb g : Nat} {W0 W : World} (q : (W.heap[bx]? = some (.cells #[.int .i64 kd, .int .i64 N, .int .i64 C, .slice wa wn wc, .slice va vn vc, .slice ca cn cc] 25 (0, 0)) ∧ W.heap[rb]? = some (.cells #[.int .i64 0, .int .i64 0, .int .i64 0, .slice none 0 0, .slice none 0 0, .slice none 0 0] 25 (0, 0)) ∧ Below W0.heap.size W0 W) ∧ bx < W0.heap.size ∧ rb < W0.heap.size) (hg : W0.heap.size ≤ g) (v0 v1 v2 v3 v4 v5 : Value) : ((((((W.setCell ⟨g, 0, none⟩ (v0)).setCell ⟨g, 1, none⟩ (v1)).setCell ⟨g, 2, none⟩ (v2)).setCell ⟨g, 3, none⟩ (v3)).setCell ⟨g, 4, none⟩ (v4)).setCell ⟨g, 5, none⟩ (v5)).heap[bx]? = some (.cells #[.int .i64 kd, .int .i64 N, .int .i64 C, .slice wa wn wc, .slice va vn vc, .slice ca cn cc] 25 (0, 0)) ∧ ((((((W.setCell ⟨g, 0, none⟩ (v0)).setCell ⟨g, 1, none⟩ (v1)).setCell ⟨g, 2, none⟩ (v2)).setCell ⟨g, 3, none⟩ (v3)).setCell ⟨g, 4, none⟩ (v4)).setCell ⟨g, 5, none⟩ (v5)).heap[rb]? = some (.cells #[.int .i64 0, .int .i64 0, .int .i64 0, .slice none 0 0, .slice none 0 0, .slice none 0 0] 25 (0, 0)) ∧ Below W0.heap.size W0 ((((((W.setCell ⟨g, 0, none⟩ (v0)).setCell ⟨g, 1, none⟩ (v1)).setCell ⟨g, 2, none⟩ (v2)).setCell ⟨g, 3, none⟩ (v3)).setCell ⟨g, 4, none⟩ (v4)).setCell ⟨g, 5, none⟩ (v5)) :=
  ⟨(six_other (by omega) v0 v1 v2 v3 v4 v5).trans q.1.1, (six_other (by omega) v0 v1 v2 v3 v4 v5).trans q.1.2.1, six_below q.1.2.2 hg v0 v1 v2 v3 v4 v5⟩
structure Lo (kd N C : Int) (wa va ca : Option Addr) (wn vn cn wc vc cc : Nat) (wl vl : List Int) (cl : List (List Int)) (bx rb G g1 g2 k1 k2 : Nat) (W0 : World) (cv : Value) (ws : List Value) (k : Nat) (W : World) : Prop where
  o : W.heap[G]? = some (.cells #[.int .i64 kd, .int .i64 N, .int .i64 C, .slice (some ⟨g1, 0, none⟩) wl.length k1, .slice (some ⟨g2, 0, none⟩) vl.length k2, cv] 25 (0, 0))
  ow : W.ownsRow W0.heap.size 22 1 cv k ws
  ro : ∀ j, j < k → ∃ g cj, ws[j]? = some (.slice (some ⟨g, 0, none⟩) (cl[j]?.getD []).length cj) ∧ IntsO W g (cl[j]?.getD []) ∧ W0.heap.size ≤ g ∧ CapOK (cl[j]?.getD []).length cj
  i1 : IntsO W g1 wl
  i2 : IntsO W g2 vl
  p1 : CapOK wl.length k1 ∧ W0.heap.size ≤ g1
  p2 : CapOK vl.length k2 ∧ W0.heap.size ≤ g2
theorem Lo.keep {kd N C : Int} {wa va ca : Option Addr} {wn vn cn wc vc cc : Nat} {wl vl : List Int} {cl : List (List Int)} {bx rb G g1 g2 k1 k2 : Nat} {W0 : World} {cv : Value} {ws : List Value} {k : Nat} {W W1 : World} (h : Lo kd N C wa va ca wn vn cn wc vc cc wl vl cl bx rb G g1 g2 k1 k2 W0 cv ws k W) (hb : Below W.heap.size W W1) : Lo kd N C wa va ca wn vn cn wc vc cc wl vl cl bx rb G g1 g2 k1 k2 W0 cv ws k W1 :=
  { o := (hb.block _ (lt_hp h.o)).trans h.o
    ow := h.ow.kept (row := none) ⟨hb.os, hb.tape, hb.output, hb.size, fun i hi _ => hb.block i hi⟩ (by by_cases e : cv.ownBlock = none; exact Or.inl e; exact Or.inr e)
    ro := fun j hj => by
      obtain ⟨g, cj, e1, e2, e3⟩ := h.ro j hj
      exact ⟨g, cj, e1, e2.keep hb, e3⟩
    i1 := h.i1.keep hb
    i2 := h.i2.keep hb
    p1 := h.p1
    p2 := h.p2 }
theorem row_ne {W : World} {B k b : Nat} {cv : Value} {ws : List Value} {cs : Array Value} {t : TypeId} (h : W.ownsRow B 22 1 cv k ws) (hb : W.heap[b]? = some (.cells cs t (0, 0))) (ht : t ≠ 22) : some b ≠ cv.ownBlock := by
  rcases h.2 with ⟨h', _⟩ | ⟨g', cap', cur, h', _, hg, _⟩
  · subst h'; simp [Value.ownBlock]
  · subst h'
    intro e
    simp [Value.ownBlock] at e
    subst e
    rw [hg] at hb
    injection hb with hb
    injection hb with _ hb
    exact ht hb.symm
theorem Lo.step {kd N C : Int} {wa va ca : Option Addr} {wn vn cn wc vc cc : Nat} {wl vl : List Int} {cl : List (List Int)} {bx rb G g1 g2 k1 k2 : Nat} {W0 : World} {cv cv' val : Value} {ws : List Value} {k g kc : Nat} {x w3 : World} (h : Lo kd N C wa va ca wn vn cn wc vc cc wl vl cl bx rb G g1 g2 k1 k2 W0 cv ws k x) (hi : IntsO x g (cl[k]?.getD [])) (hg0 : W0.heap.size ≤ g) (hcap : CapOK (cl[k]?.getD []).length kc) (hv : val = .slice (some ⟨g, 0, none⟩) (cl[k]?.getD []).length kc)
    (q : x.heap[bx]? = some (.cells #[.int .i64 kd, .int .i64 N, .int .i64 C, .slice wa wn wc, .slice va vn vc, .slice ca cn cc] 25 (0, 0)) ∧ x.heap[rb]? = some (.cells #[.int .i64 0, .int .i64 0, .int .i64 0, .slice none 0 0, .slice none 0 0, .slice none 0 0] 25 (0, 0)) ∧ Below W0.heap.size W0 x) (hbx : bx < W0.heap.size) (hrb : rb < W0.heap.size) (lg : W0.heap.size ≤ G)
    (hown : w3.ownsRow W0.heap.size 22 1 cv' (k + 1) (ws ++ [val])) (hgrow : (x.alloc (.cells #[val] 22)).grownBy w3 cv.ownBlock) :
    ((w3.heap[bx]? = some (.cells #[.int .i64 kd, .int .i64 N, .int .i64 C, .slice wa wn wc, .slice va vn vc, .slice ca cn cc] 25 (0, 0)) ∧ w3.heap[rb]? = some (.cells #[.int .i64 0, .int .i64 0, .int .i64 0, .slice none 0 0, .slice none 0 0, .slice none 0 0] 25 (0, 0)) ∧ Below W0.heap.size W0 w3) ∧ w3.heap[G]? = some (.cells #[.int .i64 kd, .int .i64 N, .int .i64 C, .slice (some ⟨g1, 0, none⟩) wl.length k1, .slice (some ⟨g2, 0, none⟩) vl.length k2, cv] 25 (0, 0))) ∧ ((w3.setCell ⟨G, 5, none⟩ cv').heap[bx]? = some (.cells #[.int .i64 kd, .int .i64 N, .int .i64 C, .slice wa wn wc, .slice va vn vc, .slice ca cn cc] 25 (0, 0)) ∧ (w3.setCell ⟨G, 5, none⟩ cv').heap[rb]? = some (.cells #[.int .i64 0, .int .i64 0, .int .i64 0, .slice none 0 0, .slice none 0 0, .slice none 0 0] 25 (0, 0)) ∧ Below W0.heap.size W0 (w3.setCell ⟨G, 5, none⟩ cv')) ∧ Lo kd N C wa va ca wn vn cn wc vc cc wl vl cl bx rb G g1 g2 k1 k2 W0 cv' (ws ++ [val]) (k + 1) (w3.setCell ⟨G, 5, none⟩ cv') := by
  have bA : Below x.heap.size x (x.alloc (.cells #[val] 22)) := bl_al (Below.refl _ _) _
  have ha := h.keep bA
  have blk : ∀ (b : Nat) (cs : Array Value) (t : TypeId), x.heap[b]? = some (.cells cs t (0, 0)) → t ≠ 22 → w3.heap[b]? = x.heap[b]? := fun b cs t e ht => by
    have hlt := lt_hp e
    rw [hgrow.block b (by simp; omega) (row_ne h.ow e ht)]
    exact bA.block b hlt
  have e0 : w3.heap[G]? = some (.cells #[.int .i64 kd, .int .i64 N, .int .i64 C, .slice (some ⟨g1, 0, none⟩) wl.length k1, .slice (some ⟨g2, 0, none⟩) vl.length k2, cv] 25 (0, 0)) := (blk _ _ _ h.o (by decide)).trans h.o
  have bl3 : Below W0.heap.size W0 w3 := by
    have b1 : Below W0.heap.size W0 (x.alloc (.cells #[val] 22)) := bl_tr q.2.2 bA
    exact b1.grown hgrow b1.size (fun j hj => (h.ow.lt j hj).1)
  have q3 : w3.heap[bx]? = some (.cells #[.int .i64 kd, .int .i64 N, .int .i64 C, .slice wa wn wc, .slice va vn vc, .slice ca cn cc] 25 (0, 0)) ∧ w3.heap[rb]? = some (.cells #[.int .i64 0, .int .i64 0, .int .i64 0, .slice none 0 0, .slice none 0 0, .slice none 0 0] 25 (0, 0)) ∧ Below W0.heap.size W0 w3 := ⟨(blk _ _ _ q.1 (by decide)).trans q.1, (blk _ _ _ q.2.1 (by decide)).trans q.2.1, bl3⟩
  have ot : ∀ b, b ≠ G → (w3.setCell ⟨G, 5, none⟩ cv').heap[b]? = w3.heap[b]? := fun b hb => heap_setCell_other _ ⟨G, 5, none⟩ b _ hb
  have io : ∀ (g : Nat) (l : List Int), IntsO x g l → IntsO (w3.setCell ⟨G, 5, none⟩ cv') g l := fun g l hg => by
    have hne : g ≠ G := hg.ne h.o (by decide)
    obtain ⟨cur, c1, c2⟩ := hg
    exact ⟨cur, (ot g hne).trans ((blk _ _ _ c1 (by decide)).trans c1), c2⟩
  refine ⟨⟨q3, e0⟩, ⟨(ot _ (by omega)).trans q3.1, (ot _ (by omega)).trans q3.2.1, bl3.setCell (p := ⟨G, 5, none⟩) lg _⟩, ?_⟩
  exact {
    o := heap_setCell_same w3 G 5 _ 25 cv' e0
    ow := hown.kept (row := some G) ⟨rfl, rfl, rfl, by simp [World.setCell], fun i _ hne => ot i (fun e => hne (by rw [e]))⟩ (Or.inr (Ne.symm (row_ne hown e0 (by decide))))
    ro := fun j hj => by
      rcases Nat.lt_or_ge j k with hlt | hge
      · obtain ⟨g', cj, e1, e2, e3⟩ := h.ro j hlt
        refine ⟨g', cj, ?_, io _ _ e2, e3⟩
        rw [List.getElem?_append_left]
        · exact e1
        · rcases Nat.lt_or_ge j ws.length with h' | h'
          · exact h'
          · rw [List.getElem?_eq_none h'] at e1; cases e1
      · obtain rfl : j = k := by omega
        have hl : ws.length = j := by have := h.ow.1; omega
        refine ⟨g, kc, ?_, io _ _ hi, hg0, hcap⟩
        rw [List.getElem?_append_right (by omega), hl, hv]
        simp
    i1 := io _ _ h.i1
    i2 := io _ _ h.i2
    p1 := h.p1
    p2 := h.p2 }
theorem gr_set {a w : World} {g : Nat} (h : a.grownBy w (some g)) (i : Nat) (v : Value) : a.grownBy (w.setCell ⟨g, i, none⟩ v) (some g) :=
  ⟨h.os, h.tape, h.output, by simpa [World.setCell] using h.size, fun j hj hne => (heap_setCell_other w ⟨g, i, none⟩ j v (fun e => hne (by rw [e]))).trans (h.block j hj hne)⟩
theorem gr_refl (w : World) (r : Option Nat) : w.grownBy w r := ⟨rfl, rfl, rfl, Nat.le_refl _, fun _ _ _ => rfl⟩
theorem six_grown (w : World) (g : Nat) (v0 v1 v2 v3 v4 v5 : Value) : w.grownBy ((((((w.setCell ⟨g, 0, none⟩ (v0)).setCell ⟨g, 1, none⟩ (v1)).setCell ⟨g, 2, none⟩ (v2)).setCell ⟨g, 3, none⟩ (v3)).setCell ⟨g, 4, none⟩ (v4)).setCell ⟨g, 5, none⟩ (v5)) (some g) :=
  gr_set (gr_set (gr_set (gr_set (gr_set (gr_set (gr_refl w _) 0 v0) 1 v1) 2 v2) 3 v3) 4 v4) 5 v5
theorem Lo.fin {kd N C : Int} {wa va ca : Option Addr} {wn vn cn wc vc cc : Nat} {wl vl : List Int} {cl : List (List Int)} {bx rb G g1 g2 k1 k2 : Nat} {W0 : World} {cv : Value} {ws : List Value} {w W : World} (h : Lo kd N C wa va ca wn vn cn wc vc cc wl vl cl bx rb G g1 g2 k1 k2 W0 cv ws cl.length W) (q : W.heap[bx]? = some (.cells #[.int .i64 kd, .int .i64 N, .int .i64 C, .slice wa wn wc, .slice va vn vc, .slice ca cn cc] 25 (0, 0)) ∧ W.heap[rb]? = some (.cells #[.int .i64 0, .int .i64 0, .int .i64 0, .slice none 0 0, .slice none 0 0, .slice none 0 0] 25 (0, 0)) ∧ Below W0.heap.size W0 W) (hs : RSrc W0 ca cn cc cl) (hrb : rb < W0.heap.size) (lg : W0.heap.size ≤ G) (bw : Below w.heap.size w W0) (hw : w.heap.size ≤ rb) :
    ((((((W.setCell ⟨rb, 0, none⟩ ((.int .i64 kd))).setCell ⟨rb, 1, none⟩ ((.int .i64 N))).setCell ⟨rb, 2, none⟩ ((.int .i64 C))).setCell ⟨rb, 3, none⟩ ((.slice (some ⟨g1, 0, none⟩) wl.length k1))).setCell ⟨rb, 4, none⟩ ((.slice (some ⟨g2, 0, none⟩) vl.length k2))).setCell ⟨rb, 5, none⟩ (cv)).heap[rb]? = some (.cells #[.int .i64 kd, .int .i64 N, .int .i64 C, .slice (some ⟨g1, 0, none⟩) wl.length k1, .slice (some ⟨g2, 0, none⟩) vl.length k2, cv] 25 (0, 0)) ∧ Below w.heap.size w ((((((W.setCell ⟨rb, 0, none⟩ ((.int .i64 kd))).setCell ⟨rb, 1, none⟩ ((.int .i64 N))).setCell ⟨rb, 2, none⟩ ((.int .i64 C))).setCell ⟨rb, 3, none⟩ ((.slice (some ⟨g1, 0, none⟩) wl.length k1))).setCell ⟨rb, 4, none⟩ ((.slice (some ⟨g2, 0, none⟩) vl.length k2))).setCell ⟨rb, 5, none⟩ (cv)) ∧ IntsO ((((((W.setCell ⟨rb, 0, none⟩ ((.int .i64 kd))).setCell ⟨rb, 1, none⟩ ((.int .i64 N))).setCell ⟨rb, 2, none⟩ ((.int .i64 C))).setCell ⟨rb, 3, none⟩ ((.slice (some ⟨g1, 0, none⟩) wl.length k1))).setCell ⟨rb, 4, none⟩ ((.slice (some ⟨g2, 0, none⟩) vl.length k2))).setCell ⟨rb, 5, none⟩ (cv)) g1 wl ∧ IntsO ((((((W.setCell ⟨rb, 0, none⟩ ((.int .i64 kd))).setCell ⟨rb, 1, none⟩ ((.int .i64 N))).setCell ⟨rb, 2, none⟩ ((.int .i64 C))).setCell ⟨rb, 3, none⟩ ((.slice (some ⟨g1, 0, none⟩) wl.length k1))).setCell ⟨rb, 4, none⟩ ((.slice (some ⟨g2, 0, none⟩) vl.length k2))).setCell ⟨rb, 5, none⟩ (cv)) g2 vl ∧ CapOK wl.length k1 ∧ CapOK vl.length k2 ∧ w.heap.size ≤ g1 ∧ w.heap.size ≤ g2 ∧ ∃ ca' cc', cv = .slice ca' cl.length cc' ∧ RwsO w.heap.size ((((((W.setCell ⟨rb, 0, none⟩ ((.int .i64 kd))).setCell ⟨rb, 1, none⟩ ((.int .i64 N))).setCell ⟨rb, 2, none⟩ ((.int .i64 C))).setCell ⟨rb, 3, none⟩ ((.slice (some ⟨g1, 0, none⟩) wl.length k1))).setCell ⟨rb, 4, none⟩ ((.slice (some ⟨g2, 0, none⟩) vl.length k2))).setCell ⟨rb, 5, none⟩ (cv)) ca' cl ∧ CapOK cl.length cc' ∧ (ca' = none → cc' = 0) := by
  have ot : ∀ b, b ≠ rb → ((((((W.setCell ⟨rb, 0, none⟩ ((.int .i64 kd))).setCell ⟨rb, 1, none⟩ ((.int .i64 N))).setCell ⟨rb, 2, none⟩ ((.int .i64 C))).setCell ⟨rb, 3, none⟩ ((.slice (some ⟨g1, 0, none⟩) wl.length k1))).setCell ⟨rb, 4, none⟩ ((.slice (some ⟨g2, 0, none⟩) vl.length k2))).setCell ⟨rb, 5, none⟩ (cv)).heap[b]? = W.heap[b]? := fun b hb => six_other hb (.int .i64 kd) (.int .i64 N) (.int .i64 C) (.slice (some ⟨g1, 0, none⟩) wl.length k1) (.slice (some ⟨g2, 0, none⟩) vl.length k2) cv
  have e0 := six q.2.1 (.int .i64 kd) (.int .i64 N) (.int .i64 C) (.slice (some ⟨g1, 0, none⟩) wl.length k1) (.slice (some ⟨g2, 0, none⟩) vl.length k2) cv
  have gb := six_grown W rb (.int .i64 kd) (.int .i64 N) (.int .i64 C) (.slice (some ⟨g1, 0, none⟩) wl.length k1) (.slice (some ⟨g2, 0, none⟩) vl.length k2) cv
  have bl := six_below (bw.trans (q.2.2.mono bw.size)) hw (.int .i64 kd) (.int .i64 N) (.int .i64 C) (.slice (some ⟨g1, 0, none⟩) wl.length k1) (.slice (some ⟨g2, 0, none⟩) vl.length k2) cv
  generalize ((((((W.setCell ⟨rb, 0, none⟩ ((.int .i64 kd))).setCell ⟨rb, 1, none⟩ ((.int .i64 N))).setCell ⟨rb, 2, none⟩ ((.int .i64 C))).setCell ⟨rb, 3, none⟩ ((.slice (some ⟨g1, 0, none⟩) wl.length k1))).setCell ⟨rb, 4, none⟩ ((.slice (some ⟨g2, 0, none⟩) vl.length k2))).setCell ⟨rb, 5, none⟩ (cv)) = Wf at *
  have io : ∀ (g : Nat) (l : List Int), IntsO W g l → IntsO Wf g l := fun g l hg => hg.same (ot g (hg.ne q.2.1 (by decide)))
  have ow : Wf.ownsRow W0.heap.size 22 1 cv cl.length ws := h.ow.kept (row := some rb) gb (Or.inr (Ne.symm (row_ne h.ow q.2.1 (by decide))))
  refine ⟨e0, bl, io _ _ h.i1, io _ _ h.i2, h.p1.1, h.p2.1, Nat.le_trans bw.size h.p1.2, Nat.le_trans bw.size h.p2.2, ?_⟩
  have hcell := fun g cap (e : cv = .slice (some ⟨g, 0, none⟩) cl.length cap) => (e ▸ ow : Wf.ownsRow W0.heap.size 22 1 (.slice (some ⟨g, 0, none⟩) cl.length cap) cl.length ws).cellAt
  rcases ow.2 with ⟨e, z0⟩ | ⟨g, cap, cur, e, hb, hg, hc1, hc2, _⟩
  · subst e
    exact ⟨none, 0, by rw [z0], fun j hj => absurd hj (by omega), ⟨by omega, by omega⟩, fun _ => rfl⟩
  · refine ⟨some ⟨g, 0, none⟩, cap, e, fun j hj => ?_, ⟨hc1, by unfold maxLen at hc2; omega⟩, fun h => by cases h⟩
    obtain ⟨g', cj, e1, e2, e3⟩ := h.ro j hj
    have hk := hcell g cap e j (by omega)
    rw [cell_of_row _ _ _ _ _ _ hg] at hk
    refine ⟨g, cur, g', cj, rfl, hg, hk.trans e1, io _ _ e2, ?_, Nat.le_trans bw.size e3.1, e3.2, Nat.le_trans bw.size hb⟩
    obtain ⟨s1, s2, s3, s4⟩ := hs
    rcases s4 with ⟨s4, _⟩ | ⟨b, o, _, _, s4⟩
    · omega
    · obtain ⟨aj, nj, cj', _, s5⟩ := s4 j hj
      have := s5.1
      omega
theorem own_slice {w : World} {base : Nat} {e : TypeId} {v : Value} {n : Nat} {xs : List Value} (h : w.ownsRow base e 1 v n xs) : ∃ a m c, v = .slice a m c := by
  rcases h.2 with ⟨h', _⟩ | ⟨g, cap, cur, hv, _⟩
  · exact ⟨_, _, _, h'⟩
  · exact ⟨_, _, _, hv⟩
theorem cp_S {kd N C : Int} {wa va ca : Option Addr} {wn vn cn wc vc cc : Nat} {bx rb b n : Nat} {z : Value} {W0 W : World} (q : W.heap[bx]? = some (.cells #[.int .i64 kd, .int .i64 N, .int .i64 C, .slice wa wn wc, .slice va vn vc, .slice ca cn cc] 25 (0, 0)) ∧ W.heap[rb]? = some (.cells #[.int .i64 0, .int .i64 0, .int .i64 0, .slice none 0 0, .slice none 0 0, .slice none 0 0] 25 (0, 0)) ∧ Below W0.heap.size W0 W) (hrow : W0.cell? ⟨b, n, none⟩ = some z) (hb : b < W0.heap.size) : W.cell? ⟨bx, 5, none⟩ = some (.slice ca cn cc) ∧ W.cell? ⟨b, n, none⟩ = some z :=
  ⟨(box6 q.1).2.2.2.2.2, (q.2.2.cell (p := ⟨b, n, none⟩) hb).trans hrow⟩
/-- what the reference's Copy leaves -/
def cpost (kd N C : Int) (wl vl : List Int) (cl : List (List Int)) (w : World) : Ending → World → Prop := fun e w' => ∃ (g1 k1 g2 k2 : Nat) (ca' : Option Addr) (cc' : Nat), e = .returned (.agg #[.int .i64 kd, .int .i64 N, .int .i64 C, .slice (some ⟨g1, 0, none⟩) wl.length k1, .slice (some ⟨g2, 0, none⟩) vl.length k2, .slice ca' cl.length cc']) ∧ Below w.heap.size w w' ∧ IntsO w' g1 wl ∧ IntsO w' g2 vl ∧ RwsO w.heap.size w' ca' cl ∧ CapOK wl.length k1 ∧ CapOK vl.length k2 ∧ CapOK cl.length cc' ∧ (ca' = none → cc' = 0) ∧ w.heap.size ≤ g1 ∧ w.heap.size ≤ g2
theorem cp_post {kd N C : Int} {wl vl : List Int} {cl : List (List Int)} {g1 k1 g2 k2 rb : Nat} {cv : Value} {w W : World} (h : W.heap[rb]? = some (.cells #[.int .i64 kd, .int .i64 N, .int .i64 C, .slice (some ⟨g1, 0, none⟩) wl.length k1, .slice (some ⟨g2, 0, none⟩) vl.length k2, cv] 25 (0, 0)) ∧ Below w.heap.size w W ∧ IntsO W g1 wl ∧ IntsO W g2 vl ∧ CapOK wl.length k1 ∧ CapOK vl.length k2 ∧ w.heap.size ≤ g1 ∧ w.heap.size ≤ g2 ∧ ∃ ca' cc', cv = .slice ca' cl.length cc' ∧ RwsO w.heap.size W ca' cl ∧ CapOK cl.length cc' ∧ (ca' = none → cc' = 0)) :
    ∃ (g1' k1' g2' k2' : Nat) (ca' : Option Addr) (cc' : Nat), Ending.returned (.agg #[.int .i64 kd, .int .i64 N, .int .i64 C, .slice (some ⟨g1, 0, none⟩) wl.length k1, .slice (some ⟨g2, 0, none⟩) vl.length k2, cv]) = .returned (.agg #[.int .i64 kd, .int .i64 N, .int .i64 C, .slice (some ⟨g1', 0, none⟩) wl.length k1', .slice (some ⟨g2', 0, none⟩) vl.length k2', .slice ca' cl.length cc']) ∧ Below w.heap.size w W ∧ IntsO W g1' wl ∧ IntsO W g2' vl ∧ RwsO w.heap.size W ca' cl ∧ CapOK wl.length k1' ∧ CapOK vl.length k2' ∧ CapOK cl.length cc' ∧ (ca' = none → cc' = 0) ∧ w.heap.size ≤ g1' ∧ w.heap.size ≤ g2' := by
  obtain ⟨_, h2, h3, h4, p1, p2, f1, f2, ca', cc', rfl, h5, h6, h7⟩ := h
  exact ⟨g1, k1, g2, k2, ca', cc', rfl, h2, h3, h4, h5, p1, p2, h6, h7, f1, f2⟩
end Go.Proofs.YtjlaankgfpjeeaaDoor.ip

/-
  What a problem in form is: plain mathematics.
-/
namespace Go.Proofs.YtjlaankgfpjeeaaDoor.ip
set_option linter.unusedVariables false
/-- a number of a list -/
def nth (l : List Int) (j : Nat) : Int := l[j]?.getD 0
/-! what a valid problem's numbers are -/
theorem num_zero {n : Int} : num n = 0 ↔ 0 ≤ n ∧ n ≤ 2147483647 := by
  unfold num
  constructor
  · intro h
    split at h
    · omega
    · split at h
      · omega
      · omega
  · rintro ⟨h1, h2⟩
    rw [if_neg (by omega), if_neg (by omega)]
theorem items_ok : ∀ (wl vl : List Int), wl.length = vl.length → itemsE wl vl = 0 → ∀ j, j < wl.length → (0 ≤ nth wl j ∧ nth wl j ≤ 2147483647) ∧ (0 ≤ nth vl j ∧ nth vl j ≤ 2147483647)
  | [], _, _, _, j, hj => absurd hj (by simp)
  | a :: wl, [], h, _, j, hj => by simp at h
  | a :: wl, b :: vl, h, he, j, hj => by
    unfold itemsE at he
    split at he
    · rename_i h1
      split at he
      · rename_i h2
        cases j with
        | zero => exact ⟨num_zero.1 h1, num_zero.1 h2⟩
        | succ j =>
          have := items_ok wl vl (by simpa using h) he j (by simpa using hj)
          simpa [nth] using this
      · exact absurd he (by assumption)
    · exact absurd he (by assumption)
theorem row_ok (K : Int) (a : Nat) : ∀ (r : List Int) (b : Nat), rowE K a b r = 0 → ∀ j, j < r.length → (0 ≤ nth r j ∧ nth r j ≤ 2147483647) ∧ (K = 3 → a = b + j → nth r j = 0)
  | [], b, _, j, hj => absurd hj (by simp)
  | x :: r, b, he, j, hj => by
    unfold rowE at he
    split at he
    · rename_i h1
      split at he
      · cases he
      · rename_i h2
        cases j with
        | zero =>
          refine ⟨num_zero.1 h1, fun hk ha => ?_⟩
          exact Classical.byContradiction fun hx => h2 ⟨hk, by omega, hx⟩
        | succ j =>
          have := row_ok K a r (b + 1) he j (by simpa using hj)
          refine ⟨by simpa [nth] using this.1, fun hk ha => ?_⟩
          have := this.2 hk (by omega)
          simpa [nth] using this
    · exact absurd he (by assumption)
theorem cost_ok (K : Int) : ∀ (cl : List (List Int)) (a : Nat), costE K a cl = 0 → ∀ j, j < cl.length → rowE K (a + j) 0 (cl[j]?.getD []) = 0
  | [], a, _, j, hj => absurd hj (by simp)
  | r :: cl, a, he, j, hj => by
    unfold costE at he
    split at he
    · rename_i h1
      cases j with
      | zero => simpa using h1
      | succ j =>
        have := cost_ok K cl (a + 1) he j (by simpa using hj)
        have e : a + 1 + j = a + (j + 1) := by omega
        rw [e] at this
        simpa using this
    · exact absurd he (by assumption)
/-- a valid problem -/
theorem chk_zero {K N C : Int} {wl vl : List Int} {cl : List (List Int)} (h : chk K N C wl vl cl = 0) :
    1 ≤ N ∧ ((K = 1 ∧ N ≤ 64 ∧ (wl.length : Int) = N ∧ (vl.length : Int) = N ∧ cl.length = 0 ∧ (0 ≤ C ∧ C ≤ 2147483647) ∧ itemsE wl vl = 0) ∨
      ((K = 2 ∨ K = 3) ∧ N ≤ 24 ∧ (cl.length : Int) = N ∧ C = 0 ∧ wl.length = 0 ∧ vl.length = 0 ∧ rowsP cl ∧ costE K 0 cl = 0)) := by
  by_cases hK : K < 1 ∨ 3 < K
  · rw [chk_kind hK] at h; cases h
  · by_cases h1 : N < 1
    · rw [chk_arg hK h1] at h; cases h
    · by_cases h2 : (K = 1 ∧ 64 < N) ∨ (K ≠ 1 ∧ 24 < N)
      · rw [chk_big hK h1 h2] at h; cases h
      · by_cases h3 : formP K N C wl.length vl.length cl
        · by_cases h4 : K = 1
          · rw [chk_items hK h1 h2 h3 h4] at h
            obtain ⟨f1, f2, f3⟩ := form_items h3 h4
            split at h
            · rename_i hC
              exact ⟨by omega, Or.inl ⟨h4, by omega, f1, f2, f3, num_zero.1 hC, h⟩⟩
            · exact absurd h (by assumption)
          · rw [chk_costs hK h1 h2 h3 h4] at h
            obtain ⟨f1, f2, f3, f4, f5⟩ := form_costs h3 h4
            exact ⟨by omega, Or.inr ⟨by omega, by omega, f1, f2, f3, f4, f5, h⟩⟩
        · rw [chk_form hK h1 h2 h3] at h; cases h
end Go.Proofs.YtjlaankgfpjeeaaDoor.ip
