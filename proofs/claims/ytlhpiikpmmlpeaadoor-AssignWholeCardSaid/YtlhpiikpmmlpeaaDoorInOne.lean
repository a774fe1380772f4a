import Derived.Test.YtlhpiikpmmlpeaaDoorProg
import Derived.WalkKit
import Derived.ProofKit
import Derived.OpenShut
import Derived.Below
import Derived.Lib.Hide
import Derived.LoopTactic

/-
  What inst.Name answers of every number; what inst.Check answers of the one problem that the laws write down. No condition.
-/
namespace Go.Proofs.YtlhpiikpmmlpeaaDoor
open Go.RowKit
set_option linter.unusedVariables false

def nameOf (n : Int) : List UInt8 := if n = 1 then [75, 78, 65, 80, 83, 65, 67, 75] else if n = 2 then [65, 83, 83, 73, 71, 78, 77, 69, 78, 84] else if n = 3 then [84, 83, 80] else []
theorem name_any (n : Int) (w : World) : Calls Tryd.prog 72 #[.int .i64 n] w fun e w' => e = .returned (.string ⟨(nameOf n).toArray⟩) ∧ w = w' := by
  unfold nameOf
  by_cases h1 : n = 1
  · subst h1
    go_enter Tryd.func72, Tryd.ntmps72
    go_wp2
    go_ret
    exact ⟨rfl, rfl⟩
  · by_cases h2 : n = 2
    · subst h2
      go_enter Tryd.func72, Tryd.ntmps72
      go_wp2
      go_ret
      exact ⟨rfl, rfl⟩
    · by_cases h3 : n = 3
      · subst h3
        go_enter Tryd.func72, Tryd.ntmps72
        go_wp2
        go_ret
        exact ⟨rfl, rfl⟩
      · rw [if_neg h1, if_neg h2, if_neg h3]
        go_enter Tryd.func72, Tryd.ntmps72
        go_wp2
        go_ret
        exact ⟨rfl, rfl⟩
theorem entry_ok (n : Int) (h0 : 0 ≤ n) (h1 : n ≤ 2147483647) (w : World) : Calls Tryd.prog 90 #[.int .i64 n] w fun e w' => e = .returned (.int .i64 0) ∧ w = w' := by
  go_enter Tryd.func90, Tryd.ntmps90
  go_wp2
  go_ret
  exact ⟨rfl, rfl⟩
theorem bl_al {a w : World} (h : Below a.heap.size a w) (o : Obj) : Below a.heap.size a (w.alloc o) := h.alloc h.size o
theorem bl_tr {a w w1 : World} (h : Below a.heap.size a w) (k : Below w.heap.size w w1) : Below a.heap.size a w1 := h.trans (k.mono h.size)
theorem inform_one (b1 b2 : Nat) (w : World) :
    Calls Tryd.prog 73 #[.agg #[.int .i64 1, .int .i64 1, .int .i64 5, .slice (some ⟨b1, 0, none⟩) 1 1, .slice (some ⟨b2, 0, none⟩) 1 1, .slice none 0 0]] w fun e w' => e = .returned (.bool true) ∧ Below w.heap.size w w' := by
  go_enter Tryd.func73, Tryd.ntmps73
  go_wp2
  go_ret
  exact ⟨rfl, (Below.refl _ _).alloc (Nat.le_refl _) _⟩
set_option maxHeartbeats 400000 in
theorem items_one (b1 b2 : Nat) (w : World) (h1 : w.cell? ⟨b1, 0, none⟩ = some (.int .i64 3)) (h2 : w.cell? ⟨b2, 0, none⟩ = some (.int .i64 4)) (l1 : b1 < w.heap.size) (l2 : b2 < w.heap.size) :
    Calls Tryd.prog 74 #[.agg #[.int .i64 1, .int .i64 1, .int .i64 5, .slice (some ⟨b1, 0, none⟩) 1 1, .slice (some ⟨b2, 0, none⟩) 1 1, .slice none 0 0]] w fun e w' => e = .returned (.int .i64 0) ∧ Below w.heap.size w w' := by
  have E5 := Lib.hid (fun W => entry_ok 5 (by decide) (by decide) W)
  have E3 := Lib.hid (fun W => entry_ok 3 (by decide) (by decide) W)
  have E4 := Lib.hid (fun W => entry_ok 4 (by decide) (by decide) W)
  go_enter Tryd.func74, Tryd.ntmps74
  go_wp2_with fail
  refine (E5.out _).mono ?_; rintro e w1 ⟨rfl, rfl⟩
  go_wp2
  go_loop [17] (fun i => ∃ k : Nat, k ≤ 1 ∧ i = .int .i64 k) (fun i => 1 - (intOf i).toNat)
  case atStart => exact ⟨0, by omega, rfl⟩
  case round =>
    obtain ⟨k, hk, rfl⟩ := hrel
    by_cases hlt : k < 1
    · obtain rfl : k = 0 := by omega
      go_wp2_with fail
      refine (E3.out _).mono ?_; rintro e w1 ⟨rfl, rfl⟩
      go_wp2_with fail
      refine (E4.out _).mono ?_; rintro e w1 ⟨rfl, rfl⟩
      go_wp2
      go_round
      case rel => exact ⟨1, by omega, by go_num⟩
      case measure => simp [intOf]
    · go_wp2
      go_ret
      exact ⟨rfl, (Below.refl _ _).alloc (Nat.le_refl _) _⟩
theorem lt_cell {w : World} {b j : Nat} {v : Value} (h : w.cell? ⟨b, j, none⟩ = some v) : b < w.heap.size := by
  rcases Nat.lt_or_ge b w.heap.size with hlt | hge
  · exact hlt
  · unfold World.cell? at h
    rw [Array.getElem?_eq_none hge] at h
    cases h
theorem check_one (b1 b2 : Nat) (w : World) (h1 : w.cell? ⟨b1, 0, none⟩ = some (.int .i64 3)) (h2 : w.cell? ⟨b2, 0, none⟩ = some (.int .i64 4)) (l1 : b1 < w.heap.size) (l2 : b2 < w.heap.size) :
    Calls Tryd.prog 47 #[.agg #[.int .i64 1, .int .i64 1, .int .i64 5, .slice (some ⟨b1, 0, none⟩) 1 1, .slice (some ⟨b2, 0, none⟩) 1 1, .slice none 0 0]] w fun e w' => e = .returned (.int .i64 0) ∧ Below w.heap.size w w' := by
  have N1 := Lib.hid (show ∀ W, Calls Tryd.prog 72 #[.int .i64 1] W fun e w' => e = .returned (.string ⟨#[75, 78, 65, 80, 83, 65, 67, 75]⟩) ∧ W = w' from fun W => name_any 1 W)
  have F1 := Lib.hid (fun W => inform_one b1 b2 W)
  go_enter Tryd.func47, Tryd.ntmps47
  go_wp2_with fail
  refine (N1.out _).mono ?_; rintro e w1 ⟨rfl, rfl⟩
  go_wp2_with fail
  refine (F1.out _).mono ?_; rintro e w2 ⟨rfl, hb2⟩
  have g1 : w2.cell? ⟨b1, 0, none⟩ = some (.int .i64 3) := by rw [hb2.cell (p := ⟨b1, 0, none⟩) (by simp; omega)]; exact (((Below.refl _ w).alloc (Nat.le_refl _) _).cell (p := ⟨b1, 0, none⟩) l1).trans h1
  have g2 : w2.cell? ⟨b2, 0, none⟩ = some (.int .i64 4) := by rw [hb2.cell (p := ⟨b2, 0, none⟩) (by simp; omega)]; exact (((Below.refl _ w).alloc (Nat.le_refl _) _).cell (p := ⟨b2, 0, none⟩) l2).trans h2
  have I1 := Lib.hid (items_one b1 b2 w2 g1 g2 (lt_cell g1) (lt_cell g2))
  have hsz := hb2.size
  have bl := bl_tr (bl_al (Below.refl w.heap.size w) (.cells #[.int .i64 1, .int .i64 1, .int .i64 5, .slice (some ⟨b1, 0, none⟩) 1 1, .slice (some ⟨b2, 0, none⟩) 1 1, .slice none 0 0] 25)) hb2
  obtain ⟨hc, hf⟩ := (⟨fun b o h => hb2.cell (p := ⟨b, o, none⟩) h, fun b o h => hb2.frozen (p := ⟨b, o, none⟩) h⟩ : (∀ b o, b < (w.alloc (.cells #[.int .i64 1, .int .i64 1, .int .i64 5, .slice (some ⟨b1, 0, none⟩) 1 1, .slice (some ⟨b2, 0, none⟩) 1 1, .slice none 0 0] 25)).heap.size → w2.cell? ⟨b, o, none⟩ = (w.alloc (.cells #[.int .i64 1, .int .i64 1, .int .i64 5, .slice (some ⟨b1, 0, none⟩) 1 1, .slice (some ⟨b2, 0, none⟩) 1 1, .slice none 0 0] 25)).cell? ⟨b, o, none⟩) ∧ (∀ b o, b < (w.alloc (.cells #[.int .i64 1, .int .i64 1, .int .i64 5, .slice (some ⟨b1, 0, none⟩) 1 1, .slice (some ⟨b2, 0, none⟩) 1 1, .slice none 0 0] 25)).heap.size → w2.frozen? ⟨b, o, none⟩ = (w.alloc (.cells #[.int .i64 1, .int .i64 1, .int .i64 5, .slice (some ⟨b1, 0, none⟩) 1 1, .slice (some ⟨b2, 0, none⟩) 1 1, .slice none 0 0] 25)).frozen? ⟨b, o, none⟩))
  clear hb2 g1 g2
  go_wp2_with fail
  refine I1.out.mono ?_; rintro e w3 ⟨rfl, hb3⟩
  go_wp2
  go_ret
  exact ⟨rfl, bl_tr bl hb3⟩
end Go.Proofs.YtlhpiikpmmlpeaaDoor

/-
  What inst.Check and what it calls answer of every problem whose lists lie in memory.
-/
namespace Go.Proofs.YtlhpiikpmmlpeaaDoor
open Go.RowKit
set_option linter.unusedVariables false

def num (n : Int) : Int := if n < 0 then 1 else if 2147483647 < n then 5 else 0
theorem entry_any (n : Int) (w : World) : Calls Tryd.prog 90 #[.int .i64 n] w fun e w' => e = .returned (.int .i64 (num n)) ∧ w = w' := by
  unfold num
  by_cases h : n < 0
  · rw [if_pos h]
    go_enter Tryd.func90, Tryd.ntmps90
    go_wp2
    go_ret
    exact ⟨rfl, rfl⟩
  · rw [if_neg h]
    by_cases h2 : 2147483647 < n
    · rw [if_pos h2]
      go_enter Tryd.func90, Tryd.ntmps90
      go_wp2
      go_ret
      exact ⟨rfl, rfl⟩
    · rw [if_neg h2]
      go_enter Tryd.func90, Tryd.ntmps90
      go_wp2
      go_ret
      exact ⟨rfl, rfl⟩
theorem number_any (n : Int) (w : World) : Calls Tryd.prog 56 #[.int .i64 n] w fun e w' => e = .returned (.int .i64 (num n)) ∧ w = w' := by
  unfold num
  by_cases h : n < 0
  · rw [if_pos h]
    go_enter Tryd.func56, Tryd.ntmps56
    go_wp2
    go_ret
    exact ⟨rfl, rfl⟩
  · rw [if_neg h]
    by_cases h2 : 2147483647 < n
    · rw [if_pos h2]
      go_enter Tryd.func56, Tryd.ntmps56
      go_wp2
      go_ret
      exact ⟨rfl, rfl⟩
    · rw [if_neg h2]
      go_enter Tryd.func56, Tryd.ntmps56
      go_wp2
      go_ret
      exact ⟨rfl, rfl⟩
attribute [irreducible] num
/-- a list of numbers in memory -/
def Ints (W : World) (a : Option Addr) (l : List Int) : Prop := ∀ j, j < l.length → ∃ b o, a = some ⟨b, o, none⟩ ∧ b < W.heap.size ∧ W.cell? ⟨b, o + j, none⟩ = some (.int .i64 (l[j]?.getD 0))
/-- a list of such lists -/
def Rws (W : World) (a : Option Addr) (l : List (List Int)) : Prop :=
  ∀ j, j < l.length → ∃ b o aj cj, a = some ⟨b, o, none⟩ ∧ b < W.heap.size ∧ W.cell? ⟨b, o + j, none⟩ = some (.slice aj (l[j]?.getD []).length cj) ∧ Ints W aj (l[j]?.getD []) ∧ (l[j]?.getD []).length ≤ 1000
theorem Ints.keep {W W1 : World} {a : Option Addr} {l : List Int} (h : Ints W a l) (hb : Below W.heap.size W W1) : Ints W1 a l := fun j hj => by
  obtain ⟨b, o, h1, h2, h3⟩ := h j hj
  exact ⟨b, o, h1, Nat.lt_of_lt_of_le h2 hb.size, (hb.cell (p := ⟨b, o + j, none⟩) h2).trans h3⟩
theorem Rws.keep {W W1 : World} {a : Option Addr} {l : List (List Int)} (h : Rws W a l) (hb : Below W.heap.size W W1) : Rws W1 a l := fun j hj => by
  obtain ⟨b, o, aj, cj, h1, h2, h3, h4, h5⟩ := h j hj
  exact ⟨b, o, aj, cj, h1, Nat.lt_of_lt_of_le h2 hb.size, (hb.cell (p := ⟨b, o + j, none⟩) h2).trans h3, h4.keep hb, h5⟩
def itemsE : List Int → List Int → Int
  | x :: xs, y :: ys => if num x = 0 then (if num y = 0 then itemsE xs ys else num y) else num x
  | _, _ => 0
theorem drop_get {l : List Int} {k : Nat} (h : k < l.length) : l.drop k = l[k]?.getD 0 :: l.drop (k + 1) := by
  rw [List.drop_eq_getElem_cons h, List.getElem?_eq_getElem h]; rfl
theorem drop_row {l : List (List Int)} {k : Nat} (h : k < l.length) : l.drop k = l[k]?.getD [] :: l.drop (k + 1) := by
  rw [List.drop_eq_getElem_cons h, List.getElem?_eq_getElem h]; rfl
theorem itemsE_at {xs ys : List Int} {k : Nat} (hx : k < xs.length) (hy : k < ys.length) : itemsE (xs.drop k) (ys.drop k) = if num (xs[k]?.getD 0) = 0 then (if num (ys[k]?.getD 0) = 0 then itemsE (xs.drop (k + 1)) (ys.drop (k + 1)) else num (ys[k]?.getD 0)) else num (xs[k]?.getD 0) := by
  rw [drop_get hx, drop_get hy]; rfl
theorem itemsE_end {xs ys : List Int} {k : Nat} (hx : xs.length ≤ k) : itemsE (xs.drop k) (ys.drop k) = 0 := by
  rw [List.drop_eq_nil_of_le hx]; unfold itemsE; rfl
attribute [irreducible] itemsE
theorem ret_i {a b : Int} (h : a = b) : Ending.returned (.int .i64 a) = .returned (.int .i64 b) := by rw [h]
set_option maxHeartbeats 1000000 in
theorem items_any (K N C : Int) (wl vl : List Int) (wa va ca : Option Addr) (wc vc cn cc : Nat) (w : World) (hw : Ints w wa wl) (hv : Ints w va vl) (hlen : vl.length = wl.length) (hl : wl.length ≤ 1000) :
    Calls Tryd.prog 74 #[.agg #[.int .i64 K, .int .i64 N, .int .i64 C, .slice wa wl.length wc, .slice va vl.length vc, .slice ca cn cc]] w
      fun e w' => e = .returned (.int .i64 (if num C = 0 then itemsE wl vl else num C)) ∧ Below w.heap.size w w' := by
  have EC := Lib.hid (fun W => entry_any C W)
  have HW := Lib.hid hw
  have HV := Lib.hid hv
  clear hw hv
  rw [hlen]
  by_cases hC : num C = 0
  · rw [if_pos hC]
    go_enter Tryd.func74, Tryd.ntmps74
    go_wp2_with fail
    refine (EC.out _).mono ?_; rintro e w1 ⟨rfl, rfl⟩
    go_wp2
    go_loop [17] (fun i => ∃ k : Nat, k ≤ wl.length ∧ i = .int .i64 k ∧ Hid (itemsE wl vl = itemsE (wl.drop k) (vl.drop k))) (fun i => wl.length - (intOf i).toNat)
    case atStart => exact ⟨0, by omega, rfl, rfl⟩
    case round =>
      obtain ⟨k, hk, rfl, HE⟩ := hrel
      by_cases hlt : k < wl.length
      · obtain ⟨b, o, rfl, hb, hc⟩ := HW.out k hlt
        obtain ⟨b2, o2, rfl, hb2, hc2⟩ := HV.out k (by omega)
        have hit := Lib.hid (itemsE_at hlt (show k < vl.length by omega))
        generalize wl[k]?.getD 0 = x at *
        generalize vl[k]?.getD 0 = y at *
        have EX := Lib.hid (fun W => entry_any x W)
        have EY := Lib.hid (fun W => entry_any y W)
        by_cases hx : num x = 0
        · by_cases hy : num y = 0
          · go_wp2_with fail
            refine (EX.out _).mono ?_; rintro e w1 ⟨rfl, rfl⟩
            go_wp2_with fail
            refine (EY.out _).mono ?_; rintro e w1 ⟨rfl, rfl⟩
            go_wp2
            go_round
            case rel => exact ⟨k + 1, by omega, by go_num, HE.out.trans (hit.out.trans (by rw [if_pos hx, if_pos hy]))⟩
            case measure => simp [intOf]; omega
          · go_wp2_with fail
            refine (EX.out _).mono ?_; rintro e w1 ⟨rfl, rfl⟩
            go_wp2_with fail
            refine (EY.out _).mono ?_; rintro e w1 ⟨rfl, rfl⟩
            go_wp2
            go_ret
            exact ⟨ret_i (HE.out.trans (hit.out.trans (by rw [if_pos hx, if_neg hy]))).symm, bl_al (Below.refl _ _) _⟩
        · go_wp2_with fail
          refine (EX.out _).mono ?_; rintro e w1 ⟨rfl, rfl⟩
          go_wp2
          go_ret
          exact ⟨ret_i (HE.out.trans (hit.out.trans (by rw [if_neg hx]))).symm, bl_al (Below.refl _ _) _⟩
      · go_wp2
        go_ret
        exact ⟨ret_i (HE.out.trans (itemsE_end (by omega))).symm, bl_al (Below.refl _ _) _⟩
  · rw [if_neg hC]
    go_enter Tryd.func74, Tryd.ntmps74
    go_wp2_with fail
    refine (EC.out _).mono ?_; rintro e w1 ⟨rfl, rfl⟩
    go_wp2
    go_ret
    exact ⟨rfl, bl_al (Below.refl _ _) _⟩
end Go.Proofs.YtlhpiikpmmlpeaaDoor

/-
  What inst.checkCosts and inst.inForm answer of every problem whose lists lie in memory.
-/
namespace Go.Proofs.YtlhpiikpmmlpeaaDoor
open Go.RowKit
set_option linter.unusedVariables false

def rowE (K : Int) (a b : Nat) : List Int → Int
  | [] => 0
  | x :: xs => if num x = 0 then (if K = 3 ∧ a = b ∧ x ≠ 0 then 8 else rowE K a (b + 1) xs) else num x
def costE (K : Int) (a : Nat) : List (List Int) → Int
  | [] => 0
  | r :: rs => if rowE K a 0 r = 0 then costE K (a + 1) rs else rowE K a 0 r
theorem rowE_at (K : Int) (a : Nat) {l : List Int} {k : Nat} (h : k < l.length) : rowE K a k (l.drop k) = if num (l[k]?.getD 0) = 0 then (if K = 3 ∧ a = k ∧ l[k]?.getD 0 ≠ 0 then 8 else rowE K a (k + 1) (l.drop (k + 1))) else num (l[k]?.getD 0) := by
  rw [drop_get h]; rfl
theorem rowE_end (K : Int) (a : Nat) {l : List Int} {k : Nat} (h : l.length ≤ k) : rowE K a k (l.drop k) = 0 := by rw [List.drop_eq_nil_of_le h]; rfl
theorem costE_at (K : Int) {l : List (List Int)} {k : Nat} (h : k < l.length) : costE K k (l.drop k) = if rowE K k 0 (l[k]?.getD []) = 0 then costE K (k + 1) (l.drop (k + 1)) else rowE K k 0 (l[k]?.getD []) := by
  rw [drop_row h]; rfl
theorem costE_end (K : Int) {l : List (List Int)} {k : Nat} (h : l.length ≤ k) : costE K k (l.drop k) = 0 := by rw [List.drop_eq_nil_of_le h]; rfl
attribute [irreducible] rowE costE
set_option maxHeartbeats 2000000 in
theorem costs_any (K N C : Int) (cl : List (List Int)) (wa va ca : Option Addr) (wn vn wc vc cc : Nat) (w : World) (hr : Rws w ca cl) (hl : cl.length ≤ 1000) :
    Calls Tryd.prog 75 #[.agg #[.int .i64 K, .int .i64 N, .int .i64 C, .slice wa wn wc, .slice va vn vc, .slice ca cl.length cc]] w
      fun e w' => e = .returned (.int .i64 (costE K 0 cl)) ∧ Below w.heap.size w w' := by
  have HR := Lib.hid hr
  clear hr
  go_enter Tryd.func75, Tryd.ntmps75
  go_wp2
  go_loop [11] (fun i => ∃ k : Nat, k ≤ cl.length ∧ i = .int .i64 k ∧ Hid (costE K 0 cl = costE K k (cl.drop k))) (fun i => cl.length - (intOf i).toNat)
  case atStart => exact ⟨0, by omega, rfl, rfl⟩
  case round =>
    obtain ⟨k, hk, rfl, HE⟩ := hrel
    by_cases hlt : k < cl.length
    · obtain ⟨b, o, aj, cj, rfl, hb, hc, hrow, hrl⟩ := HR.out k hlt
      have hit := Lib.hid (costE_at K hlt)
      generalize cl[k]?.getD [] = row at *
      have HI := Lib.hid hrow
      clear hrow
      go_wp2
      go_loop [18] (fun i => ∃ j : Nat, j ≤ row.length ∧ i = .int .i64 j ∧ Hid (rowE K k 0 row = rowE K k j (row.drop j))) (fun i => row.length - (intOf i).toNat)
      case atStart => exact ⟨0, by omega, rfl, rfl⟩
      case round =>
        obtain ⟨j, hj, rfl, HJ⟩ := hrel
        by_cases hltj : j < row.length
        · obtain ⟨b2, o2, rfl, hb2, hc2⟩ := HI.out j hltj
          have hitj := Lib.hid (rowE_at K k hltj)
          generalize row[j]?.getD 0 = x at *
          have EX := Lib.hid (fun W => entry_any x W)
          by_cases hx : num x = 0
          · by_cases h8 : K = 3 ∧ k = j ∧ x ≠ 0
            · have HF := Lib.hid (show costE K 0 cl = 8 from HE.out.trans (hit.out.trans (by
                have e : rowE K k 0 row = 8 := HJ.out.trans (hitj.out.trans (by rw [if_pos hx, if_pos h8]))
                rw [e]; simp)))
              obtain ⟨rfl, rfl, hx0⟩ := h8
              go_wp2_with fail
              refine (EX.out _).mono ?_; rintro e w1 ⟨rfl, rfl⟩
              go_wp2
              go_ret
              exact ⟨ret_i HF.out.symm, bl_al (Below.refl _ _) _⟩
            · have HF := Lib.hid (show rowE K k 0 row = rowE K k (j + 1) (row.drop (j + 1)) from HJ.out.trans (hitj.out.trans (by rw [if_pos hx, if_neg h8])))
              have h8' : (K ≠ 3) ∨ (K = 3 ∧ k ≠ j) ∨ (K = 3 ∧ k = j ∧ x = 0) := by
                by_cases h1 : K = 3
                · by_cases h2 : k = j
                  · by_cases h3 : x = 0
                    · exact Or.inr (Or.inr ⟨h1, h2, h3⟩)
                    · exact absurd ⟨h1, h2, h3⟩ h8
                  · exact Or.inr (Or.inl ⟨h1, h2⟩)
                · exact Or.inl h1
              clear h8
              rcases h8' with h8 | ⟨rfl, h8⟩ | ⟨rfl, rfl, rfl⟩
              all_goals
                go_wp2_with fail
                refine (EX.out _).mono ?_; rintro e w1 ⟨rfl, rfl⟩
                go_wp2
                all_goals
                  go_round
                  case rel => exact ⟨_, by omega, by go_num, HF⟩
                  case measure => simp [intOf]; omega
          · have HF := Lib.hid (show costE K 0 cl = num x from HE.out.trans (hit.out.trans (by
              have e : rowE K k 0 row = num x := HJ.out.trans (hitj.out.trans (by rw [if_neg hx]))
              rw [e, if_neg hx])))
            go_wp2_with fail
            refine (EX.out _).mono ?_; rintro e w1 ⟨rfl, rfl⟩
            go_wp2
            go_ret
            exact ⟨ret_i HF.out.symm, bl_al (Below.refl _ _) _⟩
        · have HF := Lib.hid (show costE K 0 cl = costE K (k + 1) (cl.drop (k + 1)) from HE.out.trans (hit.out.trans (by
            have e : rowE K k 0 row = 0 := HJ.out.trans (rowE_end K k (by omega))
            rw [e, if_pos rfl])))
          go_wp2
          go_round
          case rel => exact ⟨k + 1, by omega, by go_num, HF⟩
          case measure => simp [intOf]; omega
    · go_wp2
      go_ret
      exact ⟨ret_i (HE.out.trans (costE_end K (by omega))).symm, bl_al (Below.refl _ _) _⟩
end Go.Proofs.YtlhpiikpmmlpeaaDoor

/-
  What inst.inForm and inst.Check answer of every problem whose lists lie in memory.
-/
namespace Go.Proofs.YtlhpiikpmmlpeaaDoor
open Go.RowKit
set_option linter.unusedVariables false

def rowsP (cl : List (List Int)) : Prop := ∀ j, j < cl.length → (cl[j]?.getD []).length = cl.length
def formP (K N C : Int) (wn vn : Nat) (cl : List (List Int)) : Prop :=
  (K = 1 ∧ (wn : Int) = N ∧ (vn : Int) = N ∧ cl.length = 0) ∨ (K ≠ 1 ∧ (cl.length : Int) = N ∧ C = 0 ∧ wn = 0 ∧ vn = 0 ∧ rowsP cl)
set_option maxHeartbeats 1000000 in
theorem inform_rows (K : Int) (hK : K ≠ 1) (b : Bool) (cl : List (List Int)) (hb : b = true ↔ rowsP cl) (wa va ca : Option Addr) (wc vc cc : Nat) (w : World) (hr : Rws w ca cl) (hl : cl.length ≤ 1000) :
    Calls Tryd.prog 73 #[.agg #[.int .i64 K, .int .i64 cl.length, .int .i64 0, .slice wa 0 wc, .slice va 0 vc, .slice ca cl.length cc]] w
      fun e w' => e = .returned (.bool b) ∧ Below w.heap.size w w' := by
  have HR := Lib.hid hr
  have HB := Lib.hid hb
  clear hr hb
  go_enter Tryd.func73, Tryd.ntmps73
  go_wp2
  go_loop [54] (fun i => ∃ k : Nat, k ≤ cl.length ∧ i = .int .i64 k ∧ Hid (∀ j, j < k → (cl[j]?.getD []).length = cl.length)) (fun i => cl.length - (intOf i).toNat)
  case atStart => exact ⟨0, by omega, rfl, fun j hj => absurd hj (by omega)⟩
  case round =>
    obtain ⟨k, hk, rfl, HE⟩ := hrel
    by_cases hlt : k < cl.length
    · obtain ⟨b1, o, aj, cj, rfl, hb1, hc, hrow, hrl⟩ := HR.out k hlt
      have hg : ∃ g, cl[k]?.getD [] = g := ⟨_, rfl⟩
      obtain ⟨row, hrw⟩ := hg
      have HG := Lib.hid hrw
      rw [hrw] at hc hrow hrl
      clear hrw hrow
      by_cases he : row.length = cl.length
      · have HF : Hid (∀ j, j < k + 1 → (cl[j]?.getD []).length = cl.length) := fun j hj => by
          rcases Nat.lt_or_ge j k with h | h
          · exact HE.out j h
          · obtain rfl : j = k := by omega
            rw [HG.out]; exact he
        go_wp2
        go_round
        case rel => exact ⟨k + 1, by omega, by go_num, HF⟩
        case measure => simp [intOf]; omega
      · have hbf : b = false := by
          cases b
          · rfl
          · exact absurd (HB.out.1 rfl k hlt) (by rw [HG.out]; exact he)
        subst hbf
        have he' : ¬ (row.length : Int) = (cl.length : Int) := by omega
        go_wp2
        go_ret
        exact ⟨rfl, bl_al (Below.refl _ _) _⟩
    · have hbt : b = true := HB.out.2 (fun j hj => HE.out j (by omega))
      subst hbt
      go_wp2
      go_ret
      exact ⟨rfl, bl_al (Below.refl _ _) _⟩
set_option maxHeartbeats 1000000 in
theorem inform_any (K N C : Int) (b : Bool) (wn vn : Nat) (cl : List (List Int)) (hb : b = true ↔ formP K N C wn vn cl) (wa va ca : Option Addr) (wc vc cc : Nat) (w : World) (hr : Rws w ca cl) (hl : cl.length ≤ 1000) :
    Calls Tryd.prog 73 #[.agg #[.int .i64 K, .int .i64 N, .int .i64 C, .slice wa wn wc, .slice va vn vc, .slice ca cl.length cc]] w
      fun e w' => e = .returned (.bool b) ∧ Below w.heap.size w w' := by
  by_cases hK : K = 1
  · subst hK
    by_cases h1 : (wn : Int) = N
    · subst h1
      by_cases h2 : vn = wn
      · subst h2
        by_cases h3 : cl.length = 0
        · have hbt : b = true := hb.2 (Or.inl ⟨rfl, rfl, rfl, h3⟩)
          subst hbt
          rw [h3]
          clear hb hr hl
          go_enter Tryd.func73, Tryd.ntmps73
          go_wp2
          go_ret
          exact ⟨rfl, bl_al (Below.refl _ _) _⟩
        · have hbf : b = false := by
            cases b
            · rfl
            · rcases hb.1 rfl with h | h
              · exact absurd h.2.2.2 h3
              · exact absurd rfl h.1
          subst hbf
          generalize cl.length = m at *
          have h3' : ((m : Int) == 0) = false := by simp; omega
          clear hb hr hl
          go_enter Tryd.func73, Tryd.ntmps73
          go_wp2
          go_ret
          exact ⟨rfl, bl_al (Below.refl _ _) _⟩
      · have hbf : b = false := by
          cases b
          · rfl
          · rcases hb.1 rfl with h | h
            · exact absurd h.2.2.1 (by omega)
            · exact absurd rfl h.1
        subst hbf
        have h2' : ¬ (vn : Int) = (wn : Int) := by omega
        clear hb hr hl
        go_enter Tryd.func73, Tryd.ntmps73
        go_wp2
        go_ret
        exact ⟨rfl, bl_al (Below.refl _ _) _⟩
    · have hbf : b = false := by
        cases b
        · rfl
        · rcases hb.1 rfl with h | h
          · exact absurd h.2.1 h1
          · exact absurd rfl h.1
      subst hbf
      clear hb hr hl
      go_enter Tryd.func73, Tryd.ntmps73
      go_wp2
      go_ret
      exact ⟨rfl, bl_al (Below.refl _ _) _⟩
  · by_cases h1 : (cl.length : Int) = N
    · subst h1
      by_cases h2 : C = 0
      · subst h2
        by_cases h3 : wn = 0
        · subst h3
          by_cases h4 : vn = 0
          · subst h4
            exact inform_rows K hK b cl (hb.trans ⟨fun h => by
              rcases h with h | h
              · exact absurd h.1 hK
              · exact h.2.2.2.2.2, fun h => Or.inr ⟨hK, rfl, rfl, rfl, rfl, h⟩⟩) wa va ca wc vc cc w hr hl
          · have hbf : b = false := by
              cases b
              · rfl
              · rcases hb.1 rfl with h | h
                · exact absurd h.1 hK
                · exact absurd h.2.2.2.2.1 h4
            subst hbf
            have h4' : ¬ (vn : Int) = 0 := by omega
            clear hb hr hl
            go_enter Tryd.func73, Tryd.ntmps73
            go_wp2
            go_ret
            exact ⟨rfl, bl_al (Below.refl _ _) _⟩
        · have hbf : b = false := by
            cases b
            · rfl
            · rcases hb.1 rfl with h | h
              · exact absurd h.1 hK
              · exact absurd h.2.2.2.1 h3
          subst hbf
          have h3' : ¬ (wn : Int) = 0 := by omega
          clear hb hr hl
          go_enter Tryd.func73, Tryd.ntmps73
          go_wp2
          go_ret
          exact ⟨rfl, bl_al (Below.refl _ _) _⟩
      · have hbf : b = false := by
          cases b
          · rfl
          · rcases hb.1 rfl with h | h
            · exact absurd h.1 hK
            · exact absurd h.2.2.1 h2
        subst hbf
        clear hb hr hl
        go_enter Tryd.func73, Tryd.ntmps73
        go_wp2
        go_ret
        exact ⟨rfl, bl_al (Below.refl _ _) _⟩
    · have hbf : b = false := by
        cases b
        · rfl
        · rcases hb.1 rfl with h | h
          · exact absurd h.1 hK
          · exact absurd h.2.1 h1
      subst hbf
      clear hb hr hl
      go_enter Tryd.func73, Tryd.ntmps73
      go_wp2
      go_ret
      exact ⟨rfl, bl_al (Below.refl _ _) _⟩
attribute [irreducible] formP
end Go.Proofs.YtlhpiikpmmlpeaaDoor

/-
  What inst.Check answers of every problem whose lists lie in memory.
-/
namespace Go.Proofs.YtlhpiikpmmlpeaaDoor
open Go.RowKit
set_option linter.unusedVariables false

open Classical in
/-- the first thing that is wrong with a problem, 0: nothing -/
noncomputable def chk (K N C : Int) (wl vl : List Int) (cl : List (List Int)) : Int :=
  if K < 1 ∨ 3 < K then 14 else if N < 1 then 1 else if (K = 1 ∧ 64 < N) ∨ (K ≠ 1 ∧ 24 < N) then 5 else if ¬ formP K N C wl.length vl.length cl then 8
  else if K = 1 then (if num C = 0 then itemsE wl vl else num C) else costE K 0 cl
theorem chk_kind {K N C : Int} {wl vl : List Int} {cl : List (List Int)} (h : K < 1 ∨ 3 < K) : chk K N C wl vl cl = 14 := by unfold chk; rw [if_pos h]
theorem chk_arg {K N C : Int} {wl vl : List Int} {cl : List (List Int)} (h : ¬ (K < 1 ∨ 3 < K)) (h1 : N < 1) : chk K N C wl vl cl = 1 := by unfold chk; rw [if_neg h, if_pos h1]
theorem chk_big {K N C : Int} {wl vl : List Int} {cl : List (List Int)} (h : ¬ (K < 1 ∨ 3 < K)) (h1 : ¬ N < 1) (h2 : (K = 1 ∧ 64 < N) ∨ (K ≠ 1 ∧ 24 < N)) : chk K N C wl vl cl = 5 := by unfold chk; rw [if_neg h, if_neg h1, if_pos h2]
theorem chk_form {K N C : Int} {wl vl : List Int} {cl : List (List Int)} (h : ¬ (K < 1 ∨ 3 < K)) (h1 : ¬ N < 1) (h2 : ¬ ((K = 1 ∧ 64 < N) ∨ (K ≠ 1 ∧ 24 < N))) (h3 : ¬ formP K N C wl.length vl.length cl) : chk K N C wl vl cl = 8 := by
  unfold chk; rw [if_neg h, if_neg h1, if_neg h2, if_pos h3]
theorem chk_items {K N C : Int} {wl vl : List Int} {cl : List (List Int)} (h : ¬ (K < 1 ∨ 3 < K)) (h1 : ¬ N < 1) (h2 : ¬ ((K = 1 ∧ 64 < N) ∨ (K ≠ 1 ∧ 24 < N))) (h3 : formP K N C wl.length vl.length cl) (h4 : K = 1) : chk K N C wl vl cl = if num C = 0 then itemsE wl vl else num C := by
  unfold chk; rw [if_neg h, if_neg h1, if_neg h2, if_neg (by simpa using h3), if_pos h4]
theorem chk_costs {K N C : Int} {wl vl : List Int} {cl : List (List Int)} (h : ¬ (K < 1 ∨ 3 < K)) (h1 : ¬ N < 1) (h2 : ¬ ((K = 1 ∧ 64 < N) ∨ (K ≠ 1 ∧ 24 < N))) (h3 : formP K N C wl.length vl.length cl) (h4 : ¬ K = 1) : chk K N C wl vl cl = costE K 0 cl := by
  unfold chk; rw [if_neg h, if_neg h1, if_neg h2, if_neg (by simpa using h3), if_neg h4]
theorem form_items {K N C : Int} {wn vn : Nat} {cl : List (List Int)} (h : formP K N C wn vn cl) (h4 : K = 1) : (wn : Int) = N ∧ (vn : Int) = N ∧ cl.length = 0 := by
  unfold formP at h
  rcases h with h | h
  · exact h.2
  · exact absurd h4 h.1
theorem form_costs {K N C : Int} {wn vn : Nat} {cl : List (List Int)} (h : formP K N C wn vn cl) (h4 : K ≠ 1) : (cl.length : Int) = N ∧ C = 0 ∧ wn = 0 ∧ vn = 0 ∧ rowsP cl := by
  unfold formP at h
  rcases h with h | h
  · exact absurd h.1 h4
  · exact h.2
attribute [irreducible] chk
theorem box_cells {w w2 : World} {v0 v1 v2 v3 v4 v5 : Value} (hb : Below (w.alloc (.cells #[v0, v1, v2, v3, v4, v5] 25)).heap.size (w.alloc (.cells #[v0, v1, v2, v3, v4, v5] 25)) w2) :
    (w2.cell? ⟨w.heap.size, 0, none⟩ = some v0 ∧ w2.cell? ⟨w.heap.size, 1, none⟩ = some v1 ∧ w2.cell? ⟨w.heap.size, 2, none⟩ = some v2 ∧ w2.cell? ⟨w.heap.size, 3, none⟩ = some v3 ∧ w2.cell? ⟨w.heap.size, 4, none⟩ = some v4 ∧ w2.cell? ⟨w.heap.size, 5, none⟩ = some v5) ∧ Below w.heap.size w w2 := by
  have q : w2.heap[w.heap.size]? = some (.cells #[v0, v1, v2, v3, v4, v5] 25 (0, 0)) := (hb.block _ (by simp)).trans (heap_alloc_new w _)
  exact ⟨⟨cell_of_row _ _ 0 _ _ _ q, cell_of_row _ _ 1 _ _ _ q, cell_of_row _ _ 2 _ _ _ q, cell_of_row _ _ 3 _ _ _ q, cell_of_row _ _ 4 _ _ _ q, cell_of_row _ _ 5 _ _ _ q⟩, bl_tr (bl_al (Below.refl _ _) _) hb⟩
set_option maxHeartbeats 2000000 in
theorem check_any (K N C : Int) (wl vl : List Int) (cl : List (List Int)) (wa va ca : Option Addr) (wc vc cc : Nat) (w : World) (hw : Ints w wa wl) (hv : Ints w va vl) (hr : Rws w ca cl)
    (l1 : wl.length ≤ 1000) (l2 : vl.length ≤ 1000) (l3 : cl.length ≤ 1000) :
    Calls Tryd.prog 47 #[.agg #[.int .i64 K, .int .i64 N, .int .i64 C, .slice wa wl.length wc, .slice va vl.length vc, .slice ca cl.length cc]] w
      fun e w' => e = .returned (.int .i64 (chk K N C wl vl cl)) ∧ Below w.heap.size w w' := by
  have HN := Lib.hid (fun W => name_any K W)
  have bA : ∀ o, Below w.heap.size w (w.alloc o) := fun o => bl_al (Below.refl _ _) _
  by_cases hK : K < 1 ∨ 3 < K
  · have hs : nameOf K = [] := by unfold nameOf; rw [if_neg (by omega), if_neg (by omega), if_neg (by omega)]
    rw [hs] at HN
    rw [chk_kind hK]
    clear hw hv hr hs
    by_cases h1 : K = 1
    · omega
    · clear hK
      go_enter Tryd.func47, Tryd.ntmps47
      go_wp2_with fail
      refine (HN.out _).mono ?_; rintro e w1 ⟨rfl, rfl⟩
      go_wp2
      go_ret
      exact ⟨rfl, bl_al (Below.refl _ _) _⟩
  · have HK := Lib.hid hK
    by_cases h1 : N < 1
    · rw [chk_arg hK h1]
      clear hw hv hr
      obtain rfl | rfl | rfl : K = 1 ∨ K = 2 ∨ K = 3 := by omega
      all_goals
        clear hK
        go_enter Tryd.func47, Tryd.ntmps47
        go_wp2_with fail
        refine (HN.out _).mono ?_; rintro e w1 ⟨rfl, rfl⟩
        go_wp2
        go_ret
        exact ⟨rfl, bl_al (Below.refl _ _) _⟩
    · by_cases h2 : (K = 1 ∧ 64 < N) ∨ (K ≠ 1 ∧ 24 < N)
      · rw [chk_big hK h1 h2]
        clear hw hv hr
        obtain rfl | rfl | rfl : K = 1 ∨ K = 2 ∨ K = 3 := by omega
        all_goals
          first
            | (have h3 : 64 < N := by omega)
            | (have h3 : 24 < N := by omega)
          clear hK h2
          go_enter Tryd.func47, Tryd.ntmps47
          go_wp2_with fail
          refine (HN.out _).mono ?_; rintro e w1 ⟨rfl, rfl⟩
          go_wp2
          go_ret
          exact ⟨rfl, bl_al (Below.refl _ _) _⟩
      · by_cases h3 : formP K N C wl.length vl.length cl
        · have HF := Lib.hid (fun o => inform_any K N C true wl.length vl.length cl ⟨fun _ => h3, fun _ => rfl⟩ wa va ca wc vc cc (w.alloc o) (hr.keep (bA o)) l3)
          have HW := Lib.hid hw
          have HV := Lib.hid hv
          have HR := Lib.hid hr
          clear hw hv hr
          by_cases h4 : K = 1
          · rw [chk_items hK h1 h2 h3 h4]
            obtain ⟨f1, f2, f3⟩ := form_items h3 h4
            have HI := Lib.hid (fun W (hb : Below w.heap.size w W) => items_any K N C wl vl wa va ca wc vc cl.length cc W (HW.out.keep hb) (HV.out.keep hb) (by omega) l1)
            have b64 : N ≤ 64 := by omega
            clear hK h2 h3 f1 f2 f3 bA
            subst h4
            generalize (if num C = 0 then itemsE wl vl else num C) = r at *
            go_enter Tryd.func47, Tryd.ntmps47
            go_wp2_with fail
            refine (HN.out _).mono ?_; rintro e w1 ⟨rfl, rfl⟩
            go_wp2_with fail
            refine (HF.out _).mono ?_; rintro e w2 ⟨rfl, hb2⟩
            obtain ⟨⟨c0, c1, c2, c3, c4, c5⟩, bl⟩ := box_cells hb2
            have BL := Lib.hid bl
            clear hb2 bl
            go_wp2_with fail
            refine (HI.out _ BL.out).mono ?_; rintro e w3 ⟨rfl, hb3⟩
            clear c0 c1 c2 c3 c4 c5
            go_wp2
            go_ret
            exact ⟨rfl, bl_tr BL.out hb3⟩
          · rw [chk_costs hK h1 h2 h3 h4]
            have HI := Lib.hid (fun W (hb : Below w.heap.size w W) => costs_any K N C cl wa va ca wl.length vl.length wc vc cc W (HR.out.keep hb) l3)
            have b24 : N ≤ 24 := by omega
            clear h2 h3 bA
            generalize hrr : costE K 0 cl = r at *
            clear hrr
            obtain rfl | rfl : K = 2 ∨ K = 3 := by omega
            all_goals
              clear hK h4
              go_enter Tryd.func47, Tryd.ntmps47
              go_wp2_with fail
              refine (HN.out _).mono ?_; rintro e w1 ⟨rfl, rfl⟩
              go_wp2_with fail
              refine (HF.out _).mono ?_; rintro e w2 ⟨rfl, hb2⟩
              obtain ⟨⟨c0, c1, c2, c3, c4, c5⟩, bl⟩ := box_cells hb2
              have BL := Lib.hid bl
              clear hb2 bl
              go_wp2_with fail
              refine (HI.out _ BL.out).mono ?_; rintro e w3 ⟨rfl, hb3⟩
              clear c0 c1 c2 c3 c4 c5
              go_wp2
              go_ret
              exact ⟨rfl, bl_tr BL.out hb3⟩
        · rw [chk_form hK h1 h2 h3]
          have HF := Lib.hid (fun o => inform_any K N C false wl.length vl.length cl ⟨fun h => (by cases h), fun h => absurd h h3⟩ wa va ca wc vc cc (w.alloc o) (hr.keep (bA o)) l3)
          clear hw hv hr h3 bA
          obtain rfl | rfl | rfl : K = 1 ∨ K = 2 ∨ K = 3 := by omega
          all_goals
            first
              | (have b24 : N ≤ 24 := by omega)
              | (have b64 : N ≤ 64 := by omega)
            clear hK h2
            go_enter Tryd.func47, Tryd.ntmps47
            go_wp2_with fail
            refine (HN.out _).mono ?_; rintro e w1 ⟨rfl, rfl⟩
            go_wp2_with fail
            refine (HF.out _).mono ?_; rintro e w2 ⟨rfl, hb2⟩
            obtain ⟨-, bl⟩ := box_cells hb2
            clear hb2
            go_wp2
            go_ret
            exact ⟨rfl, bl⟩
end Go.Proofs.YtlhpiikpmmlpeaaDoor
