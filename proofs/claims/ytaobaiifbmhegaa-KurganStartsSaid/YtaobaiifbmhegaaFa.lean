/-
  greedy: the cheapest column of a row; the best single item.
-/
import Derived.Test.YtaobaiifbmhegaaFim
import Derived.Test.YtaobaiifbmhegaaRd
namespace Go.Proofs.Ytaobaiifbmhegaa
open Go.RowKit
set_option linter.unusedVariables false
/-- which columns are used -/
def us (n : Nat) (X : List Int) : List Bool := (List.range n).map fun (j : Nat) => decide ((j : Int) ∈ X)
theorem us_len (n : Nat) (X : List Int) : (us n X).length = n := by simp [us]
theorem us_get {n : Nat} {X : List Int} {j : Nat} (h : j < n) : (us n X)[j]? = some (decide ((j : Int) ∈ X)) := by
  unfold us; rw [List.getElem?_map, List.getElem?_range h]; rfl
theorem us_set {n : Nat} {X : List Int} {c : Nat} (h : c < n) : (us n X).set c true = us n (X ++ [(c : Int)]) := by
  apply List.ext_getElem?
  intro j
  rw [List.getElem?_set]
  by_cases e : c = j
  · subst e
    rw [if_pos rfl, if_pos (by rw [us_len]; exact h), us_get h]; simp
  · rw [if_neg e]
    rcases Nat.lt_or_ge j n with q | q
    · rw [us_get q, us_get q]
      have : ((j : Int) = (c : Int)) ↔ False := by constructor; intro hh; omega; exact False.elim
      simp [this]
    · rw [List.getElem?_eq_none (by rw [us_len]; exact q), List.getElem?_eq_none (by rw [us_len]; exact q)]
theorem us_nil (n : Nat) : us n [] = List.replicate n false := by
  apply List.ext_getElem?
  intro j
  rw [List.getElem?_replicate]
  rcases Nat.lt_or_ge j n with q | q
  · rw [us_get q, if_pos q]; simp
  · rw [List.getElem?_eq_none (by rw [us_len]; exact q), if_neg (by omega)]
attribute [irreducible] us
set_option maxRecDepth 100000 in
set_option maxHeartbeats 4000000 in
theorem cheap_any (n : Nat) (row X : List Int) (hr : row.length = n) (ra : Option Addr) (rc gu cu : Nat) (w : World) (hI : Ints w ra row) (hU : ∀ j, j < n → w.cell? ⟨gu, j, none⟩ = some (.bool (decide ((j : Int) ∈ X)))) (hn : n ≤ 1000) :
    Calls Try.prog 57 #[.slice ra n rc, .slice (some ⟨gu, 0, none⟩) n cu] w fun e w' => e = .returned (.int .i64 (chR row X n)) ∧ w = w' := by
  have HI : Hid (∀ j, j < n → ∃ b o, ra = some ⟨b, o, none⟩ ∧ w.cell? ⟨b, o + j, none⟩ = some (.int .i64 (nth row j))) := fun j hj => by
    obtain ⟨b, o, e1, _, e3⟩ := hI j (by omega)
    exact ⟨b, o, e1, by unfold nth; exact e3⟩
  have HU := Lib.hid hU
  have H0 := Lib.hid (ch_zero row X)
  have HY := Lib.hid (fun k h h1 => ch_yes (row := row) (X := X) (k := k) h h1)
  have HN := Lib.hid (fun k h => ch_no (row := row) (X := X) (k := k) h)
  have HIn := Lib.hid (ch_in row X)
  clear hI hU hr
  go_enter Try.func57, Try.ntmps57
  go_wp2
  go_loop [5, 10] (fun v i => ∃ k : Nat, k ≤ n ∧ i = .int .i64 k ∧ v = .int .i64 (chR row X k)) (fun _ i => n - (intOf i).toNat)
  case atStart => exact ⟨0, by omega, rfl, by rw [H0.out]⟩
  case round =>
    obtain ⟨k, hk, rfl, rfl⟩ := hrel
    by_cases hlt : k < n
    · have q1 : (k : Int) < (n : Int) := by omega
      have q0 : (0 : Int) ≤ (k : Int) := by omega
      obtain ⟨b, o, rfl, e1⟩ := HI.out k hlt
      have e2 := HU.out k hlt
      have IN := Lib.hid (HIn.out k)
      by_cases u : (k : Int) ∈ X
      · have E : Hid (chR row X (k + 1) = chR row X k) := HN.out k (fun h => h.1 u)
        rw [decide_eq_true u] at e2
        clear u
        generalize hz : chR row X k = z at *
        have HZ := Lib.hid hz
        clear hz
        generalize nth row k = y at *
        go_wp2
        go_round
        case rel => exact ⟨k + 1, by omega, by go_num, by rw [E.out]⟩
        case measure => simp [intOf]; omega
      · rw [decide_eq_false u] at e2
        by_cases z0 : chR row X k < 0
        · have E : Hid (chR row X (k + 1) = (k : Int)) := HY.out k u (.inl z0)
          clear u
          generalize chR row X k = z at *
          generalize nth row k = y at *
          go_wp2
          go_round
          case rel => exact ⟨k + 1, by omega, by go_num, by rw [E.out]⟩
          case measure => simp [intOf]; omega
        · obtain ⟨m, hm⟩ : ∃ m : Nat, chR row X k = (m : Int) := ⟨(chR row X k).toNat, by omega⟩
          have hmk : m < k := by have := IN.out.2.1; omega
          obtain ⟨b', o', eb, e3⟩ := HI.out m (by omega)
          injection eb with eb; injection eb with eb1 eb2; subst eb1; subst eb2
          have m1 : (m : Int) < (n : Int) := by omega
          have m0 : (0 : Int) ≤ (m : Int) := by omega
          have m2 : ¬ (m : Int) < 0 := by omega
          by_cases c : nth row k < nth row m
          · have E : Hid (chR row X (k + 1) = (k : Int)) := HY.out k u (.inr (by rw [hm]; exact c))
            rw [hm]
            clear u z0 hm
            generalize nth row k = y at *
            generalize nth row m = x at *
            go_wp2
            go_round
            case rel => exact ⟨k + 1, by omega, by go_num, by rw [E.out]⟩
            case measure => simp [intOf]; omega
          · have E : Hid (chR row X (k + 1) = (m : Int)) := by
              have := HN.out k (fun h => h.2.elim z0 (fun h => c (by rw [hm] at h; exact h)))
              rw [hm] at this; exact this
            rw [hm]
            clear u z0 hm
            generalize nth row k = y at *
            generalize nth row m = x at *
            go_wp2
            go_round
            case rel => exact ⟨k + 1, by omega, by go_num, by rw [E.out]⟩
            case measure => simp [intOf]; omega
    · obtain rfl : n = k := by omega
      go_wp2
      go_ret
      exact ⟨rfl, rfl⟩
set_option maxRecDepth 100000 in
set_option maxHeartbeats 4000000 in
theorem alone_any (K N C : Int) (wl vl : List Int) (v5 : Value) (n : Nat) (hw : wl.length = n) (hv : vl.length = n) (hn : n ≤ 1000) (wa va : Option Addr) (wc vc : Nat) (w : World) (h1 : Ints w wa wl) (h2 : Ints w va vl) :
    Calls Try.prog 56 #[.agg #[.int .i64 K, .int .i64 N, .int .i64 C, .slice wa n wc, .slice va n vc, v5]] w fun e w' => e = .returned (.int .i64 (baR C wl vl n)) ∧ Below w.heap.size w w' := by
  have bA : Below w.heap.size w (w.alloc (ob K N C (.slice wa n wc) (.slice va n vc) v5)) := bl_al (Below.refl _ _) _
  have BA := Lib.hid bA
  have q0 := heap_alloc_new w (ob K N C (.slice wa n wc) (.slice va n vc) v5)
  have HQ := Lib.hid q0
  have HW : Hid (∀ j, j < n → ∃ b o, wa = some ⟨b, o, none⟩ ∧ (w.alloc (ob K N C (.slice wa n wc) (.slice va n vc) v5)).cell? ⟨b, o + j, none⟩ = some (.int .i64 (nth wl j))) := fun j hj => by
    obtain ⟨b, o, e1, _, e3⟩ := (h1.keep bA) j (by omega)
    exact ⟨b, o, e1, by unfold nth; exact e3⟩
  have HV : Hid (∀ j, j < n → ∃ b o, va = some ⟨b, o, none⟩ ∧ (w.alloc (ob K N C (.slice wa n wc) (.slice va n vc) v5)).cell? ⟨b, o + j, none⟩ = some (.int .i64 (nth vl j))) := fun j hj => by
    obtain ⟨b, o, e1, _, e3⟩ := (h2.keep bA) j (by omega)
    exact ⟨b, o, e1, by unfold nth; exact e3⟩
  have H0 := Lib.hid (ba_zero C wl vl)
  have HY := Lib.hid (fun k h h1 => ba_yes (C := C) (wl := wl) (vl := vl) (k := k) h h1)
  have HN := Lib.hid (fun k h => ba_no (C := C) (wl := wl) (vl := vl) (k := k) h)
  have HIn := Lib.hid (ba_in C wl vl)
  have C6 := Lib.hid (box6 q0)
  unfold ob at *
  clear h1 h2 hw hv bA q0
  go_enter Try.func56, Try.ntmps56
  go_upto_region 1 with fail
  generalize w.alloc (.cells #[.int .i64 K, .int .i64 N, .int .i64 C, .slice wa n wc, .slice va n vc, v5] 25) = X at *
  obtain ⟨e0, e1, e2, e3, e4, e5⟩ := C6.out
  go_wp2
  go_loopw [3, 9] (fun v i wr => ∃ k : Nat, k ≤ n ∧ i = .int .i64 k ∧ v = .int .i64 (baR C wl vl k) ∧ ∃ m, wr = X.drewN m) (fun _ i _ => n - (intOf i).toNat)
  case atStart => exact ⟨0, by omega, rfl, by rw [H0.out], 0, rfl⟩
  case round =>
    obtain ⟨k, hk, rfl, rfl, m, rfl⟩ := hrel
    by_cases hlt : k < n
    · have q1 : (k : Int) < (n : Int) := by omega
      have q0 : (0 : Int) ≤ (k : Int) := by omega
      obtain ⟨b, o, rfl, d1⟩ := HW.out k hlt
      obtain ⟨b2, o2, rfl, d2⟩ := HV.out k hlt
      have IN := Lib.hid (HIn.out k)
      by_cases u : nth wl k ≤ C
      rotate_left
      · have E : Hid (baR C wl vl (k + 1) = baR C wl vl k) := HN.out k (fun h => u h.1)
        generalize hz : baR C wl vl k = z at *
        have HZ := Lib.hid hz
        clear hz
        have cb := decide_eq_false u
        generalize nth wl k = y at *
        generalize nth vl k = y2 at *
        go_wp2
        go_quiet (fail)
        go_wp2
        go_roundw
        case rel => exact ⟨k + 1, by omega, by go_num, by rw [E.out], _, rfl⟩
        case measure => simp [intOf]; omega
      · by_cases z0 : baR C wl vl k < 0
        · have E : Hid (baR C wl vl (k + 1) = (k : Int)) := HY.out k u (.inl z0)
          have cb := decide_eq_true u
          have cb2 := decide_eq_true z0
          generalize baR C wl vl k = z at *
          generalize nth wl k = y at *
          generalize nth vl k = y2 at *
          go_wp2
          go_quiet (fail)
          go_wp2
          go_roundw
          case rel => exact ⟨k + 1, by omega, by go_num, by rw [E.out], _, rfl⟩
          case measure => simp [intOf]; omega
        · obtain ⟨i, hm⟩ : ∃ i : Nat, baR C wl vl k = (i : Int) := ⟨(baR C wl vl k).toNat, by omega⟩
          have hmk : i < k := by have := IN.out.2.1; omega
          obtain ⟨b', o', eb, d3⟩ := HV.out i (by omega)
          injection eb with eb; injection eb with eb1 eb2; subst eb1; subst eb2
          have m1 : (i : Int) < (n : Int) := by omega
          have m0 : (0 : Int) ≤ (i : Int) := by omega
          have m2 : ¬ (i : Int) < 0 := by omega
          by_cases c : nth vl i < nth vl k
          · have E : Hid (baR C wl vl (k + 1) = (k : Int)) := HY.out k u (.inr (by rw [hm]; exact c))
            rw [hm]
            have cb := decide_eq_true u
            have cb2 := decide_eq_false m2
            have cb3 := decide_eq_true c
            clear z0 hm
            generalize nth wl k = y at *
            generalize nth vl k = y2 at *
            generalize nth vl i = y3 at *
            go_wp2
            go_quiet (fail)
            go_wp2
            go_roundw
            case rel => exact ⟨k + 1, by omega, by go_num, by rw [E.out], _, rfl⟩
            case measure => simp [intOf]; omega
          · have E : Hid (baR C wl vl (k + 1) = (i : Int)) := by
              have := HN.out k (fun h => h.2.elim z0 (fun h => c (by rw [hm] at h; exact h)))
              rw [hm] at this; exact this
            rw [hm]
            have cb := decide_eq_true u
            have cb2 := decide_eq_false m2
            have cb3 := decide_eq_false c
            clear z0 hm
            generalize nth wl k = y at *
            generalize nth vl k = y2 at *
            generalize nth vl i = y3 at *
            go_wp2
            go_quiet (fail)
            go_wp2
            go_roundw
            case rel => exact ⟨k + 1, by omega, by go_num, by rw [E.out], _, rfl⟩
            case measure => simp [intOf]; omega
    · obtain rfl : n = k := by omega
      go_wp2
      first
        | exact ⟨rfl, BA.out.trans ((od.bl_dn (Below.refl _ _) _).mono BA.out.size)⟩
        | (go_ret; exact ⟨rfl, BA.out.trans ((od.bl_dn (Below.refl _ _) _).mono BA.out.size)⟩)
end Go.Proofs.Ytaobaiifbmhegaa
