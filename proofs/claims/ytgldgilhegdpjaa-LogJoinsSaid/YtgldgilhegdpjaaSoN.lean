/-
  log.Join of four logs.
-/
import Derived.Test.YtgldgilhegdpjaaSoJ
import Derived.Test.YtgldgilhegdpjaaLgB
namespace Go.Proofs.Ytgldgilhegdpjaa.so
open Go.RowKit
set_option linter.unusedVariables false
def slA : Value → Option Addr
  | .slice a _ _ => a
  | _ => none
def slN : Value → Nat
  | .slice _ n _ => n
  | _ => 0
def slC : Value → Nat
  | .slice _ _ c => c
  | _ => 0
def tbl (ks : List (Int × Value)) : Tb where
  k := fun i => ((ks[i.toNat]?).map (·.1)).getD 0
  a := fun i => slA (((ks[i.toNat]?).map (·.2)).getD (.bool false))
  n := fun i => slN (((ks[i.toNat]?).map (·.2)).getD (.bool false))
  c := fun i => slC (((ks[i.toNat]?).map (·.2)).getD (.bool false))
theorem tbl_at {ks : List (Int × Value)} {j : Nat} {b : Int} {a : Option Addr} {n c : Nat} (h : ks[j]? = some (b, .slice a n c)) : (tbl ks).e (j : Int) = (b, .slice a n c) ∧ (tbl ks).a j = a ∧ (tbl ks).n j = n ∧ (tbl ks).c j = c := by
  simp [tbl, Tb.e, h, slA, slN, slC]
theorem ps_at {C : Nat} {ks : List (Int × Value)} {rs : List Rec} {w : World} (h : Ps C ks rs w) {j : Nat} (hj : j < rs.length) : ∃ b a n c l, ks[j]? = some (b, .slice a n c) ∧ rs[j]? = some (b, l) ∧ n = l.length ∧ Lst C (.slice a n c) l w ∧ l.length ≤ 20 := by
  obtain ⟨b, p, hk⟩ : ∃ b p, ks[j]? = some (b, p) := ⟨_, _, List.getElem?_eq_getElem (by rw [h.1]; exact hj)⟩
  obtain ⟨b', l, hr⟩ : ∃ b l, rs[j]? = some (b, l) := ⟨_, _, List.getElem?_eq_getElem hj⟩
  obtain ⟨e, hl, h20⟩ := h.2 j _ _ hk hr
  have e : b = b' := e
  subst e
  have hl : Lst C p l w := hl
  obtain ⟨a, c, rfl, _⟩ := hl.ints
  exact ⟨b, a, l.length, c, l, hk, hr, rfl, hl, h20⟩
theorem tbl_tabs {C : Nat} {ks : List (Int × Value)} {rs : List Rec} {w : World} (h : Ps C ks rs w) : Tabs (tbl ks) rs w := fun x hx => by
  obtain ⟨b, a, n, c, l, hk, hr, hn, hl, h20⟩ := ps_at h hx
  obtain ⟨_, e1, e2, e3⟩ := tbl_at hk
  exact ⟨(b, l), hr, by rw [e2]; exact hn, by rw [e1, e2, e3]; exact hl.mono (Nat.zero_le _), h20⟩
theorem tbl_up {C : Nat} {ks : List (Int × Value)} {rs : List Rec} {w : World} (h : Ps C ks rs w) : (upTo rs.length).map (tbl ks).e = ks := by
  apply List.ext_getElem?
  intro j
  by_cases hj : j < rs.length
  · obtain ⟨b, a, n, c, l, hk, hr, hn, hl, h20⟩ := ps_at h hj
    rw [List.getElem?_map, List.getElem?_eq_getElem (by rw [upTo_len]; exact hj), hk]
    have e : (upTo rs.length)[j]'(by rw [upTo_len]; exact hj) = (j : Int) := by
      rw [← nth_at _ j (by rw [upTo_len]; exact hj), upTo_nth _ j hj]
    rw [e]
    exact congrArg some (tbl_at hk).1
  · rw [List.getElem?_eq_none (by rw [List.length_map, upTo_len]; omega), List.getElem?_eq_none (by rw [h.1]; omega)]
/-- the records in another order -/
def perm (rs : List Rec) (T : List Int) : List Rec := T.map fun i => (rs[i.toNat]?).getD (0, [])
theorem perm_ps {C : Nat} {ks : List (Int × Value)} {rs : List Rec} {T : List Int} {w : World} (h : Ps C ks rs w) (hT : Rng rs.length T) (hl : T.length = rs.length) : Ps C (T.map (tbl ks).e) (perm rs T) w := by
  refine ⟨by simp [perm], fun j k r h1 h2 => ?_⟩
  have hj : j < T.length := by
    have := (List.getElem?_eq_some_iff.1 h1).1
    simpa using this
  obtain ⟨t0, t1⟩ := hT j (by omega)
  have et : T[j]? = some (nth T j) := by rw [List.getElem?_eq_getElem hj, nth_at T j hj]
  obtain ⟨x, hx⟩ : ∃ x : Nat, nth T j = x := ⟨(nth T j).toNat, by omega⟩
  rw [hx] at et t1
  obtain ⟨b, a, n, c, l, hk, hr, hn, hls, h20⟩ := ps_at h (j := x) (by omega)
  rw [List.getElem?_map, et] at h1
  unfold perm at h2
  rw [List.getElem?_map, et] at h2
  simp only [Option.map_some, Option.some.injEq, Int.toNat_natCast, hr, Option.getD_some] at h1 h2
  rw [(tbl_at hk).1] at h1
  subst h1 h2
  exact ⟨rfl, hls, h20⟩
theorem isRk_rng {rs : List Rec} {T : List Int} {n : Nat} (h : OnRk (ltj rs) n T) : Rng n T := fun j hj => by
  obtain ⟨a, ha, _, e⟩ := h j hj
  rw [e]; omega
/-- a log, or none -/
def LogAt (w : World) (v : Value) (rs : List Rec) : Prop := (v = .pointer none ∧ rs = []) ∨ ∃ q ks u B C, v = .pointer (some ⟨q, 0, none⟩) ∧ w.heap[q]? = some (.cells #[u] 43 (0, 0)) ∧ w.ownsRow B 36 2 u ks.length (enc ks) ∧ Ps C ks rs w ∧ rs.length ≤ 40
theorem LogAt.up {w w1 : World} {v : Value} {rs : List Rec} (h : LogAt w v rs) (k : Below w.heap.size w w1) : LogAt w1 v rs := by
  rcases h with h | ⟨q, ks, u, B, C, h1, h2, h3, h4, h5⟩
  · exact .inl h
  · exact .inr ⟨q, ks, u, B, C, h1, (k.block _ (lt_hp h2)).trans h2, (Fr.of (B := 0) (P := fun _ => False) k).row h3 (fun h => h), h4.up k, h5⟩
/-- what All gives: nothing at all, or a list -/
def AllQ (rs : List Rec) (w : World) (e : Ending) (w' : World) : Prop := ∃ x ks, e = .returned x ∧ w'.ownsRow w.heap.size 36 2 x ks.length (enc ks) ∧ Ps w.heap.size ks rs w' ∧ Below w.heap.size w w'
theorem logAll {w : World} {v : Value} {rs : List Rec} (h : LogAt w v rs) : Calls Try.prog 11 #[v] w (AllQ rs w) := by
  rcases h with ⟨rfl, rfl⟩ | ⟨q, ks, u, B, C, rfl, h2, h3, h4, h5⟩
  · refine (all_none w).mono ?_
    rintro e w' ⟨rfl, rfl⟩
    exact ⟨_, [], rfl, World.ownsRow_nil _ _ _ _, Ps.nil _ _, Below.refl _ _⟩
  · exact all_any h2 h3 h4 (by rw [h4.1]; omega)
theorem enc_snocs {w : World} {B : Nat} {T : TypeId} {v : Value} {ks js : List (Int × Value)} {n m : Nat} (hn : ks.length = n) (hm : js.length = m) (h : w.ownsRow B T 2 v (n + m) (enc ks ++ enc js)) : w.ownsRow B T 2 v (ks ++ js).length (enc (ks ++ js)) := by
  rw [enc_app, List.length_append, hn, hm]; exact h
theorem Ps.apps {C : Nat} {ks js : List (Int × Value)} {rs qs : List Rec} {w : World} (h : Ps C ks rs w) (k : Ps C js qs w) : Ps C (ks ++ js) (rs ++ qs) w := by
  refine ⟨by simp [h.1, k.1], fun j x r h1 h2 => ?_⟩
  by_cases hj : j < ks.length
  · rw [List.getElem?_append_left hj] at h1
    rw [List.getElem?_append_left (by rw [← h.1]; exact hj)] at h2
    exact h.2 j x r h1 h2
  · rw [List.getElem?_append_right (by omega)] at h1
    rw [List.getElem?_append_right (by rw [← h.1]; omega), ← h.1] at h2
    exact k.2 _ x r h1 h2
/-- an append of a list of records, nil or not, to an own one -/
theorem app36_run (B C : Nat) (v x : Value) (n m : Nat) (xs ys : List Value) (X : World) (hv : X.ownsRow B 36 2 v n xs) (hx : X.ownsRow C 36 2 x m ys) (h1 : ∀ u ∈ ys, u.oneCell' = true) (hn : n + m ≤ 1000) (hB : B ≤ X.heap.size) :
    ∃ v' X', (Builtin.append_ #[30, 30] 30 #[v, x]).run Try.prog X = .ok v' X' ∧ X'.ownsRow B 36 2 v' (n + m) (xs ++ ys) ∧ X.grownBy X' v.ownBlock := by
  obtain ⟨i0, hi, hz0, hz1, hz2⟩ := info_parts info36
  rcases hx.2 with ⟨rfl, rfl⟩ | ⟨g, cap, cur, rfl, hg⟩
  · obtain rfl : ys = [] := List.length_eq_zero_iff.mp (by have := hx.1; omega)
    refine ⟨v, X, ?_, by simpa using hv, World.grownBy.refl X _⟩
    rcases hv.2 with ⟨rfl, rfl⟩ | ⟨g, cap, cur, rfl, hg⟩
    · simp [Builtin.append_, run_underlying Try.underlying30, sizeOf, typeInfo, zeroValue, hi, hz0, Builtin.lenOf, Question.forced, run_firstCells_none]
    · have hle : n ≤ cap := hg.2.2.1
      simp [Builtin.append_, run_underlying Try.underlying30, sizeOf, typeInfo, zeroValue, hi, hz0, Builtin.lenOf, Question.forced, run_firstCells_none, hle]
      try simp [storeCells]
  · obtain ⟨v', w', hr, h2, h3, h4, h5⟩ := run_append_own_at (P := Try.prog) X B 30 30 36 i0 (.agg #[.int .i64 0, .slice none 0 0]) 2 32 Try.underlying30 hi hz0 hz1 hz2 rfl (by decide) v n xs hv ⟨g, 0, none⟩ m cap ys hx.1 (hx.cells rfl) h1 (by unfold maxLen; omega) (by omega) hB
    exact ⟨v', w', hr, h2, h3⟩
end Go.Proofs.Ytgldgilhegdpjaa.so
