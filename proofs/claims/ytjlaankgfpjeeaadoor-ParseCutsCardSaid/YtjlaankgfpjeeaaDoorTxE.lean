/-
  A problem's text with other blanks and remarks tells the same problem. Plain mathematics.
-/
import Derived.Test.YtjlaankgfpjeeaaDoorTxOne
namespace Go.Proofs.YtjlaankgfpjeeaaDoor
open Go.RowKit
open ip (wtx)
set_option linter.unusedVariables false
/-- a blank turned into another one, by its place -/
def rb (k : Nat) (b : UInt8) : UInt8 := if b = 32 ∨ b = 10 then (if k % 4 = 0 then 32 else if k % 4 = 1 then 9 else if k % 4 = 2 then 10 else 13) else b
def rbl (p : Nat) : List UInt8 → List UInt8
  | [] => []
  | b :: l => rb p b :: rbl (p + 1) l
theorem rbl_len : ∀ (l : List UInt8) (p : Nat), (rbl p l).length = l.length
  | [], _ => rfl
  | b :: l, p => by simp [rbl, rbl_len l]
theorem rbl_app : ∀ (a b : List UInt8) (p : Nat), rbl p (a ++ b) = rbl p a ++ rbl (p + a.length) b
  | [], b, p => rfl
  | x :: a, b, p => by
    show rb p x :: rbl (p + 1) (a ++ b) = rb p x :: rbl (p + 1) a ++ rbl (p + (a.length + 1)) b
    rw [rbl_app a b (p + 1), show p + 1 + a.length = p + (a.length + 1) by omega]; rfl
theorem rbl_get : ∀ (l : List UInt8) (p i : Nat), (rbl p l)[i]?.getD 0 = if i < l.length then rb (p + i) (l[i]?.getD 0) else 0
  | [], p, i => by simp [rbl]
  | x :: l, p, 0 => by simp [rbl]
  | x :: l, p, i + 1 => by
    have := rbl_get l (p + 1) i
    simp only [rbl, List.getElem?_cons_succ, List.length_cons, Nat.add_lt_add_iff_right]
    rw [this, show p + 1 + i = p + (i + 1) by omega]
theorem rbl_same : ∀ (l : List UInt8) (p : Nat), (∀ j (h : j < l.length), l[j] ≠ 32 ∧ l[j] ≠ 10) → rbl p l = l
  | [], _, _ => rfl
  | x :: l, p, h => by
    have h0 := h 0 (by simp)
    simp at h0
    show rb p x :: rbl (p + 1) l = x :: l
    rw [rbl_same l (p + 1) (fun j hj => h (j + 1) (by simp; omega))]
    unfold rb
    rw [if_neg (by simp [h0])]
theorem pc_bytes {x : Pc} (hx : x.ok) : ∀ j (h : j < x.by_.length), x.by_[j] ≠ 32 ∧ x.by_[j] ≠ 10 := by
  cases x with
  | wd l =>
    intro j h
    have := hx.2.2 j h
    show l[j] ≠ 32 ∧ l[j] ≠ 10
    refine ⟨fun e => ?_, fun e => ?_⟩ <;> (have e' : l[j] = _ := e; rw [e'] at this; revert this; decide)
  | nu n =>
    intro j h
    have := dec_digits n j h
    show (Lib.decDigits n)[j] ≠ 32 ∧ (Lib.decDigits n)[j] ≠ 10
    refine ⟨fun e => ?_, fun e => ?_⟩ <;> (have e' : (Lib.decDigits n)[j] = _ := e; rw [e'] at this; revert this; decide)
theorem rb_blank {k : Nat} {b : UInt8} (h : blankB b) : blankB (rb k b) := by
  unfold rb
  split
  · split
    · unfold blankB; decide
    · split
      · unfold blankB; decide
      · split <;> (unfold blankB; decide)
  · exact h
def rps (p : Nat) : List (Pc × UInt8) → List (Pc × UInt8)
  | [] => []
  | x :: r => (x.1, rb (p + x.1.by_.length) x.2) :: rps (p + x.1.by_.length + 1) r
theorem rps_fst : ∀ (ps : List (Pc × UInt8)) (p : Nat), (rps p ps).map (·.1) = ps.map (·.1)
  | [], _ => rfl
  | x :: r, p => by simp [rps, rps_fst r]
theorem rps_ok : ∀ (ps : List (Pc × UInt8)) (p : Nat), (∀ x ∈ ps, x.1.ok ∧ blankB x.2) → ∀ x ∈ rps p ps, x.1.ok ∧ blankB x.2
  | [], _, _, x, hx => by simp [rps] at hx
  | y :: r, p, h, x, hx => by
    rcases List.mem_cons.1 (show x ∈ (y.1, rb (p + y.1.by_.length) y.2) :: rps (p + y.1.by_.length + 1) r from hx) with e | e
    · subst e
      have := h y (List.mem_cons_self ..)
      exact ⟨this.1, rb_blank this.2⟩
    · exact rps_ok r _ (fun z hz => h z (List.mem_cons_of_mem _ hz)) x e
theorem rbl_txt : ∀ (ps : List (Pc × UInt8)) (p : Nat), (∀ x ∈ ps, x.1.ok ∧ blankB x.2) → rbl p (txt ps) = txt (rps p ps)
  | [], _, _ => rfl
  | y :: r, p, h => by
    show rbl p (y.1.by_ ++ y.2 :: txt r) = y.1.by_ ++ rb (p + y.1.by_.length) y.2 :: txt (rps (p + y.1.by_.length + 1) r)
    rw [rbl_app, rbl_same _ _ (pc_bytes (h y (List.mem_cons_self ..)).1), ← rbl_txt r _ (fun z hz => h z (List.mem_cons_of_mem _ hz))]; rfl
def pre8 : List UInt8 := [35, 32, 100, 114, 97, 119, 110, 10]
theorem pre8_ne : ∀ j : Fin 6, (pre8[1 + j.val]?.getD 0).toNat ≠ 10 := by decide
theorem drawn_sp (ps : List (Pc × UInt8)) (h : ∀ x ∈ ps, x.1.ok ∧ blankB x.2) : SP ⟨(pre8 ++ txt ps ++ [35]).toArray⟩ 0 [] = .ok (tks 8 ps ++ [⟨3, noText, 0, (txt ps).length + 9⟩]) := by
  obtain ⟨s, hs⟩ : ∃ s : ByteArray, s = ⟨(pre8 ++ txt ps ++ [35]).toArray⟩ := ⟨_, rfl⟩
  have hA : At s 0 (pre8 ++ txt ps ++ [35]) := by rw [hs]; exact at_mk _
  have hz : s.size = (txt ps).length + 9 := by rw [hs, mk_size]; simp [pre8]
  rw [← hs]
  obtain ⟨h1, h2⟩ := At.app.1 hA
  obtain ⟨h3, h4⟩ := At.app.1 h1
  have g : ∀ j (hj : j < 8), s.get! j = pre8[j]'hj := fun j hj => by have := h3.2 j hj; rwa [Nat.zero_add] at this
  have h4' : At s 8 (txt ps) := by rw [Nat.zero_add] at h4; exact h4
  have k0 : kb s 0 = 4 := by unfold kb; rw [g 0 (by decide)]; decide
  rw [SP_remark (by omega) k0, nl_steps 6 (by omega) (fun j hj => by
    have q := pre8_ne ⟨j, hj⟩
    have e : pre8[1 + j]?.getD 0 = pre8[1 + j]'(by show 1 + j < 8; omega) := by rw [List.getElem?_eq_getElem (by show 1 + j < 8; omega)]; rfl
    rw [show 0 + 1 + j = 1 + j by omega, g (1 + j) (by omega)]
    intro hc
    apply q
    show (pre8[1 + j]?.getD 0).toNat = 10
    rw [e]; exact hc), nl_out (fun c => c.2 (by rw [show 0 + 1 + 6 = 7 by omega, g 7 (by decide)]; decide))]
  rw [SP_blank (by omega) (by unfold kb; rw [show 0 + 1 + 6 = 7 by omega, g 7 (by decide)]; decide), show 0 + 1 + 6 + 1 = 8 by omega, sp_txt ps s 8 [] h h4']
  have h5 := h2.2 0 (by simp)
  have e5 : 0 + (pre8 ++ txt ps).length + 0 = 8 + (txt ps).length := by simp [pre8]; omega
  rw [e5] at h5
  have k5 : kb s (8 + (txt ps).length) = 4 := by unfold kb; rw [h5]; decide
  rw [SP_remark (by omega) k5, nl_out (fun c => by omega), SP_end (by omega), hz]
  simp
theorem Fm.drawn {K : Int} {n : Nat} {C : Int} {wl vl : List Int} {cl : List (List Int)} (h : Fm K n C wl vl cl) : PXX ⟨(pre8 ++ rbl 8 (wtx K n C wl vl cl) ++ [35]).toArray⟩ = .ok K n C wl vl cl := by
  have hl := wtx_len h
  unfold PXX
  rw [if_neg (by rw [mk_size]; simp [rbl_len, pre8]; omega), ← h.text, rbl_txt _ _ h.pieces]
  unfold PX
  rw [drawn_sp _ (rps_ok _ _ h.pieces)]
  have F := fit_of (rps 8 (pcs K n C wl vl cl)) 8 ((txt (rps 8 (pcs K n C wl vl cl))).length + 9)
  rw [rps_fst] at F
  exact h.tells F
/-- the blanks from place 8 up to place i turned -/
def mixb (A : List UInt8) (i : Nat) : List UInt8 := (List.range A.length).map fun j => if 8 ≤ j ∧ j < i then rb j (A[j]?.getD 0) else A[j]?.getD 0
theorem mix_len (A : List UInt8) (i : Nat) : (mixb A i).length = A.length := by simp [mixb]
theorem mix_get (A : List UInt8) (i j : Nat) (h : j < A.length) : (mixb A i)[j]?.getD 0 = if 8 ≤ j ∧ j < i then rb j (A[j]?.getD 0) else A[j]?.getD 0 := by
  unfold mixb; rw [List.getElem?_map, List.getElem?_range h]; rfl
theorem list_getD {l m : List UInt8} (h : l.length = m.length) (g : ∀ j, j < l.length → l[j]?.getD 0 = m[j]?.getD 0) : l = m := by
  refine List.ext_getElem h fun j h1 h2 => ?_
  have := g j h1
  rw [List.getElem?_eq_getElem h1, List.getElem?_eq_getElem h2] at this
  exact this
theorem mix_start (A : List UInt8) : mixb A 8 = A := list_getD (mix_len A 8) fun j hj => by
  rw [mix_len] at hj
  rw [mix_get A 8 j hj, if_neg (by omega)]
theorem mix_end (l : List UInt8) : mixb (pre8 ++ l) (pre8 ++ l).length = pre8 ++ rbl 8 l := by
  have e8 : pre8.length = 8 := rfl
  refine list_getD (by rw [mix_len, List.length_append, List.length_append, rbl_len]) fun j hj => ?_
  rw [mix_len] at hj
  rw [mix_get _ _ j hj]
  rw [List.length_append] at hj
  by_cases c : j < 8
  · rw [if_neg (by omega), List.getElem?_append_left (by omega), List.getElem?_append_left (by omega)]
  · rw [if_pos ⟨by omega, by rw [List.length_append]; omega⟩, List.getElem?_append_right (by omega), List.getElem?_append_right (by omega), rbl_get, if_pos (by omega), show 8 + (j - pre8.length) = j by omega]
end Go.Proofs.YtjlaankgfpjeeaaDoor
