/-
  A text of words and numbers, a blank behind each: the tokens that it tells. Plain mathematics.
-/
import Derived.Test.YtegieoajjfodcaaGreatDoorPa
import Derived.Lib.ItoaMem
import Derived.Lib.ItoaLen
namespace Go.Proofs.YtegieoajjfodcaaGreatDoor
open Go.RowKit
set_option linter.unusedVariables false
/-- bytes at a place -/
def At (s : ByteArray) (a : Nat) (l : List UInt8) : Prop := a + l.length ≤ s.size ∧ ∀ j (h : j < l.length), s.get! (a + j) = l[j]
theorem At.app {s : ByteArray} {a : Nat} {l m : List UInt8} : At s a (l ++ m) ↔ At s a l ∧ At s (a + l.length) m := by
  unfold At
  constructor
  · rintro ⟨h1, h2⟩
    rw [List.length_append] at h1
    refine ⟨⟨by omega, fun j h => ?_⟩, by omega, fun j h => ?_⟩
    · rw [h2 j (by rw [List.length_append]; omega), List.getElem_append_left h]
    · rw [Nat.add_assoc, h2 (l.length + j) (by rw [List.length_append]; omega), List.getElem_append_right (by omega)]
      simp
  · rintro ⟨⟨h1, h2⟩, h3, h4⟩
    refine ⟨by rw [List.length_append]; omega, fun j h => ?_⟩
    have h' := h
    rw [List.length_append] at h'
    by_cases c : j < l.length
    · rw [List.getElem_append_left c]; exact h2 j c
    · rw [List.getElem_append_right (by omega)]
      have := h4 (j - l.length) (by omega)
      rw [← this]; congr 1; omega
theorem At.cons {s : ByteArray} {a : Nat} {b : UInt8} {m : List UInt8} : At s a (b :: m) ↔ (a < s.size ∧ s.get! a = b) ∧ At s (a + 1) m := by
  have := At.app (s := s) (a := a) (l := [b]) (m := m)
  rw [List.singleton_append] at this
  rw [this]
  constructor
  · rintro ⟨⟨h1, h2⟩, h3⟩
    exact ⟨⟨by simp at h1; omega, by have := h2 0 (by simp); simpa using this⟩, h3⟩
  · rintro ⟨⟨h1, h2⟩, h3⟩
    exact ⟨⟨by simp; omega, fun j h => by obtain rfl : j = 0 := by simpa using h
                                          simpa using h2⟩, h3⟩
theorem at_self (s : ByteArray) : At s 0 s.data.toList := by
  refine ⟨by simp, fun j h => ?_⟩
  have h' : j < s.size := by simpa using h
  rw [Nat.zero_add, get_of s j h']
  rfl
theorem at_mk (l : List UInt8) : At ⟨l.toArray⟩ 0 l := by
  have := at_self ⟨l.toArray⟩
  simpa using this
theorem mk_size (l : List UInt8) : (⟨l.toArray⟩ : ByteArray).size = l.length := by show l.toArray.size = _; simp
/-! the digits of a number -/
theorem isd_lt0 {t : ByteArray} {k : Nat} (h : isd t k) : k < t.size := by unfold isd at h; exact h.1
theorem nd_is (t : ByteArray) (k : Nat) (h : ∀ j, j < k → isd t j) (hn : ¬ isd t k) (hk : k ≤ t.size) : nd t = k := by
  have go : ∀ b i, i ≤ k → k ≤ i + b → ndf t b i = k := by
    intro b
    induction b with
    | zero => intro i h1 h2; rw [show i = k by omega]; exact ndf_end t 0 k hn
    | succ b ih =>
      intro i h1 h2
      rcases Nat.lt_or_ge i k with h3 | h3
      · rw [ndf_step t b i (h i h3)]; exact ih (i + 1) (by omega) (by omega)
      · rw [show i = k by omega]; exact ndf_end t (b + 1) k hn
  exact go t.size 0 (by omega) (by omega)
theorem dec_digits (u : Nat) : ∀ (i : Nat) (h : i < (Lib.decDigits u).length), 48 ≤ ((Lib.decDigits u)[i]).toNat ∧ ((Lib.decDigits u)[i]).toNat ≤ 57 := by
  induction u using Nat.strongRecOn with
  | _ u ih =>
    intro i h
    by_cases h1 : u < 10
    · simp only [Lib.decDigits_one h1] at h ⊢
      have : i = 0 := by simpa using h
      subst this
      simp
      omega
    · have e : Lib.decDigits u = Lib.decDigits (u / 10) ++ [UInt8.ofNat (48 + u % 10)] := by conv => lhs; rw [Lib.decDigits, dif_neg h1]
      simp only [e] at h ⊢
      by_cases h2 : i < (Lib.decDigits (u / 10)).length
      · rw [List.getElem_append_left h2]; exact ih (u / 10) (by omega) i h2
      · rw [List.getElem_append_right (by omega)]
        simp only [List.length_append, List.length_singleton] at h
        have : i - (Lib.decDigits (u / 10)).length = 0 := by omega
        simp only [this]
        simp
        omega
theorem dec_head (u : Nat) (hu : u ≠ 0) (h : 0 < (Lib.decDigits u).length) : ((Lib.decDigits u)[0]).toNat ≠ 48 := by
  induction u using Nat.strongRecOn with
  | _ u ih =>
    by_cases h1 : u < 10
    · simp only [Lib.decDigits_one h1]
      simp
      omega
    · have e : Lib.decDigits u = Lib.decDigits (u / 10) ++ [UInt8.ofNat (48 + u % 10)] := by conv => lhs; rw [Lib.decDigits, dif_neg h1]
      have hl : 0 < (Lib.decDigits (u / 10)).length := by
        rw [Lib.decDigits_length]; unfold Lib.nDigits; split <;> omega
      simp only [e]
      rw [List.getElem_append_left hl]
      exact ih (u / 10) (by omega) (by omega) hl
theorem dec_value (t : ByteArray) (u : Nat) (h : ∀ (i : Nat) (hi : i < (Lib.decDigits u).length), t.get! i = (Lib.decDigits u)[i]) : dv t (Lib.decDigits u).length = u := by
  induction u using Nat.strongRecOn with
  | _ u ih =>
    by_cases h1 : u < 10
    · have e := Lib.decDigits_one h1
      have h0 := h 0 (by rw [e]; simp)
      simp only [e] at h0
      rw [e]
      show dv t (0 + 1) = u
      rw [dv_succ, dv_zero, h0]
      simp
      omega
    · have e : Lib.decDigits u = Lib.decDigits (u / 10) ++ [UInt8.ofNat (48 + u % 10)] := by conv => lhs; rw [Lib.decDigits, dif_neg h1]
      have hl : (Lib.decDigits u).length = (Lib.decDigits (u / 10)).length + 1 := by rw [e]; simp
      have h0 := h (Lib.decDigits (u / 10)).length (by omega)
      simp only [e] at h0
      rw [List.getElem_append_right (by omega)] at h0
      simp only [Nat.sub_self, List.getElem_singleton] at h0
      rw [hl, dv_succ, h0, ih (u / 10) (by omega) (fun i hi => by
        have := h i (by omega)
        simp only [e] at this
        rw [List.getElem_append_left hi] at this
        exact this)]
      simp
      omega
theorem dec_len (u : Nat) : 1 ≤ (Lib.decDigits u).length := by rw [Lib.decDigits_length]; exact Lib.nDigits_pos u
theorem dec_small : ∀ (k u : Nat), u < 10 ^ (k + 1) → (Lib.decDigits u).length ≤ k + 1
  | 0, u, h => by rw [Lib.decDigits_one (by simpa using h)]; simp
  | k + 1, u, h => by
    by_cases h1 : u < 10
    · rw [Lib.decDigits_one h1]; simp
    · have e : Lib.decDigits u = Lib.decDigits (u / 10) ++ [UInt8.ofNat (48 + u % 10)] := by conv => lhs; rw [Lib.decDigits, dif_neg h1]
      rw [Nat.pow_succ] at h
      have := dec_small k (u / 10) (by omega)
      rw [e, List.length_append]
      simp
      omega
/-! tokens -/
theorem run_steps {k : Int} {s : ByteArray} {p : Nat} : ∀ n, p + n ≤ s.size → (∀ j, j < n → kb s (p + j) = k) → run k s p = run k s (p + n)
  | 0, _, _ => rfl
  | n + 1, h, hj => by
    rw [run_steps n (by omega) (fun j h2 => hj j (by omega)), run_in (by omega) (hj n (by omega))]; rfl
theorem sp_word2 {t : ByteArray} {p n : Nat} {l : List Tok} (h1 : 1 ≤ n) (h16 : n ≤ 16) (hp : p + n ≤ t.size) (hk : ∀ j, j < n → kb t (p + j) = 3) (he : p + n < t.size → kb t (p + n) ≠ 2 ∧ kb t (p + n) ≠ 3) :
    SP t p l = SP t (p + n) (l ++ [⟨1, t.extract p (p + n), 0, p⟩]) := by
  have hr : run 3 t (p + 1) = p + n := by
    rw [run_steps (n - 1) (by omega) (fun j hj => by rw [show p + 1 + j = p + (1 + j) by omega]; exact hk _ (by omega)), show p + 1 + (n - 1) = p + n by omega]
    exact run_out (fun hc => (he hc.1).2 hc.2)
  have hk0 := hk 0 (by omega)
  rw [Nat.add_zero] at hk0
  rw [SP_word (by omega) hk0]
  unfold IN3
  rw [hr, if_neg (by omega), if_neg (fun hc => (he hc.1).1 hc.2)]
theorem sp_num2 {t : ByteArray} {p n : Nat} {l : List Tok} (h1 : 1 ≤ n) (hp : p + n ≤ t.size) (hk : ∀ j, j < n → kb t (p + j) = 2) (he : p + n < t.size → kb t (p + n) ≠ 2 ∧ kb t (p + n) ≠ 3) (hr0 : (rdv (t.extract p t.size) p).2.2 = 0) :
    SP t p l = SP t (p + n) (l ++ [⟨2, noText, (rdv (t.extract p t.size) p).1, p⟩]) := by
  have hr : run 2 t (p + 1) = p + n := by
    rw [run_steps (n - 1) (by omega) (fun j hj => by rw [show p + 1 + j = p + (1 + j) by omega]; exact hk _ (by omega)), show p + 1 + (n - 1) = p + n by omega]
    exact run_out (fun hc => (he hc.1).1 hc.2)
  have hk0 := hk 0 (by omega)
  rw [Nat.add_zero] at hk0
  rw [SP_number (by omega) hk0 hr0]
  unfold IN2
  rw [hr, if_neg (fun hc => (he hc.1).2 hc.2)]
/-- a piece of a text: a word's letters, or a number -/
inductive Pc where
  | wd (l : List UInt8)
  | nu (n : Nat)
def Pc.by_ : Pc → List UInt8
  | .wd l => l
  | .nu n => Lib.decDigits n
def Pc.ok : Pc → Prop
  | .wd l => 1 ≤ l.length ∧ l.length ≤ 16 ∧ ∀ j (h : j < l.length), kindv ((l[j].toNat : Nat) : Int) = 3
  | .nu n => n < 10 ^ 17
def Pc.tok (p : Nat) : Pc → Tok
  | .wd l => ⟨1, ⟨l.toArray⟩, 0, p⟩
  | .nu n => ⟨2, noText, n, p⟩
theorem Pc.len {x : Pc} (h : x.ok) : 1 ≤ x.by_.length := by
  cases x with
  | wd l => exact h.1
  | nu n => exact dec_len n
theorem ext_at {t : ByteArray} {p : Nat} {l : List UInt8} (h : At t p l) : t.extract p (p + l.length) = ⟨l.toArray⟩ := by
  have h1 := h.1
  apply ByteArray.ext_getElem
  · rw [ByteArray.size_extract, mk_size l]; omega
  · intro i h2 h3
    rw [mk_size l] at h3
    have := h.2 i h3
    rw [get_of t _ (by omega)] at this
    rw [ByteArray.getElem_extract, this]
    show l[i] = l.toArray[i]'_
    simp
theorem sp_pc {x : Pc} (hx : x.ok) {t : ByteArray} {p : Nat} (h : At t p x.by_) (he : p + x.by_.length < t.size → kb t (p + x.by_.length) ≠ 2 ∧ kb t (p + x.by_.length) ≠ 3) (l : List Tok) :
    SP t p l = SP t (p + x.by_.length) (l ++ [x.tok p]) := by
  cases x with
  | wd w =>
    have e := ext_at h
    obtain ⟨h1, h2⟩ := h
    obtain ⟨a1, a2, a3⟩ := hx
    have := sp_word2 (l := l) a1 a2 h1 (fun j hj => by
      show kindv ((t.get! (p + j)).toNat : Int) = 3
      rw [h2 j hj]; exact a3 j hj) he
    have e' : t.extract p (p + w.length) = ⟨w.toArray⟩ := e
    rw [e'] at this
    exact this
  | nu n =>
    have hn : n < 10 ^ 17 := hx
    have l1 := dec_len n
    have l2 := dec_small 16 n hn
    have h' : At t p (Lib.decDigits n) := h
    obtain ⟨h1, h2⟩ := h'
    have he' : p + (Lib.decDigits n).length < t.size → kb t (p + (Lib.decDigits n).length) ≠ 2 ∧ kb t (p + (Lib.decDigits n).length) ≠ 3 := he
    have z : (t.extract p t.size).size = t.size - p := by rw [ByteArray.size_extract]; omega
    have g : ∀ (i : Nat) (hi : i < (Lib.decDigits n).length), (t.extract p t.size).get! i = (Lib.decDigits n)[i] := fun i hi => by rw [get_subk t p i (by omega)]; exact h2 i hi
    have hnd : nd (t.extract p t.size) = (Lib.decDigits n).length := nd_is _ _ (fun j hj => by
      unfold isd; rw [g j hj]; exact ⟨by omega, dec_digits n j hj⟩) (fun c => by
      have c1 := isd_lt0 c
      unfold isd at c
      rw [get_subk t p _ (by omega)] at c
      have := (he' (by omega)).1
      apply this
      show kindv _ = 2
      rw [kindv_digit]
      omega) (by omega)
    have v := dec_value (t.extract p t.size) n g
    have hr : rdv (t.extract p t.size) p = ((n : Int), ((p : Int) + (Lib.decDigits n).length), 0) := by
      unfold rdv
      rw [hnd, v, g 0 (by omega), if_neg, if_neg (by omega)]
      rintro (c | ⟨c, d⟩)
      · omega
      · refine dec_head n (fun e => ?_) (by omega) d
        subst e
        rw [Lib.decDigits_one (by omega)] at c
        simp at c
    have := sp_num2 (l := l) l1 h1 (fun j hj => by
      show kindv ((t.get! (p + j)).toNat : Int) = 2
      rw [h2 j hj, kindv_digit]
      have := dec_digits n j hj
      omega) he' (by rw [hr])
    rw [hr] at this
    exact this
/-- pieces, a blank behind each -/
def txt : List (Pc × UInt8) → List UInt8
  | [] => []
  | x :: r => x.1.by_ ++ x.2 :: txt r
def tks (p : Nat) : List (Pc × UInt8) → List Tok
  | [] => []
  | x :: r => x.1.tok p :: tks (p + x.1.by_.length + 1) r
def blankB (b : UInt8) : Prop := kindv ((b.toNat : Nat) : Int) = 1
theorem txt_app : ∀ (a b : List (Pc × UInt8)), txt (a ++ b) = txt a ++ txt b
  | [], b => rfl
  | x :: a, b => by simp [txt, txt_app a b]
theorem sp_txt : ∀ (ps : List (Pc × UInt8)) (t : ByteArray) (p : Nat) (l : List Tok), (∀ x ∈ ps, x.1.ok ∧ blankB x.2) → At t p (txt ps) → SP t p l = SP t (p + (txt ps).length) (l ++ tks p ps)
  | [], t, p, l, _, _ => by simp [txt, tks]
  | x :: r, t, p, l, hx, h => by
    obtain ⟨a1, a2⟩ := hx x (List.mem_cons_self ..)
    obtain ⟨h1, h2⟩ := At.app.1 (show At t p (x.1.by_ ++ x.2 :: txt r) from h)
    obtain ⟨⟨h3, h4⟩, h5⟩ := At.cons.1 h2
    have hk : kb t (p + x.1.by_.length) = 1 := by show kindv _ = 1; rw [h4]; exact a2
    rw [sp_pc a1 h1 (fun _ => by rw [hk]; exact ⟨by decide, by decide⟩) l, SP_blank h3 hk, sp_txt r t _ _ (fun y hy => hx y (List.mem_cons_of_mem _ hy)) h5]
    congr 1
    · show _ = p + (x.1.by_ ++ x.2 :: txt r).length
      rw [List.length_append, List.length_cons]; omega
    · show _ = l ++ (x.1.tok p :: tks (p + x.1.by_.length + 1) r)
      rw [List.append_assoc]; rfl
theorem tks_len : ∀ (ps : List (Pc × UInt8)) (p : Nat), (tks p ps).length = ps.length
  | [], _ => rfl
  | x :: r, p => by simp [tks, tks_len r]
theorem tks_get : ∀ (ps : List (Pc × UInt8)) (p i : Nat) (x : Pc × UInt8), ps[i]? = some x → ∃ q, (tks p ps)[i]? = some (x.1.tok q)
  | [], p, i, x, h => by simp at h
  | y :: r, p, 0, x, h => by simp at h; subst h; exact ⟨p, rfl⟩
  | y :: r, p, i + 1, x, h => by
    obtain ⟨q, hq⟩ := tks_get r (p + y.1.by_.length + 1) i x (by simpa using h)
    exact ⟨q, by simpa [tks] using hq⟩
/-- tokens that are those pieces, and the End -/
structure Fit (T : List Tok) (P : List Pc) (e : Nat) : Prop where
  len : T.length = P.length + 1
  end_ : tk T P.length = ⟨3, noText, 0, e⟩
  get : ∀ i x, P[i]? = some x → ∃ q, tk T i = x.tok q
theorem fit_of (ps : List (Pc × UInt8)) (p e : Nat) : Fit (tks p ps ++ [⟨3, noText, 0, e⟩]) (ps.map (·.1)) e := by
  refine ⟨by simp [tks_len], ?_, fun i x h => ?_⟩
  · unfold tk
    rw [List.getElem?_append_right (by simp [tks_len]), List.length_map, tks_len, Nat.sub_self]; rfl
  · rw [List.getElem?_map] at h
    cases hi : ps[i]? with
    | none => rw [hi] at h; cases h
    | some y =>
      rw [hi] at h
      obtain ⟨q, hq⟩ := tks_get ps p i y hi
      have : i < ps.length := (List.getElem?_eq_some_iff.1 hi).1
      refine ⟨q, ?_⟩
      unfold tk
      rw [List.getElem?_append_left (by rw [tks_len]; exact this), hq]
      cases h; rfl
theorem sp_whole (ps : List (Pc × UInt8)) (h : ∀ x ∈ ps, x.1.ok ∧ blankB x.2) : SP ⟨(txt ps).toArray⟩ 0 [] = .ok (tks 0 ps ++ [⟨3, noText, 0, (txt ps).length⟩]) := by
  rw [sp_txt ps _ 0 [] h (at_mk _), SP_end (by rw [mk_size]; omega), mk_size]; rfl
/-- one more piece, that stands at the end -/
theorem sp_more (ps : List (Pc × UInt8)) (x : Pc) (h : ∀ x ∈ ps, x.1.ok ∧ blankB x.2) (hx : x.ok) : SP ⟨(txt ps ++ x.by_).toArray⟩ 0 [] = .ok (tks 0 ps ++ [x.tok (txt ps).length] ++ [⟨3, noText, 0, (txt ps).length + x.by_.length⟩]) := by
  obtain ⟨h1, h2⟩ := At.app.1 (at_mk (txt ps ++ x.by_))
  have z := mk_size (txt ps ++ x.by_)
  rw [List.length_append] at z
  rw [sp_txt ps _ 0 [] h h1, sp_pc hx h2 (fun c => by omega), SP_end (by rw [z]; omega), z]
  simp
end Go.Proofs.YtegieoajjfodcaaGreatDoor
