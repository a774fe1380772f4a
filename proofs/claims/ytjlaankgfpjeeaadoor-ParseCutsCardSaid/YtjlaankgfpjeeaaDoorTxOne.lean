import Derived.Test.YtjlaankgfpjeeaaDoorPbOne
import Derived.Lib.ItoaMem
import Derived.Lib.ItoaLen
import Derived.Test.YtjlaankgfpjeeaaDoorInTxt
import Derived.Test.YtjlaankgfpjeeaaDoorInWrs

/-
  A text of words and numbers, a blank behind each: the tokens that it tells. Plain mathematics.
-/
namespace Go.Proofs.YtjlaankgfpjeeaaDoor
open Go.RowKit
set_option linter.unusedVariables false
/-- bytes at a place -/
def At (s : ByteArray) (a : Nat) (l : List UInt8) : Prop := a + l.length ≤ s.size ∧ ∀ j (h : j < l.length), s.get! (a + j) = l[j]
theorem At.app {s : ByteArray} {a : Nat} {l m : List UInt8} : At s a (l ++ m) ↔ At s a l ∧ At s (a + l.length) m := by
  unfold At
  constructor
  · rintro ⟨h1, h2⟩
    rw [List.length_append] at h1
    refine ⟨⟨by omega, fun j h => ?_⟩, by omega, fun j h => ?_⟩
    · rw [h2 j (by rw [List.length_append]; omega), List.getElem_append_left h]
    · rw [Nat.add_assoc, h2 (l.length + j) (by rw [List.length_append]; omega), List.getElem_append_right (by omega)]
      simp
  · rintro ⟨⟨h1, h2⟩, h3, h4⟩
    refine ⟨by rw [List.length_append]; omega, fun j h => ?_⟩
    have h' := h
    rw [List.length_append] at h'
    by_cases c : j < l.length
    · rw [List.getElem_append_left c]; exact h2 j c
    · rw [List.getElem_append_right (by omega)]
      have := h4 (j - l.length) (by omega)
      rw [← this]; congr 1; omega
theorem At.cons {s : ByteArray} {a : Nat} {b : UInt8} {m : List UInt8} : At s a (b :: m) ↔ (a < s.size ∧ s.get! a = b) ∧ At s (a + 1) m := by
  have := At.app (s := s) (a := a) (l := [b]) (m := m)
  rw [List.singleton_append] at this
  rw [this]
  constructor
  · rintro ⟨⟨h1, h2⟩, h3⟩
    exact ⟨⟨by simp at h1; omega, by have := h2 0 (by simp); simpa using this⟩, h3⟩
  · rintro ⟨⟨h1, h2⟩, h3⟩
    exact ⟨⟨by simp; omega, fun j h => by obtain rfl : j = 0 := by simpa using h
                                          simpa using h2⟩, h3⟩
theorem at_self (s : ByteArray) : At s 0 s.data.toList := by
  refine ⟨by simp, fun j h => ?_⟩
  have h' : j < s.size := by simpa using h
  rw [Nat.zero_add, get_of s j h']
  rfl
theorem at_mk (l : List UInt8) : At ⟨l.toArray⟩ 0 l := by
  have := at_self ⟨l.toArray⟩
  simpa using this
theorem mk_size (l : List UInt8) : (⟨l.toArray⟩ : ByteArray).size = l.length := by show l.toArray.size = _; simp
/-! the digits of a number -/
theorem isd_lt0 {t : ByteArray} {k : Nat} (h : isd t k) : k < t.size := by unfold isd at h; exact h.1
theorem nd_is (t : ByteArray) (k : Nat) (h : ∀ j, j < k → isd t j) (hn : ¬ isd t k) (hk : k ≤ t.size) : nd t = k := by
  have go : ∀ b i, i ≤ k → k ≤ i + b → ndf t b i = k := by
    intro b
    induction b with
    | zero => intro i h1 h2; rw [show i = k by omega]; exact ndf_end t 0 k hn
    | succ b ih =>
      intro i h1 h2
      rcases Nat.lt_or_ge i k with h3 | h3
      · rw [ndf_step t b i (h i h3)]; exact ih (i + 1) (by omega) (by omega)
      · rw [show i = k by omega]; exact ndf_end t (b + 1) k hn
  exact go t.size 0 (by omega) (by omega)
theorem dec_digits (u : Nat) : ∀ (i : Nat) (h : i < (Lib.decDigits u).length), 48 ≤ ((Lib.decDigits u)[i]).toNat ∧ ((Lib.decDigits u)[i]).toNat ≤ 57 := by
  induction u using Nat.strongRecOn with
  | _ u ih =>
    intro i h
    by_cases h1 : u < 10
    · simp only [Lib.decDigits_one h1] at h ⊢
      have : i = 0 := by simpa using h
      subst this
      simp
      omega
    · have e : Lib.decDigits u = Lib.decDigits (u / 10) ++ [UInt8.ofNat (48 + u % 10)] := by conv => lhs; rw [Lib.decDigits, dif_neg h1]
      simp only [e] at h ⊢
      by_cases h2 : i < (Lib.decDigits (u / 10)).length
      · rw [List.getElem_append_left h2]; exact ih (u / 10) (by omega) i h2
      · rw [List.getElem_append_right (by omega)]
        simp only [List.length_append, List.length_singleton] at h
        have : i - (Lib.decDigits (u / 10)).length = 0 := by omega
        simp only [this]
        simp
        omega
theorem dec_head (u : Nat) (hu : u ≠ 0) (h : 0 < (Lib.decDigits u).length) : ((Lib.decDigits u)[0]).toNat ≠ 48 := by
  induction u using Nat.strongRecOn with
  | _ u ih =>
    by_cases h1 : u < 10
    · simp only [Lib.decDigits_one h1]
      simp
      omega
    · have e : Lib.decDigits u = Lib.decDigits (u / 10) ++ [UInt8.ofNat (48 + u % 10)] := by conv => lhs; rw [Lib.decDigits, dif_neg h1]
      have hl : 0 < (Lib.decDigits (u / 10)).length := by
        rw [Lib.decDigits_length]; unfold Lib.nDigits; split <;> omega
      simp only [e]
      rw [List.getElem_append_left hl]
      exact ih (u / 10) (by omega) (by omega) hl
theorem dec_value (t : ByteArray) (u : Nat) (h : ∀ (i : Nat) (hi : i < (Lib.decDigits u).length), t.get! i = (Lib.decDigits u)[i]) : dv t (Lib.decDigits u).length = u := by
  induction u using Nat.strongRecOn with
  | _ u ih =>
    by_cases h1 : u < 10
    · have e := Lib.decDigits_one h1
      have h0 := h 0 (by rw [e]; simp)
      simp only [e] at h0
      rw [e]
      show dv t (0 + 1) = u
      rw [dv_succ, dv_zero, h0]
      simp
      omega
    · have e : Lib.decDigits u = Lib.decDigits (u / 10) ++ [UInt8.ofNat (48 + u % 10)] := by conv => lhs; rw [Lib.decDigits, dif_neg h1]
      have hl : (Lib.decDigits u).length = (Lib.decDigits (u / 10)).length + 1 := by rw [e]; simp
      have h0 := h (Lib.decDigits (u / 10)).length (by omega)
      simp only [e] at h0
      rw [List.getElem_append_right (by omega)] at h0
      simp only [Nat.sub_self, List.getElem_singleton] at h0
      rw [hl, dv_succ, h0, ih (u / 10) (by omega) (fun i hi => by
        have := h i (by omega)
        simp only [e] at this
        rw [List.getElem_append_left hi] at this
        exact this)]
      simp
      omega
theorem dec_len (u : Nat) : 1 ≤ (Lib.decDigits u).length := by rw [Lib.decDigits_length]; exact Lib.nDigits_pos u
theorem dec_small : ∀ (k u : Nat), u < 10 ^ (k + 1) → (Lib.decDigits u).length ≤ k + 1
  | 0, u, h => by rw [Lib.decDigits_one (by simpa using h)]; simp
  | k + 1, u, h => by
    by_cases h1 : u < 10
    · rw [Lib.decDigits_one h1]; simp
    · have e : Lib.decDigits u = Lib.decDigits (u / 10) ++ [UInt8.ofNat (48 + u % 10)] := by conv => lhs; rw [Lib.decDigits, dif_neg h1]
      rw [Nat.pow_succ] at h
      have := dec_small k (u / 10) (by omega)
      rw [e, List.length_append]
      simp
      omega
/-! tokens -/
theorem run_steps {k : Int} {s : ByteArray} {p : Nat} : ∀ n, p + n ≤ s.size → (∀ j, j < n → kb s (p + j) = k) → run k s p = run k s (p + n)
  | 0, _, _ => rfl
  | n + 1, h, hj => by
    rw [run_steps n (by omega) (fun j h2 => hj j (by omega)), run_in (by omega) (hj n (by omega))]; rfl
theorem sp_word2 {t : ByteArray} {p n : Nat} {l : List Tok} (h1 : 1 ≤ n) (h16 : n ≤ 16) (hp : p + n ≤ t.size) (hk : ∀ j, j < n → kb t (p + j) = 3) (he : p + n < t.size → kb t (p + n) ≠ 2 ∧ kb t (p + n) ≠ 3) :
    SP t p l = SP t (p + n) (l ++ [⟨1, t.extract p (p + n), 0, p⟩]) := by
  have hr : run 3 t (p + 1) = p + n := by
    rw [run_steps (n - 1) (by omega) (fun j hj => by rw [show p + 1 + j = p + (1 + j) by omega]; exact hk _ (by omega)), show p + 1 + (n - 1) = p + n by omega]
    exact run_out (fun hc => (he hc.1).2 hc.2)
  have hk0 := hk 0 (by omega)
  rw [Nat.add_zero] at hk0
  rw [SP_word (by omega) hk0]
  unfold IN3
  rw [hr, if_neg (by omega), if_neg (fun hc => (he hc.1).1 hc.2)]
theorem sp_num2 {t : ByteArray} {p n : Nat} {l : List Tok} (h1 : 1 ≤ n) (hp : p + n ≤ t.size) (hk : ∀ j, j < n → kb t (p + j) = 2) (he : p + n < t.size → kb t (p + n) ≠ 2 ∧ kb t (p + n) ≠ 3) (hr0 : (rdv (t.extract p t.size) p).2.2 = 0) :
    SP t p l = SP t (p + n) (l ++ [⟨2, noText, (rdv (t.extract p t.size) p).1, p⟩]) := by
  have hr : run 2 t (p + 1) = p + n := by
    rw [run_steps (n - 1) (by omega) (fun j hj => by rw [show p + 1 + j = p + (1 + j) by omega]; exact hk _ (by omega)), show p + 1 + (n - 1) = p + n by omega]
    exact run_out (fun hc => (he hc.1).1 hc.2)
  have hk0 := hk 0 (by omega)
  rw [Nat.add_zero] at hk0
  rw [SP_number (by omega) hk0 hr0]
  unfold IN2
  rw [hr, if_neg (fun hc => (he hc.1).2 hc.2)]
/-- a piece of a text: a word's letters, or a number -/
inductive Pc where
  | wd (l : List UInt8)
  | nu (n : Nat)
def Pc.by_ : Pc → List UInt8
  | .wd l => l
  | .nu n => Lib.decDigits n
def Pc.ok : Pc → Prop
  | .wd l => 1 ≤ l.length ∧ l.length ≤ 16 ∧ ∀ j (h : j < l.length), kindv ((l[j].toNat : Nat) : Int) = 3
  | .nu n => n < 10 ^ 17
def Pc.tok (p : Nat) : Pc → Tok
  | .wd l => ⟨1, ⟨l.toArray⟩, 0, p⟩
  | .nu n => ⟨2, noText, n, p⟩
theorem Pc.len {x : Pc} (h : x.ok) : 1 ≤ x.by_.length := by
  cases x with
  | wd l => exact h.1
  | nu n => exact dec_len n
theorem ext_at {t : ByteArray} {p : Nat} {l : List UInt8} (h : At t p l) : t.extract p (p + l.length) = ⟨l.toArray⟩ := by
  have h1 := h.1
  apply ByteArray.ext_getElem
  · rw [ByteArray.size_extract, mk_size l]; omega
  · intro i h2 h3
    rw [mk_size l] at h3
    have := h.2 i h3
    rw [get_of t _ (by omega)] at this
    rw [ByteArray.getElem_extract, this]
    show l[i] = l.toArray[i]'_
    simp
theorem sp_pc {x : Pc} (hx : x.ok) {t : ByteArray} {p : Nat} (h : At t p x.by_) (he : p + x.by_.length < t.size → kb t (p + x.by_.length) ≠ 2 ∧ kb t (p + x.by_.length) ≠ 3) (l : List Tok) :
    SP t p l = SP t (p + x.by_.length) (l ++ [x.tok p]) := by
  cases x with
  | wd w =>
    have e := ext_at h
    obtain ⟨h1, h2⟩ := h
    obtain ⟨a1, a2, a3⟩ := hx
    have := sp_word2 (l := l) a1 a2 h1 (fun j hj => by
      show kindv ((t.get! (p + j)).toNat : Int) = 3
      rw [h2 j hj]; exact a3 j hj) he
    have e' : t.extract p (p + w.length) = ⟨w.toArray⟩ := e
    rw [e'] at this
    exact this
  | nu n =>
    have hn : n < 10 ^ 17 := hx
    have l1 := dec_len n
    have l2 := dec_small 16 n hn
    have h' : At t p (Lib.decDigits n) := h
    obtain ⟨h1, h2⟩ := h'
    have he' : p + (Lib.decDigits n).length < t.size → kb t (p + (Lib.decDigits n).length) ≠ 2 ∧ kb t (p + (Lib.decDigits n).length) ≠ 3 := he
    have z : (t.extract p t.size).size = t.size - p := by rw [ByteArray.size_extract]; omega
    have g : ∀ (i : Nat) (hi : i < (Lib.decDigits n).length), (t.extract p t.size).get! i = (Lib.decDigits n)[i] := fun i hi => by rw [get_subk t p i (by omega)]; exact h2 i hi
    have hnd : nd (t.extract p t.size) = (Lib.decDigits n).length := nd_is _ _ (fun j hj => by
      unfold isd; rw [g j hj]; exact ⟨by omega, dec_digits n j hj⟩) (fun c => by
      have c1 := isd_lt0 c
      unfold isd at c
      rw [get_subk t p _ (by omega)] at c
      have := (he' (by omega)).1
      apply this
      show kindv _ = 2
      rw [kindv_digit]
      omega) (by omega)
    have v := dec_value (t.extract p t.size) n g
    have hr : rdv (t.extract p t.size) p = ((n : Int), ((p : Int) + (Lib.decDigits n).length), 0) := by
      unfold rdv
      rw [hnd, v, g 0 (by omega), if_neg, if_neg (by omega)]
      rintro (c | ⟨c, d⟩)
      · omega
      · refine dec_head n (fun e => ?_) (by omega) d
        subst e
        rw [Lib.decDigits_one (by omega)] at c
        simp at c
    have := sp_num2 (l := l) l1 h1 (fun j hj => by
      show kindv ((t.get! (p + j)).toNat : Int) = 2
      rw [h2 j hj, kindv_digit]
      have := dec_digits n j hj
      omega) he' (by rw [hr])
    rw [hr] at this
    exact this
/-- pieces, a blank behind each -/
def txt : List (Pc × UInt8) → List UInt8
  | [] => []
  | x :: r => x.1.by_ ++ x.2 :: txt r
def tks (p : Nat) : List (Pc × UInt8) → List Tok
  | [] => []
  | x :: r => x.1.tok p :: tks (p + x.1.by_.length + 1) r
def blankB (b : UInt8) : Prop := kindv ((b.toNat : Nat) : Int) = 1
theorem txt_app : ∀ (a b : List (Pc × UInt8)), txt (a ++ b) = txt a ++ txt b
  | [], b => rfl
  | x :: a, b => by simp [txt, txt_app a b]
theorem sp_txt : ∀ (ps : List (Pc × UInt8)) (t : ByteArray) (p : Nat) (l : List Tok), (∀ x ∈ ps, x.1.ok ∧ blankB x.2) → At t p (txt ps) → SP t p l = SP t (p + (txt ps).length) (l ++ tks p ps)
  | [], t, p, l, _, _ => by simp [txt, tks]
  | x :: r, t, p, l, hx, h => by
    obtain ⟨a1, a2⟩ := hx x (List.mem_cons_self ..)
    obtain ⟨h1, h2⟩ := At.app.1 (show At t p (x.1.by_ ++ x.2 :: txt r) from h)
    obtain ⟨⟨h3, h4⟩, h5⟩ := At.cons.1 h2
    have hk : kb t (p + x.1.by_.length) = 1 := by show kindv _ = 1; rw [h4]; exact a2
    rw [sp_pc a1 h1 (fun _ => by rw [hk]; exact ⟨by decide, by decide⟩) l, SP_blank h3 hk, sp_txt r t _ _ (fun y hy => hx y (List.mem_cons_of_mem _ hy)) h5]
    congr 1
    · show _ = p + (x.1.by_ ++ x.2 :: txt r).length
      rw [List.length_append, List.length_cons]; omega
    · show _ = l ++ (x.1.tok p :: tks (p + x.1.by_.length + 1) r)
      rw [List.append_assoc]; rfl
theorem tks_len : ∀ (ps : List (Pc × UInt8)) (p : Nat), (tks p ps).length = ps.length
  | [], _ => rfl
  | x :: r, p => by simp [tks, tks_len r]
theorem tks_get : ∀ (ps : List (Pc × UInt8)) (p i : Nat) (x : Pc × UInt8), ps[i]? = some x → ∃ q, (tks p ps)[i]? = some (x.1.tok q)
  | [], p, i, x, h => by simp at h
  | y :: r, p, 0, x, h => by simp at h; subst h; exact ⟨p, rfl⟩
  | y :: r, p, i + 1, x, h => by
    obtain ⟨q, hq⟩ := tks_get r (p + y.1.by_.length + 1) i x (by simpa using h)
    exact ⟨q, by simpa [tks] using hq⟩
/-- tokens that are those pieces, and the End -/
structure Fit (T : List Tok) (P : List Pc) (e : Nat) : Prop where
  len : T.length = P.length + 1
  end_ : tk T P.length = ⟨3, noText, 0, e⟩
  get : ∀ i x, P[i]? = some x → ∃ q, tk T i = x.tok q
theorem fit_of (ps : List (Pc × UInt8)) (p e : Nat) : Fit (tks p ps ++ [⟨3, noText, 0, e⟩]) (ps.map (·.1)) e := by
  refine ⟨by simp [tks_len], ?_, fun i x h => ?_⟩
  · unfold tk
    rw [List.getElem?_append_right (by simp [tks_len]), List.length_map, tks_len, Nat.sub_self]; rfl
  · rw [List.getElem?_map] at h
    cases hi : ps[i]? with
    | none => rw [hi] at h; cases h
    | some y =>
      rw [hi] at h
      obtain ⟨q, hq⟩ := tks_get ps p i y hi
      have : i < ps.length := (List.getElem?_eq_some_iff.1 hi).1
      refine ⟨q, ?_⟩
      unfold tk
      rw [List.getElem?_append_left (by rw [tks_len]; exact this), hq]
      cases h; rfl
theorem sp_whole (ps : List (Pc × UInt8)) (h : ∀ x ∈ ps, x.1.ok ∧ blankB x.2) : SP ⟨(txt ps).toArray⟩ 0 [] = .ok (tks 0 ps ++ [⟨3, noText, 0, (txt ps).length⟩]) := by
  rw [sp_txt ps _ 0 [] h (at_mk _), SP_end (by rw [mk_size]; omega), mk_size]; rfl
/-- one more piece, that stands at the end -/
theorem sp_more (ps : List (Pc × UInt8)) (x : Pc) (h : ∀ x ∈ ps, x.1.ok ∧ blankB x.2) (hx : x.ok) : SP ⟨(txt ps ++ x.by_).toArray⟩ 0 [] = .ok (tks 0 ps ++ [x.tok (txt ps).length] ++ [⟨3, noText, 0, (txt ps).length + x.by_.length⟩]) := by
  obtain ⟨h1, h2⟩ := At.app.1 (at_mk (txt ps ++ x.by_))
  have z := mk_size (txt ps ++ x.by_)
  rw [List.length_append] at z
  rw [sp_txt ps _ 0 [] h h1, sp_pc hx h2 (fun c => by omega), SP_end (by rw [z]; omega), z]
  simp
end Go.Proofs.YtjlaankgfpjeeaaDoor

/-
  A problem's text as pieces; what its tokens tell is the problem. Plain mathematics.
-/
namespace Go.Proofs.YtjlaankgfpjeeaaDoor
open Go.RowKit
open ip (dg lnk kt rt hd wtx nameOf chk chk_zero nth rowsP costE itemsE rowE)
set_option linter.unusedVariables false
theorem dg_nat {n : Int} (h : 0 ≤ n) : dg n = Lib.decDigits n.toNat := by
  unfold dg
  obtain ⟨m, rfl⟩ : ∃ m : Nat, n = m := ⟨n.toNat, by omega⟩
  rw [Lib.itoa_nonneg]; simp
theorem nu_ok {n : Int} (h : 0 ≤ n ∧ n ≤ 2147483647) : (Pc.nu n.toNat).ok := by
  show n.toNat < 10 ^ 17
  have : (10 : Nat) ^ 17 = 100000000000000000 := by decide
  omega
/-- a knapsack's items; a table -/
def kp (wl vl : List Int) (n : Nat) : List (Pc × UInt8) := (List.range n).map fun k => if k % 2 = 0 then (.nu (wl[k / 2]?.getD 0).toNat, 32) else (.nu (vl[k / 2]?.getD 0).toNat, 10)
def rp (cl : List (List Int)) (n m : Nat) : List (Pc × UInt8) := (List.range m).map fun k => (.nu ((cl[k / n]?.getD [])[k % n]?.getD 0).toNat, if k % n + 1 = n then 10 else 32)
def lp (l : List Int) (n m : Nat) : List (Pc × UInt8) := (List.range m).map fun b => (.nu (l[b]?.getD 0).toNat, if b + 1 = n then 10 else 32)
def hdp (K : Int) (N : Nat) (C : Int) : List (Pc × UInt8) :=
  if K = 1 then [(.wd (nameOf 1), 32), (.nu N, 32), (.nu C.toNat, 10)]
  else if K = 2 then [(.wd (nameOf 2), 32), (.nu N, 10)] else [(.wd (nameOf 3), 32), (.nu N, 32), (.wd [70, 85, 76, 76], 10)]
def pcs (K : Int) (N : Nat) (C : Int) (wl vl : List Int) (cl : List (List Int)) : List (Pc × UInt8) := hdp K N C ++ (if K = 1 then kp wl vl (2 * N) else rp cl N (N * N))
theorem txt_one (x : Pc) (b : UInt8) : txt [(x, b)] = x.by_ ++ [b] := rfl
theorem kp_txt (wl vl : List Int) (hw : ∀ j, j < wl.length → 0 ≤ wl[j]?.getD 0) (hv : ∀ j, j < wl.length → 0 ≤ vl[j]?.getD 0) : ∀ k, k ≤ wl.length → txt (kp wl vl (2 * k)) = kt wl vl k
  | 0, _ => by rw [ip.kt_nil]; rfl
  | k + 1, hk => by
    have ih := kp_txt wl vl hw hv k (by omega)
    rw [ip.kt_succ, ← ih, show 2 * (k + 1) = 2 * k + 1 + 1 by omega]
    unfold kp
    rw [List.range_succ, List.range_succ, List.map_append, List.map_append, List.map_singleton, List.map_singleton, txt_app, txt_app, if_pos (by omega), if_neg (by omega), txt_one, txt_one]
    rw [show 2 * k / 2 = k by omega, show (2 * k + 1) / 2 = k by omega, dg_nat (hw k (by omega)), dg_nat (hv k (by omega))]
    show _ ++ (Lib.decDigits _ ++ [32]) ++ (Lib.decDigits _ ++ [10]) = _
    simp [List.append_assoc]
theorem lp_txt (l : List Int) (n : Nat) (h : ∀ j, j < n → 0 ≤ l[j]?.getD 0) : ∀ c, c ≤ n → txt (lp l n c) = if c = 0 then [] else lnk l c ++ [if c = n then 10 else 32]
  | 0, _ => rfl
  | c + 1, hc => by
    have ih := lp_txt l n h c (by omega)
    unfold lp at ih ⊢
    rw [List.range_succ, List.map_append, txt_app, ih, List.map_singleton, txt_one, if_neg (show c + 1 ≠ 0 by omega)]
    show _ ++ (Lib.decDigits _ ++ _) = _
    rw [← dg_nat (h c (by omega))]
    rcases Nat.eq_zero_or_pos c with h0 | h0
    · subst h0; rw [if_pos rfl, ip.lnk_one]; simp
    · rw [if_neg (by omega), if_neg (show c ≠ n by omega), ip.lnk_succ l c h0]; simp [List.append_assoc]
theorem rp_txt (cl : List (List Int)) (n : Nat) (hn : 0 < n) (hl : ∀ a, a < n → (cl[a]?.getD []).length = n) (h : ∀ a b, a < n → b < n → 0 ≤ (cl[a]?.getD [])[b]?.getD 0) : ∀ a, a ≤ n → txt (rp cl n (a * n)) = rt cl a
  | 0, _ => by rw [ip.rt_nil, Nat.zero_mul]; rfl
  | a + 1, ha => by
    have ih := rp_txt cl n hn hl h a (by omega)
    have e : rp cl n ((a + 1) * n) = rp cl n (a * n) ++ lp (cl[a]?.getD []) n n := by
      unfold rp lp
      rw [Nat.succ_mul, List.range_add, List.map_append, List.map_map]
      congr 1
      apply List.map_congr_left
      intro b hb
      have hb := List.mem_range.1 hb
      show (Pc.nu _, _) = (Pc.nu _, _)
      rw [Nat.mul_comm a n, Nat.mul_add_div hn, Nat.div_eq_of_lt hb, Nat.mul_add_mod, Nat.mod_eq_of_lt hb, Nat.add_zero]
    rw [e, txt_app, ih, lp_txt _ n (fun b hb => h a b (by omega) hb) n (Nat.le_refl _), if_neg (by omega), if_pos rfl, ip.rt_succ, hl a (by omega)]
    simp [List.append_assoc]
/-- a problem in form, told by its numbers -/
structure Fm (K : Int) (n : Nat) (C : Int) (wl vl : List Int) (cl : List (List Int)) : Prop where
  n1 : 1 ≤ n
  k : K = 1 ∨ K = 2 ∨ K = 3
  cap : 0 ≤ C ∧ C ≤ 2147483647
  ks : K = 1 → n ≤ 64 ∧ wl.length = n ∧ vl.length = n ∧ cl = [] ∧ ∀ j, j < n → (0 ≤ wl[j]?.getD 0 ∧ wl[j]?.getD 0 ≤ 2147483647) ∧ (0 ≤ vl[j]?.getD 0 ∧ vl[j]?.getD 0 ≤ 2147483647)
  rs : K ≠ 1 → n ≤ 24 ∧ C = 0 ∧ wl = [] ∧ vl = [] ∧ cl.length = n ∧ ∀ a, a < n → (cl[a]?.getD []).length = n ∧ ∀ b, b < n → (0 ≤ (cl[a]?.getD [])[b]?.getD 0 ∧ (cl[a]?.getD [])[b]?.getD 0 ≤ 2147483647) ∧ (K = 3 → a = b → (cl[a]?.getD [])[b]?.getD 0 = 0)
theorem fm_of {K N C : Int} {wl vl : List Int} {cl : List (List Int)} (h : chk K N C wl vl cl = 0) : N = (N.toNat : Nat) ∧ Fm K N.toNat C wl vl cl := by
  obtain ⟨h1, h2⟩ := chk_zero h
  refine ⟨by omega, ?_⟩
  rcases h2 with ⟨rfl, a1, a2, a3, a4, a5, a6⟩ | ⟨hk, a1, a2, a3, a4, a5, a6, a7⟩
  · refine ⟨by omega, .inl rfl, a5, fun _ => ⟨by omega, by omega, by omega, List.length_eq_zero_iff.1 a4, fun j hj => ?_⟩, fun c => absurd rfl c⟩
    exact ip.items_ok wl vl (by omega) a6 j (by omega)
  · refine ⟨by omega, .inr hk, by omega, fun c => by rcases hk with rfl | rfl <;> exact absurd c (by decide), fun _ => ⟨by omega, a3, List.length_eq_zero_iff.1 a4, List.length_eq_zero_iff.1 a5, by omega, fun a ha => ?_⟩⟩
    have e := a6 a (by omega)
    refine ⟨by omega, fun b hb => ?_⟩
    have := ip.row_ok K _ _ 0 (ip.cost_ok K cl 0 a7 a (by omega)) b (by omega)
    refine ⟨this.1, fun hk hab => this.2 hk (by omega)⟩
theorem name_wd : ∀ K : Int, K = 1 ∨ K = 2 ∨ K = 3 → (Pc.wd (nameOf K)).ok := by
  rintro K (rfl | rfl | rfl)
  · exact ⟨by decide, by decide, by decide⟩
  · exact ⟨by decide, by decide, by decide⟩
  · exact ⟨by decide, by decide, by decide⟩
theorem b32 : blankB 32 := by unfold blankB; decide
theorem b10 : blankB 10 := by unfold blankB; decide
theorem Fm.pieces {K : Int} {n : Nat} {C : Int} {wl vl : List Int} {cl : List (List Int)} (h : Fm K n C wl vl cl) : ∀ x ∈ pcs K n C wl vl cl, x.1.ok ∧ blankB x.2 := by
  have hn : (Pc.nu n).ok := by
    have := h.n1
    have hb : n ≤ 64 := by by_cases c : K = 1; exact (h.ks c).1; have := (h.rs c).1; omega
    show n < 10 ^ 17
    have : (10 : Nat) ^ 17 = 100000000000000000 := by decide
    omega
  have hC := nu_ok h.cap
  intro x hx
  unfold pcs at hx
  rcases List.mem_append.1 hx with hx | hx
  · unfold hdp at hx
    split at hx
    · simp at hx
      rcases hx with rfl | rfl | rfl
      · exact ⟨name_wd 1 (by decide), b32⟩
      · exact ⟨hn, b32⟩
      · exact ⟨hC, b10⟩
    · split at hx
      · simp at hx
        rcases hx with rfl | rfl
        · exact ⟨name_wd 2 (by decide), b32⟩
        · exact ⟨hn, b10⟩
      · simp at hx
        rcases hx with rfl | rfl | rfl
        · exact ⟨name_wd 3 (by decide), b32⟩
        · exact ⟨hn, b32⟩
        · exact ⟨⟨by decide, by decide, by decide⟩, b10⟩
  · split at hx
    · rename_i hK
      obtain ⟨a1, a2, a3, a4, a5⟩ := h.ks hK
      unfold kp at hx
      obtain ⟨k, hk, rfl⟩ := List.mem_map.1 hx
      have hk := List.mem_range.1 hk
      split
      · exact ⟨nu_ok (a5 (k / 2) (by omega)).1, b32⟩
      · exact ⟨nu_ok (a5 (k / 2) (by omega)).2, b10⟩
    · rename_i hK
      obtain ⟨a1, a2, a3, a4, a5, a6⟩ := h.rs hK
      unfold rp at hx
      obtain ⟨k, hk, rfl⟩ := List.mem_map.1 hx
      have hk := List.mem_range.1 hk
      have h1 := h.n1
      have q1 : k / n < n := Nat.div_lt_of_lt_mul hk
      have q2 : k % n < n := Nat.mod_lt _ (by omega)
      refine ⟨nu_ok ((a6 _ q1).2 _ q2).1, ?_⟩
      show blankB (if _ then _ else _)
      split
      · exact b10
      · exact b32
theorem Fm.text {K : Int} {n : Nat} {C : Int} {wl vl : List Int} {cl : List (List Int)} (h : Fm K n C wl vl cl) : txt (pcs K n C wl vl cl) = wtx K n C wl vl cl := by
  have eN : dg (n : Int) = Lib.decDigits n := by rw [dg_nat (by omega)]; simp
  have eC := dg_nat h.cap.1
  unfold pcs wtx hd
  rw [txt_app]
  rcases h.k with rfl | rfl | rfl
  · obtain ⟨a1, a2, a3, a4, a5⟩ := h.ks rfl
    rw [if_pos rfl, if_pos rfl, if_pos rfl, a2, kp_txt wl vl (fun j hj => (a5 j (by omega)).1.1) (fun j hj => (a5 j (by omega)).2.1) n (by omega), eN, eC]
    congr 1
    show nameOf 1 ++ 32 :: (Lib.decDigits n ++ 32 :: (Lib.decDigits C.toNat ++ [10])) = _
    simp [List.append_assoc]
  · obtain ⟨a1, a2, a3, a4, a5, a6⟩ := h.rs (by decide)
    rw [if_neg (by decide), if_neg (by decide), if_neg (by decide), a5, rp_txt cl n (by have := h.n1; omega) (fun a ha => (a6 a ha).1) (fun a b ha hb => ((a6 a ha).2 b hb).1.1) n (Nat.le_refl _), eN]
    congr 1
    show nameOf 2 ++ 32 :: (Lib.decDigits n ++ [10]) = _
    simp [List.append_assoc]
  · obtain ⟨a1, a2, a3, a4, a5, a6⟩ := h.rs (by decide)
    rw [if_neg (by decide), if_neg (by decide), if_pos rfl, if_neg (by decide), a5, rp_txt cl n (by have := h.n1; omega) (fun a ha => (a6 a ha).1) (fun a b ha hb => ((a6 a ha).2 b hb).1.1) n (Nat.le_refl _), eN]
    congr 1
    show nameOf 3 ++ 32 :: (Lib.decDigits n ++ 32 :: ([70, 85, 76, 76] ++ [10])) = _
    simp [List.append_assoc]
/-! what such tokens tell -/
theorem Fit.nu {T : List Tok} {P : List Pc} {e i m : Nat} (h : Fit T P e) (hi : P[i]? = some (.nu m)) : (tk T i).kind = 2 ∧ (tk T i).num = m ∧ (tk T i).text = noText := by
  obtain ⟨q, hq⟩ := h.get i _ hi
  rw [hq]; exact ⟨rfl, rfl, rfl⟩
theorem Fit.wd {T : List Tok} {P : List Pc} {e i : Nat} {w : List UInt8} (h : Fit T P e) (hi : P[i]? = some (.wd w)) : (tk T i).kind = 1 ∧ (tk T i).text = ⟨w.toArray⟩ := by
  obtain ⟨q, hq⟩ := h.get i _ hi
  rw [hq]; exact ⟨rfl, rfl⟩
theorem nf_fine {t : Tok} {most : Int} (h : t.kind = 2) (hn : t.num ≤ most) : nf t.kind t.num most = 0 := by
  unfold nf; rw [h, if_neg (by decide), if_neg (by decide), if_neg (by omega)]
theorem eE_fine {t : Tok} (h : t.kind = 2) (hn : t.num ≤ 2147483647) : eE t = 0 := nf_fine h hn
theorem sf_fine {t : Tok} {most : Int} (h : t.kind = 2) (hn : t.num ≤ most) (h0 : t.num ≠ 0) : sf t most = 0 := by
  unfold sf; rw [if_pos (nf_fine h hn), if_neg h0]
theorem zf_fine {t : Tok} (h : t.kind = 2) (h0 : t.num = 0) : zf t = 0 := by
  unfold zf; rw [if_pos (nf_fine h (by omega)), if_pos h0]
theorem range_ext {n : Nat} {l : List Int} {f : Nat → Int} (hl : l.length = n) (h : ∀ j, j < n → f j = l[j]?.getD 0) : (List.range n).map f = l := by
  refine List.ext_getElem (by simp [hl]) fun j h1 h2 => ?_
  rw [List.getElem_map, List.getElem_range, h j (by omega), List.getElem?_eq_getElem h2]; rfl
theorem tab_ext {n : Nat} {cl : List (List Int)} {M : Nat → Nat → Int} (hl : cl.length = n) (hr : ∀ a, a < n → (cl[a]?.getD []).length = n) (h : ∀ a b, a < n → b < n → M a b = (cl[a]?.getD [])[b]?.getD 0) : tab n M = cl := by
  unfold tab
  refine List.ext_getElem (by simp [hl]) fun a h1 h2 => ?_
  have e : cl[a]?.getD [] = cl[a] := by rw [List.getElem?_eq_getElem h2]; rfl
  have ha : a < n := by omega
  have := hr a ha
  rw [List.getElem_map, List.getElem_range]
  refine range_ext (by rw [← e]; exact this) fun b hb => ?_
  rw [h a b ha hb, e]
theorem steps_all {E : Nat → Tok → Int} {T : List Tok} {p k : Nat} {s : St} (hs : s = ⟨p, 0⟩) (h : ∀ j, j < k → E j (tk T (p + j)) = 0) : steps E T s k = ⟨p + k, 0⟩ := by subst hs; exact steps_ok E T p k h
/-- the first two tokens -/
theorem head2 {T : List Tok} {P : List Pc} {e n : Nat} {w : List UInt8} {i most : Int} (h : Fit T P e) (h0 : P[0]? = some (.wd w)) (h1 : P[1]? = some (.nu n)) (hi : idx3 ⟨w.toArray⟩ = i) (h2 : 0 ≤ i) (hn : 1 ≤ n ∧ (n : Int) ≤ most) :
    idx3 (tk T 0).text = i ∧ s1 T = ⟨1, 0⟩ ∧ sz T (s1 T) most = ⟨2, 0⟩ ∧ nOf T (s1 T) most = n ∧ (tk T 1).num.toNat = n := by
  obtain ⟨a1, a2⟩ := h.wd h0
  obtain ⟨b1, b2, b3⟩ := h.nu h1
  have e1 : s1 T = ⟨1, 0⟩ := by
    unfold s1 wf
    rw [a2, hi, a1, if_neg (by decide), if_neg (by omega)]
    exact adv_ok rfl
  have e2 : sf (tk T 1) most = 0 := sf_fine b1 (by omega) (by omega)
  refine ⟨by rw [a2, hi], e1, ?_, ?_, by omega⟩
  · rw [e1]; unfold sz
    show adv ⟨1, 0⟩ (sf (tk T 1) most) = _
    rw [e2]; exact adv_ok rfl
  · rw [e1]; unfold nOf
    rw [if_pos ⟨rfl, e2⟩]
    show (tk T 1).num.toNat = n
    omega
theorem fin_end {T : List Tok} {P : List Pc} {e : Nat} (h : Fit T P e) : fin T ⟨P.length, 0⟩ = ⟨P.length, 0⟩ := by
  unfold fin
  rw [if_pos]
  rw [h.end_]
theorem map_range_get {α : Type} (f : Nat → α) (n i : Nat) (h : i < n) : ((List.range n).map f)[i]? = some (f i) := by
  rw [List.getElem?_map, List.getElem?_range h]; rfl
theorem Fm.tells {K : Int} {n : Nat} {C : Int} {wl vl : List Int} {cl : List (List Int)} (h : Fm K n C wl vl cl) {T : List Tok} {e : Nat} (F : Fit T ((pcs K n C wl vl cl).map (·.1)) e) : PR T = .ok K n C wl vl cl := by
  have hn := h.n1
  rcases h.k with rfl | rfl | rfl
  · obtain ⟨a1, a2, a3, a4, a5⟩ := h.ks rfl
    obtain ⟨P, hP⟩ : ∃ P, P = (pcs 1 n C wl vl cl).map (·.1) := ⟨_, rfl⟩
    rw [← hP] at F
    have hP' : P = [.wd (nameOf 1), .nu n, .nu C.toNat] ++ (kp wl vl (2 * n)).map (·.1) := by
      rw [hP]; unfold pcs hdp; rw [if_pos rfl, if_pos rfl, List.map_append]; rfl
    have hl : P.length = 3 + 2 * n := by rw [hP']; simp [kp]; omega
    have g : ∀ k, k < 2 * n → P[3 + k]? = some (.nu (if k % 2 = 0 then wl[k / 2]?.getD 0 else vl[k / 2]?.getD 0).toNat) := fun k hk => by
      rw [hP', List.getElem?_append_right (by simp), show 3 + k - [Pc.wd (nameOf 1), .nu n, .nu C.toNat].length = k by simp, List.getElem?_map]
      unfold kp
      rw [map_range_get _ _ _ hk]
      simp only [Option.map_some]
      split <;> rfl
    obtain ⟨q1, q2, q3, q4, q5⟩ := head2 (most := 64) F (by rw [hP']; rfl) (by rw [hP']; rfl) (show idx3 ⟨(nameOf 1).toArray⟩ = 0 by decide +kernel) (by decide) ⟨hn, by omega⟩
    have gC := F.nu (i := 2) (m := C.toNat) (by rw [hP']; rfl)
    have hE : ∀ j, j < 1 + 2 * n → eE (tk T (2 + j)) = 0 := fun j hj => by
      cases j with
      | zero => exact eE_fine gC.1 (by rw [gC.2.1]; have := h.cap; omega)
      | succ j =>
        have := F.nu (g j (by omega))
        rw [show 2 + (j + 1) = 3 + j by omega]
        refine eE_fine this.1 ?_
        rw [this.2.1]
        have := a5 (j / 2) (by omega)
        split <;> omega
    have hS : PS T = ⟨P.length, 0⟩ := by
      unfold PS
      rw [q1, if_neg (by decide), if_neg (by decide)]
      unfold kSt
      rw [q4, steps_all (E := eK) q3 hE, hl]
      congr 1; omega
    unfold PR
    rw [hS, fin_end F, q1, q5, if_neg (by simp), if_neg (by decide), if_neg (by decide), gC.2.1]
    have eW : kWl T n = wl := range_ext a2 fun j hj => by
      rw [show 2 + (1 + 2 * j) = 3 + 2 * j by omega, (F.nu (g (2 * j) (by omega))).2.1, if_pos (by omega), show 2 * j / 2 = j by omega]
      have := (a5 j hj).1; omega
    have eV : kVl T n = vl := range_ext a3 fun j hj => by
      rw [show 2 + (2 + 2 * j) = 3 + (2 * j + 1) by omega, (F.nu (g (2 * j + 1) (by omega))).2.1, if_neg (by omega), show (2 * j + 1) / 2 = j by omega]
      have := (a5 j hj).2; omega
    rw [eW, eV, a4]
    congr 1
    have := h.cap; omega
  · obtain ⟨a1, a2, a3, a4, a5, a6⟩ := h.rs (by decide)
    obtain ⟨P, hP⟩ : ∃ P, P = (pcs 2 n C wl vl cl).map (·.1) := ⟨_, rfl⟩
    rw [← hP] at F
    have hP' : P = [.wd (nameOf 2), .nu n] ++ (rp cl n (n * n)).map (·.1) := by
      rw [hP]; unfold pcs hdp; rw [if_neg (by decide), if_pos rfl, if_neg (by decide), List.map_append]; rfl
    have hl : P.length = 2 + n * n := by rw [hP']; simp [rp]; omega
    have g : ∀ k, k < n * n → P[2 + k]? = some (.nu ((cl[k / n]?.getD [])[k % n]?.getD 0).toNat) := fun k hk => by
      rw [hP', List.getElem?_append_right (by simp), show 2 + k - [Pc.wd (nameOf 2), .nu n].length = k by simp, List.getElem?_map]
      unfold rp
      rw [map_range_get _ _ _ hk]
      rfl
    obtain ⟨q1, q2, q3, q4, q5⟩ := head2 (most := 24) F (by rw [hP']; rfl) (by rw [hP']; rfl) (show idx3 ⟨(nameOf 2).toArray⟩ = 1 by decide +kernel) (by decide) ⟨hn, by omega⟩
    have hE : ∀ j, j < n * n → eE (tk T (2 + j)) = 0 := fun j hj => by
      have t := F.nu (g j hj)
      refine eE_fine t.1 ?_
      rw [t.2.1]
      have := ((a6 (j / n) (Nat.div_lt_of_lt_mul hj)).2 (j % n) (Nat.mod_lt _ (by omega))).1
      omega
    have hS : PS T = ⟨P.length, 0⟩ := by
      unfold PS
      rw [q1, if_pos rfl]
      unfold aSt
      rw [q4, steps_all (E := eK) q3 hE, hl]
    unfold PR
    rw [hS, fin_end F, q1, q5, if_neg (by simp), if_pos rfl, a2, a3, a4]
    congr 1
    refine tab_ext a5 (fun a ha => (a6 a ha).1) fun a b ha hb => ?_
    have hk : a * n + b < n * n := by
      have : (a + 1) * n ≤ n * n := Nat.mul_le_mul_right _ ha
      rw [Nat.succ_mul] at this; omega
    unfold MA
    rw [(F.nu (g _ hk)).2.1, Nat.mul_comm a n, Nat.mul_add_div hn, Nat.div_eq_of_lt hb, Nat.mul_add_mod, Nat.mod_eq_of_lt hb, Nat.add_zero]
    have := ((a6 a ha).2 b hb).1; omega
  · obtain ⟨a1, a2, a3, a4, a5, a6⟩ := h.rs (by decide)
    obtain ⟨P, hP⟩ : ∃ P, P = (pcs 3 n C wl vl cl).map (·.1) := ⟨_, rfl⟩
    rw [← hP] at F
    have hP' : P = [.wd (nameOf 3), .nu n, .wd [70, 85, 76, 76]] ++ (rp cl n (n * n)).map (·.1) := by
      rw [hP]; unfold pcs hdp; rw [if_neg (by decide), if_neg (by decide), if_neg (by decide), List.map_append]; rfl
    have hl : P.length = 3 + n * n := by rw [hP']; simp [rp]; omega
    have g : ∀ k, k < n * n → P[3 + k]? = some (.nu ((cl[k / n]?.getD [])[k % n]?.getD 0).toNat) := fun k hk => by
      rw [hP', List.getElem?_append_right (by simp), show 3 + k - [Pc.wd (nameOf 3), .nu n, .wd [70, 85, 76, 76]].length = k by simp, List.getElem?_map]
      unfold rp
      rw [map_range_get _ _ _ hk]
      rfl
    obtain ⟨q1, q2, q3, q4, q5⟩ := head2 (most := 24) F (by rw [hP']; rfl) (by rw [hP']; rfl) (show idx3 ⟨(nameOf 3).toArray⟩ = 2 by decide +kernel) (by decide) ⟨hn, by omega⟩
    obtain ⟨w1, w2⟩ := F.wd (i := 2) (w := [70, 85, 76, 76]) (by rw [hP']; rfl)
    have w3 : idx2 (tk T 2).text = 0 := by rw [w2]; decide +kernel
    have e3 : s3 T ⟨2, 0⟩ = ⟨3, 0⟩ := by
      unfold s3 wf
      show adv ⟨2, 0⟩ (if (tk T 2).kind = 3 then 6 else if idx2 (tk T 2).text < 0 then 3 else 0) = _
      rw [w1, w3, if_neg (by decide), if_neg (by decide)]; exact adv_ok rfl
    have v : ∀ a b, a < n → b < n → (tk T (3 + (a * n + b))).kind = 2 ∧ (tk T (3 + (a * n + b))).num = (cl[a]?.getD [])[b]?.getD 0 := fun a b ha hb => by
      have hk : a * n + b < n * n := by
        have : (a + 1) * n ≤ n * n := Nat.mul_le_mul_right _ ha
        rw [Nat.succ_mul] at this; omega
      have t := F.nu (g _ hk)
      refine ⟨t.1, ?_⟩
      rw [t.2.1, Nat.mul_comm a n, Nat.mul_add_div hn, Nat.div_eq_of_lt hb, Nat.mul_add_mod, Nat.mod_eq_of_lt hb, Nat.add_zero]
      have := ((a6 a ha).2 b hb).1; omega
    have hE : ∀ j, j < n * n → fE n j (tk T (3 + j)) = 0 := fun j hj => by
      have d1 : j / n < n := Nat.div_lt_of_lt_mul hj
      have d2 : j % n < n := Nat.mod_lt _ (by omega)
      have d3 : j / n * n + j % n = j := by rw [Nat.mul_comm]; exact Nat.div_add_mod j n
      have t := v _ _ d1 d2
      rw [d3] at t
      have u := (a6 _ d1).2 _ d2
      unfold fE
      split
      · rename_i hm
        refine zf_fine t.1 ?_
        rw [t.2]
        refine u.2 rfl ?_
        obtain ⟨c, hc⟩ := Nat.dvd_of_mod_eq_zero hm
        have e0 : j = c * n + c := by rw [hc, Nat.succ_mul, Nat.mul_comm]
        have hcn : c < n := by
          rcases Nat.lt_or_ge c n with q | q
          · exact q
          · exfalso
            have := Nat.mul_le_mul_right n q
            omega
        rw [e0, Nat.mul_comm c n, Nat.mul_add_div hn, Nat.div_eq_of_lt hcn, Nat.mul_add_mod, Nat.mod_eq_of_lt hcn, Nat.add_zero]
      · refine eE_fine t.1 ?_
        rw [t.2]; exact u.1.2
    have hS : PS T = ⟨P.length, 0⟩ := by
      unfold PS
      rw [q1, if_neg (by decide), if_pos rfl]
      unfold tSt
      rw [q3]
      show (if idx2 (tk T 2).text = 0 then _ else _) = _
      rw [w3, if_pos rfl, q4, steps_all (E := fE n) e3 hE, hl]
    unfold PR
    rw [hS, fin_end F, q1, q5, if_neg (by simp), if_neg (by decide), if_pos rfl, w3, if_pos rfl, a2, a3, a4]
    congr 1
    refine tab_ext a5 (fun a ha => (a6 a ha).1) fun a b ha hb => ?_
    unfold MA
    exact (v a b ha hb).2
/-- a problem's text tells the problem -/
theorem Fm.back {K : Int} {n : Nat} {C : Int} {wl vl : List Int} {cl : List (List Int)} (h : Fm K n C wl vl cl) : PX ⟨(wtx K n C wl vl cl).toArray⟩ = .ok K n C wl vl cl := by
  rw [← h.text]
  unfold PX
  rw [sp_whole _ h.pieces]
  exact h.tells (fit_of _ 0 _)
end Go.Proofs.YtjlaankgfpjeeaaDoor

/-
  What a text tells is a problem in form; where it is wrong lies within it. Plain mathematics.
-/
namespace Go.Proofs.YtjlaankgfpjeeaaDoor
open Go.RowKit
open ip (dg lnk kt rt hd wtx nameOf chk chk_zero nth rowsP costE itemsE rowE formP num)
set_option linter.unusedVariables false
theorem nf_zero {k n most : Int} (h : nf k n most = 0) : n ≤ most := by
  unfold nf at h
  split at h
  · exact absurd h (by decide)
  · split at h
    · exact absurd h (by decide)
    · split at h
      · exact absurd h (by decide)
      · omega
theorem eE_bd {T : List Tok} (hT : Toks T) {i : Nat} (h : eE (tk T i) = 0) : 0 ≤ (tk T i).num ∧ (tk T i).num ≤ 2147483647 := ⟨hT.num i, nf_zero h⟩
theorem items_in : ∀ (wl vl : List Int), (∀ j, j < wl.length → (0 ≤ wl[j]?.getD 0 ∧ wl[j]?.getD 0 ≤ 2147483647) ∧ (0 ≤ vl[j]?.getD 0 ∧ vl[j]?.getD 0 ≤ 2147483647)) → itemsE wl vl = 0
  | [], vl, _ => by simp [itemsE]
  | a :: wl, [], h => by simp [itemsE]
  | a :: wl, b :: vl, h => by
    have h0 := h 0 (by simp)
    simp at h0
    unfold itemsE
    rw [if_pos (ip.num_zero.2 h0.1), if_pos (ip.num_zero.2 h0.2)]
    exact items_in wl vl fun j hj => by simpa using h (j + 1) (by simp; omega)
theorem row_in (K : Int) (a : Nat) : ∀ (r : List Int) (b : Nat), (∀ j, j < r.length → (0 ≤ r[j]?.getD 0 ∧ r[j]?.getD 0 ≤ 2147483647) ∧ (K = 3 → a = b + j → r[j]?.getD 0 = 0)) → rowE K a b r = 0
  | [], b, _ => by unfold rowE; rfl
  | x :: r, b, h => by
    have h0 := h 0 (by simp)
    simp at h0
    unfold rowE
    rw [if_pos (ip.num_zero.2 h0.1), if_neg (fun c => c.2.2 (h0.2 c.1 c.2.1))]
    exact row_in K a r (b + 1) fun j hj => by
      have := h (j + 1) (by simp; omega)
      refine ⟨by simpa using this.1, fun hk ha => by simpa using this.2 hk (by omega)⟩
theorem cost_in (K : Int) : ∀ (cl : List (List Int)) (a : Nat), (∀ j, j < cl.length → rowE K (a + j) 0 (cl[j]?.getD []) = 0) → costE K a cl = 0
  | [], a, _ => by unfold costE; rfl
  | r :: cl, a, h => by
    unfold costE
    rw [if_pos (by simpa using h 0 (by simp))]
    exact cost_in K cl (a + 1) fun j hj => by
      have := h (j + 1) (by simp; omega)
      rw [show a + 1 + j = a + (j + 1) by omega]
      simpa using this
theorem Fm.chk {K : Int} {n : Nat} {C : Int} {wl vl : List Int} {cl : List (List Int)} (h : Fm K n C wl vl cl) : ip.chk K n C wl vl cl = 0 := by
  have h1 := h.n1
  rcases Decidable.em (K = 1) with rfl | hK
  · obtain ⟨a1, a2, a3, a4, a5⟩ := h.ks rfl
    have hF : ip.formP 1 (n : Int) C wl.length vl.length cl := by
      unfold ip.formP; exact Or.inl ⟨rfl, by omega, by omega, by rw [a4]; rfl⟩
    rw [ip.chk_items (by omega) (by omega) (by omega) hF rfl, if_pos (ip.num_zero.2 h.cap)]
    exact items_in wl vl (by rw [a2]; exact a5)
  · obtain ⟨a1, a2, a3, a4, a5, a6⟩ := h.rs hK
    have hk := h.k
    have hF : ip.formP K (n : Int) C wl.length vl.length cl := by
      unfold ip.formP; exact Or.inr ⟨hK, by omega, a2, by rw [a3]; rfl, by rw [a4]; rfl, fun j hj => by rw [(a6 j (by omega)).1]; omega⟩
    rw [ip.chk_costs (by omega) (by omega) (by omega) hF hK]
    exact cost_in K cl 0 fun j hj => row_in K _ _ 0 fun b hb => by
      have hb' : b < n := by rw [(a6 j (by omega)).1] at hb; exact hb
      have := (a6 j (by omega)).2 b hb'
      exact ⟨this.1, fun hk ha => this.2 hk (by omega)⟩
theorem tab_row {n : Nat} {M : Nat → Nat → Int} {a : Nat} (ha : a < n) : (tab n M)[a]?.getD [] = (List.range n).map fun b => M a b := by
  unfold tab; rw [map_range_get _ _ _ ha]; rfl
theorem map_get0 {f : Nat → Int} {n j : Nat} (h : j < n) : ((List.range n).map f)[j]?.getD 0 = f j := by rw [map_range_get _ _ _ h]; rfl
theorem tab_fm {K : Int} {n : Nat} {M : Nat → Nat → Int} (hK : K = 2 ∨ K = 3) (h1 : 1 ≤ n) (h24 : n ≤ 24) (hM : ∀ a b, a < n → b < n → (0 ≤ M a b ∧ M a b ≤ 2147483647) ∧ (K = 3 → a = b → M a b = 0)) : Fm K n 0 [] [] (tab n M) := by
  refine ⟨h1, by omega, by omega, fun c => by omega, fun _ => ⟨h24, rfl, rfl, rfl, tab_len n M, fun a ha => ?_⟩⟩
  rw [tab_row ha]
  refine ⟨by simp, fun b hb => ?_⟩
  rw [map_get0 hb]
  exact hM a b ha hb
theorem sf_zero {t : Tok} {most : Int} (h : sf t most = 0) : t.num ≤ most ∧ t.num ≠ 0 := ⟨nf_zero (sf_ok h).1, (sf_ok h).2⟩
theorem nn_ok {T : List Tok} (hT : Toks T) {most : Nat} (h : (sz T (s1 T) most).f = 0) : s1 T = ⟨1, 0⟩ ∧ sz T ⟨1, 0⟩ most = ⟨2, 0⟩ ∧ nOf T ⟨1, 0⟩ most = (tk T 1).num.toNat ∧ 1 ≤ (tk T 1).num.toNat ∧ (tk T 1).num.toNat ≤ most := by
  obtain ⟨b1, b2, b3⟩ := n_ok hT h
  have c1 := s1_ok b1
  rw [c1] at b2 b3 h
  unfold sz at h
  obtain ⟨_, h2⟩ := adv_zero h
  have h2 : sf (tk T 1) most = 0 := h2
  have := sf_zero h2
  have := hT.num 1
  exact ⟨c1, b3, b2, by omega, by omega⟩
theorem wh_ok {T : List Tok} {i : Int} (h : (adv ⟨0, 0⟩ (wf (tk T 0) i)).f = 0) : 0 ≤ i := by
  obtain ⟨_, h2⟩ := adv_zero h
  unfold wf at h2
  split at h2
  · exact absurd h2 (by decide)
  · split at h2
    · exact absurd h2 (by decide)
    · omega
/-- what tokens tell is in form -/
theorem pr_fm {T : List Tok} (hT : Toks T) {K : Int} {N : Nat} {C : Int} {wl vl : List Int} {cl : List (List Int)} (h : PR T = .ok K N C wl vl cl) : Fm K N C wl vl cl := by
  have hf : (fin T (PS T)).f = 0 := by
    rcases Decidable.em ((fin T (PS T)).f = 0) with q | q
    · exact q
    · unfold PR at h; rw [if_pos q] at h; cases h
  have hp := fin_zero hf
  unfold PR at h
  rw [if_neg (by rw [hf]; simp)] at h
  split at h
  · rename_i h1
    injection h with e1 e2 e3 e4 e5 e6; subst e1 e2 e3 e4 e5 e6
    have hS : PS T = aSt T (s1 T) := by unfold PS; rw [if_pos h1]
    rw [hS] at hp
    obtain ⟨a1, a2, a3⟩ := steps_zero eK T _ _ hp
    obtain ⟨b1, b2, b3, b4, b5⟩ := nn_ok hT (most := 24) a1
    rw [b1] at a3
    have e1 : nOf T ⟨1, 0⟩ 24 = (tk T 1).num.toNat := b3
    have e2 : sz T ⟨1, 0⟩ 24 = ⟨2, 0⟩ := b2
    rw [e1, e2] at a3
    refine tab_fm (.inl rfl) b4 b5 fun a b ha hb => ⟨?_, fun c => absurd c (by decide)⟩
    have hk : a * (tk T 1).num.toNat + b < (tk T 1).num.toNat * (tk T 1).num.toNat := by
      have : (a + 1) * (tk T 1).num.toNat ≤ (tk T 1).num.toNat * (tk T 1).num.toNat := Nat.mul_le_mul_right _ ha
      rw [Nat.succ_mul] at this; omega
    exact eE_bd hT (a3 _ hk).1
  · rename_i h1
    split at h
    · rename_i h2
      have hS : PS T = tSt T (s1 T) := by unfold PS; rw [if_neg h1, if_pos h2]
      rw [hS] at hp
      unfold tSt at hp
      split at h
      · rename_i h3
        injection h with e1 e2 e3 e4 e5 e6; subst e1 e2 e3 e4 e5 e6
        have key : ∀ (q : St), q = sz T (s1 T) 24 → (q.f = 0 → q.p = 2) := fun q hq hz => by
          subst hq
          obtain ⟨b1, b2, b3, b4, b5⟩ := nn_ok hT (most := 24) hz
          rw [b1]
          have e2 : sz T ⟨1, 0⟩ 24 = ⟨2, 0⟩ := b2
          rw [e2]
        by_cases hc : idx2 (tk T (sz T (s1 T) 24).p).text = 0
        · rw [if_pos hc] at hp
          obtain ⟨a1, a2, a3⟩ := steps_zero _ T _ _ hp
          obtain ⟨c1, c2⟩ := s3_ok a1
          obtain ⟨b1, b2, b3, b4, b5⟩ := nn_ok hT (most := 24) c1
          rw [b1] at a3 c2
          have e1 : nOf T ⟨1, 0⟩ 24 = (tk T 1).num.toNat := b3
          have e2 : sz T ⟨1, 0⟩ 24 = ⟨2, 0⟩ := b2
          rw [e2] at c2
          rw [e1, e2, c2] at a3
          refine tab_fm (.inr rfl) b4 b5 fun a b ha hb => ?_
          have hk : a * (tk T 1).num.toNat + b < (tk T 1).num.toNat * (tk T 1).num.toNat := by
            have : (a + 1) * (tk T 1).num.toNat ≤ (tk T 1).num.toNat * (tk T 1).num.toNat := Nat.mul_le_mul_right _ ha
            rw [Nat.succ_mul] at this; omega
          have hz := (a3 _ hk).1
          unfold MA
          unfold fE at hz
          have hz' : (if (a * (tk T 1).num.toNat + b) % ((tk T 1).num.toNat + 1) = 0 then zf (tk T (3 + (a * (tk T 1).num.toNat + b))) else eE (tk T (3 + (a * (tk T 1).num.toNat + b)))) = 0 := hz
          split at hz'
          · have := zf_ok hz'
            exact ⟨⟨by omega, by omega⟩, fun _ _ => this.2⟩
          · rename_i hm
            refine ⟨eE_bd hT hz', fun _ e => ?_⟩
            subst e
            exact absurd (by rw [show a * (tk T 1).num.toNat + a = a * ((tk T 1).num.toNat + 1) by rw [Nat.mul_succ]]; exact Nat.mul_mod_left _ _) hm
        · exfalso
          rw [if_neg hc] at hp
          obtain ⟨a1, a2, a3⟩ := steps_zero _ T _ _ hp
          obtain ⟨c1, c2⟩ := s3_ok a1
          rw [key _ rfl c1] at hc
          exact hc h3
      · rename_i h3
        injection h with e1 e2 e3 e4 e5 e6; subst e1 e2 e3 e4 e5 e6
        by_cases hc : idx2 (tk T (sz T (s1 T) 24).p).text = 0
        · exfalso
          rw [if_pos hc] at hp
          obtain ⟨a1, a2, a3⟩ := steps_zero _ T _ _ hp
          obtain ⟨c1, c2⟩ := s3_ok a1
          obtain ⟨b1, b2, b3, b4, b5⟩ := nn_ok hT (most := 24) c1
          rw [b1] at hc
          have e2 : sz T ⟨1, 0⟩ 24 = ⟨2, 0⟩ := b2
          rw [e2] at hc
          exact h3 hc
        · rw [if_neg hc] at hp
          obtain ⟨a1, a2, a3⟩ := steps_zero _ T _ _ hp
          obtain ⟨c1, c2⟩ := s3_ok a1
          obtain ⟨b1, b2, b3, b4, b5⟩ := nn_ok hT (most := 24) c1
          rw [b1] at a3 c2
          have e1 : nOf T ⟨1, 0⟩ 24 = (tk T 1).num.toNat := b3
          have e2 : sz T ⟨1, 0⟩ 24 = ⟨2, 0⟩ := b2
          rw [e2] at c2
          rw [e1, e2, c2] at a3
          refine tab_fm (.inr rfl) b4 b5 fun a b ha hb => ?_
          unfold MU
          rcases Nat.lt_trichotomy a b with q | q | q
          · rw [if_neg (by omega), if_pos q]
            exact ⟨eE_bd hT (a3 _ (rs_lt _ a b q hb)).1, fun _ e => by omega⟩
          · rw [if_pos q]; exact ⟨by omega, fun _ _ => rfl⟩
          · rw [if_neg (by omega), if_neg (by omega)]
            exact ⟨eE_bd hT (a3 _ (rs_lt _ b a q ha)).1, fun _ e => by omega⟩
    · rename_i h2
      injection h with e1 e2 e3 e4 e5 e6; subst e1 e2 e3 e4 e5 e6
      have hS : PS T = kSt T (s1 T) := by unfold PS; rw [if_neg h1, if_neg h2]
      rw [hS] at hp
      obtain ⟨a1, a2, a3⟩ := steps_zero eK T _ _ hp
      obtain ⟨b1, b2, b3, b4, b5⟩ := nn_ok hT (most := 64) a1
      rw [b1] at a3
      have e1 : nOf T ⟨1, 0⟩ 64 = (tk T 1).num.toNat := b3
      have e2 : sz T ⟨1, 0⟩ 64 = ⟨2, 0⟩ := b2
      rw [e1, e2] at a3
      have g : ∀ j, j < 1 + 2 * (tk T 1).num.toNat → 0 ≤ (tk T (2 + j)).num ∧ (tk T (2 + j)).num ≤ 2147483647 := fun j hj => eE_bd hT (a3 j hj).1
      refine ⟨b4, .inl rfl, g 0 (by omega), fun _ => ⟨b5, by simp [kWl], by simp [kVl], rfl, fun j hj => ?_⟩, fun c => absurd rfl c⟩
      unfold kWl kVl
      rw [map_get0 hj, map_get0 hj]
      exact ⟨g _ (by omega), g _ (by omega)⟩
theorem px_fm {s : ByteArray} (hs : s.size ≤ 65536) {K : Int} {N : Nat} {C : Int} {wl vl : List Int} {cl : List (List Int)} (h : PX s = .ok K N C wl vl cl) : Fm K N C wl vl cl := by
  unfold PX at h
  cases hsp : SP s 0 [] with
  | ok T => rw [hsp] at h; exact pr_fm (SP_toks hs hsp) h
  | bad p e => rw [hsp] at h; cases h
theorem pxx_fm {s : ByteArray} {K : Int} {N : Nat} {C : Int} {wl vl : List Int} {cl : List (List Int)} (h : PXX s = .ok K N C wl vl cl) : Fm K N C wl vl cl := by
  unfold PXX at h
  split at h
  · cases h
  · exact px_fm (by omega) h
theorem wtx_len {K : Int} {n : Nat} {C : Int} {wl vl : List Int} {cl : List (List Int)} (h : Fm K n C wl vl cl) : (wtx K n C wl vl cl).length ≤ 20000 := by
  have hc := h.chk
  obtain ⟨h1, h2⟩ := chk_zero hc
  have hN : (dg (n : Int)).length ≤ 21 := ip.dg_len _ (by omega)
  have hC : (dg C).length ≤ 21 := ip.dg_len _ h.cap
  have hK : (nameOf K).length ≤ 10 := by rcases h.k with rfl | rfl | rfl <;> decide
  have hh : (hd K n C).length ≤ 60 := by
    unfold hd
    rcases h.k with rfl | rfl | rfl
    · rw [if_pos rfl]; simp; omega
    · rw [if_neg (by decide), if_neg (by decide)]; simp; omega
    · rw [if_neg (by decide), if_pos rfl]; simp; omega
  unfold wtx
  rw [List.length_append]
  rcases h2 with ⟨rfl, a1, a2, a3, a4, a5, a6⟩ | ⟨hk, a1, a2, a3, a4, a5, a6, a7⟩
  · rw [if_pos rfl]
    have := ip.kt_len wl vl (by omega) a6 wl.length (Nat.le_refl _)
    omega
  · rw [if_neg (by omega)]
    have := ip.rt_len K cl a6 a7 (by omega) cl.length (Nat.le_refl _)
    omega
theorem Fm.xback {K : Int} {n : Nat} {C : Int} {wl vl : List Int} {cl : List (List Int)} (h : Fm K n C wl vl cl) : PXX ⟨(wtx K n C wl vl cl).toArray⟩ = .ok K n C wl vl cl := by
  unfold PXX
  rw [if_neg (by rw [mk_size]; have := wtx_len h; omega)]
  exact h.back
end Go.Proofs.YtjlaankgfpjeeaaDoor

/-
  Where a text is wrong lies within it. Plain mathematics.
-/
namespace Go.Proofs.YtjlaankgfpjeeaaDoor
open Go.RowKit
set_option linter.unusedVariables false
def InT (s : ByteArray) : Res → Prop
  | .ok T => ∀ t ∈ T, t.at_ ≤ s.size
  | .bad q e => q ≤ s.size
theorem sp_at (s : ByteArray) : ∀ b p l, p ≤ s.size → (∀ t ∈ l, t.at_ ≤ s.size) → InT s (sp s b p l)
  | 0, p, l, hp, hl => by
    intro t ht
    rcases List.mem_append.1 ht with q | q
    · exact hl t q
    · rw [List.mem_singleton.1 q]; exact Nat.le_refl _
  | b + 1, p, l, hp, hl => by
    simp only [sp]
    split
    · intro t ht
      rcases List.mem_append.1 ht with q | q
      · exact hl t q
      · rw [List.mem_singleton.1 q]; exact Nat.le_refl _
    · rename_i hlt
      have e2 := run_le 2 s (p + 1) (by omega)
      have e3 := run_le 3 s (p + 1) (by omega)
      have e4 := nl_le s (p + 1) (by omega)
      have ap : ∀ (x : Tok), x.at_ = p → ∀ t ∈ l ++ [x], t.at_ ≤ s.size := fun x hx t ht => by
        rcases List.mem_append.1 ht with q | q
        · exact hl t q
        · rw [List.mem_singleton.1 q, hx]; omega
      split
      · exact sp_at s b _ _ (by omega) hl
      · split
        · exact sp_at s b _ _ e4 hl
        · split
          · split
            · exact hp
            · split
              · exact e2
              · exact sp_at s b _ _ e2 (ap _ rfl)
          · split
            · split
              · exact hp
              · split
                · exact e3
                · exact sp_at s b _ _ e3 (ap _ rfl)
            · exact hp
theorem pxx_bad {s : ByteArray} {q : Nat} {f : Int} (h : PXX s = .bad q f) : f ≠ 0 := by
  unfold PXX at h
  split at h
  · injection h with _ h; omega
  · unfold PX at h
    cases hsp : SP s 0 [] with
    | bad p e => rw [hsp] at h; injection h with h1 h2; rw [← h2]; exact SP_bad hsp
    | ok T =>
      rw [hsp] at h
      have h : PR T = .bad q f := h
      unfold PR at h
      split at h
      · rename_i hf; injection h with h1 h2; rw [← h2]; exact hf
      · split at h
        · cases h
        · split at h
          · split at h <;> cases h
          · cases h
theorem pxx_at {s : ByteArray} {q : Nat} {f : Int} (h : PXX s = .bad q f) : q ≤ s.size := by
  unfold PXX at h
  split at h
  · injection h with h _; omega
  · unfold PX at h
    have ha := sp_at s (s.size - 0) 0 [] (by omega) (by simp)
    cases hsp : SP s 0 [] with
    | bad p e =>
      rw [hsp] at h; injection h with h1 h2
      have hsp' : sp s (s.size - 0) 0 [] = .bad p e := hsp
      rw [hsp'] at ha
      rw [← h1]; exact ha
    | ok T =>
      rw [hsp] at h
      have hsp' : sp s (s.size - 0) 0 [] = .ok T := hsp
      rw [hsp'] at ha
      have ha : ∀ t ∈ T, t.at_ ≤ s.size := ha
      have h : PR T = .bad q f := h
      unfold PR at h
      split at h
      · injection h with h1 h2; rw [← h1]
        unfold tk
        cases hi : T[(fin T (PS T)).p]? with
        | none => exact Nat.zero_le _
        | some t => exact ha t (List.mem_of_getElem? hi)
      · split at h
        · cases h
        · split at h
          · split at h <;> cases h
          · cases h
end Go.Proofs.YtjlaankgfpjeeaaDoor

/-
  A problem in a box; what inst.Write answers of any; what Parse answers of a text.
-/
namespace Go.Proofs.YtjlaankgfpjeeaaDoor
open Go.RowKit
open ip (wtx chk chk_zero Tab WPost Src RSrc Ints Rws IntsO RwsO)
set_option linter.unusedVariables false
/-- a problem in a box -/
structure Bx (b : Nat) (K N C : Int) (wl vl : List Int) (cl : List (List Int)) (wa va ca : Option Addr) (wc vc cc : Nat) (W : World) : Prop where
  box : W.heap[b]? = some (.cells #[.int .i64 K, .int .i64 N, .int .i64 C, .slice wa wl.length wc, .slice va vl.length vc, .slice ca cl.length cc] 25 (0, 0))
  i1 : Ints W wa wl
  i2 : Ints W va vl
  i3 : Rws W ca cl
theorem Bx.keep {b : Nat} {K N C : Int} {wl vl : List Int} {cl : List (List Int)} {wa va ca : Option Addr} {wc vc cc : Nat} {W W1 : World} (h : Bx b K N C wl vl cl wa va ca wc vc cc W) (hb : Below W.heap.size W W1) : Bx b K N C wl vl cl wa va ca wc vc cc W1 :=
  ⟨(hb.block b (lt_blk h.box)).trans h.box, h.i1.keep hb, h.i2.keep hb, h.i3.keep hb⟩
theorem Bx.new {K N C : Int} {wl vl : List Int} {cl : List (List Int)} {wa va ca : Option Addr} {wc vc cc : Nat} {W : World} (i1 : Ints W wa wl) (i2 : Ints W va vl) (i3 : Rws W ca cl) :
    Bx W.heap.size K N C wl vl cl wa va ca wc vc cc (W.alloc (.cells #[.int .i64 K, .int .i64 N, .int .i64 C, .slice wa wl.length wc, .slice va vl.length vc, .slice ca cl.length cc] 25)) := by
  have hb : Below W.heap.size W (W.alloc (.cells #[.int .i64 K, .int .i64 N, .int .i64 C, .slice wa wl.length wc, .slice va vl.length vc, .slice ca cl.length cc] 25)) := bl_al (Below.refl _ _) _
  exact ⟨heap_alloc_new W _, i1.keep hb, i2.keep hb, i3.keep hb⟩
theorem write_fm {K : Int} {n : Nat} {C : Int} {wl vl : List Int} {cl : List (List Int)} (h : Fm K n C wl vl cl) (wa va ca : Option Addr) (wc vc cc : Nat) (w : World) (ht : Tab w) (i1 : Ints w wa wl) (i2 : Ints w va vl) (i3 : Rws w ca cl) :
    Calls Tryd.prog 9 #[.agg #[.int .i64 K, .int .i64 n, .int .i64 C, .slice wa wl.length wc, .slice va vl.length vc, .slice ca cl.length cc]] w (WPost ⟨(wtx K n C wl vl cl).toArray⟩ 0 w) := by
  have hz := h.chk
  rcases h.k with rfl | rfl | rfl
  · exact ip.write1 n C wl vl cl wa va ca wc vc cc w ht i1 i2 i3 hz
  · exact ip.write2 n C wl vl cl wa va ca wc vc cc w ht i1 i2 i3 hz
  · exact ip.write3 n C wl vl cl wa va ca wc vc cc w ht i1 i2 i3 hz
theorem write_all (K N C : Int) (wl vl : List Int) (cl : List (List Int)) (l1 : wl.length ≤ 1000) (l2 : vl.length ≤ 1000) (l3 : cl.length ≤ 1000) : ∃ t er,
    (∀ (wa va ca : Option Addr) (wc vc cc : Nat) (w : World), Tab w → Ints w wa wl → Ints w va vl → Rws w ca cl → Calls Tryd.prog 9 #[.agg #[.int .i64 K, .int .i64 N, .int .i64 C, .slice wa wl.length wc, .slice va vl.length vc, .slice ca cl.length cc]] w (WPost t er w)) ∧
    (er ≠ 0 ∨ (er = 0 ∧ ∃ n : Nat, N = n ∧ Fm K n C wl vl cl ∧ t = ⟨(wtx K n C wl vl cl).toArray⟩)) := by
  by_cases hz : chk K N C wl vl cl = 0
  · obtain ⟨hN, hF⟩ := fm_of hz
    obtain ⟨n, rfl⟩ : ∃ n : Nat, N = n := ⟨_, hN⟩
    have hF : Fm K n C wl vl cl := by simpa using hF
    exact ⟨_, _, fun wa va ca wc vc cc w ht i1 i2 i3 => write_fm hF wa va ca wc vc cc w ht i1 i2 i3, .inr ⟨rfl, n, rfl, hF, rfl⟩⟩
  · exact ⟨_, _, fun wa va ca wc vc cc w _ i1 i2 i3 => ip.write_bad K N C wl vl cl wa va ca wc vc cc _ rfl hz l1 l2 l3 w i1 i2 i3, .inl hz⟩
theorem src_len {W : World} {a : Option Addr} {n c : Nat} {l : List Int} (h : Src W a n c l) : l.length ≤ 70 := by have := h.1; omega
theorem rsrc_len {W : World} {a : Option Addr} {n c : Nat} {l : List (List Int)} (h : RSrc W a n c l) : l.length ≤ 30 := by have := h.1; omega
/-- the problem's copy stored into its box -/
theorem store_bx {w w1 : World} {b g1 g2 k1 k2 cc : Nat} {ca : Option Addr} {K N C : Int} {wl vl : List Int} {cl : List (List Int)} {B : Nat} {v0 v1 v2 v3 v4 v5 : Value}
    (hw : w.heap.size ≤ b) (q : w1.heap[b]? = some (.cells #[v0, v1, v2, v3, v4, v5] 25 (0, 0))) (hb : Below w.heap.size w w1) (i1 : IntsO w1 g1 wl) (i2 : IntsO w1 g2 vl) (rw : RwsO B w1 ca cl)
    (X : World) (hX : X = (((((w1.setCell ⟨b, 0, none⟩ (.int .i64 K)).setCell ⟨b, 1, none⟩ (.int .i64 N)).setCell ⟨b, 2, none⟩ (.int .i64 C)).setCell ⟨b, 3, none⟩ (.slice (some ⟨g1, 0, none⟩) wl.length k1)).setCell ⟨b, 4, none⟩ (.slice (some ⟨g2, 0, none⟩) vl.length k2)).setCell ⟨b, 5, none⟩ (.slice ca cl.length cc)) :
    Bx b K N C wl vl cl (some ⟨g1, 0, none⟩) (some ⟨g2, 0, none⟩) ca k1 k2 cc X ∧ Below w.heap.size w X := by
  subst hX
  have XO : ∀ k, k ≠ b → _ = _ := fun k hk => ip.six_other (w := w1) hk (.int .i64 K) (.int .i64 N) (.int .i64 C) (.slice (some ⟨g1, 0, none⟩) wl.length k1) (.slice (some ⟨g2, 0, none⟩) vl.length k2) (.slice ca cl.length cc)
  exact ⟨⟨ip.six q _ _ _ _ _ _, (i1.same (XO _ (i1.ne q (by decide)))).ints, (i2.same (XO _ (i2.ne q (by decide)))).ints, (rw.other q XO).rws⟩, ip.six_below hb hw _ _ _ _ _ _⟩
theorem tab_st {w X : World} (ht : Tab w) (hb : Below w.heap.size w X) : Tab X := ip.tab_keep _ _ ht hb
end Go.Proofs.YtjlaankgfpjeeaaDoor
