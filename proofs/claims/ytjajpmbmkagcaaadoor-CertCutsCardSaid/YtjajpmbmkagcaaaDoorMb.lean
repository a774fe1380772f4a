/-
  cert: the reader's steps told by the bytes that stand there; a text that is cut, a text with more behind.
-/
import Derived.Test.YtjajpmbmkagcaaaDoorMa
namespace Go.Proofs.YtjajpmbmkagcaaaDoor
open Go.RowKit
set_option linter.unusedVariables false
theorem pff_all (s q : ByteArray) (a r : Nat) (hr : r ≤ q.size) (h : ∀ j, j < r → a + j < s.size ∧ s.get! (a + j) = q.get! j) (hs : ¬ (r < q.size ∧ a + r < s.size ∧ s.get! (a + r) = q.get! r)) : ∀ b k, k ≤ r → r ≤ k + b → pff s q a b k = r
  | 0, k, h1, h2 => by rw [show k = r by omega]; exact pff_stop s q a 0 r hs
  | b + 1, k, h1, h2 => by
    rcases Nat.lt_or_ge k r with c | c
    · rw [pff_step s q a b k ⟨by omega, (h k c).1, (h k c).2⟩]
      exact pff_all s q a r hr h hs b (k + 1) (by omega) (by omega)
    · rw [show k = r by omega]; exact pff_stop s q a (b + 1) r hs
theorem pff_got (s q : ByteArray) (a : Nat) : ∀ b k j, k ≤ j → j < pff s q a b k → j < q.size ∧ a + j < s.size ∧ s.get! (a + j) = q.get! j
  | 0, k, j, h1, h2 => by rw [show pff s q a 0 k = k from by unfold pff; rfl] at h2; omega
  | b + 1, k, j, h1, h2 => by
    by_cases c : k < q.size ∧ a + k < s.size ∧ s.get! (a + k) = q.get! k
    · rw [pff_step s q a b k c] at h2
      by_cases e : j = k
      · subst e; exact c
      · exact pff_got s q a b (k + 1) j (by omega) h2
    · rw [pff_stop s q a (b + 1) k c] at h2; omega
theorem q_get (q : ByteArray) (j : Nat) (h : j < q.size) : q.get! j = q.data.toList[j]'(by simpa using h) := by rw [get_of q j h]; rfl
theorem pas_at {s q : ByteArray} {a : Nat} (h : At s a q.data.toList) : pasS s q (a, 0) = (a + q.size, 0) := by
  obtain ⟨h1, h2⟩ := h
  have hl : q.data.toList.length = q.size := by simp
  have p : pf s q a = q.size := pff_all s q a q.size (Nat.le_refl _) (fun j hj => ⟨by omega, by rw [h2 j (by omega), q_get q j hj]⟩) (fun c => by omega) q.size 0 (by omega) (by omega)
  unfold pasS pfe
  rw [if_pos rfl]
  show (a + pf s q a, if pf s q a = q.size then (0 : Int) else _) = _
  rw [p, if_pos rfl]
theorem pas_ok {s q : ByteArray} {x : St} (h : (pasS s q x).2 = 0) (hx : x.1 ≤ s.size) : At s x.1 q.data.toList ∧ pasS s q x = (x.1 + q.size, 0) := by
  have e := pasS_back h
  obtain ⟨a, e'⟩ := x
  have e : e' = 0 := e
  subst e
  have hp : pf s q a = q.size := by
    unfold pasS pfe at h
    rw [if_pos rfl] at h
    have h : (if pf s q a = q.size then (0 : Int) else if a + pf s q a < s.size then 2 else 6) = 0 := h
    by_cases c : pf s q a = q.size
    · exact c
    · rw [if_neg c] at h
      split at h <;> exact absurd h (by decide)
  have g : ∀ j, j < q.size → j < q.size ∧ a + j < s.size ∧ s.get! (a + j) = q.get! j := fun j hj => pff_got s q a q.size 0 j (Nat.zero_le _) (by show j < pf s q a; rw [hp]; exact hj)
  have hl : q.data.toList.length = q.size := by simp
  have hA : At s a q.data.toList := by
    refine ⟨?_, fun j hj => ?_⟩
    · rcases Nat.eq_zero_or_pos q.size with z | z
      · have hx : a ≤ s.size := hx
        omega
      · have := (g (q.size - 1) (by omega)).2.1; omega
    · rw [(g j (by omega)).2.2, q_get q j (by omega)]
  exact ⟨hA, pas_at hA⟩
theorem num_st0 {s : ByteArray} {a : Nat} {most : Int} (h : NumOk s a most) : numS s most (a, 0) = (nmn s a, 0) := by
  have z := num_iff.2 h
  unfold numS
  rw [if_pos rfl]
  show (if nme s a most = 0 then nmn s a else a, nme s a most) = _
  rw [z, if_pos rfl]
theorem num_ok {s : ByteArray} {most : Int} {x : St} (h : (numS s most x).2 = 0) : x.2 = 0 ∧ NumOk s x.1 most ∧ numS s most x = (nmn s x.1, 0) := by
  have e := numS_back h
  obtain ⟨a, e'⟩ := x
  have e : e' = 0 := e
  subst e
  have z : nme s a most = 0 := by unfold numS at h; rw [if_pos rfl] at h; exact h
  exact ⟨rfl, num_iff.1 z, num_st0 (num_iff.1 z)⟩
theorem cnt_ok {s : ByteArray} {x : St} (h : (cntS s x).2 = 0) : x.2 = 0 ∧ NumOk s x.1 64 ∧ 1 ≤ nmv s x.1 ∧ cntS s x = (nmn s x.1, 0) ∧ (cntV s x : Int) = nmv s x.1 := by
  have e := cntS_back h
  obtain ⟨a, e'⟩ := x
  have e : e' = 0 := e
  subst e
  have z : cte s a = 0 := by unfold cntS at h; rw [if_pos rfl] at h; exact h
  have z' := z
  unfold cte at z'
  have hn : nme s a 64 = 0 := by
    split at z'
    · rename_i c; exact absurd z' c
    · rename_i c; omega
  rw [if_neg (by omega)] at z'
  have ok := num_iff.1 hn
  have hb := nmv_bd hn
  have h0 : nmv s a ≠ 0 := fun c => by rw [if_pos c] at z'; exact absurd z' (by decide)
  have e1 : cntS s (a, 0) = (nmn s a, 0) := by
    unfold cntS
    rw [if_pos rfl]
    show (if cte s a = 0 then nmn s a else a, cte s a) = _
    rw [z, if_pos rfl]
  refine ⟨rfl, ok, by show 1 ≤ nmv s a; omega, e1, ?_⟩
  unfold cntV
  rw [if_pos h]
  show (((nmv s a).toNat : Nat) : Int) = nmv s a
  omega
theorem cnt_st0 {s : ByteArray} {a : Nat} (h : NumOk s a 64) (h1 : 1 ≤ nmv s a) : cntS s (a, 0) = (nmn s a, 0) ∧ (cntV s (a, 0) : Int) = nmv s a := by
  have z : cte s a = 0 := by
    have hn := num_iff.2 h
    unfold cte
    rw [if_neg (by omega), if_neg (by omega)]
  have e1 : cntS s (a, 0) = (nmn s a, 0) := by
    unfold cntS
    rw [if_pos rfl]
    show (if cte s a = 0 then nmn s a else a, cte s a) = _
    rw [z, if_pos rfl]
  refine ⟨e1, ?_⟩
  unfold cntV
  rw [e1, if_pos rfl]
  show (((nmv s a).toNat : Nat) : Int) = nmv s a
  omega
theorem ltf_all (s : ByteArray) (a r : Nat) (h : ∀ j, j < r → a + j < s.size ∧ ltr ((s.get! (a + j)).toNat : Int) = true) (hs : ¬ (a + r < s.size ∧ ltr ((s.get! (a + r)).toNat : Int) = true)) : ∀ b k, k ≤ r → r ≤ k + b → ltf s a b k = r
  | 0, k, h1, h2 => by rw [show k = r by omega]; exact ltf_stop s a 0 r hs
  | b + 1, k, h1, h2 => by
    rcases Nat.lt_or_ge k r with c | c
    · rw [ltf_step s a b k ⟨(h k c).1, (h k c).2⟩]
      exact ltf_all s a r h hs b (k + 1) (by omega) (by omega)
    · rw [show k = r by omega]; exact ltf_stop s a (b + 1) r hs
theorem ltf_got (s : ByteArray) (a : Nat) : ∀ b k j, k ≤ j → j < ltf s a b k → a + j < s.size ∧ ltr ((s.get! (a + j)).toNat : Int) = true
  | 0, k, j, h1, h2 => by rw [show ltf s a 0 k = k from by unfold ltf; rfl] at h2; omega
  | b + 1, k, j, h1, h2 => by
    by_cases c : a + k < s.size ∧ ltr ((s.get! (a + k)).toNat : Int) = true
    · rw [ltf_step s a b k c] at h2
      by_cases e : j = k
      · subst e; exact c
      · exact ltf_got s a b (k + 1) j (by omega) h2
    · rw [ltf_stop s a (b + 1) k c] at h2; omega
theorem lt_all {s : ByteArray} {a r : Nat} (hr : a + r ≤ s.size) (h : ∀ j, j < r → a + j < s.size ∧ ltr ((s.get! (a + j)).toNat : Int) = true) (hs : ¬ (a + r < s.size ∧ ltr ((s.get! (a + r)).toNat : Int) = true)) : lt s a = r :=
  ltf_all s a r h hs (s.size - a) 0 (Nat.zero_le _) (by omega)
/-- a tree stands there -/
structure TreOk (s : ByteArray) (a n : Nat) : Prop where
  l1 : 1 ≤ n
  l2 : n ≤ 1048576
  lts : a + n < s.size
  ltr : ∀ j, j < n → ltr ((s.get! (a + j)).toNat : Int) = true
  nl : (s.get! (a + n)).toNat = 10
theorem TreOk.ltn {s : ByteArray} {a n : Nat} (h : TreOk s a n) : lt s a = n :=
  lt_all (by have := h.lts; omega) (fun j hj => ⟨by have := h.lts; omega, h.ltr j hj⟩) (fun c => by rw [h.nl] at c; exact absurd c.2 (by decide))
theorem tre_st0 {s : ByteArray} {a n : Nat} (h : TreOk s a n) : treS s (a, 0) = (a + n, 0) ∧ treV s (a, 0) = s.extract a (a + n) := by
  have l := h.ltn
  have e : tre s a = 0 := by
    unfold tre
    rw [l, if_neg (by have := h.l2; omega), if_neg (by have := h.lts; omega), if_neg (fun c => by rcases c with c | c; have := h.l1; omega; exact c h.nl)]
  have k : trk s a = n := by
    unfold trk
    rw [l, if_neg (by have := h.l2; omega)]
  have e1 : treS s (a, 0) = (a + n, 0) := by
    unfold treS
    rw [if_pos rfl]
    show (a + trk s a, tre s a) = _
    rw [e, k]
  refine ⟨e1, ?_⟩
  unfold treV
  rw [e1, if_pos rfl, l]
theorem tre_ok {s : ByteArray} {x : St} (h : (treS s x).2 = 0) : x.2 = 0 ∧ TreOk s x.1 (lt s x.1) := by
  have e := treS_back h
  obtain ⟨a, e'⟩ := x
  have e : e' = 0 := e
  subst e
  have z : tre s a = 0 := by unfold treS at h; rw [if_pos rfl] at h; exact h
  unfold tre at z
  refine ⟨rfl, ?_⟩
  show TreOk s a (lt s a)
  split at z
  · exact absurd z (by decide)
  · split at z
    · exact absurd z (by decide)
    · split at z
      · exact absurd z (by decide)
      · rename_i h1 h2 h3
        exact ⟨by omega, by omega, by omega, fun j hj => (ltf_got s a (s.size - a) 0 j (Nat.zero_le _) hj).2, by omega⟩
theorem TreOk.agr {s t : ByteArray} {a n m : Nat} (h : TreOk s a n) (A : Agr s t m) (hm : a + n < m) : TreOk t a n := by
  obtain ⟨A1, A2, A3⟩ := A
  exact ⟨h.l1, h.l2, by omega, fun j hj => by rw [← A3 (a + j) (by omega)]; exact h.ltr j hj, by rw [← A3 (a + n) (by omega)]; exact h.nl⟩
theorem TreOk.cut {s t : ByteArray} {a n : Nat} (h : TreOk s a n) (A : Agr s t t.size) (ha : a ≤ t.size) (hn : t.size ≤ a + n) : treS t (a, 0) = (t.size, 6) := by
  obtain ⟨A1, A2, A3⟩ := A
  have l : lt t a = t.size - a := lt_all (by omega) (fun j hj => ⟨by omega, by rw [← A3 (a + j) (by omega)]; exact h.ltr j (by omega)⟩) (fun c => by omega)
  have l2 := h.l2
  unfold treS tre trk
  rw [if_pos rfl]
  show (a + (if 1048576 < lt t a then 1048576 else lt t a), _) = _
  rw [l, if_neg (by omega), if_neg (by omega), if_pos (by omega), show a + (t.size - a) = t.size by omega]
theorem pas_end {t q : ByteArray} (hq : 1 ≤ q.size) : pasS t q (t.size, 0) = (t.size, 6) := by
  have p : pf t q t.size = 0 := pff_stop t q t.size q.size 0 (fun c => by omega)
  unfold pasS pfe
  rw [if_pos rfl]
  show (t.size + pf t q t.size, if pf t q t.size = q.size then (0 : Int) else if t.size + pf t q t.size < t.size then 2 else 6) = _
  rw [p, if_neg (by omega), if_neg (by omega), Nat.add_zero]
theorem pas_cut {s t q : ByteArray} {a : Nat} (h : At s a q.data.toList) (A : Agr s t t.size) (ha : a < t.size) (hn : t.size < a + q.size) : pasS t q (a, 0) = (t.size, 6) := by
  obtain ⟨h1, h2⟩ := h
  obtain ⟨A1, A2, A3⟩ := A
  have hl : q.data.toList.length = q.size := by simp
  have p : pf t q a = t.size - a := pff_all t q a (t.size - a) (by omega) (fun j hj => ⟨by omega, by rw [← A3 (a + j) (by omega), h2 j (by omega), q_get q j (by omega)]⟩) (fun c => by omega) q.size 0 (by omega) (by omega)
  unfold pasS pfe
  rw [if_pos rfl]
  show (a + pf t q a, if pf t q a = q.size then (0 : Int) else if a + pf t q a < t.size then 2 else 6) = _
  rw [p, if_neg (by omega), if_neg (by omega), show a + (t.size - a) = t.size by omega]
theorem num_end {t : ByteArray} {most : Int} : numS t most (t.size, 0) = (t.size, 6) := by
  have e : nme t t.size most = 6 := by unfold nme; rw [if_pos (Nat.le_refl _)]
  unfold numS
  rw [if_pos rfl]
  show (if nme t t.size most = 0 then nmn t t.size else t.size, nme t t.size most) = _
  rw [e, if_neg (by decide)]
theorem cnt_end {t : ByteArray} : cntS t (t.size, 0) = (t.size, 6) := by
  have e : nme t t.size 64 = 6 := by unfold nme; rw [if_pos (Nat.le_refl _)]
  have e2 : cte t t.size = 6 := by unfold cte; rw [e, if_pos (by decide)]
  unfold cntS
  rw [if_pos rfl]
  show (if cte t t.size = 0 then nmn t t.size else t.size, cte t t.size) = _
  rw [e2, if_neg (by decide)]
theorem tre_end {t : ByteArray} : treS t (t.size, 0) = (t.size, 6) := by
  have l : lt t t.size = 0 := lt_all (by omega) (fun j hj => by omega) (fun c => by omega)
  unfold treS tre trk
  rw [if_pos rfl]
  show (t.size + (if 1048576 < lt t t.size then 1048576 else lt t t.size), _) = _
  rw [l, if_neg (by omega), if_neg (by omega), if_pos (by omega), Nat.add_zero]

/-! a text that is cut -/
/-- it is over: the state stands at the end -/
def Ov (t : ByteArray) (y : St) : Prop := y = (t.size, 0) ∨ y = (t.size, 6)
def Rl (t : ByteArray) (y x : St) : Prop := (y = x ∧ x.1 < t.size) ∨ Ov t y
theorem Ov.pas {t q : ByteArray} {y : St} (h : Ov t y) (hq : 1 ≤ q.size) : pasS t q y = (t.size, 6) := by
  rcases h with rfl | rfl
  · exact pas_end hq
  · exact pasS_err (show (6 : Int) ≠ 0 by decide)
theorem Ov.num {t : ByteArray} {y : St} {most : Int} (h : Ov t y) : numS t most y = (t.size, 6) := by
  rcases h with rfl | rfl
  · exact num_end
  · exact numS_err (show (6 : Int) ≠ 0 by decide)
theorem Ov.cnt {t : ByteArray} {y : St} (h : Ov t y) : cntS t y = (t.size, 6) := by
  rcases h with rfl | rfl
  · exact cnt_end
  · exact cntS_err (show (6 : Int) ≠ 0 by decide)
theorem Ov.tre {t : ByteArray} {y : St} (h : Ov t y) : treS t y = (t.size, 6) := by
  rcases h with rfl | rfl
  · exact tre_end
  · exact treS_err (show (6 : Int) ≠ 0 by decide)
section
variable {s t : ByteArray} {y x : St}
theorem Rl.pas {q : ByteArray} (h : Rl t y x) (A : Agr s t t.size) (hq : 1 ≤ q.size) (ok : (pasS s q x).2 = 0) : Rl t (pasS t q y) (pasS s q x) := by
  rcases h with ⟨rfl, hy⟩ | h
  · have e := pasS_back ok
    obtain ⟨hA, e2⟩ := pas_ok ok (by have := A.1; omega)
    obtain ⟨a, e'⟩ := y
    have e : e' = 0 := e
    subst e
    rw [e2]
    have hl : q.data.toList.length = q.size := by simp
    rcases Nat.lt_or_ge t.size (a + q.size) with c | c
    · exact .inr (.inr (pas_cut hA A hy c))
    · rw [pas_at (A.at_ hA (by show a + _ ≤ _; omega))]
      rcases Nat.lt_or_ge (a + q.size) t.size with d | d
      · exact .inl ⟨rfl, d⟩
      · exact .inr (.inl (by rw [show a + q.size = t.size by omega]))
  · exact .inr (.inr (h.pas hq))
theorem Rl.num {most : Int} (h : Rl t y x) (A : Agr s t t.size) (ok : (numS s most x).2 = 0) : Rl t (numS t most y) (numS s most x) := by
  rcases h with ⟨rfl, hy⟩ | h
  · obtain ⟨e, n, e2⟩ := num_ok ok
    obtain ⟨a, e'⟩ := y
    have e : e' = 0 := e
    subst e
    rw [e2]
    rcases Nat.lt_or_ge (nmn s a) t.size with c | c
    · obtain ⟨n2, _, e3⟩ := n.agr A c
      rw [num_st0 n2]
      exact .inl ⟨by show (nmn t a, (0 : Int)) = (nmn s a, 0); rw [e3], c⟩
    · obtain ⟨n2, e3, _⟩ := n.cut A hy c
      rw [num_st0 n2]
      exact .inr (.inl (by rw [e3]))
  · exact .inr (.inr h.num)
theorem Rl.cnt (h : Rl t y x) (A : Agr s t t.size) (ok : (cntS s x).2 = 0) : (cntS t y = cntS s x ∧ (cntS s x).1 < t.size ∧ cntV t y = cntV s x) ∨ Ov t (cntS t y) := by
  rcases h with ⟨rfl, hy⟩ | h
  · obtain ⟨e, n, n1, e2, ev⟩ := cnt_ok ok
    obtain ⟨a, e'⟩ := y
    have e : e' = 0 := e
    subst e
    rw [e2]
    rcases Nat.lt_or_ge (nmn s a) t.size with c | c
    · obtain ⟨n2, v3, e3⟩ := n.agr A c
      have n1 : 1 ≤ nmv s a := n1
      obtain ⟨g1, g2⟩ := cnt_st0 n2 (by rw [v3]; exact n1)
      rw [g1]
      refine .inl ⟨by show (nmn t a, (0 : Int)) = (nmn s a, 0); rw [e3], c, ?_⟩
      have v3 : nmv t a = nmv s a := v3
      have ev : (cntV s (a, 0) : Int) = nmv s a := ev
      have g2 : (cntV t (a, 0) : Int) = nmv t a := g2
      omega
    · obtain ⟨n2, e3, e4, _⟩ := n.cut A hy c
      rw [(cnt_st0 n2 (e4 n1)).1]
      exact .inr (.inl (by rw [e3]))
  · exact .inr (.inr h.cnt)
theorem Rl.tre (h : Rl t y x) (A : Agr s t t.size) (ok : (treS s x).2 = 0) : Rl t (treS t y) (treS s x) := by
  rcases h with ⟨rfl, hy⟩ | h
  · obtain ⟨e, n⟩ := tre_ok ok
    obtain ⟨a, e'⟩ := y
    have e : e' = 0 := e
    subst e
    have n : TreOk s a (lt s a) := n
    have hy : a < t.size := hy
    rw [(tre_st0 n).1]
    rcases Nat.lt_or_ge (a + lt s a) t.size with c | c
    · rw [(tre_st0 (n.agr A c)).1]
      exact .inl ⟨rfl, c⟩
    · exact .inr (.inr (n.cut A (by omega) c))
  · exact .inr (.inr h.tre)
end
theorem sep_size (j : Nat) : (sep j).size = 1 := by
  unfold sep
  split <;> rfl
/-- what a text that is read has gone through -/
structure Whole (s : ByteArray) : Prop where
  h0 : (cr0 s).2 = 0
  h1 : (cr1 s).2 = 0
  h2 : (cr2 s).2 = 0
  h3 : (cr3 s).2 = 0
  he : ∀ j, j ≤ crn s → (els s j).2 = 0
  hp : ∀ j, j < crn s → (pasS s (sep j) (els s j)).2 = 0
  h5 : (cr5 s).2 = 0
  h6 : (cr6 s).2 = 0
  h7 : cr7 s = (s.size, 0)
theorem whole_of {s : ByteArray} (h : (crE s).2 = 0) : Whole s := by
  have h7 : (cr7 s).2 = 0 ∧ ¬ (cr7 s).1 < s.size := by
    unfold crE at h
    by_cases c : (cr7 s).2 = 0 ∧ (cr7 s).1 < s.size
    · rw [if_pos c] at h; exact absurd h (show (7 : Int) ≠ 0 by decide)
    · rw [if_neg c] at h; exact ⟨h, fun d => c ⟨h, d⟩⟩
  have l7 := cr7_le s
  have e7 : cr7 s = (s.size, 0) := Prod.ext (by show _ = s.size; omega) h7.1
  have h6 : (cr6 s).2 = 0 := pasS_back h7.1
  have h5 : (cr5 s).2 = 0 := treS_back h6
  have hn : (els s (crn s)).2 = 0 := pasS_back h5
  have he : ∀ j, j ≤ crn s → (els s j).2 = 0 := fun j hj => by
    by_cases c : (els s j).2 = 0
    · exact c
    · have := els_err c (crn s - j)
      rw [show j + (crn s - j) = crn s by omega] at this
      rw [← this]; exact hn
  have h3 := els_back _ hn
  have h2 := cntS_back h3
  have h1 := pasS_back h2
  have h0 := numS_back h1
  exact ⟨h0, h1, h2, h3, he, fun j hj => numS_back (he (j + 1) hj), h5, h6, e7⟩
theorem cut_all {s t : ByteArray} (h : (crE s).2 = 0) (A : Agr s t t.size) (hl : t.size < s.size) : crE t = (t.size, 6) := by
  have W := whole_of h
  have r0 : Rl t ((0, 0) : St) (0, 0) := by
    rcases Nat.eq_zero_or_pos t.size with z | z
    · exact .inr (.inl (by rw [z]))
    · exact .inl ⟨rfl, z⟩
  have r0 : Rl t (cr0 t) (cr0 s) := r0.pas A (by decide) W.h0
  have r1 : Rl t (cr1 t) (cr1 s) := r0.num A W.h1
  have r2 : Rl t (cr2 t) (cr2 s) := r1.pas A (by decide) W.h2
  have r5 : Rl t (cr5 t) (cr5 s) := by
    rcases r2.cnt A W.h3 with ⟨e1, e2, e3⟩ | o
    · have en : crn t = crn s := e3
      have re : ∀ j, j ≤ crn s → Rl t (els t j) (els s j) := by
        intro j
        induction j with
        | zero => exact fun _ => .inl ⟨e1, e2⟩
        | succ j ih => exact fun hj => ((ih (by omega)).pas A (by rw [sep_size]; exact Nat.le_refl _) (W.hp j (by omega))).num A (W.he (j + 1) hj)
      show Rl t (pasS t qN (els t (crn t))) _
      rw [en]
      exact (re (crn s) (Nat.le_refl _)).pas A (by decide) W.h5
    · have oe : ∀ j, Ov t (els t j) := by
        intro j
        induction j with
        | zero => exact o
        | succ j ih =>
          show Ov t (numS t 999 (pasS t (sep j) (els t j)))
          rw [ih.pas (by rw [sep_size]; exact Nat.le_refl _)]
          exact .inr (Ov.num (.inr rfl))
      exact .inr (.inr ((oe (crn t)).pas (by decide)))
  have r6 : Rl t (cr6 t) (cr6 s) := r5.tre A W.h6
  have e7 : cr7 t = (t.size, 6) := by
    rcases r6 with ⟨e1, e2⟩ | o
    · have h7 := W.h7
      have := (pas_ok (q := qN) (x := cr6 s) (show (cr7 s).2 = 0 by rw [h7]) (cr6_le s)).2
      have h8 : cr7 s = ((cr6 s).1 + 1, 0) := this
      rw [h7] at h8
      have := congrArg Prod.fst h8
      simp at this
      omega
    · exact o.pas (by decide)
  rw [crE_7 (by rw [e7]; exact (show (6 : Int) ≠ 0 by decide)), e7]

/-! a text with more behind -/
section
variable {s t : ByteArray} {x : St}
theorem pas_agr {q : ByteArray} (A : Agr s t s.size) (hx : x.1 ≤ s.size) (ok : (pasS s q x).2 = 0) : pasS t q x = pasS s q x := by
  have e := pasS_back ok
  obtain ⟨hA, e2⟩ := pas_ok ok hx
  rw [e2]
  obtain ⟨a, e'⟩ := x
  have e : e' = 0 := e
  subst e
  exact pas_at (A.at_ hA hA.1)
theorem num_agr {most : Int} (A : Agr s t s.size) (ok : (numS s most x).2 = 0) (hl : (numS s most x).1 < s.size) : numS t most x = numS s most x ∧ nmv t x.1 = nmv s x.1 := by
  obtain ⟨e, n, e2⟩ := num_ok ok
  rw [e2] at hl ⊢
  obtain ⟨a, e'⟩ := x
  have e : e' = 0 := e
  subst e
  obtain ⟨n2, e3, e4⟩ := n.agr A hl
  exact ⟨by rw [num_st0 n2, e4], e3⟩
theorem cnt_agr (A : Agr s t s.size) (ok : (cntS s x).2 = 0) (hl : (cntS s x).1 < s.size) : cntS t x = cntS s x ∧ cntV t x = cntV s x := by
  obtain ⟨e, n, n1, e2, ev⟩ := cnt_ok ok
  rw [e2] at hl ⊢
  obtain ⟨a, e'⟩ := x
  have e : e' = 0 := e
  subst e
  have n : NumOk s a 64 := n
  obtain ⟨n2, e3, e4⟩ := n.agr A hl
  obtain ⟨g1, g2⟩ := cnt_st0 n2 (by rw [e3]; exact n1)
  refine ⟨by rw [g1, e4], ?_⟩
  have ev : (cntV s (a, 0) : Int) = nmv s a := ev
  have e3 : nmv t a = nmv s a := e3
  omega
theorem tre_agr (A : Agr s t s.size) (ok : (treS s x).2 = 0) : treS t x = treS s x := by
  obtain ⟨e, n⟩ := tre_ok ok
  obtain ⟨a, e'⟩ := x
  have e : e' = 0 := e
  subst e
  have n : TreOk s a (lt s a) := n
  rw [(tre_st0 n).1, (tre_st0 (n.agr A n.lts)).1]
theorem pas_lt {q : ByteArray} (ok : (pasS s q x).2 = 0) (hx : x.1 ≤ s.size) (hq : 1 ≤ q.size) : x.1 < s.size := by
  have h := (pas_ok ok hx).1.1
  have hl : q.data.toList.length = q.size := by simp
  omega
end
theorem more_all {s t : ByteArray} (h : (crE s).2 = 0) (A : Agr s t s.size) (hl : s.size < t.size) : crE t = (s.size, 7) := by
  have W := whole_of h
  have e0 : cr0 t = cr0 s := pas_agr A (Nat.zero_le _) W.h0
  have e1 : cr1 t = cr1 s := by
    show numS t _ (cr0 t) = _
    rw [e0]
    exact (num_agr A W.h1 (pas_lt W.h2 (cr1_le s) (by decide))).1
  have e2 : cr2 t = cr2 s := by
    show pasS t _ (cr1 t) = _
    rw [e1]
    exact pas_agr A (cr1_le s) W.h2
  have el : ∀ j, j ≤ crn s → (els s j).1 < s.size := fun j hj => by
    by_cases c : j < crn s
    · exact pas_lt (W.hp j c) (els_le s j) (by rw [sep_size]; exact Nat.le_refl _)
    · rw [show j = crn s by omega]
      exact pas_lt (q := qN) W.h5 (els_le s _) (by decide)
  have e3 := cnt_agr (x := cr2 s) A W.h3 (el 0 (Nat.zero_le _))
  have en : crn t = crn s := by
    show cntV t (cr2 t) = _
    rw [e2]
    exact e3.2
  have ee : ∀ j, j ≤ crn s → els t j = els s j := by
    intro j
    induction j with
    | zero =>
      intro _
      show cntS t (cr2 t) = _
      rw [e2]
      exact e3.1
    | succ j ih =>
      intro hj
      show numS t 999 (pasS t (sep j) (els t j)) = _
      rw [ih (by omega), pas_agr A (els_le s j) (W.hp j (by omega))]
      exact (num_agr A (W.he (j + 1) hj) (el (j + 1) hj)).1
  have e5 : cr5 t = cr5 s := by
    show pasS t qN (els t (crn t)) = _
    rw [en, ee _ (Nat.le_refl _)]
    exact pas_agr A (els_le s _) W.h5
  have e6 : cr6 t = cr6 s := by
    show treS t (cr5 t) = _
    rw [e5]
    exact tre_agr A W.h6
  have e7 : cr7 t = (s.size, 0) := by
    show pasS t qN (cr6 t) = _
    rw [e6, pas_agr A (cr6_le s) (by show (cr7 s).2 = 0; rw [W.h7])]
    exact W.h7
  unfold crE
  rw [e7, if_pos ⟨rfl, hl⟩]
end Go.Proofs.YtjajpmbmkagcaaaDoor
