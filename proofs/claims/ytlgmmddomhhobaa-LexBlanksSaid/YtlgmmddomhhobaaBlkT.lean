/-
  A text whose tokens are laid anew, with other blanks between: what it is known to tell on the way.
-/
import Derived.Test.YtlgmmddomhhobaaCut
namespace Go.Proofs.Ytlgmmddomhhobaa
open Go.RowKit
set_option linter.unusedVariables false
/-- what may follow a text so that its last token ends there -/
def Good (R : ByteArray) : Prop := 0 < R.size ∧ (kb R 0 = 1 ∨ kb R 0 = 4)
theorem good_sep {x : ByteArray} (h : Sep x) (R : ByteArray) : Good (x ++ R) := by
  obtain ⟨h1, h2, h3, h4⟩ := h
  refine ⟨by rw [ByteArray.size_append]; omega, ?_⟩
  have : kb (x ++ R) 0 = kb x 0 := by unfold kb; rw [get_left x R 0 h1]
  rw [this]; exact h3
/-- the first i tokens are laid -/
structure Inv (l : List Tok) (i : Nat) (T : ByteArray) (M : List Tok) : Prop where
  sp : ∀ R, Good R → SP (T ++ R) 0 [] = SP (T ++ R) T.size M
  len : M.length = i
  same : ∀ (j : Nat) t, j < i → l[j]? = some t → ∃ u, M[j]? = some u ∧ alike u t
  size : T.size ≤ 30 * i
theorem empty_app (R : ByteArray) : (⟨#[]⟩ : ByteArray) ++ R = R := by
  apply ByteArray.ext
  rw [ByteArray.data_append]; simp
theorem Inv.zero (l : List Tok) : Inv l 0 ⟨#[]⟩ [] := ⟨fun R _ => rfl, rfl, fun j t h => by omega, by show 0 ≤ _; omega⟩
theorem Inv.step {s : ByteArray} {l : List Tok} {i n : Nat} {T x : ByteArray} {M : List Tok} {t : Tok} (h : Inv l i T M) (hx : Sep x) (hl : l[i]? = some t) (ht : TF s t n) :
    Inv l (i + 1) (T ++ x ++ s.extract t.at_ (t.at_ + n)) (M ++ [⟨t.kind, t.text, t.num, T.size + x.size⟩]) := by
  obtain ⟨x1, x2, x3, x4⟩ := id hx
  obtain ⟨b, hb⟩ : ∃ b, s.extract t.at_ (t.at_ + n) = b := ⟨_, rfl⟩
  have hz : b.size = n := by have := ht.hi; rw [← hb, ByteArray.size_extract]; omega
  have n1 := ht.n1
  have n18 := ht.n18
  have hs : (T ++ x).size = T.size + x.size := ByteArray.size_append
  have hs2 : (T ++ x ++ b).size = T.size + x.size + n := by rw [ByteArray.size_append, hs, hz]
  rw [hb]
  refine ⟨fun R hR => ?_, by rw [List.length_append, h.len]; rfl, fun j u hj hu => ?_, by rw [hs2]; have := h.size; omega⟩
  · have e1 : T ++ x ++ b ++ R = T ++ (x ++ (b ++ R)) := by rw [ByteArray.append_assoc, ByteArray.append_assoc]
    have e2 : T ++ x ++ b ++ R = (T ++ x) ++ (b ++ R) := by rw [ByteArray.append_assoc]
    have l1 : lays (T ++ x ++ b ++ R) T.size x := by rw [e1]; exact lays_mid T x _
    have l2 : lays (T ++ x ++ b ++ R) (T.size + x.size) b := by rw [e2, ← hs]; exact lays_mid _ b R
    have s1 : SP (T ++ x ++ b ++ R) 0 [] = SP (T ++ x ++ b ++ R) T.size M := by rw [e1]; exact h.sp _ (good_sep hx _)
    rw [s1, x4 _ _ _ l1]
    have he : kb (T ++ x ++ b ++ R) (T.size + x.size + n) = kb R 0 := by
      have := kb_right (T ++ x ++ b) R 0 hR.1
      rw [hs2] at this; exact this
    rw [sp_lay ht (by rw [hb]; exact l2) (fun _ => by rw [he]; rcases hR.2 with q | q <;> rw [q] <;> decide), hs2]
  · rcases Nat.lt_or_ge j i with q | q
    · obtain ⟨v, hv, ha⟩ := h.same j u q hu
      exact ⟨v, by rw [List.getElem?_append_left (by rw [h.len]; exact q)]; exact hv, ha⟩
    · obtain rfl : j = i := by omega
      rw [hl] at hu; injection hu with hu; subst hu
      exact ⟨⟨t.kind, t.text, t.num, T.size + x.size⟩, by rw [List.getElem?_append_right (by rw [h.len]; omega), h.len, Nat.sub_self]; rfl, rfl, rfl, rfl⟩
/-- with blanks behind the last token the text tells all of them -/
theorem Inv.last {l : List Tok} {T x : ByteArray} {M : List Tok} (h : Inv l l.length T M) (hx : Sep x) : ∃ M2, SP (T ++ x) 0 [] = .ok M2 ∧ M2.length = l.length + 1 ∧ (T ++ x).size ≤ 30 * l.length + 12 ∧ ∀ (j : Nat) t z, (l ++ [(⟨3, noText, 0, z⟩ : Tok)])[j]? = some t → ∃ u, M2[j]? = some u ∧ alike u t := by
  obtain ⟨x1, x2, x3, x4⟩ := id hx
  have e : x ++ (⟨#[]⟩ : ByteArray) = x := by
    apply ByteArray.ext
    rw [ByteArray.data_append]; simp
  have hg : Good x := ⟨x1, x3⟩
  have hs : (T ++ x).size = T.size + x.size := ByteArray.size_append
  have l1 : lays (T ++ x) T.size x := by have := lays_mid T x ⟨#[]⟩; rw [e] at this; exact this
  refine ⟨M ++ [⟨3, noText, 0, (T ++ x).size⟩], ?_, by rw [List.length_append, h.len]; rfl, by rw [hs]; have := h.size; omega, fun j t z hj => ?_⟩
  · rw [h.sp x hg, x4 _ _ _ l1, SP_end (by rw [hs]; omega)]
  · rcases Nat.lt_or_ge j l.length with q | q
    · rw [List.getElem?_append_left q] at hj
      obtain ⟨u, hu, ha⟩ := h.same j t q hj
      exact ⟨u, by rw [List.getElem?_append_left (by rw [h.len]; exact q)]; exact hu, ha⟩
    · rw [List.getElem?_append_right q] at hj
      rcases Nat.eq_zero_or_pos (j - l.length) with h0 | h0
      · rw [h0] at hj; simp at hj; subst hj
        exact ⟨⟨3, noText, 0, (T ++ x).size⟩, by rw [List.getElem?_append_right (by rw [h.len]; exact q), h.len, h0]; rfl, rfl, rfl, rfl⟩
      · rw [List.getElem?_eq_none (by simp; omega)] at hj; cases hj
/-- what cut takes of a token and what stands behind it -/
theorem cut_tok {s : ByteArray} {t : Tok} {n B : Nat} (ht : TF s t n) (hB : t.at_ + n ≤ B) (hs : B ≤ s.size) (hs2 : s.size ≤ 500) (w : World) :
    Calls Try.prog 12 #[.string (s.extract t.at_ B)] w fun e w' => e = .returned (.string (s.extract t.at_ (t.at_ + n))) ∧ w = w' := by
  have hz : (s.extract t.at_ B).size = B - t.at_ := by rw [ByteArray.size_extract]; omega
  have hk : ∀ j, j < B - t.at_ → kb (s.extract t.at_ B) j = kb s (t.at_ + j) := fun j hj => by
    unfold kb
    rw [get_of _ j (by omega), get_of s _ (by omega), ByteArray.getElem_extract]
  have := cut_any (s.extract t.at_ B) n (by omega) (by omega) (fun j hj => by
    rw [hk j (by omega)]
    rcases ht.kd with ⟨_, _, _, _, k5⟩ | ⟨_, _, _, _, k5⟩
    · exact .inr (k5 j hj)
    · exact .inl (k5 j hj)) (fun hc => by
    rw [hk n (by omega)]
    exact ht.out (by omega)) w
  refine this.mono ?_
  rintro e w' ⟨rfl, rfl⟩
  refine ⟨?_, rfl⟩
  rw [ByteArray.extract_extract]
  congr 3 <;> omega
end Go.Proofs.Ytlgmmddomhhobaa
