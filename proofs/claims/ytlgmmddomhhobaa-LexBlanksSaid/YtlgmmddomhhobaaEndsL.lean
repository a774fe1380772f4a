/-
  The walk of the law LexEnds.
-/
import Derived.Test.YtlgmmddomhhobaaScansL
namespace Go.Proofs.Ytlgmmddomhhobaa
open Go.RowKit
set_option linter.unusedVariables false
/-- a token stands where it says -/
structure FineT (s : ByteArray) (p : Nat) (t : Tok) : Prop where
  lt : t.at_ < p
  kd : t.kind = 1 ∨ t.kind = 2
  tx : t.kind = 1 → t.at_ + t.text.size ≤ s.size ∧ s.extract t.at_ (t.at_ + t.text.size) = t.text
structure Fine (s : ByteArray) (l : List Tok) (p : Nat) : Prop where
  each : ∀ (i : Nat) t, l[i]? = some t → FineT s p t
  up : ∀ (i : Nat) t u, l[i]? = some t → l[i + 1]? = some u → t.at_ < u.at_
theorem FineT.mono {s : ByteArray} {p q : Nat} {t : Tok} (h : FineT s p t) (hq : p ≤ q) : FineT s q t := ⟨Nat.lt_of_lt_of_le h.lt hq, h.kd, h.tx⟩
theorem Fine.mono {s : ByteArray} {l : List Tok} {p q : Nat} (h : Fine s l p) (hq : p ≤ q) : Fine s l q := ⟨fun i t e => (h.each i t e).mono hq, h.up⟩
theorem Fine.nil (s : ByteArray) (p : Nat) : Fine s [] p := ⟨fun i t e => by simp at e, fun i t u e => by simp at e⟩
theorem Fine.snoc {s : ByteArray} {l : List Tok} {p q : Nat} {t : Tok} (h : Fine s l p) (ht : FineT s q t) (hp : p ≤ t.at_) (hq : p ≤ q) : Fine s (l ++ [t]) q := by
  refine ⟨fun i u e => ?_, fun i u v e f => ?_⟩
  · rcases Nat.lt_or_ge i l.length with hi | hi
    · rw [List.getElem?_append_left hi] at e; exact (h.each i u e).mono hq
    · rw [List.getElem?_append_right hi] at e
      rcases Nat.eq_zero_or_pos (i - l.length) with h0 | h0
      · rw [h0] at e; simp at e; subst e; exact ht
      · rw [List.getElem?_eq_none (by simp; omega)] at e; cases e
  · rcases Nat.lt_or_ge (i + 1) l.length with hi | hi
    · rw [List.getElem?_append_left (by omega)] at e; rw [List.getElem?_append_left hi] at f; exact h.up i u v e f
    · rw [List.getElem?_append_right hi] at f
      rcases Nat.eq_zero_or_pos (i + 1 - l.length) with h0 | h0
      · rw [h0] at f; simp at f; subst f
        rw [List.getElem?_append_left (by omega)] at e
        have := (h.each i u e).lt; omega
      · rw [List.getElem?_eq_none (by simp; omega)] at f; cases f
theorem sp_fine (s : ByteArray) : ∀ (b p : Nat) (l l' : List Tok), p ≤ s.size → s.size - p ≤ b → Fine s l p → sp s b p l = .ok l' → ∃ l0, l' = l0 ++ [⟨3, noText, 0, s.size⟩] ∧ Fine s l0 s.size
  | 0, p, l, l', hp, hb, hF, h => by
    simp only [sp] at h; injection h with h; exact ⟨l, h.symm, hF.mono hp⟩
  | b + 1, p, l, l', hp, hb, hF, h => by
    simp only [sp] at h
    have g2 := run_ge 2 s (p + 1)
    have g3 := run_ge 3 s (p + 1)
    have g4 := nl_ge s (p + 1)
    split at h
    · injection h with h; exact ⟨l, h.symm, hF.mono hp⟩
    · have k2 := run_le 2 s (p + 1) (by omega)
      have k3 := run_le 3 s (p + 1) (by omega)
      have k4 := nl_le s (p + 1) (by omega)
      split at h
      · exact sp_fine s b (p + 1) _ _ (by omega) (by omega) (hF.mono (by omega)) h
      · split at h
        · exact sp_fine s b (nl s (p + 1)) _ _ k4 (by omega) (hF.mono (by omega)) h
        · split at h
          · split at h
            · cases h
            · split at h
              · cases h
              · exact sp_fine s b (run 2 s (p + 1)) _ _ k2 (by omega) (hF.snoc ⟨by show p < _; omega, .inr rfl, fun e => by simp at e⟩ (Nat.le_refl _) (by omega)) h
          · split at h
            · split at h
              · cases h
              · split at h
                · cases h
                · refine sp_fine s b (run 3 s (p + 1)) _ _ k3 (by omega) (hF.snoc ⟨by show p < _; omega, .inl rfl, fun _ => ?_⟩ (Nat.le_refl _) (by omega)) h
                  have hz : (s.extract p (run 3 s (p + 1))).size = run 3 s (p + 1) - p := by simp; omega
                  show p + (s.extract p (run 3 s (p + 1))).size ≤ s.size ∧ s.extract p (p + (s.extract p (run 3 s (p + 1))).size) = s.extract p (run 3 s (p + 1))
                  rw [hz]
                  refine ⟨by omega, ?_⟩
                  congr 1; omega
            · cases h
theorem sp_bad (s : ByteArray) : ∀ (b p : Nat) (l : List Tok) (q : Nat) (er : Int), sp s b p l = .bad q er → er ≠ 0
  | 0, p, l, q, er, h => by simp only [sp] at h; cases h
  | b + 1, p, l, q, er, h => by
    simp only [sp] at h
    split at h
    · cases h
    · split at h
      · exact sp_bad s b _ _ q er h
      · split at h
        · exact sp_bad s b _ _ q er h
        · split at h
          · split at h
            · rename_i he; injection h with h1 h2; rw [← h2]; exact he
            · split at h
              · injection h with h1 h2; omega
              · exact sp_bad s b _ _ q er h
          · split at h
            · split at h
              · injection h with h1 h2; omega
              · split at h
                · injection h with h1 h2; omega
                · exact sp_bad s b _ _ q er h
            · injection h with h1 h2; omega
theorem TL.atT {w : World} {a : Option Addr} {n c : Nat} {l : List Tok} (h : TL w (.slice a n c) l) (i : Nat) (k m : Int) (x : ByteArray) (p : Nat) (hi : l[i]? = some ⟨k, x, m, p⟩) : ∃ g, a = some ⟨g, 0, none⟩ ∧ g < w.heap.size ∧ w.cell? ⟨g, i * 4, none⟩ = some (.int .i64 k) ∧ w.cell? ⟨g, i * 4 + 1, none⟩ = some (.string x) ∧ w.cell? ⟨g, i * 4 + 2, none⟩ = some (.int .i64 m) ∧ w.cell? ⟨g, i * 4 + 3, none⟩ = some (.int .i64 p) := by
  obtain ⟨hl, he⟩ := List.getElem?_eq_some_iff.1 hi
  have := h.at i hl
  rw [he] at this; exact this
/-- what a text that is right tells -/
theorem scan_ends (s : ByteArray) (hs : s.size ≤ 65536) : (∃ p er : Int, er ≠ 0 ∧ ∀ w, Calls Try.prog 8 #[.string s] w (Scd [] p er w)) ∨ ∃ l0, SP s 0 [] = .ok (l0 ++ [⟨3, noText, 0, s.size⟩]) ∧ Fine s l0 s.size ∧ l0.length ≤ s.size ∧ ∀ w, Calls Try.prog 8 #[.string s] w (Scd (l0 ++ [⟨3, noText, 0, s.size⟩]) 0 0 w) := by
  cases hr : SP s 0 [] with
  | ok l =>
    obtain ⟨l0, rfl, hF⟩ := sp_fine s _ 0 [] l (by omega) (Nat.le_refl _) (Fine.nil s 0) hr
    have hl := sp_len s _ _ _ _ (Nat.le_refl _) hr
    refine .inr ⟨l0, rfl, hF, by simp at hl; omega, fun w => (scan_any s hs w).mono ?_⟩
    intro e w' h; rw [hr] at h; obtain ⟨v, h1, h2, h3⟩ := h; exact ⟨v, h1, TL_of h2, h3⟩
  | bad p er =>
    refine .inl ⟨p, er, sp_bad s _ _ _ _ _ hr, fun w => (scan_any s hs w).mono ?_⟩
    intro e w' h; rw [hr] at h; obtain ⟨h1, h3⟩ := h; exact ⟨_, h1, tl_nil _, h3⟩
set_option maxRecDepth 100000 in
set_option maxHeartbeats 2000000 in
theorem lexEnds_walk (s : ByteArray) (w : World) (w0 : s.size ≤ maxLen) : Calls Try.prog 5 #[.string s] w fun e w' => e = .returned (.bool true) ∧ Below w.heap.size w w' := by
  clear w0
  by_cases hb : 2000 < s.size
  · have g0 : (2000 : Int) < (s.size : Int) := by omega
    go_enter Try.func5, Try.ntmps5
    go_wp2_with fail
    refine (lexes_any _).mono ?_
    rintro e w1 ⟨rfl, hb⟩
    go_wp2
    go_ret
    exact ⟨rfl, hb⟩
  · have g0 : ¬ (2000 : Int) < (s.size : Int) := by omega
    rcases scan_ends s (by omega) with ⟨p, er, he, H8⟩ | ⟨l0, -, hF, hl, H8⟩
    · have he' : ((er : Int) != 0) = true := by simpa using he
      have H8 := Lib.hid H8
      clear hb he
      go_enter Try.func5, Try.ntmps5
      go_wp2_with fail
      refine (H8.out _).mono ?_
      rintro e w1 ⟨v1, rfl, t1, hb1⟩
      obtain ⟨a1, k1, rfl⟩ := t1.len
      go_wp2_with fail
      refine (lexes_any _).mono ?_
      rintro e w3 ⟨rfl, hb3⟩
      have hb3 := below_tr hb1 hb3
      clear hb1 t1
      go_wp2_with fail
      refine (lexes_any _).mono ?_
      rintro e w4 ⟨rfl, hb4⟩
      have hb4 := below_tr hb3 hb4
      clear hb3
      go_wp2
      go_ret
      exact ⟨rfl, hb4⟩
    · have H8 := Lib.hid H8
      have HF := Lib.hid hF
      obtain ⟨n, hn⟩ : ∃ n, (l0 ++ [(⟨3, noText, 0, s.size⟩ : Tok)]).length = n := ⟨_, rfl⟩
      obtain ⟨m, hm⟩ : ∃ m, l0.length = m := ⟨_, rfl⟩
      have hn1 := Lib.hid (show n = m + 1 by rw [← hn, ← hm]; simp)
      have hsub : (n : Int) - 1 = (m : Int) := by have := hn1.out; omega
      have hb3 : n ≤ 2001 := by have := hn1.out; omega
      have hb4 : m ≤ 2000 := by omega
      have HM := Lib.hid hm
      have HN := Lib.hid hn
      clear hm
      clear hb hF
      go_enter Try.func5, Try.ntmps5
      go_wp2_with fail
      refine (H8.out _).mono ?_
      rintro e w1 ⟨v1, rfl, t1, hb1⟩
      obtain ⟨a1, k1, rfl⟩ := t1.len
      rw [hn] at t1
      rw [hn]
      clear hn
      have T1 := Lib.hid t1
      clear t1
      go_wp2_with fail
      refine (lexes_any _).mono ?_
      rintro e w3 ⟨rfl, hb3⟩
      have T3 := Lib.hid (T1.out.up hb3)
      have HB3 := Lib.hid (below_tr hb1 hb3)
      clear hb1 T1 hb3
      go_wp2
      go_loopw [6] (fun iv wr => ∃ k, k ≤ m ∧ iv = .int .i64 (k : Nat) ∧ Hid (Below w3.heap.size w3 wr)) (fun iv _ => n - (intOf iv).toNat)
      case atStart => exact ⟨0, by omega, rfl, Lib.hid (Below.refl _ _)⟩
      case round =>
        obtain ⟨k, hk, rfl, HB⟩ := hrel
        by_cases hlt : k < m
        · have h1 : (k : Int) < (m : Int) := by omega
          have hm := HM.out
          have hn9 := hn1.out
          obtain ⟨⟨kd, tx, nm, A⟩, ht⟩ : ∃ t, l0[k]? = some t := ⟨_, List.getElem?_eq_getElem (by omega)⟩
          have htL : (l0 ++ [(⟨3, noText, 0, s.size⟩ : Tok)])[k]? = some ⟨kd, tx, nm, A⟩ := by rw [List.getElem?_append_left (by omega)]; exact ht
          obtain ⟨⟨kd2, tx2, nm2, B⟩, hu, hAB⟩ : ∃ u : Tok, (l0 ++ [(⟨3, noText, 0, s.size⟩ : Tok)])[k + 1]? = some u ∧ A < u.at_ := by
            by_cases q : k + 1 < l0.length
            · refine ⟨l0[k + 1], by rw [List.getElem?_append_left q]; exact List.getElem?_eq_getElem q, HF.out.up k _ _ ht (List.getElem?_eq_getElem q)⟩
            · have q2 : k + 1 = l0.length := by omega
              exact ⟨⟨3, noText, 0, s.size⟩, by rw [q2]; simp, (HF.out.each k _ ht).lt⟩
          obtain ⟨f1, f2, f3⟩ := HF.out.each k _ ht
          have T4 := T3.out.up HB.out
          obtain ⟨g, rfl, hg, c0, c1, c2, c3⟩ := T4.atT k _ _ _ _ htL
          obtain ⟨g', e', hg', d0, d1, d2, d3⟩ := T4.atT (k + 1) _ _ _ _ hu
          obtain rfl : g' = g := by injection e' with e'; injection e' with e'; exact e'.symm
          have hge : decide (B ≤ A) = false := by
            have : A < B := hAB
            simpa using this
          have hn2 : (k : Int) < (n : Int) := by omega
          have hn3 : (k : Int) + 1 < (n : Int) := by omega
          have hw1 : IntKind.i64.wrap ((k : Int) + 1) = (k : Int) + 1 := by rw [IntKind.wrap_i64]; omega
          have hn5 : (0 : Int) ≤ (k : Int) + 1 := by omega
          have hw2 : ((k : Int) + 1).toNat = k + 1 := by omega
          simp only at f2 f3
          clear ht htL hu hAB f1 T4 e' hg' d0 d1 d2 hg hm hn9
          rcases f2 with rfl | rfl
          · obtain ⟨f4, f5⟩ := f3 rfl
            have f6 : (A : Int) + (tx.size : Int) ≤ (s.size : Int) := by omega
            have hw3 : IntKind.i64.wrap ((A : Int) + (tx.size : Int)) = (A : Int) + (tx.size : Int) := by rw [IntKind.wrap_i64]; omega
            have hw5 : (0 : Int) ≤ (A : Int) + (tx.size : Int) := by omega
            have hw6 : (A : Int) ≤ (A : Int) + (tx.size : Int) := by omega
            have hw4 : ((A : Int) + (tx.size : Int)).toNat = A + tx.size := by omega
            clear f3
            go_wp2
            go_quiet (fail)
            go_wp2
            go_roundw
            case rel => exact ⟨k + 1, by omega, by go_num, Lib.hid (bl_drw HB.out _)⟩
            case measure => have := hn1.out; simp [intOf]; omega
          · clear f3
            go_wp2
            go_quiet (fail)
            go_wp2
            go_roundw
            case rel => exact ⟨k + 1, by omega, by go_num, Lib.hid (bl_drw HB.out _)⟩
            case measure => have := hn1.out; simp [intOf]; omega
        · have h1 : ¬ (k : Int) < (m : Int) := by omega
          have hm := HM.out
          have hn9 := hn1.out
          obtain ⟨g, rfl, hg, c0, c1, c2, c3⟩ := (T3.out.up HB.out).atT m 3 0 noText s.size (by rw [← hm]; simp)
          have hpos : (0 : Int) < (n : Int) := by omega
          have hmn : (m : Int) < (n : Int) := by omega
          have hnt : noText.toList = [] := by decide +kernel
          have hpN : 0 < n := by omega
          clear hm hn9 hlt hk
          go_wp2
          go_ret
          exact ⟨rfl, below_tr HB3.out HB.out⟩
end Go.Proofs.Ytlgmmddomhhobaa
