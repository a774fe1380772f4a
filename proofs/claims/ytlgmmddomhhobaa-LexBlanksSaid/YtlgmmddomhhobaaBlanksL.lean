/-
  The walk of the law LexBlanks.
-/
import Derived.Test.YtlgmmddomhhobaaBlkT
namespace Go.Proofs.Ytlgmmddomhhobaa
open Go.RowKit
set_option linter.unusedVariables false
/-- a list of bytes that came in -/
def Byt (W : World) (a : Option Addr) (n : Nat) : Prop := ∀ i, i < n → ∃ b o v, a = some ⟨b, o, none⟩ ∧ b < W.heap.size ∧ v < 256 ∧ W.cell? ⟨b, o + i, none⟩ = some (.int .u8 (v : Nat))
theorem Byt.up {w w' : World} {a : Option Addr} {n : Nat} (h : Byt w a n) (hb : Below w.heap.size w w') : Byt w' a n := fun i hi => by
  obtain ⟨b, o, v, h1, h2, h3, h4⟩ := h i hi
  exact ⟨b, o, v, h1, Nat.lt_of_lt_of_le h2 hb.size, h3, cell_up hb h2 h4⟩
/-- where the loop is -/
def St (l0 : List Tok) (k : Nat) (T : ByteArray) : Prop := (k ≤ l0.length ∧ ∃ M, Inv l0 k T M) ∨
  (k = l0.length + 1 ∧ ∃ M2, SP T 0 [] = .ok M2 ∧ M2.length = l0.length + 1 ∧ T.size ≤ 30 * l0.length + 12 ∧ ∀ (j : Nat) t z, (l0 ++ [(⟨3, noText, 0, z⟩ : Tok)])[j]? = some t → ∃ u, M2[j]? = some u ∧ alike u t)
theorem St.size {l0 : List Tok} {k : Nat} {T : ByteArray} (h : St l0 k T) : T.size ≤ 30 * l0.length + 12 := by
  rcases h with ⟨h1, M, h2⟩ | ⟨_, M, _, _, h2, _⟩
  · have := h2.size; omega
  · exact h2
theorem sepOf_size (b : Nat) : (sepOf b).size ≤ 12 := (sepOf_ok b).2.1
def seps : Array Value := #[.string ⟨#[32]⟩, .string ⟨#[10, 9]⟩, .string ⟨#[32, 35, 32, 114, 101, 109, 97, 114, 107, 32, 49, 10]⟩, .string ⟨#[35, 255, 10, 32]⟩, .string ⟨#[13, 10]⟩]
theorem sep_cell (W : World) (r : Nat) (hr : r < 5) : (W.alloc (.cells #[.string ⟨#[32]⟩, .string ⟨#[10, 9]⟩, .string ⟨#[32, 35, 32, 114, 101, 109, 97, 114, 107, 32, 49, 10]⟩, .string ⟨#[35, 255, 10, 32]⟩, .string ⟨#[13, 10]⟩] 9)).cell? ⟨W.heap.size, r, none⟩ = some (.string (sepOf r)) := by
  have e := heap_alloc_new W (.cells #[.string ⟨#[32]⟩, .string ⟨#[10, 9]⟩, .string ⟨#[32, 35, 32, 114, 101, 109, 97, 114, 107, 32, 49, 10]⟩, .string ⟨#[35, 255, 10, 32]⟩, .string ⟨#[13, 10]⟩] 9)
  rcases (show r = 0 ∨ r = 1 ∨ r = 2 ∨ r = 3 ∨ r = 4 by omega) with rfl | rfl | rfl | rfl | rfl <;> simp only [World.cell?, e] <;> rfl
theorem scan_tf (s : ByteArray) (hs : s.size ≤ 65536) : (∃ p er : Int, er ≠ 0 ∧ ∀ w, Calls Try.prog 8 #[.string s] w (Scd [] p er w)) ∨ ∃ l0, TFs s l0 s.size ∧ l0.length ≤ s.size ∧ ∀ w, Calls Try.prog 8 #[.string s] w (Scd (l0 ++ [⟨3, noText, 0, s.size⟩]) 0 0 w) := by
  rcases scan_ends s hs with h | ⟨l0, h1, h2, h3, h4⟩
  · exact .inl h
  · obtain ⟨l1, e, h5⟩ := sp_tf s _ 0 [] _ (by omega) (Nat.le_refl _) (fun i t e => by simp at e) h1
    obtain ⟨e1, -⟩ := List.append_inj' e rfl
    subst e1
    exact .inr ⟨l0, h5, h3, h4⟩
theorem scan_ok (s : ByteArray) (M : List Tok) (hs : s.size ≤ 65536) (h : SP s 0 [] = .ok M) (w : World) : Calls Try.prog 8 #[.string s] w (Scd M 0 0 w) := by
  refine (scan_any s hs w).mono ?_
  intro e w' q
  rw [h] at q
  obtain ⟨v, h1, h2, h3⟩ := q
  exact ⟨v, h1, TL_of h2, h3⟩
set_option maxRecDepth 100000 in
set_option maxHeartbeats 4000000 in
theorem lexBlanks_walk (s : ByteArray) (a : Option Addr) (nb cb : Nat) (w : World) (hs0 : s.size ≤ maxLen) (hA : Byt w a nb) : Calls Try.prog 4 #[.string s, .slice a nb cb] w fun e w' => e = .returned (.bool true) ∧ Below w.heap.size w w' := by
  by_cases hb : 500 < s.size
  · have g0 : (500 : Int) < (s.size : Int) := by omega
    go_enter Try.func4, Try.ntmps4
    go_wp2_with fail
    refine (lexes_any _).mono ?_
    rintro e w1 ⟨rfl, hb⟩
    go_wp2
    go_ret
    exact ⟨rfl, hb⟩
  · have g0 : ¬ (500 : Int) < (s.size : Int) := by omega
    rcases scan_tf s (by omega) with ⟨p, er, he, H8⟩ | ⟨l0, hF, hl, H8⟩
    · have he' : ((er : Int) != 0) = true := by simpa using he
      have H8 := Lib.hid H8
      clear hb he
      go_enter Try.func4, Try.ntmps4
      go_wp2_with fail
      refine (H8.out _).mono ?_
      rintro e w1 ⟨v1, rfl, t1, hb1⟩
      obtain ⟨a1, k1, rfl⟩ := t1.len
      go_wp2_with fail
      refine (lexes_any _).mono ?_
      rintro e w3 ⟨rfl, hb3⟩
      have hb3 := below_tr hb1 hb3
      clear hb1 t1
      go_wp2_with fail
      refine (lexes_any _).mono ?_
      rintro e w4 ⟨rfl, hb4⟩
      have hb4 := below_tr hb3 hb4
      clear hb3
      go_wp2
      go_ret
      exact ⟨rfl, hb4⟩
    · have H8 := Lib.hid H8
      have HF := Lib.hid hF
      have HA := Lib.hid hA
      obtain ⟨n, hn⟩ : ∃ n, (l0 ++ [(⟨3, noText, 0, s.size⟩ : Tok)]).length = n := ⟨_, rfl⟩
      obtain ⟨m, hm⟩ : ∃ m, l0.length = m := ⟨_, rfl⟩
      have hn1 := Lib.hid (show n = m + 1 by rw [← hn, ← hm]; simp)
      have hsub : (n : Int) - 1 = (m : Int) := by have := hn1.out; omega
      have hb3 : n ≤ 501 := by have := hn1.out; omega
      have hb4 : m ≤ 500 := by omega
      have hb5 : s.size ≤ 500 := by omega
      have HM := Lib.hid hm
      have HN := Lib.hid hn
      clear hm hb hF hA hl
      go_enter Try.func4, Try.ntmps4
      go_wp2_with fail
      refine (H8.out _).mono ?_
      rintro e w1 ⟨v1, rfl, t1, hb1⟩
      obtain ⟨a1, k1, rfl⟩ := t1.len
      rw [hn] at t1
      rw [hn]
      clear hn
      have T1 := Lib.hid t1
      clear t1
      go_wp2_with fail
      refine (lexes_any _).mono ?_
      rintro e w3 ⟨rfl, hb3⟩
      have T3 := Lib.hid (T1.out.up hb3)
      have HB3 := Lib.hid (below_tr hb1 hb3)
      have HA3 := Lib.hid (HA.out.up HB3.out)
      clear hb1 T1 hb3 HA H8
      go_wp2
      go_loopw [8, 9] (fun tv iv wr => ∃ k T, k ≤ n ∧ tv = .string T ∧ iv = .int .i64 (k : Nat) ∧ Hid (St l0 k T) ∧ Hid (Below w3.heap.size w3 wr)) (fun _ iv _ => n - (intOf iv).toNat)
      case atStart => exact ⟨0, _, by omega, rfl, rfl, Lib.hid (.inl ⟨by omega, [], Inv.zero l0⟩), Lib.hid (Below.refl _ _)⟩
      case round =>
        obtain ⟨k, T, hk, rfl, rfl, HS, HB⟩ := hrel
        by_cases hlt : k < n
        · have h1 : (k : Int) < (n : Int) := by omega
          have hkm : k ≤ m := by have := hn1.out; omega
          obtain ⟨M, HI⟩ : ∃ M, Inv l0 k T M := by
            rcases HS.out with ⟨_, h⟩ | ⟨h, _⟩
            · exact h
            · have := HM.out; omega
          have hTs := HI.size
          have HI := Lib.hid HI
          clear HS
          by_cases hkn : k < nb
          · obtain ⟨b, o, v, rfl, hbw, hv, hc0⟩ := (HA3.out.up HB.out) k hkn
            have h2 : (k : Int) < (nb : Int) := by omega
            obtain ⟨r, hr⟩ : ∃ r : Nat, v % 5 = r := ⟨_, rfl⟩
            have hr5 : r < 5 := by omega
            have hmod : ((v : Int)).tmod 5 = (r : Int) := by rw [Int.tmod_eq_emod_of_nonneg (by omega)]; omega
            have hr5i : (r : Int) < 5 := by omega
            clear hr hkn
            go_upto_region 13 with fail
            have hsc := sep_cell wr r hr5
            have hss := sepOf_size r
            have HX := Lib.hid (sepOf_ok r)
            obtain ⟨x, hx⟩ : ∃ x, sepOf r = x := ⟨_, rfl⟩
            rw [hx] at hsc hss HX
            have hcat : ¬ 9223372036854775807 < T.size + x.size := by omega
            go_upto_region 14 with fail
            have HB2 := Lib.hid (below_tr HB.out (show Below wr.heap.size wr (wr.alloc (.cells #[.string ⟨#[32]⟩, .string ⟨#[10, 9]⟩, .string ⟨#[32, 35, 32, 114, 101, 109, 97, 114, 107, 32, 49, 10]⟩, .string ⟨#[35, 255, 10, 32]⟩, .string ⟨#[13, 10]⟩] 9)) from ⟨rfl, rfl, rfl, by simp, fun j hj => heap_alloc_old _ _ hj⟩))
            clear hcat hsc HB hc0
            generalize wr.alloc (.cells #[.string ⟨#[32]⟩, .string ⟨#[10, 9]⟩, .string ⟨#[32, 35, 32, 114, 101, 109, 97, 114, 107, 32, 49, 10]⟩, .string ⟨#[35, 255, 10, 32]⟩, .string ⟨#[13, 10]⟩] 9) = W2 at *
            have hYs : (T ++ x).size = T.size + x.size := ByteArray.size_append
            have hm := HM.out
            have hn9 := hn1.out
            by_cases hkm2 : k < m
            · have h3 : (k : Int) < (m : Int) := by omega
              obtain ⟨⟨kd, tx, nm, A⟩, ht⟩ : ∃ t, l0[k]? = some t := ⟨_, List.getElem?_eq_getElem (by omega)⟩
              obtain ⟨n0, hT1, hT2, hT3⟩ := HF.out k _ ht
              have htL : (l0 ++ [(⟨3, noText, 0, s.size⟩ : Tok)])[k]? = some ⟨kd, tx, nm, A⟩ := by rw [List.getElem?_append_left (by omega)]; exact ht
              obtain ⟨⟨kd2, tx2, nm2, B⟩, hu, hAB, hBs⟩ : ∃ u : Tok, (l0 ++ [(⟨3, noText, 0, s.size⟩ : Tok)])[k + 1]? = some u ∧ A + n0 ≤ u.at_ ∧ u.at_ ≤ s.size := by
                by_cases q : k + 1 < l0.length
                · have e := List.getElem?_eq_getElem q
                  obtain ⟨n7, h7, h8, -⟩ := HF.out (k + 1) _ e
                  exact ⟨l0[k + 1], by rw [List.getElem?_append_left q]; exact e, hT3 _ e, by omega⟩
                · have q2 : k + 1 = l0.length := by omega
                  exact ⟨⟨3, noText, 0, s.size⟩, by rw [q2]; simp, hT2, Nat.le_refl _⟩
              have T4 := T3.out.up HB2.out
              obtain ⟨g, rfl, hg, c0, c1, c2, c3⟩ := T4.atT k _ _ _ _ htL
              obtain ⟨g', e', hg', d0, d1, d2, d3⟩ := T4.atT (k + 1) _ _ _ _ hu
              obtain rfl : g' = g := by injection e' with e'; injection e' with e'; exact e'.symm
              have hAB : A + n0 ≤ B := hAB
              have hBs : B ≤ s.size := hBs
              have CT := Lib.hid (fun W => cut_tok hT1 hAB hBs hb5 W)
              have hI2 := Lib.hid (HI.out.step HX.out ht hT1)
              have hz : (s.extract A (A + n0)).size = n0 := by have := hT1.hi; rw [ByteArray.size_extract]; show min (A + n0) s.size - A = n0; omega
              have hn18 := hT1.n18
              have CT : Hid (∀ W, Calls Try.prog 12 #[.string (s.extract A B)] W fun e w' => e = .returned (.string (s.extract A (A + n0))) ∧ W = w') := CT
              have hI2 : Hid (Inv l0 (k + 1) (T ++ x ++ s.extract A (A + n0)) _) := hI2
              generalize s.extract A (A + n0) = y at *
              generalize T ++ x = Y at *
              have hi1 : (k : Int) + 1 < (n : Int) := by omega
              have hi2 : (A : Int) ≤ (B : Int) := by omega
              have hi3 : (B : Int) ≤ (s.size : Int) := by omega
              have hnext := Lib.hid (show St l0 (k + 1) (Y ++ y) from .inl ⟨by omega, _, hI2.out⟩)
              clear ht htL hu T4 e' hg' c0 c1 c2 d0 d1 d2 hT1 hT2 hT3 hI2 HI HX hm hn9 hg
              go_upto_region 16 with fail
              have hcat : ¬ 9223372036854775807 < Y.size + y.size := by omega
              go_wp2_with fail
              refine (CT.out _).mono ?_
              rintro e w9 ⟨rfl, rfl⟩
              go_upto_region 9 with fail
              clear hcat
              go_wp2
              go_roundw
              case rel => exact ⟨k + 1, _, by omega, rfl, by go_num, hnext, HB2⟩
              case measure => simp [intOf]; omega
            · have h3 : ¬ (k : Int) < (m : Int) := by omega
              have hI3 := HI.out
              obtain rfl : k = m := by omega
              rw [← hm] at hI3
              have hl := hI3.last HX.out
              have hnext := Lib.hid (show St l0 (k + 1) (T ++ x) from .inr ⟨by omega, hl⟩)
              generalize T ++ x = Y at *
              clear HI HX hI3 hl hm hn9
              go_wp2
              go_roundw
              case rel => exact ⟨k + 1, _, by have := hn1.out; omega, rfl, by go_num, hnext, HB2⟩
              case measure => simp [intOf]; omega
          · have h2 : ¬ (k : Int) < (nb : Int) := by omega
            clear hkn
            go_upto_region 13 with fail
            have hsc := sep_cell wr 0 (by omega)
            have hss := sepOf_size 0
            have HX := Lib.hid (sepOf_ok 0)
            obtain ⟨x, hx⟩ : ∃ x, sepOf 0 = x := ⟨_, rfl⟩
            rw [hx] at hsc hss HX
            have hcat : ¬ 9223372036854775807 < T.size + x.size := by omega
            go_upto_region 14 with fail
            have HB2 := Lib.hid (below_tr HB.out (show Below wr.heap.size wr (wr.alloc (.cells #[.string ⟨#[32]⟩, .string ⟨#[10, 9]⟩, .string ⟨#[32, 35, 32, 114, 101, 109, 97, 114, 107, 32, 49, 10]⟩, .string ⟨#[35, 255, 10, 32]⟩, .string ⟨#[13, 10]⟩] 9)) from ⟨rfl, rfl, rfl, by simp, fun j hj => heap_alloc_old _ _ hj⟩))
            clear hcat hsc HB 
            generalize wr.alloc (.cells #[.string ⟨#[32]⟩, .string ⟨#[10, 9]⟩, .string ⟨#[32, 35, 32, 114, 101, 109, 97, 114, 107, 32, 49, 10]⟩, .string ⟨#[35, 255, 10, 32]⟩, .string ⟨#[13, 10]⟩] 9) = W2 at *
            have hYs : (T ++ x).size = T.size + x.size := ByteArray.size_append
            have hm := HM.out
            have hn9 := hn1.out
            by_cases hkm2 : k < m
            · have h3 : (k : Int) < (m : Int) := by omega
              obtain ⟨⟨kd, tx, nm, A⟩, ht⟩ : ∃ t, l0[k]? = some t := ⟨_, List.getElem?_eq_getElem (by omega)⟩
              obtain ⟨n0, hT1, hT2, hT3⟩ := HF.out k _ ht
              have htL : (l0 ++ [(⟨3, noText, 0, s.size⟩ : Tok)])[k]? = some ⟨kd, tx, nm, A⟩ := by rw [List.getElem?_append_left (by omega)]; exact ht
              obtain ⟨⟨kd2, tx2, nm2, B⟩, hu, hAB, hBs⟩ : ∃ u : Tok, (l0 ++ [(⟨3, noText, 0, s.size⟩ : Tok)])[k + 1]? = some u ∧ A + n0 ≤ u.at_ ∧ u.at_ ≤ s.size := by
                by_cases q : k + 1 < l0.length
                · have e := List.getElem?_eq_getElem q
                  obtain ⟨n7, h7, h8, -⟩ := HF.out (k + 1) _ e
                  exact ⟨l0[k + 1], by rw [List.getElem?_append_left q]; exact e, hT3 _ e, by omega⟩
                · have q2 : k + 1 = l0.length := by omega
                  exact ⟨⟨3, noText, 0, s.size⟩, by rw [q2]; simp, hT2, Nat.le_refl _⟩
              have T4 := T3.out.up HB2.out
              obtain ⟨g, rfl, hg, c0, c1, c2, c3⟩ := T4.atT k _ _ _ _ htL
              obtain ⟨g', e', hg', d0, d1, d2, d3⟩ := T4.atT (k + 1) _ _ _ _ hu
              obtain rfl : g' = g := by injection e' with e'; injection e' with e'; exact e'.symm
              have hAB : A + n0 ≤ B := hAB
              have hBs : B ≤ s.size := hBs
              have CT := Lib.hid (fun W => cut_tok hT1 hAB hBs hb5 W)
              have hI2 := Lib.hid (HI.out.step HX.out ht hT1)
              have hz : (s.extract A (A + n0)).size = n0 := by have := hT1.hi; rw [ByteArray.size_extract]; show min (A + n0) s.size - A = n0; omega
              have hn18 := hT1.n18
              have CT : Hid (∀ W, Calls Try.prog 12 #[.string (s.extract A B)] W fun e w' => e = .returned (.string (s.extract A (A + n0))) ∧ W = w') := CT
              have hI2 : Hid (Inv l0 (k + 1) (T ++ x ++ s.extract A (A + n0)) _) := hI2
              generalize s.extract A (A + n0) = y at *
              generalize T ++ x = Y at *
              have hi1 : (k : Int) + 1 < (n : Int) := by omega
              have hi2 : (A : Int) ≤ (B : Int) := by omega
              have hi3 : (B : Int) ≤ (s.size : Int) := by omega
              have hnext := Lib.hid (show St l0 (k + 1) (Y ++ y) from .inl ⟨by omega, _, hI2.out⟩)
              clear ht htL hu T4 e' hg' c0 c1 c2 d0 d1 d2 hT1 hT2 hT3 hI2 HI HX hm hn9 hg
              go_upto_region 16 with fail
              have hcat : ¬ 9223372036854775807 < Y.size + y.size := by omega
              go_wp2_with fail
              refine (CT.out _).mono ?_
              rintro e w9 ⟨rfl, rfl⟩
              go_upto_region 9 with fail
              clear hcat
              go_wp2
              go_roundw
              case rel => exact ⟨k + 1, _, by omega, rfl, by go_num, hnext, HB2⟩
              case measure => simp [intOf]; omega
            · have h3 : ¬ (k : Int) < (m : Int) := by omega
              have hI3 := HI.out
              obtain rfl : k = m := by omega
              rw [← hm] at hI3
              have hl := hI3.last HX.out
              have hnext := Lib.hid (show St l0 (k + 1) (T ++ x) from .inr ⟨by omega, hl⟩)
              generalize T ++ x = Y at *
              clear HI HX hI3 hl hm hn9
              go_wp2
              go_roundw
              case rel => exact ⟨k + 1, _, by have := hn1.out; omega, rfl, by go_num, hnext, HB2⟩
              case measure => simp [intOf]; omega
        · have h1 : ¬ (k : Int) < (n : Int) := by omega
          obtain rfl : k = n := by omega
          have hTs := HS.out.size
          have hm := HM.out
          obtain ⟨M2, hM, hMl, -, hMa⟩ : ∃ M2, SP T 0 [] = .ok M2 ∧ M2.length = l0.length + 1 ∧ T.size ≤ 30 * l0.length + 12 ∧ ∀ (j : Nat) t z, (l0 ++ [(⟨3, noText, 0, z⟩ : Tok)])[j]? = some t → ∃ u, M2[j]? = some u ∧ alike u t := by
            rcases HS.out with ⟨h, _⟩ | ⟨_, h⟩
            · have := hn1.out; omega
            · exact h
          have hT6 : T.size ≤ 65536 := by omega
          have HSC := Lib.hid (fun W => scan_ok T M2 hT6 hM W)
          have hMn : M2.length = k := by have := hn1.out; omega
          have HMA := Lib.hid hMa
          clear hM hMl hMa HS hTs hT6 hm hk hlt
          go_wp2_with fail
          refine (HSC.out _).mono ?_
          rintro e w6 ⟨v6, rfl, t6, hb6⟩
          obtain ⟨a6, k6, rfl⟩ := t6.len
          rw [hMn] at t6
          rw [hMn]
          have T6 := Lib.hid t6
          have HMN := Lib.hid hMn
          have HB6 := Lib.hid (below_tr HB.out hb6)
          clear t6 hb6 HB HSC hMn
          go_wp2
          go_loopw [15] (fun iv wr => ∃ j, j ≤ k ∧ iv = .int .i64 (j : Nat) ∧ Hid (Below w6.heap.size w6 wr)) (fun iv _ => k - (intOf iv).toNat)
          case atStart => exact ⟨0, by omega, rfl, Lib.hid (Below.refl _ _)⟩
          case round =>
            obtain ⟨j, hj, rfl, HB7⟩ := hrel
            by_cases hlt : j < k
            · have h3 : (j : Int) < (k : Int) := by omega
              have hL := HN.out
              obtain ⟨⟨kd, tx, nm, A⟩, htL⟩ : ∃ t, (l0 ++ [(⟨3, noText, 0, s.size⟩ : Tok)])[j]? = some t := ⟨_, List.getElem?_eq_getElem (by omega)⟩
              obtain ⟨⟨kd2, tx2, nm2, A2⟩, hu, a1', a2', a3'⟩ := HMA.out j _ _ htL
              have a1' : kd2 = kd := a1'
              have a2' : tx2 = tx := a2'
              have a3' : nm2 = nm := a3'
              subst a1' a2' a3'
              obtain ⟨g, rfl, hg, c0, c1, c2, c3⟩ := (T3.out.up (below_tr HB6.out HB7.out)).atT j _ _ _ _ htL
              obtain ⟨g6, rfl, hg6, d0, d1, d2, d3⟩ := (T6.out.up HB7.out).atT j _ _ _ _ hu
              clear htL hu hL
              go_wp2
              go_quiet (fail)
              go_wp2
              go_roundw
              case rel => exact ⟨j + 1, by omega, by go_num, Lib.hid (bl_drw HB7.out _)⟩
              case measure => simp [intOf]; omega
            · have h3 : ¬ (j : Int) < (k : Int) := by omega
              go_wp2
              go_ret
              exact ⟨rfl, below_tr HB3.out (below_tr HB6.out HB7.out)⟩
end Go.Proofs.Ytlgmmddomhhobaa
