/-
  What the reference's Scan answers.
-/
import Derived.Test.YtjojdpohifdghaaTk
namespace Go.Proofs.Ytjojdpohifdghaa
open Go.RowKit
set_option linter.unusedVariables false
theorem kb_of {s : ByteArray} {p : Nat} (h : p < s.size) : kb s p = kindv ((s[p]'h).toNat : Int) := by unfold kb; rw [get_of s p h]
theorem isd_kb (s t : ByteArray) (p k : Nat) (hp : p ≤ s.size) (ht : s.extract p s.size = t) : isd t k ↔ (p + k < s.size ∧ kb s (p + k) = 2) := by
  have hz : t.size = s.size - p := by rw [← ht]; simp
  constructor
  · intro h
    have hlt := isd_lt h
    refine ⟨by omega, ?_⟩
    unfold isd at h
    unfold kb
    rw [kindv_digit, ← get_subk s p k (by omega), ht]
    omega
  · rintro ⟨h1, h2⟩
    unfold kb at h2
    rw [kindv_digit, ← get_subk s p k h1, ht] at h2
    unfold isd
    omega
theorem run_ndf (s t : ByteArray) (p : Nat) (hp : p ≤ s.size) (ht : s.extract p s.size = t) : ∀ b k, t.size - k ≤ b → run 2 s (p + k) = p + ndf t b k
  | 0, k, h => by
    have hz : t.size = s.size - p := by rw [← ht]; simp
    rw [run_out (by omega)]
    have : ndf t 0 k = k := by
      by_cases q : isd t k
      · have := isd_lt q; omega
      · exact ndf_end t 0 k q
    rw [this]
  | b + 1, k, h => by
    by_cases q : isd t k
    · obtain ⟨h1, h2⟩ := (isd_kb s t p k hp ht).1 q
      rw [run_in h1 h2, ndf_step t b k q]
      have := run_ndf s t p hp ht b (k + 1) (by omega)
      rw [← this]; rfl
    · rw [run_out (fun h => q ((isd_kb s t p k hp ht).2 h)), ndf_end t (b + 1) k q]
/-- what a scan answers -/
def ScP (T : TypeId) (w : World) (r : Res) (e : Ending) (w' : World) : Prop := match r with
  | .ok l => ∃ v, e = .returned (.tuple #[v, .int .i64 0, .int .i64 0]) ∧ w'.ownsRow w.heap.size T 4 v l.length (encL l) ∧ Below w.heap.size w w'
  | .bad p er => e = .returned (.tuple #[.slice none 0 0, .int .i64 p, .int .i64 er]) ∧ Below w.heap.size w w'
theorem scp_bad {T : TypeId} {w w' : World} {r : Res} {p : Nat} {er : Int} (h : r = .bad p er) (hb : Below w.heap.size w w') : ScP T w r (.returned (.tuple #[.slice none 0 0, .int .i64 p, .int .i64 er])) w' := by
  subst h; exact ⟨rfl, hb⟩
theorem scp_ok {T : TypeId} {w w' : World} {r : Res} {l : List Tok} {v : Value} (h : r = .ok l) (hr : w'.ownsRow w.heap.size T 4 v l.length (encL l)) (hb : Below w.heap.size w w') : ScP T w r (.returned (.tuple #[v, .int .i64 0, .int .i64 0])) w' := by
  subst h; exact ⟨v, rfl, hr, hb⟩
theorem tok_new (W : World) (T : TypeId) (a b c d : Value) : ∀ j u, [a, b, c, d][j]? = some u → (W.alloc (.cells #[a, b, c, d] T)).cell? ((⟨W.heap.size, 0, none⟩ : Addr).add j) = some u :=
  World.news_of_block (cs := #[a, b, c, d]) (t := T) (fr := (0, 0)) (by show (W.heap.push (Obj.cells #[a, b, c, d] T))[W.heap.size]? = _; simp)
theorem ownsRow_up {B : Nat} {e : TypeId} {k : Nat} {v : Value} {n : Nat} {xs : List Value} {w w' : World} (h : w.ownsRow B e k v n xs) (hb : Below w.heap.size w w') : w'.ownsRow B e k v n xs := by
  refine ⟨h.1, ?_⟩
  rcases h.2 with hn | ⟨g, cap, cur, hv, hg, hh, r⟩
  · exact Or.inl hn
  · have hl : g < w.heap.size := by
      rcases Nat.lt_or_ge g w.heap.size with q | q
      · exact q
      · rw [Array.getElem?_eq_none q] at hh; cases hh
    exact Or.inr ⟨g, cap, cur, hv, hg, (hb.block _ hl).trans hh, r⟩
theorem below_app {w wr w2 : World} {T : TypeId} {k n : Nat} {v : Value} {xs : List Value} {o : Obj} (HB : Below w.heap.size w wr) (HO : wr.ownsRow w.heap.size T k v n xs) (hg : (wr.alloc o).grownBy w2 v.ownBlock) : Below w.heap.size w w2 :=
  ⟨hg.os.trans HB.os, hg.tape.trans HB.tape, hg.output.trans HB.output, Nat.le_trans HB.size (Nat.le_trans (by simp) hg.size), fun k hk => by
    have h1 := HB.size
    exact (hg.block k (by simp; omega) (fun e => by have := HO.lt k e.symm; omega)).trans ((heap_alloc_old wr o (show k < wr.heap.size by omega)).trans (HB.block k hk))⟩
theorem below_tr {w wr w2 : World} (h1 : Below w.heap.size w wr) (h2 : Below wr.heap.size wr w2) : Below w.heap.size w w2 :=
  ⟨h2.os.trans h1.os, h2.tape.trans h1.tape, h2.output.trans h1.output, Nat.le_trans h1.size h2.size, fun k hk => (h2.block k (Nat.lt_of_lt_of_le hk h1.size)).trans (h1.block k hk)⟩
theorem rdv_next (s : ByteArray) (p : Nat) (hp : p ≤ s.size) (h : (rdv (s.extract p s.size) p).2.2 = 0) : (rdv (s.extract p s.size) p).2.1 = (run 2 s p : Int) := by
  have hr := run_ndf s _ p hp rfl (s.extract p s.size).size 0 (by omega)
  unfold rdv at h ⊢
  split
  · rename_i q; rw [if_pos q] at h; simp at h
  · rename_i q; rw [if_neg q] at h
    split
    · rename_i q2; rw [if_pos q2] at h; simp at h
    · show (p : Int) + (nd (s.extract p s.size) : Int) = _
      have : run 2 s p = p + nd (s.extract p s.size) := hr
      omega
theorem own_tok {w : World} {B : Nat} {v : Value} {l : List Tok} {t : Tok} (h : w.ownsRow B 51 4 v (l.length + 1) (encL l ++ encT t)) : w.ownsRow B 51 4 v (l ++ [t]).length (encL (l ++ [t])) := by
  rw [encL_app, List.length_append]; exact h
theorem ScP_end {w w' : World} {s : ByteArray} {l : List Tok} {v : Value} {T : TypeId} (hE : SP s 0 [] = .ok (l ++ [⟨3, noText, 0, s.size⟩])) (hr : w'.ownsRow w.heap.size T 4 v (l.length + 1) (encL l ++ [.int .i64 3, .string ⟨#[]⟩, .int .i64 0, .int .i64 s.size])) (hb : Below w.heap.size w w') : ScP T w (SP s 0 []) (.returned (.tuple #[v, .int .i64 0, .int .i64 0])) w' :=
  scp_ok hE (by rw [encL_app, List.length_append]; exact hr) hb
set_option maxRecDepth 100000 in
set_option maxHeartbeats 4000000 in
theorem refscan_any (s : ByteArray) (hs : s.size ≤ 65536) (w : World) : Calls Try.prog 17 #[.string s] w (ScP 51 w (SP s 0 [])) := by
  obtain ⟨i0, hi, hz0, hz1, hz2⟩ := info_parts infoR
  have g0 : ¬ (65536 : Int) < (s.size : Int) := by omega
  go_enter Try.func17, Try.ntmps17
  go_wp2
  go_loopw [5, 6] (fun o i wr => ∃ (p : Nat) (l : List Tok), p ≤ s.size ∧ i = .int .i64 p ∧ Hid (SP s p l = SP s 0 []) ∧ Hid (wr.ownsRow w.heap.size 51 4 o l.length (encL l)) ∧ Hid (Below w.heap.size w wr) ∧ l.length ≤ p) (fun _ i _ => s.size - (intOf i).toNat)
  case atStart => exact ⟨0, [], by omega, rfl, rfl, World.ownsRow_nil _ _ _ _, Below.refl _ _, by simp⟩
  case round =>
    obtain ⟨p, l, hp, rfl, HS, HO, HB, hl⟩ := hrel
    by_cases hlt : p < s.size
    · have hk := kb_of hlt
      have hgo := SP_go (l := l) hlt
      rw [HS.out] at hgo
      have hc : (s[p]'hlt).toNat < 256 := (s[p]'hlt).toNat_lt
      have KK := Lib.hid (fun W => refkind_any (s[p]'hlt).toNat hc W)
      rw [← hk] at KK
      by_cases k1 : kb s p = 1
      · rw [if_pos k1] at hgo
        have HG := Lib.hid hgo.symm
        rw [k1] at KK
        clear hgo hk k1
        go_wp2_with fail
        refine (KK.out _).mono ?_; rintro e w1 ⟨rfl, rfl⟩
        go_wp2
        go_roundw
        case rel => exact ⟨p + 1, l, by omega, by go_num, HG, HO, HB, by omega⟩
        case measure => simp [intOf]; omega
      · rw [if_neg k1] at hgo
        by_cases k4 : kb s p = 4
        · rw [if_pos k4] at hgo
          have HG := Lib.hid hgo.symm
          have HN := Lib.hid (nl_rem hlt k4)
          rw [k4] at KK
          clear hgo hk k1 k4
          go_wp2_with fail
          refine (KK.out _).mono ?_; rintro e w1 ⟨rfl, rfl⟩
          go_wp2
          go_loopw [6] (fun i wi => ∃ q : Nat, p ≤ q ∧ q ≤ s.size ∧ i = .int .i64 q ∧ Hid (nl s q = nl s (p + 1)) ∧ wi = wr) (fun i _ => s.size - (intOf i).toNat)
          case atStart => exact ⟨p, Nat.le_refl _, hp, rfl, HN, by first | rfl | trivial⟩
          case round =>
            obtain ⟨q, hq0, hq, rfl, HQ, rfl⟩ := hrel
            by_cases hql : q < s.size
            · have hg := get_of s q hql
              by_cases hten : (s[q]'hql).toNat = 10
              · have hout : nl s q = q := nl_out (by rw [hg]; omega)
                have hq1 : q = nl s (p + 1) := by rw [← HQ.out, hout]
                have hq2 : p < q := by have := nl_ge s (p + 1); omega
                have HR := Lib.hid (show SP s q l = SP s 0 [] by rw [hq1]; exact HG.out)
                clear hout hq1 hg
                have ht2 : (((s[q]'hql).toNat : Int) == 10) = true := by simp; omega
                go_wp2
                go_roundw
                case rel => exact ⟨q, l, hq, by go_num, HR, HO, HB, by omega⟩
                case measure => simp [intOf]; omega
              · have hin : nl s q = nl s (q + 1) := nl_in hql (by rw [hg]; exact hten)
                have HR := Lib.hid (hin.symm.trans HQ.out)
                clear hin hg
                have ht2 : (((s[q]'hql).toNat : Int) == 10) = false := by simp; omega
                go_wp2
                go_roundw
                case rel => exact ⟨q + 1, by omega, by omega, by go_num, HR, by first | rfl | trivial⟩
                case measure => simp [intOf]; omega
            · have hout : nl s q = q := nl_out (by omega)
              have hq1 : q = nl s (p + 1) := by rw [← HQ.out, hout]
              have hq2 : p < q := by omega
              have HR := Lib.hid (show SP s q l = SP s 0 [] by rw [hq1]; exact HG.out)
              clear hout hq1
              go_wp2
              go_roundw
              case rel => exact ⟨q, l, hq, by go_num, HR, HO, HB, by omega⟩
              case measure => simp [intOf]; omega
        · rw [if_neg k4] at hgo
          by_cases k2 : kb s p = 2
          · rw [if_pos k2] at hgo
            have RD := Lib.hid (fun W => refread_in s _ p hp rfl (by omega) W)
            rw [k2] at KK
            by_cases he : (rdv (s.extract p s.size) p).2.2 = 0
            · rw [if_neg (by simp [he])] at hgo
              have hn : (rdv (s.extract p s.size) p).2.1 = (run 2 s (p + 1) : Int) := by rw [rdv_next s p hp he, run_in hlt k2]
              simp only [hn, he] at RD
              clear hn he
              obtain ⟨v, hv⟩ : ∃ v, v = (rdv (s.extract p s.size) p).1 := ⟨_, rfl⟩
              have g1 := run_ge 2 s (p + 1)
              have g2 := run_le 2 s (p + 1) (by omega)
              rw [← hv] at hgo RD
              clear hv
              generalize run 2 s (p + 1) = q at hgo RD g1 g2
              have HG := Lib.hid hgo
              clear hgo hk k1 k4 k2
              go_wp2_with fail
              refine (KK.out _).mono ?_; rintro e w1 ⟨rfl, rfl⟩
              go_wp2_with fail
              refine (RD.out _).mono ?_; rintro e w1 ⟨rfl, hb1⟩
              have HB1 := below_tr HB.out hb1
              have HO1 := ownsRow_up HO.out hb1
              have hbs : w.heap.size ≤ (w1.alloc (.cells #[.int .i64 2, .string ⟨#[]⟩, .int .i64 v, .int .i64 p] 51)).heap.size := by rw [World.size_alloc]; have := HB1.size; omega
              go_wp2_with (at_builtin; refine wpList_append_own _ rfl _ _ 48 rfl w.heap.size 51 i0 (.agg #[.int .i64 0, .string ⟨#[]⟩, .int .i64 0, .int .i64 0]) 4 40 Try.underlying48 hi hz0 hz1 hz2 rfl (by decide) _ l.length _ rfl (HO1.alloc _) ⟨w1.heap.size, 0, none⟩ 1 1 [.int .i64 2, .string ⟨#[]⟩, .int .i64 v, .int .i64 p] rfl rfl (tok_new _ _ _ _ _ _) (by simp [Value.oneCell']) (by unfold maxLen; omega) (by omega) hbs ?_)
              intro v2 w2 ho2 hg2 _
              have HB2 := Lib.hid (below_app HB1 HO1 hg2)
              have HO2 := Lib.hid (own_tok (t := ⟨2, noText, v, p⟩) ho2)
              clear ho2 hg2 HB1 HO1 hbs hb1
              by_cases hnl : q < s.size
              · have hk2 := kb_of hnl
                have hc2 : (s[q]'hnl).toNat < 256 := (s[q]'hnl).toNat_lt
                have KQ := Lib.hid (fun W => refkind_any (s[q]'hnl).toNat hc2 W)
                rw [← hk2] at KQ
                by_cases k3 : kb s q = 3
                · have HE := Lib.hid (HG.out.trans (if_pos ⟨hnl, k3⟩))
                  rw [k3] at KQ
                  clear hk2
                  go_wp2_with fail
                  refine (KQ.out _).mono ?_; rintro e w3 ⟨rfl, rfl⟩
                  go_wp2
                  go_ret3
                  exact scp_bad HE.out HB2.out
                · have HE := Lib.hid ((HG.out.trans (if_neg (fun h => k3 h.2))).symm)
                  have k3' : (kb s q == 3) = false := by simpa using k3
                  clear hk2 k3
                  generalize kb s q = kq at KQ k3'
                  go_wp2_with fail
                  refine (KQ.out _).mono ?_; rintro e w3 ⟨rfl, rfl⟩
                  go_wp2
                  go_roundw
                  case rel => exact ⟨q, _, g2, by go_num, HE, HO2, HB2, by simp; omega⟩
                  case measure => simp [intOf]; omega
              · have HE := Lib.hid ((HG.out.trans (if_neg (fun h => hnl h.1))).symm)
                go_wp2
                go_roundw
                case rel => exact ⟨q, _, g2, by go_num, HE, HO2, HB2, by simp; omega⟩
                case measure => simp [intOf]; omega
            · rw [if_pos he] at hgo
              have HE := Lib.hid hgo
              have he' : ((rdv (s.extract p s.size) p).2.2 == 0) = false := by simpa using he
              clear hgo hk k1 k4 k2 he
              generalize rdv (s.extract p s.size) p = r at RD HE he'
              obtain ⟨r1, r2, r3⟩ := r
              simp only at RD HE he'
              go_wp2_with fail
              refine (KK.out _).mono ?_; rintro e w1 ⟨rfl, rfl⟩
              go_wp2_with fail
              refine (RD.out _).mono ?_; rintro e w1 ⟨rfl, hb1⟩
              go_wp2
              go_ret3
              exact scp_bad HE.out (below_tr HB.out hb1)
          · rw [if_neg k2] at hgo
            by_cases k3 : kb s p = 3
            · rw [if_pos k3] at hgo
              have HG := Lib.hid hgo
              have HN := Lib.hid (run_in hlt k3)
              have g0 := run_ge 3 s (p + 1)
              rw [k3] at KK
              clear hgo hk k1 k4 k2 k3
              go_wp2_with fail
              refine (KK.out _).mono ?_; rintro e w1 ⟨rfl, rfl⟩
              go_wp2
              go_loopw [10] (fun i wi => ∃ q : Nat, p ≤ q ∧ q ≤ s.size ∧ i = .int .i64 q ∧ Hid (run 3 s q = run 3 s (p + 1)) ∧ wi = wr) (fun i _ => s.size - (intOf i).toNat)
              case atStart => exact ⟨p, Nat.le_refl _, hp, rfl, HN, by first | rfl | trivial⟩
              case round =>
                obtain ⟨q, hq0, hq, rfl, HQ, rfl⟩ := hrel
                by_cases hql : q < s.size
                · have hkq := kb_of hql
                  have hcq : (s[q]'hql).toNat < 256 := (s[q]'hql).toNat_lt
                  have KR := Lib.hid (fun W => refkind_any (s[q]'hql).toNat hcq W)
                  rw [← hkq] at KR
                  by_cases kq : kb s q = 3
                  · have HR := Lib.hid ((run_in hql kq).symm.trans HQ.out)
                    rw [kq] at KR
                    clear hkq kq
                    go_wp2_with fail
                    refine (KR.out _).mono ?_; rintro e w3 ⟨rfl, rfl⟩
                    go_wp2
                    go_roundw
                    case rel => exact ⟨q + 1, by omega, by omega, by go_num, HR, by first | rfl | trivial⟩
                    case measure => simp [intOf]; omega
                  · have hE : run 3 s (p + 1) = q := by rw [← HQ.out]; exact run_out (fun h => kq h.2)
                    have HG2 := HG.out
                    rw [hE] at HG2 g0
                    have kq' : (kb s q == 3) = false := by simpa using kq
                    have HX := Lib.hid (rfl : kb s q = kb s q)
                    generalize kb s q = kz at KR kq'
                    clear hE hkq kq HX
                    have HGh := Lib.hid HG2
                    clear HG2
                    go_wp2_with fail
                    refine (KR.out _).mono ?_; rintro e w3 ⟨rfl, rfl⟩
                    have HG2 := HGh.out
                    by_cases h16 : 16 < q - p
                    · have HE := Lib.hid (HG2.trans (if_pos h16))
                      clear HG2
                      have h16' : (16 : Int) < (q : Int) - (p : Int) := by omega
                      go_wp2
                      go_ret3
                      exact scp_bad HE.out HB.out
                    · rw [if_neg h16] at HG2
                      have HG3 := Lib.hid HG2
                      have h16' : ¬ (16 : Int) < (q : Int) - (p : Int) := by omega
                      have HO1 := HO.out
                      have hbs : w.heap.size ≤ (wr.alloc (.cells #[.int .i64 1, .string (s.extract p q), .int .i64 0, .int .i64 p] 51)).heap.size := by rw [World.size_alloc]; have := HB.out.size; omega
                      clear HG2
                      go_wp2_with (at_builtin; refine wpList_append_own _ rfl _ _ 48 rfl w.heap.size 51 i0 (.agg #[.int .i64 0, .string ⟨#[]⟩, .int .i64 0, .int .i64 0]) 4 40 Try.underlying48 hi hz0 hz1 hz2 rfl (by decide) _ l.length _ rfl (HO1.alloc _) ⟨wr.heap.size, 0, none⟩ 1 1 [.int .i64 1, .string (s.extract p q), .int .i64 0, .int .i64 p] rfl rfl (tok_new _ _ _ _ _ _) (by simp [Value.oneCell']) (by unfold maxLen; omega) (by omega) hbs ?_)
                      intro v2 w2 ho2 hg2 _
                      have HB2 := Lib.hid (below_app HB.out HO1 hg2)
                      have HO2 := Lib.hid (own_tok (t := ⟨1, s.extract p q, 0, p⟩) ho2)
                      clear ho2 hg2 HO1 hbs
                      by_cases hnl : q < s.size
                      · have hk2 := kb_of hnl
                        have hc2 : (s[q]'hnl).toNat < 256 := (s[q]'hnl).toNat_lt
                        have KQ := Lib.hid (fun W => refkind_any (s[q]'hnl).toNat hc2 W)
                        rw [← hk2] at KQ
                        by_cases k3 : kb s q = 2
                        · have HE := Lib.hid (HG3.out.trans (if_pos ⟨hnl, k3⟩))
                          rw [k3] at KQ
                          clear hk2
                          go_wp2_with fail
                          refine (KQ.out _).mono ?_; rintro e w3 ⟨rfl, rfl⟩
                          go_wp2
                          go_ret3
                          exact scp_bad HE.out HB2.out
                        · have HE := Lib.hid ((HG3.out.trans (if_neg (fun h => k3 h.2))).symm)
                          have k3' : (kb s q == 2) = false := by simpa using k3
                          clear hk2 k3
                          generalize kb s q = kq at KQ k3'
                          go_wp2_with fail
                          refine (KQ.out _).mono ?_; rintro e w3 ⟨rfl, rfl⟩
                          go_wp2
                          go_roundw
                          case rel => exact ⟨q, _, hq, by go_num, HE, HO2, HB2, by simp; omega⟩
                          case measure => simp [intOf]; omega
                      · exact absurd hql hnl
                · have hE : run 3 s (p + 1) = q := by rw [← HQ.out]; exact run_out (fun h => hql h.1)
                  have HG2 := HG.out
                  rw [hE] at HG2 g0
                  clear hE
                  by_cases h16 : 16 < q - p
                  · have HE := Lib.hid (HG2.trans (if_pos h16))
                    clear HG2
                    have h16' : (16 : Int) < (q : Int) - (p : Int) := by omega
                    go_wp2
                    go_ret3
                    exact scp_bad HE.out HB.out
                  · rw [if_neg h16] at HG2
                    have HG3 := Lib.hid HG2
                    have h16' : ¬ (16 : Int) < (q : Int) - (p : Int) := by omega
                    have HO1 := HO.out
                    have hbs : w.heap.size ≤ (wr.alloc (.cells #[.int .i64 1, .string (s.extract p q), .int .i64 0, .int .i64 p] 51)).heap.size := by rw [World.size_alloc]; have := HB.out.size; omega
                    clear HG2
                    go_wp2_with (at_builtin; refine wpList_append_own _ rfl _ _ 48 rfl w.heap.size 51 i0 (.agg #[.int .i64 0, .string ⟨#[]⟩, .int .i64 0, .int .i64 0]) 4 40 Try.underlying48 hi hz0 hz1 hz2 rfl (by decide) _ l.length _ rfl (HO1.alloc _) ⟨wr.heap.size, 0, none⟩ 1 1 [.int .i64 1, .string (s.extract p q), .int .i64 0, .int .i64 p] rfl rfl (tok_new _ _ _ _ _ _) (by simp [Value.oneCell']) (by unfold maxLen; omega) (by omega) hbs ?_)
                    intro v2 w2 ho2 hg2 _
                    have HB2 := Lib.hid (below_app HB.out HO1 hg2)
                    have HO2 := Lib.hid (own_tok (t := ⟨1, s.extract p q, 0, p⟩) ho2)
                    clear ho2 hg2 HO1 hbs
                    by_cases hnl : q < s.size
                    · exact absurd hnl hql
                    · have HE := Lib.hid ((HG3.out.trans (if_neg (fun h => hnl h.1))).symm)
                      go_wp2
                      go_roundw
                      case rel => exact ⟨q, _, hq, by go_num, HE, HO2, HB2, by simp; omega⟩
                      case measure => simp [intOf]; omega
            · rw [if_neg k3] at hgo
              have HE := Lib.hid hgo
              have n1 : (kb s p == 1) = false := by simpa using k1
              have n2 : (kb s p == 2) = false := by simpa using k2
              have n3 : (kb s p == 3) = false := by simpa using k3
              have n4 : (kb s p == 4) = false := by simpa using k4
              clear hgo hk k1 k2 k3 k4
              generalize kb s p = kz at KK n1 n2 n3 n4
              go_wp2_with fail
              refine (KK.out _).mono ?_; rintro e w1 ⟨rfl, rfl⟩
              go_wp2
              go_ret3
              exact scp_bad HE.out HB.out
    · obtain rfl : p = s.size := by omega
      have HE := Lib.hid (HS.out.symm.trans (SP_end (Nat.le_refl _)))
      have hbs : w.heap.size ≤ (wr.alloc (.cells #[.int .i64 3, .string ⟨#[]⟩, .int .i64 0, .int .i64 s.size] 51)).heap.size := by rw [World.size_alloc]; have := HB.out.size; omega
      go_wp2_with (at_builtin; refine wpList_append_own _ rfl _ _ 48 rfl w.heap.size 51 i0 (.agg #[.int .i64 0, .string ⟨#[]⟩, .int .i64 0, .int .i64 0]) 4 40 Try.underlying48 hi hz0 hz1 hz2 rfl (by decide) _ l.length _ rfl (HO.out.alloc _) ⟨wr.heap.size, 0, none⟩ 1 1 [.int .i64 3, .string ⟨#[]⟩, .int .i64 0, .int .i64 s.size] rfl rfl (tok_new _ _ _ _ _ _) (by simp [Value.oneCell']) (by unfold maxLen; omega) (by omega) hbs ?_)
      intro v2 w2 ho2 hg2 _
      have HR := below_app HB.out HO.out hg2
      have HQ := Lib.hid (ScP_end HE.out ho2 HR)
      clear ho2 hg2 HR
      go_wp2
      go_ret3
      exact HQ.out
end Go.Proofs.Ytjojdpohifdghaa
