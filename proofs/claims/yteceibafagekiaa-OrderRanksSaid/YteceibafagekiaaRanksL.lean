/-
  The walk of kurganlaw09.OrderRanks.
-/
import Derived.Test.YteceibafagekiaaNthB
import Derived.Test.YteceibafagekiaaRNth
import Derived.Test.YteceibafagekiaaNextsL
namespace Go.Proofs.Yteceibafagekiaa
open Go.RowKit
set_option linter.unusedVariables false

theorem cut25 (l : List Int) (a : Option Addr) (n c : Nat) (w : World) (h : Arg 25 w a n c l) :
    Calls Try.prog 8 #[.slice a n c, .int .i64 25] w fun e w' => ∃ g cap, e = .returned (.slice (some ⟨g, 0, none⟩) l.length cap) ∧ Own w.heap.size g l.length cap l w w' := cut_any 25 (by decide) l a n c w h
theorem RN.ints {n gA go cap : Nat} {D : Nat → Nat} {w W : World} (h : RN n D gA w n go cap W) : Ints W (some ⟨go, 0, none⟩) (ord n D) := by
  have ho := h.own
  have e : (ord n D).take n = ord n D := List.take_of_length_le (by rw [ord_len]; omega)
  rw [e] at ho
  have hO : Own (gA + 1) go n cap (ord n D) W W := ⟨ord_len n D, h.gole, ho, Below.refl _ _⟩
  exact hO.ints
/-- what Rank answers, told twice -/
theorem rank_two (p : List Int) (hn : p.length ≤ 25) (a : Option Addr) (c : Nat) (w : World) (hI : Ints w a p) :
    Calls Try.prog 20 #[.slice a p.length c] w fun e w' => e = .returned (.tuple #[.int .i64 (rankR p).1, .int .i64 (rankR p).2]) ∧ Below w.heap.size w w' := by
  by_cases h1 : isP p
  · by_cases h2 : 20 < p.length
    · rw [rank_big h1 h2]; exact refRank_big p h1 h2 (by omega) a c w hI
    · rw [rank_ok h1 h2]; exact refRank_any p h1 (by omega) a c w hI
  · rw [rank_bad h1]; exact refRank_bad p h1 (by omega) a c w hI
/-- what Nth answers: the error and, where there is none, the list -/
def nErr (n r : Int) : Int := if n < 0 ∨ 20 < n then 1 else if r < 0 ∨ (fN n.toNat : Int) ≤ r then 11 else 0
def nList (n r : Int) : List Int := if nErr n r = 0 then ord n.toNat (dg n.toNat r.toNat) else []
def NthP (n r : Int) (w : World) (e : Ending) (w' : World) : Prop := ∃ a c, e = .returned (.tuple #[.slice a (nList n r).length c, .int .i64 (nErr n r)]) ∧ (nList n r).length ≤ c ∧ c ≤ 9223372036854775807 ∧ Ints w' a (nList n r) ∧ Below w.heap.size w w'
theorem nth_nil {n r : Int} {w w' : World} {e : Ending} {k : Int} (hk : nErr n r = k) (h0 : k ≠ 0) (h : e = .returned (.tuple #[.slice none 0 0, .int .i64 k]) ∧ Below w.heap.size w w') : NthP n r w e w' := by
  have hl : nList n r = [] := by unfold nList; rw [if_neg (by omega)]
  refine ⟨none, 0, ?_, ?_, by omega, ?_, h.2⟩
  · rw [hl, hk]; exact h.1
  · rw [hl]; simp
  · rw [hl]; exact fun j hj => absurd hj (by simp)
theorem nth_any (n r : Int) (hr : r ≤ 9223372036854775807) (w : World) : Calls Try.prog 21 #[.int .i64 n, .int .i64 r] w (NthP n r w) := by
  by_cases h1 : n < 0 ∨ 20 < n
  · exact (nth_arg n r h1 w).mono fun e w' h => nth_nil (k := 1) (by unfold nErr; rw [if_pos h1]) (by decide) h
  · by_cases h2 : r < 0
    · exact (nth_neg n r (by omega) (by omega) h2 w).mono fun e w' h => nth_nil (k := 11) (by unfold nErr; rw [if_neg h1, if_pos (Or.inl h2)]) (by decide) h
    · obtain ⟨N, rfl⟩ : ∃ N : Nat, n = N := ⟨n.toNat, by omega⟩
      obtain ⟨R, rfl⟩ : ∃ R : Nat, r = R := ⟨r.toNat, by omega⟩
      by_cases h3 : fN N ≤ R
      · exact (nth_big N R (by omega) (by omega) h3 w).mono fun e w' h => nth_nil (k := 11) (by unfold nErr; rw [if_neg h1, if_pos (Or.inr (by simpa using h3))]) (by decide) h
      · have hE : nErr N R = 0 := by unfold nErr; rw [if_neg h1, if_neg (by simp only [Int.toNat_natCast]; omega)]
        have hL : nList N R = ord N (dg N R) := by unfold nList; rw [if_pos hE]; simp
        refine (nth_ok N R (by omega) (by omega) (by omega) w).mono fun e w' h => ?_
        obtain ⟨g, he, ho⟩ := h
        refine ⟨some ⟨g, 0, none⟩, N, ?_, ?_, ?_, ?_, ho.2.2.2⟩
        · rw [hL, hE, ord_len]; exact he
        · rw [hL, ord_len]; omega
        · omega
        · rw [hL]; exact ho.ints
theorem rnth_any (n r : Int) (hr : r ≤ 9223372036854775807) (w : World) : Calls Try.prog 22 #[.int .i64 n, .int .i64 r] w fun e w' => ∃ a c, e = .returned (.tuple #[.slice a (nList n r).length c, .int .i64 (nErr n r)]) ∧ Ints w' a (nList n r) ∧ Below w.heap.size w w' := by
  have weak : ∀ e w', NthP n r w e w' → ∃ a c, e = .returned (.tuple #[.slice a (nList n r).length c, .int .i64 (nErr n r)]) ∧ Ints w' a (nList n r) ∧ Below w.heap.size w w' := fun e w' ⟨a, c, h1, _, _, h2, h3⟩ => ⟨a, c, h1, h2, h3⟩
  by_cases h1 : n < 0 ∨ 20 < n
  · exact (rnth_arg n r h1 w).mono fun e w' h => weak _ _ (nth_nil (k := 1) (by unfold nErr; rw [if_pos h1]) (by decide) h)
  · by_cases h2 : r < 0
    · exact (rnth_neg n r (by omega) (by omega) h2 w).mono fun e w' h => weak _ _ (nth_nil (k := 11) (by unfold nErr; rw [if_neg h1, if_pos (Or.inl h2)]) (by decide) h)
    · obtain ⟨N, rfl⟩ : ∃ N : Nat, n = N := ⟨n.toNat, by omega⟩
      obtain ⟨R, rfl⟩ : ∃ R : Nat, r = R := ⟨r.toNat, by omega⟩
      by_cases h3 : fN N ≤ R
      · exact (rnth_big N R (by omega) h3 w).mono fun e w' h => weak _ _ (nth_nil (k := 11) (by unfold nErr; rw [if_neg h1, if_pos (Or.inr (by simpa using h3))]) (by decide) h)
      · have hE : nErr N R = 0 := by unfold nErr; rw [if_neg h1, if_neg (by simp only [Int.toNat_natCast]; omega)]
        have hL : nList N R = ord N (dg N R) := by unfold nList; rw [if_pos hE]; simp
        refine (rnth_ok N R (by omega) (by omega) (by omega) w).mono fun e w' h => ?_
        obtain ⟨go, cap, he, ho⟩ := h
        refine ⟨some ⟨go, 0, none⟩, cap, ?_, ?_, ho.bel⟩
        · rw [hL, hE, ord_len]; exact he
        · rw [hL]; exact ho.ints
/-- there and back -/
theorem back_one {p : List Int} (h : isP p) (hn : p.length ≤ 20) : nErr p.length (rankR p).1 = 0 ∧ nList p.length (rankR p).1 = p := by
  rw [rank_ok h (by omega)]
  have hb := rk_bd p p.length p.length (Nat.le_refl _)
  obtain ⟨R, hR⟩ : ∃ R : Nat, rk p p.length p.length = R := ⟨(rk p p.length p.length).toNat, by omega⟩
  have hlt := rk_lt p p.length R hR
  simp only [hR]
  have hE : nErr (p.length : Int) (R : Int) = 0 := by unfold nErr; rw [if_neg (by omega), if_neg (by simp only [Int.toNat_natCast]; omega)]
  refine ⟨hE, ?_⟩
  unfold nList
  rw [if_pos hE]
  simp only [Int.toNat_natCast]
  exact ord_self h _ (fun k hk => rk_dg p p.length R hR k hk)
theorem back_two {n r : Int} (h : nErr n r = 0) : isP (nList n r) ∧ (nList n r).length ≤ 20 ∧ rankR (nList n r) = (r, 0) := by
  have h1 : ¬ (n < 0 ∨ 20 < n) := fun hh => by unfold nErr at h; rw [if_pos hh] at h; omega
  have h2 : ¬ (r < 0 ∨ (fN n.toNat : Int) ≤ r) := fun hh => by unfold nErr at h; rw [if_neg h1, if_pos hh] at h; omega
  have hL : nList n r = ord n.toNat (dg n.toNat r.toNat) := by unfold nList; rw [if_pos h]
  have hl : (nList n r).length = n.toNat := by rw [hL, ord_len]
  have hP : isP (nList n r) := by rw [hL]; exact ord_isP _ _ (fun k hk => dg_lt _ _ k hk)
  refine ⟨hP, by omega, ?_⟩
  rw [rank_ok hP (by omega), hl, hL, dg_rk n.toNat r.toNat (by omega)]
  congr 1
  omega
theorem nlist_len (n r : Int) : (nList n r).length ≤ 20 := by
  by_cases h : nErr n r = 0
  · exact (back_two h).2.1
  · unfold nList; rw [if_neg h]; simp
attribute [irreducible] nErr nList
theorem rankR_le (p : List Int) : (rankR p).1 ≤ 9223372036854775807 := by
  by_cases h1 : isP p
  · by_cases h2 : 20 < p.length
    · rw [rank_big h1 h2]; decide
    · rw [rank_ok h1 h2]
      have := rk_fct_bd p p.length p.length (Nat.le_refl _) (by omega)
      rw [Nat.sub_self, fct_zero, Int.mul_one] at this
      show rk p p.length p.length ≤ _
      omega
  · rw [rank_bad h1]; decide
theorem rankR_ok {p : List Int} (h : (rankR p).2 = 0) : isP p ∧ p.length ≤ 20 := by
  by_cases h1 : isP p
  · by_cases h2 : 20 < p.length
    · rw [rank_big h1 h2] at h; cases h
    · exact ⟨h1, by omega⟩
  · rw [rank_bad h1] at h; cases h
set_option maxRecDepth 100000 in
set_option maxHeartbeats 8000000 in
theorem orderRanks_core (p : List Int) (pa : Option Addr) (pn pc : Nat) (n rank : Int) (w : World) (h1 : Arg 25 w pa pn pc p) (hr2 : rank ≤ 9223372036854775807) :
    Calls Try.prog 6 #[.slice pa pn pc, .int .i64 n, .int .i64 rank] w fun e w' => e = .returned (.bool true) ∧ Below w.heap.size w w' := by
  have lp := h1.len
  have HC := Lib.hid (cut25 p pa pn pc w h1)
  have HOr := Lib.hid (fun W => orders_any W)
  have HR := Lib.hid (fun W (g c : Nat) (hc : p.length ≤ c) (hc2 : c ≤ 9223372036854775807) (hI : Ints W (some ⟨g, 0, none⟩) p) => rank_any p (by omega) (some ⟨g, 0, none⟩) c hc hc2 W hI)
  have HRR := Lib.hid (fun W (g c : Nat) (hI : Ints W (some ⟨g, 0, none⟩) p) => rank_two p lp (some ⟨g, 0, none⟩) c W hI)
  have HN := Lib.hid (fun W => nth_any n rank hr2 W)
  have HRN := Lib.hid (fun W => rnth_any n rank hr2 W)
  have HSm := Lib.hid (fun W (xa ya : Option Addr) (c1 c2 : Nat) (h1 : Ints W xa (nList n rank)) (h2 : Ints W ya (nList n rank)) => same_self (nList n rank) (by have := nlist_len n rank; omega) xa ya c1 c2 W h1 h2)
  have HSp := Lib.hid (fun W (xa ya : Option Addr) (c1 c2 : Nat) (h1 : Ints W xa p) (h2 : Ints W ya p) => same_self p (by omega) xa ya c1 c2 W h1 h2)
  have HB1 := Lib.hid (fun (hE : (rankR p).2 = 0) W => (show Calls Try.prog 21 #[.int .i64 p.length, .int .i64 (rankR p).1] W fun e w' => ∃ a c, e = .returned (.tuple #[.slice a p.length c, .int .i64 0]) ∧ Ints w' a p ∧ Below W.heap.size W w' from by
    obtain ⟨q1, q2⟩ := rankR_ok hE
    obtain ⟨b1, b2⟩ := back_one q1 q2
    refine (nth_any p.length (rankR p).1 (rankR_le p) W).mono ?_
    rintro e w' ⟨a, c, t1, _, _, t2, t3⟩
    rw [b1, b2] at t1
    rw [b2] at t2
    exact ⟨a, c, t1, t2, t3⟩))
  have HB2 := Lib.hid (fun (hG : nErr n rank = 0) W (a : Option Addr) (c : Nat) (hc : (nList n rank).length ≤ c) (hc2 : c ≤ 9223372036854775807) (hI : Ints W a (nList n rank)) => (show Calls Try.prog 19 #[.slice a (nList n rank).length c] W fun e w' => e = .returned (.tuple #[.int .i64 rank, .int .i64 0]) ∧ Below W.heap.size W w' from by
    obtain ⟨q1, q2, q3⟩ := back_two hG
    have := rank_any (nList n rank) (by omega) a c hc hc2 W hI
    rw [q3] at this
    exact this))
  clear h1 hr2
  unfold NthP at HN
  generalize (rankR p).1 = R at *
  generalize (rankR p).2 = E at *
  generalize nErr n rank = G at *
  generalize nList n rank = L at *
  generalize hm : L.length = m at *
  generalize hpn : p.length = k at *
  have hEE : (E != E) = false := by simp
  have hGG : (G != G) = false := by simp
  have hRR : (R != R) = false := by simp
  clear hm hpn
  go_enter Try.func6, Try.ntmps6
  go_wp2_with fail
  with_reducible refine HC.out.mono ?_
  rintro e w1 ⟨gp, kp, rfl, ho⟩
  have hcap := Lib.hid ho.cap
  have HIp := Lib.hid ho.ints
  have B1 := Lib.hid ho.2.2.2
  clear ho HC
  go_wp2_with fail
  with_reducible refine (HR.out w1 gp kp hcap.out.1 hcap.out.2 HIp.out).mono ?_
  rintro e w2 ⟨rfl, hb⟩
  have D2 := Lib.hid hb
  clear hb
  go_wp2_with fail
  with_reducible refine (HRR.out w2 gp kp (HIp.out.keep D2.out)).mono ?_
  rintro e w3 ⟨rfl, hb⟩
  have D3 := Lib.hid (bl_tr D2.out hb)
  clear hb
  go_wp2_with fail
  with_reducible refine (HN.out w3).mono ?_
  rintro e w4 ⟨qa, qc, rfl, hq1, hq2, hIq, hb⟩
  have D4 := Lib.hid (bl_tr D3.out hb)
  have HQ := Lib.hid hIq
  have hqc := Lib.hid (And.intro hq1 hq2)
  clear hb hIq hq1 hq2
  go_wp2_with fail
  with_reducible refine (HRN.out w4).mono ?_
  rintro e w5 ⟨xa, xc, rfl, hIx, hb⟩
  have D5 := Lib.hid (bl_tr D4.out hb)
  have E5 := Lib.hid hb
  have HX := Lib.hid hIx
  clear hb hIx
  go_wp2_with fail
  with_reducible refine (HOr.out w5).mono ?_
  rintro e w6 ⟨rfl, hb⟩
  have D6 := Lib.hid (bl_tr D5.out hb)
  have E6 := Lib.hid (bl_tr E5.out hb)
  have F6 := Lib.hid hb
  clear hb
  go_wp2_with fail
  with_reducible refine (HSm.out w6 qa xa qc xc (HQ.out.keep E6.out) (HX.out.keep F6.out)).mono ?_
  rintro e w7 ⟨rfl, hb⟩
  have D7 := Lib.hid (bl_tr D6.out hb)
  have E7 := Lib.hid (bl_tr E6.out hb)
  clear hb
  by_cases hE : E = 0
  · have HB1' := Lib.hid (HB1.out hE)
    subst hE
    go_wp2_with fail
    with_reducible refine (HB1'.out w7).mono ?_
    rintro e w8 ⟨ba, bc, rfl, hIb, hb⟩
    have D8 := Lib.hid (bl_tr D7.out hb)
    have E8 := Lib.hid (bl_tr E7.out hb)
    have HBk := Lib.hid hIb
    clear hb hIb
    go_wp2_with fail
    with_reducible refine (HSp.out w8 ba (some ⟨gp, 0, none⟩) bc kp HBk.out (HIp.out.keep D8.out)).mono ?_
    rintro e w9 ⟨rfl, hb⟩
    have D9 := Lib.hid (bl_tr D8.out hb)
    have E9 := Lib.hid (bl_tr E8.out hb)
    clear hb
    by_cases hG : G = 0
    · have HB2' := Lib.hid (HB2.out hG)
      subst hG
      go_wp2_with fail
      with_reducible refine (HB2'.out w9 qa qc hqc.out.1 hqc.out.2 (HQ.out.keep E9.out)).mono ?_
      rintro e w10 ⟨rfl, hb⟩
      have D10 := Lib.hid (bl_tr D9.out hb)
      clear hb
      go_wp2
      go_ret
      exact ⟨rfl, bl_tr B1.out D10.out⟩
    · have hG' : (G == 0) = false := by simpa using hG
      go_wp2
      go_ret
      exact ⟨rfl, bl_tr B1.out D9.out⟩
  · have hE' : (E == 0) = false := by simpa using hE
    by_cases hG : G = 0
    · have HB2' := Lib.hid (HB2.out hG)
      subst hG
      go_wp2_with fail
      with_reducible refine (HB2'.out w7 qa qc hqc.out.1 hqc.out.2 (HQ.out.keep E7.out)).mono ?_
      rintro e w10 ⟨rfl, hb⟩
      have D10 := Lib.hid (bl_tr D7.out hb)
      clear hb
      go_wp2
      go_ret
      exact ⟨rfl, bl_tr B1.out D10.out⟩
    · have hG' : (G == 0) = false := by simpa using hG
      go_wp2
      go_ret
      exact ⟨rfl, bl_tr B1.out D7.out⟩
theorem orderRanks_walk (p : List Int) (pa : Option Addr) (pn pc : Nat) (n rank : Int) (w : World) (h1 : Arg 25 w pa pn pc p) (w1 : (Lit.int .i64 n).wf = true) (w2 : (Lit.int .i64 rank).wf = true) :
    Calls Try.prog 6 #[.slice pa pn pc, .int .i64 n, .int .i64 rank] w fun e w' => e = .returned (.bool true) ∧ Below w.heap.size w w' :=
  orderRanks_core p pa pn pc n rank w h1 (by obtain ⟨q1, q2⟩ := bounds_i64 w2; omega)
end Go.Proofs.Yteceibafagekiaa
