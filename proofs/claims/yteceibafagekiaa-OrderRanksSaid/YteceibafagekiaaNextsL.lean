/-
  The walk of kurganlaw09.OrderNexts.
-/
import Derived.Test.YteceibafagekiaaNextL
import Derived.Test.YteceibafagekiaaNextR
import Derived.Test.YteceibafagekiaaRefRank
import Derived.Test.YteceibafagekiaaOrds
namespace Go.Proofs.Yteceibafagekiaa
open Go.RowKit
set_option linter.unusedVariables false

theorem cut18 (l : List Int) (a : Option Addr) (n c : Nat) (w : World) (h : Arg 18 w a n c l) :
    Calls Try.prog 8 #[.slice a n c, .int .i64 18] w fun e w' => ∃ g cap, e = .returned (.slice (some ⟨g, 0, none⟩) l.length cap) ∧ Own w.heap.size g l.length cap l w w' := cut_any 18 (by decide) l a n c w h
theorem arg_own (K : Nat) {B g cap : Nat} {l : List Int} {w0 wr : World} (h : Own B g l.length cap l w0 wr) (hK : l.length ≤ K) : Arg K wr (some ⟨g, 0, none⟩) l.length cap l := by
  obtain ⟨c1, c2⟩ := h.cap
  obtain ⟨cur, hg⟩ := h.blk
  exact Or.inr (Or.inr ⟨g, 0, rfl, c1, c2, lt_hp hg, fun j hj => by rw [Nat.zero_add]; exact h.cell j hj, Or.inl ⟨hK, rfl⟩⟩)
theorem same_self (l : List Int) (hn : l.length ≤ 1000) (xa ya : Option Addr) (xc yc : Nat) (w : World) (h1 : Ints w xa l) (h2 : Ints w ya l) :
    Calls Try.prog 12 #[.slice xa l.length xc, .slice ya l.length yc] w fun e w' => e = .returned (.bool true) ∧ Below w.heap.size w w' := by
  have h := same_any l l hn hn xa ya xc yc w h1 h2
  have e : decide (l = l) = true := by simp
  rw [e] at h
  exact h
open Classical in
set_option maxRecDepth 100000 in
set_option maxHeartbeats 8000000 in
theorem orderNexts_walk (p : List Int) (pa : Option Addr) (pn pc : Nat) (w : World) (h1 : Arg 18 w pa pn pc p) :
    Calls Try.prog 7 #[.slice pa pn pc] w fun e w' => e = .returned (.bool true) ∧ Below w.heap.size w w' := by
  have lp := h1.len
  have HC := Lib.hid (cut18 p pa pn pc w h1)
  have HC2 := Lib.hid (fun (g cap : Nat) (w1 : World) (h : Own w.heap.size g p.length cap p w w1) => cut18 p (some ⟨g, 0, none⟩) p.length cap w1 (arg_own 18 h lp))
  have HB0 := Lib.hid (Below.refl w.heap.size w)
  have HOr := Lib.hid (fun W => orders_any W)
  have HSm := Lib.hid (fun W (g1 g2 c1 c2 : Nat) (h1 : Ints W (some ⟨g1, 0, none⟩) p) (h2 : Ints W (some ⟨g2, 0, none⟩) p) => same_self p (by omega) (some ⟨g1, 0, none⟩) (some ⟨g2, 0, none⟩) c1 c2 W h1 h2)
  have HRp := Lib.hid (fun W (g c : Nat) (hI : Ints W (some ⟨g, 0, none⟩) p) => refIs_any p (by omega) (some ⟨g, 0, none⟩) c W hI)
  clear h1
  by_cases hP : isP p
  rotate_left
  · have HN := Lib.hid (fun W (g c : Nat) (hI : Ints W (some ⟨g, 0, none⟩) p) => next_none p hP (by omega) (some ⟨g, 0, none⟩) c W hI)
    have e1 : decide (isP p) = false := by simpa using hP
    rw [e1] at HRp
    clear hP e1 lp
    generalize p.length = n at *
    go_enter Try.func7, Try.ntmps7
    go_wp2_with fail
    with_reducible refine HC.out.mono ?_
    rintro e w1 ⟨gp, kp, rfl, ho⟩
    have HOp := Lib.hid ho
    have HB1 := Lib.hid ho.2.2.2
    clear ho
    go_wp2_with fail
    with_reducible refine (HC2.out gp kp w1 HOp.out).mono ?_
    rintro e w2 ⟨gq, kq, rfl, ho⟩
    have D2 := Lib.hid ho.2.2.2
    have HIp := Lib.hid (HOp.out.keep D2.out).ints
    have HIq := Lib.hid ho.ints
    clear ho HC HC2 HOp
    have B2 := Lib.hid (bl_tr HB1.out D2.out)
    clear D2 HB1
    go_wp2_with fail
    with_reducible refine (HN.out w2 gp kp HIp.out).mono ?_
    rintro e w3 ⟨rfl, hb⟩
    have D3 := Lib.hid hb
    clear hb
    go_wp2_with fail
    with_reducible refine (HOr.out w3).mono ?_
    rintro e w4 ⟨rfl, hb⟩
    have D4 := Lib.hid (bl_tr D3.out hb)
    clear hb
    go_wp2_with fail
    with_reducible refine (HSm.out w4 gp gq kp kq (HIp.out.keep D4.out) (HIq.out.keep D4.out)).mono ?_
    rintro e w5 ⟨rfl, hb⟩
    have D5 := Lib.hid (bl_tr D4.out hb)
    clear hb
    go_wp2_with fail
    with_reducible refine (HRp.out w5 gp kp (HIp.out.keep D5.out)).mono ?_
    rintro e w5' ⟨rfl, rfl⟩
    go_wp2_with fail
    with_reducible refine (HOr.out w5).mono ?_
    rintro e w6 ⟨rfl, hb⟩
    have D6 := Lib.hid (bl_tr D5.out hb)
    clear hb
    go_wp2_with fail
    with_reducible refine (HSm.out w6 gp gq kp kq (HIp.out.keep D6.out) (HIq.out.keep D6.out)).mono ?_
    rintro e w7 ⟨rfl, hb⟩
    have D7 := Lib.hid (bl_tr D6.out hb)
    clear hb
    go_wp2
    go_ret
    exact ⟨rfl, bl_tr B2.out D7.out⟩
  have e1 : decide (isP p) = true := by simpa using hP
  rw [e1] at HRp
  have HRR := Lib.hid (fun W (g c : Nat) (hI : Ints W (some ⟨g, 0, none⟩) p) => refRank_any p hP (by omega) (some ⟨g, 0, none⟩) c W hI)
  rcases Nat.eq_zero_or_pos (dn p (p.length - 1)) with hd | hd
  · have HN := Lib.hid (fun W (g c : Nat) (hc : p.length ≤ c) (hc2 : c ≤ 9223372036854775807) (hI : Ints W (some ⟨g, 0, none⟩) p) => next_last p hP (by omega) (some ⟨g, 0, none⟩) c hc hc2 W hI hd)
    have HLst := Lib.hid (fun (W : World) (g : Nat) (hI : Ints W (some ⟨g, 0, none⟩) p) (j : Nat) (hj : j < p.length) => (show W.cell? ⟨g, j, none⟩ = some (.int .i64 ((p.length : Int) - 1 - (j : Int))) from by
      obtain ⟨b1, o1, e1, _, c1⟩ := hI j hj
      simp only [Option.some.injEq, Addr.mk.injEq, and_true] at e1
      obtain ⟨rfl, rfl⟩ := e1
      rw [Nat.zero_add, last_falls hP hd j hj, show ((p.length - 1 - j : Nat) : Int) = (p.length : Int) - 1 - (j : Int) by omega] at c1
      exact c1))
    clear hP e1 hd
    generalize hR : rk p p.length p.length = R at *
    clear hR
    generalize p.length = n at *
    go_enter Try.func7, Try.ntmps7
    go_wp2_with fail
    with_reducible refine HC.out.mono ?_
    rintro e w1 ⟨gp, kp, rfl, ho⟩
    have HOp := Lib.hid ho
    have HB1 := Lib.hid ho.2.2.2
    have hcap := Lib.hid ho.cap
    clear ho
    go_wp2_with fail
    with_reducible refine (HC2.out gp kp w1 HOp.out).mono ?_
    rintro e w2 ⟨gq, kq, rfl, ho⟩
    have D2 := Lib.hid ho.2.2.2
    have HIp := Lib.hid (HOp.out.keep D2.out).ints
    have HIq := Lib.hid ho.ints
    clear ho HC HC2 HOp
    have B2 := Lib.hid (bl_tr HB1.out D2.out)
    clear D2 HB1
    go_wp2_with fail
    with_reducible refine (HN.out w2 gp kp hcap.out.1 hcap.out.2 HIp.out).mono ?_
    rintro e w3 ⟨rfl, hb⟩
    have D3 := Lib.hid hb
    clear hb
    go_wp2_with fail
    with_reducible refine (HOr.out w3).mono ?_
    rintro e w4 ⟨rfl, hb⟩
    have D4 := Lib.hid (bl_tr D3.out hb)
    clear hb
    go_wp2_with fail
    with_reducible refine (HSm.out w4 gp gq kp kq (HIp.out.keep D4.out) (HIq.out.keep D4.out)).mono ?_
    rintro e w5 ⟨rfl, hb⟩
    have D5 := Lib.hid (bl_tr D4.out hb)
    clear hb
    go_wp2_with fail
    with_reducible refine (HRp.out w5 gp kp (HIp.out.keep D5.out)).mono ?_
    rintro e w5' ⟨rfl, rfl⟩
    go_wp2_with fail
    with_reducible refine (HRR.out w5 gp kp (HIp.out.keep D5.out)).mono ?_
    rintro e w6 ⟨rfl, hb⟩
    have D6 := Lib.hid (bl_tr D5.out hb)
    have HF := Lib.hid (HLst.out w6 gp (HIp.out.keep D6.out))
    have BF := Lib.hid (bl_tr B2.out D6.out)
    clear hb HIp HIq HLst HOr HSm HRp HRR HN D3 D4 D5 D6 B2
    go_wp2
    go_loop [8] (fun i => ∃ k : Nat, k ≤ n ∧ i = .int .i64 k) (fun i => n - (intOf i).toNat)
    case atStart => exact ⟨0, by omega, rfl⟩
    case round =>
      obtain ⟨k, hk, rfl⟩ := hrel
      by_cases hlt : k < n
      · have hc := HF.out k hlt
        have hne : (((n : Int) - 1 - (k : Int)) != ((n : Int) - 1 - (k : Int))) = false := by simp
        go_wp2
        go_round
        case rel => exact ⟨k + 1, by omega, by go_num⟩
        case measure => simp [intOf]; omega
      · obtain rfl : n = k := by omega
        go_wp2
        go_ret
        exact ⟨rfl, BF.out⟩
  · obtain ⟨k, hk⟩ : ∃ k, dn p (p.length - 1) = k + 1 := ⟨dn p (p.length - 1) - 1, by omega⟩
    obtain ⟨iB, lB, rB⟩ := rk_next hP k hk
    have HN := Lib.hid (fun W (g c : Nat) (hc : p.length ≤ c) (hc2 : c ≤ 9223372036854775807) (hI : Ints W (some ⟨g, 0, none⟩) p) => next_ok p hP (by omega) (some ⟨g, 0, none⟩) c hc hc2 W hI hd)
    unfold NextP at HN
    rw [hk] at HN
    have HRB := Lib.hid (fun W (g c : Nat) (hI : Ints W (some ⟨g, 0, none⟩) (nextB p (k + 1))) => (show Calls Try.prog 20 #[.slice (some ⟨g, 0, none⟩) p.length c] W fun e w' => e = .returned (.tuple #[.int .i64 (rk p p.length p.length + 1), .int .i64 0]) ∧ Below W.heap.size W w' from by
      have := refRank_any _ iB (by omega) (some ⟨g, 0, none⟩) c W hI
      rw [lB, rB] at this
      exact this))
    obtain ⟨R1, R2⟩ := rk_fct_bd p p.length p.length (Nat.le_refl _) (by omega)
    rw [Nat.sub_self, fct_zero, Int.mul_one] at R1 R2
    clear hP e1 hd iB lB rB hk
    generalize rk p p.length p.length = R at *
    generalize p.length = n at *
    go_enter Try.func7, Try.ntmps7
    go_wp2_with fail
    with_reducible refine HC.out.mono ?_
    rintro e w1 ⟨gp, kp, rfl, ho⟩
    have HOp := Lib.hid ho
    have HB1 := Lib.hid ho.2.2.2
    have hcap := Lib.hid ho.cap
    clear ho
    go_wp2_with fail
    with_reducible refine (HC2.out gp kp w1 HOp.out).mono ?_
    rintro e w2 ⟨gq, kq, rfl, ho⟩
    have D2 := Lib.hid ho.2.2.2
    have HIp := Lib.hid (HOp.out.keep D2.out).ints
    have HIq := Lib.hid ho.ints
    clear ho HC HC2 HOp
    have B2 := Lib.hid (bl_tr HB1.out D2.out)
    clear D2 HB1
    go_wp2_with fail
    with_reducible refine (HN.out w2 gp kp hcap.out.1 hcap.out.2 HIp.out).mono ?_
    rintro e w3 ⟨gn, kn, rfl, hb, hIn, _⟩
    have D3 := Lib.hid hb
    have HIn := Lib.hid hIn
    clear hb hIn
    go_wp2_with fail
    with_reducible refine (HOr.out w3).mono ?_
    rintro e w4 ⟨rfl, hb⟩
    have D4 := Lib.hid (bl_tr D3.out hb)
    have E4 := Lib.hid hb
    clear hb
    go_wp2_with fail
    with_reducible refine (HSm.out w4 gp gq kp kq (HIp.out.keep D4.out) (HIq.out.keep D4.out)).mono ?_
    rintro e w5 ⟨rfl, hb⟩
    have D5 := Lib.hid (bl_tr D4.out hb)
    have E5 := Lib.hid (bl_tr E4.out hb)
    clear hb
    go_wp2_with fail
    with_reducible refine (HRp.out w5 gp kp (HIp.out.keep D5.out)).mono ?_
    rintro e w5' ⟨rfl, rfl⟩
    go_wp2_with fail
    with_reducible refine (HRR.out w5 gp kp (HIp.out.keep D5.out)).mono ?_
    rintro e w6 ⟨rfl, hb⟩
    have D6 := Lib.hid (bl_tr D5.out hb)
    have E6 := Lib.hid (bl_tr E5.out hb)
    clear hb
    go_wp2_with fail
    with_reducible refine (HRB.out w6 gn kn (HIn.out.keep E6.out)).mono ?_
    rintro e w7 ⟨rfl, hb⟩
    have D7 := Lib.hid (bl_tr D6.out hb)
    clear hb
    go_wp2
    go_ret
    exact ⟨rfl, bl_tr B2.out D7.out⟩
end Go.Proofs.Yteceibafagekiaa
