/-
  The walk through kurganlaw22.IncAlone.
-/
import Derived.Test.YtpmkpmenjaekmaaIcE
namespace Go.Proofs.Ytpmkpmenjaekmaa
open Go.RowKit Go.MuLone
set_option linter.unusedVariables false
theorem u64_bd (x : Int) : 0 ≤ IntKind.u64.wrap x ∧ IntKind.u64.wrap x ≤ 18446744073709551615 := by rw [IntKind.wrap_u64]; omega
/-- the numbers that came in, at hand -/
def RowAt (a : Option Addr) (n c m : Nat) (l : List Int) (w : World) : Prop := ∀ k, k < m → ∃ bb oo, a = some ⟨bb, oo, none⟩ ∧ ∀ W, Below w.heap.size w W → W.cell? ⟨bb, oo + k, none⟩ = some (.int .i64 (nth l k))
/-- what is kept between two offers -/
structure Al (q g b kb : Nat) (L : Nat) (s : Int) (w0 w : World) : Prop where
  ex : ∃ vs X, Si q g b kb 1 1 vs [0, (L : Int) * 16, 0] s w ∧ Lst (b + 1) (vs 0) X w ∧ X.length ≤ 1000
  ge : w0.heap.size ≤ q ∧ w0.heap.size ≤ g ∧ w0.heap.size ≤ b ∧ w0.heap.size ≤ kb
  bel : Below w0.heap.size w0 w
theorem Al.up {q g b kb L : Nat} {s : Int} {w0 w w1 : World} (h : Al q g b kb L s w0 w) (k : Below w.heap.size w w1) : Al q g b kb L s w0 w1 := by
  obtain ⟨vs, X, h1, h2, h3⟩ := h.ex
  exact ⟨⟨vs, X, h1.up k, h2.up k, h3⟩, h.ge, bl_tr h.bel k⟩
theorem Al.tw {q g b kb L : Nat} {s s1 : Int} {w0 w w1 : World} (h : Al q g b kb L s w0 w) (hs : ∀ vs, Si q g b kb 1 1 vs [0, (L : Int) * 16, 0] s w → Si q g b kb 1 1 vs [0, (L : Int) * 16, 0] s1 w1) (k : Tw [g, b] w w1) : Al q g b kb L s1 w0 w1 := by
  obtain ⟨vs, X, h1, h2, h3⟩ := h.ex
  exact ⟨⟨vs, X, hs vs h1, h1.lk2 h2 k, h3⟩, h.ge, k.below h.bel (by intro i hi; simp at hi; have := h.ge; omega) h.bel.size⟩
section
variable {q g b kb L : Nat} {s : Int} {w0 w : World}
theorem al_steps (h : Al q g b kb L s w0 w) : Calls Try.prog 19 #[.pointer (some ⟨g, 0, none⟩)] w fun e w' => e = .returned (.int .i64 s) ∧ Al q g b kb L s w0 w' := by
  obtain ⟨vs, X, h1, h2, h3⟩ := h.ex
  refine (stepsS h1).mono ?_
  rintro e w1 ⟨rfl, f1, f2⟩
  exact ⟨rfl, ⟨vs, X, f1, h1.lk2 h2 f2, h3⟩, h.ge, f2.below h.bel (by intro i hi; simp at hi; have := h.ge; omega) h.bel.size⟩
theorem al_look (s0 : 0 ≤ s) (s1 : s ≤ 1000000) (h : Al q g b kb L s w0 w) : Calls Try.prog 11 #[.pointer (some ⟨q, 0, none⟩)] w fun e w' => e = .returned (.int .i64 L) ∧ Al q g b kb L (s + 1) w0 w' := by
  obtain ⟨vs, X, h1, h2, h3⟩ := h.ex
  have := lookN_any s0 s1 h1
  rw [n31, show (L : Int) * 16 / 16 = L by omega] at this
  refine this.mono ?_
  rintro e w1 ⟨rfl, f1, f2⟩
  exact ⟨rfl, ⟨vs, X, f1, h1.lk2 h2 f2, h3⟩, h.ge, f2.below h.bel (by intro i hi; simp at hi; have := h.ge; omega) h.bel.size⟩
theorem al_best (h : Al q g b kb L s w0 w) : Calls Try.prog 9 #[.pointer (some ⟨q, 0, none⟩)] w fun e w' => ∃ v', e = .returned (.tuple #[v', .int .i64 L]) ∧ Al q g b kb L s w0 w' := by
  obtain ⟨vs, X, h1, h2, h3⟩ := h.ex
  have := best_any (b + 1) 0 X h3 (by rw [n31]; omega) (by omega) (by omega) h1 h2
  rw [n31, show (L : Int) * 16 / 16 = L by omega] at this
  refine this.mono ?_
  rintro e w1 ⟨v', rfl, hl, f1, f2⟩
  exact ⟨v', rfl, ⟨vs, X, f1, h1.lk2 h2 f2, h3⟩, h.ge, f2.below h.bel (by intro i hi; simp at hi; have := h.ge; omega) h.bel.size⟩
/-- the act that an offer begins, at hand -/
def Acf (p q c : Nat) (w0 w : World) : Prop := w0.heap.size ≤ p ∧ ∃ xv X, Ac p q 0 xv c 0 0 false w ∧ X.length ≤ 1000 ∧ ∀ b, b < p → ∃ C, b < C ∧ Lst C xv X w
theorem al_offer (c : Nat) (v : Value) (x : Int) (hc : c ≤ 1125899906842624) (B : Nat) (hL : Lst B v [x] w) (h : Al q g b kb L s w0 w) : Calls Try.prog 12 #[.pointer (some ⟨q, 0, none⟩), .int .i64 0, v, .int .i64 c] w fun e w' => ∃ p, e = .returned (.pointer (some ⟨p, 0, none⟩)) ∧ Al q g b kb L s w0 w' ∧ w0.heap.size ≤ p ∧ ∃ xv, Ac p q 0 xv c 0 0 false w' ∧ Lst (b + 1) xv [x] w' := by
  obtain ⟨vs, X, h1, h2, h3⟩ := h.ex
  refine (offer_any 0 v c [x] B (by omega) (by omega) (fine_of (by omega)) (by simp) h1 hL).mono ?_
  rintro e w1 ⟨p, v', rfl, hp, hl, ha, hb⟩
  exact ⟨p, rfl, h.up hb, by have := h.bel.size; omega, v', ha, hl.mono h1.lt.2.2.2⟩
theorem al_run {p c : Nat} {xv : Value} {x : Int} (hc : c ≤ 1125899906842624) (s0 : 0 ≤ s) (s1 : s ≤ 1000) (hp : w0.heap.size ≤ p) (h : Al q g b kb L s w0 w) (ha : Ac p q 0 xv c 0 0 false w) (hL : Lst (b + 1) xv [x] w) : ∃ s', s + 1 ≤ s' ∧ s' ≤ s + 2 ∧
    Calls Try.prog 21 #[.pointer (some ⟨p, 0, none⟩)] w fun e w' => e = .returned (.bool true) ∧ Al q g b kb (min L c) s' w0 w' ∧ ∃ nx rd, Ac p q 0 xv c nx rd (decide (c < L)) w' := by
  obtain ⟨vs, X, h1, h2, h3⟩ := h.ex
  have hdiv : (L : Int) * 16 / 16 = L := by omega
  by_cases hlt : c < L
  · refine ⟨s + 2, by omega, by omega, ?_⟩
    refine (run_yes ((L : Int) * 16) c 0 hL.form rfl hc rfl (by omega) (n31 _ _ _) (by rw [hdiv]; omega) s0 s1 h1 ha).mono ?_
    rintro e w1 ⟨rfl, f⟩
    have hs := f.st
    rw [show [(0 : Int), (L : Int) * 16, 0].set 1 ((c : Int) * 16 + ((0 : Nat) : Int)) = [0, (c : Int) * 16, 0] by simp] at hs
    refine ⟨rfl, ⟨⟨upk vs 0 xv, [x], ?_, (by rw [show upk vs 0 xv 0 = xv from rfl]; exact h1.lk ha hL f.tw), by simp⟩, h.ge, f.tw.below h.bel (by intro i hi; simp at hi; have := h.ge; omega) h.bel.size⟩, 2, _, by rw [decide_eq_true hlt]; exact f.ac⟩
    rw [show min L c = c by omega]
    exact hs
  · refine ⟨s + 1, by omega, by omega, ?_⟩
    refine (run_no ((L : Int) * 16) (n31 _ _ _) (by rw [hdiv]; omega) s0 s1 h1 ha).mono ?_
    rintro e w1 ⟨rfl, f⟩
    refine ⟨rfl, ⟨⟨vs, X, ?_, h1.lk ha h2 f.tw, h3⟩, h.ge, f.tw.below h.bel (by intro i hi; simp at hi; have := h.ge; omega) h.bel.size⟩, 2, _, by rw [decide_eq_false hlt]; exact f.ac⟩
    rw [show min L c = L by omega]
    exact f.st
end
set_option maxRecDepth 100000 in
set_option maxHeartbeats 16000000 in
theorem alone_core (o V : Int) (L m : Nat) (hV : IntKind.u64.wrap o = V) (hV1 : 0 ≤ V ∧ V ≤ 18446744073709551615) (hL : V % 1125899906842624 = (L : Int))
    (a : Option Addr) (rn rc : Nat) (l : List Int) (w : World) (hm : m ≤ 50) (hrn : ∀ k : Nat, k < m → k < rn) (hrn2 : ¬ m = 50 → rn = m) (hR : RowAt a rn rc m l w) :
    Calls Try.prog 5 #[.int .i64 o, .slice a rn rc] w fun e w' => e = .returned (.bool true) ∧ Below w.heap.size w w' := by
  have hL1 : L ≤ 1125899906842623 := by omega
  have F := Lib.hid (fun W => fresh_any 1 L 0 (.slice none 0 0) [] (by simp) (by omega) (by omega) (by omega) W (.inl ⟨rfl, rfl⟩))
  rw [show ((1 : Nat) : Int) = 1 from rfl] at F
  have C := Lib.hid (fun W => incs_any W)
  have R := Lib.hid hR
  have HN := Lib.hid hrn
  have HN2 := Lib.hid hrn2
  clear hR hrn hrn2
  go_enter Try.func5, Try.ntmps5
  go_wp2_with fail
  refine (F.out _).mono ?_; rintro e w1 ⟨q, g, b, kb, vs, rfl, hs, st, hl, bl⟩
  have A := Lib.hid (show Al q g b kb L 1 w w1 from ⟨⟨vs, [], st, hl, by simp⟩, hs, bl⟩)
  clear hs st hl bl F
  go_wp2_with fail
  refine (C.out _).mono ?_; rintro e w3 ⟨rfl, hb⟩
  have A := Lib.hid (A.out.up hb)
  clear hb C
  go_wp2_with fail
  go_loopw [9, 8] (fun i j wr => ∃ (k L : Nat) (s : Int), i = .int .i64 k ∧ j = .int .i64 L ∧ k ≤ m ∧ L ≤ 1125899906842623 ∧ Hid (0 ≤ s ∧ s ≤ 1 + 3 * k) ∧ Hid (Al q g b kb L s w wr)) (fun i _ _ => 200 - (intOf i).toNat)
  case atStart => exact ⟨0, L, 1, rfl, rfl, by omega, hL1, Lib.hid (by omega), A⟩
  case round =>
    clear A hL hL1
    obtain ⟨k, L, s, rfl, rfl, hk, hL1, BD, A⟩ := hrel
    by_cases hlt : k < m
    · have i1 : (k : Int) < (rn : Int) := by have := HN.out k hlt; omega
      have i2 : (k : Int) < 50 := by omega
      obtain ⟨bb, oo, rfl, hc⟩ := R.out k hlt
      have c1 := hc wr A.out.bel
      generalize nth l k = xv at *
      obtain ⟨U, hU⟩ : ∃ U, IntKind.u64.wrap xv = U := ⟨_, rfl⟩
      have hU1 := u64_bd xv
      rw [hU] at hU1
      obtain ⟨c, hcu⟩ : ∃ c : Nat, U % 1125899906842624 = c := ⟨(U % 1125899906842624).toNat, by omega⟩
      have hc1 : c ≤ 1125899906842623 := by omega
      have bd := BD.out
      go_wp2_with fail
      clear c1 hc hU hcu hU1
      have hal := bl_al (Below.refl _ wr) (.cells #[.int .i64 (k : Int)] 3)
      have L1 := Lib.hid (lit1 (k : Int) wr)
      have A := Lib.hid (A.out.up hal)
      clear hal
      refine (al_offer c _ (k : Int) (by omega) _ L1.out A.out).mono ?_; rintro e w4 ⟨p, rfl, al, hp, xv2, ha, hl⟩
      obtain ⟨s', hs1, hs2, RU⟩ := al_run (c := c) (by omega) bd.1 (by omega) hp al ha hl
      have RU := Lib.hid RU
      clear al hp ha hl A L1
      have BD := Lib.hid bd
      obtain ⟨bd1, bd2⟩ := bd
      go_wp2_with fail
      refine RU.out.mono ?_; rintro e w5 ⟨rfl, al, nx, rd, ha⟩
      have A := Lib.hid al
      clear al RU
      by_cases hcl : c < L
      · have em : min L c = c := by omega
        have ic : (c : Int) < (L : Int) := by omega
        have dc : decide ((c : Int) < (L : Int)) = true := decide_eq_true ic
        have dn : decide (c < L) = true := decide_eq_true hcl
        have mi : (if (c : Int) < (L : Int) then (c : Int) else (L : Int)) = (c : Int) := if_pos ic
        have mj : (if (L : Int) < (c : Int) then (L : Int) else (c : Int)) = (c : Int) := by split <;> omega
        rw [em] at A
        rw [dn] at ha
        have T := Lib.hid (taken_any ha)
        clear ha em
        have ee : ((c : Int) == (c : Int)) = true := by simp
        go_wp2_with fail
        refine T.out.mono ?_; rintro e wx ⟨rfl, rfl⟩
        clear T
        go_wp2_with fail
        refine (al_steps A.out).mono ?_; rintro e w6 ⟨rfl, al⟩
        have A := Lib.hid al
        clear al
        go_wp2_with fail
        refine (al_look (by omega) (by omega) A.out).mono ?_; rintro e w7 ⟨rfl, al⟩
        have A := Lib.hid al
        clear al
        go_wp2_with fail
        refine (al_steps A.out).mono ?_; rintro e w8 ⟨rfl, al⟩
        have A := Lib.hid al
        clear al
        go_wp2
        exact ⟨⟨k + 1, c, s' + 1, by simp, by simp, by omega, by omega, Lib.hid (by omega), A⟩, by simp [intOf]; omega⟩
      · have em : min L c = L := by omega
        have ic : ¬ (c : Int) < (L : Int) := by omega
        have dc : decide ((c : Int) < (L : Int)) = false := decide_eq_false ic
        have dn : decide (c < L) = false := decide_eq_false hcl
        have mi : (if (c : Int) < (L : Int) then (c : Int) else (L : Int)) = (L : Int) := if_neg ic
        have mj : (if (L : Int) < (c : Int) then (L : Int) else (c : Int)) = (L : Int) := by split <;> omega
        rw [em] at A
        rw [dn] at ha
        have T := Lib.hid (taken_any ha)
        clear ha em
        have ee : ((L : Int) == (L : Int)) = true := by simp
        go_wp2_with fail
        refine T.out.mono ?_; rintro e wx ⟨rfl, rfl⟩
        clear T
        go_wp2_with fail
        refine (al_steps A.out).mono ?_; rintro e w6 ⟨rfl, al⟩
        have A := Lib.hid al
        clear al
        go_wp2_with fail
        refine (al_look (by omega) (by omega) A.out).mono ?_; rintro e w7 ⟨rfl, al⟩
        have A := Lib.hid al
        clear al
        go_wp2_with fail
        refine (al_steps A.out).mono ?_; rintro e w8 ⟨rfl, al⟩
        have A := Lib.hid al
        clear al
        go_wp2
        exact ⟨⟨k + 1, L, s' + 1, by simp, by simp, by omega, by omega, Lib.hid (by omega), A⟩, by simp [intOf]; omega⟩
    · by_cases hm2 : m = 50
      · have i2 : ¬ (k : Int) < 50 := by omega
        clear BD HN HN2 R
        by_cases i1 : (k : Int) < (rn : Int)
        · go_wp2_with fail
          refine (al_best A.out).mono ?_; rintro e w4 ⟨v', rfl, al⟩
          have B := Lib.hid al.bel
          have ee : ((L : Int) == (L : Int)) = true := by simp
          clear al A
          go_wp2
          go_ret
          exact ⟨rfl, B.out⟩
        · go_wp2_with fail
          refine (al_best A.out).mono ?_; rintro e w4 ⟨v', rfl, al⟩
          have B := Lib.hid al.bel
          have ee : ((L : Int) == (L : Int)) = true := by simp
          clear al A
          go_wp2
          go_ret
          exact ⟨rfl, B.out⟩
      · have i1 : ¬ (k : Int) < (rn : Int) := by have := HN2.out hm2; omega
        clear BD HN HN2 R
        go_wp2_with fail
        refine (al_best A.out).mono ?_; rintro e w4 ⟨v', rfl, al⟩
        have B := Lib.hid al.bel
        have ee : ((L : Int) == (L : Int)) = true := by simp
        clear al A
        go_wp2
        go_ret
        exact ⟨rfl, B.out⟩
theorem incAlone_walk (o : Int) (l : List Int) (a : Option Addr) (rn rc : Nat) (w : World) (h0 : (Lit.int .i64 o).wf = true) (h : Arg 50 w a rn rc l) :
    Calls Try.prog 5 #[.int .i64 o, .slice a rn rc] w fun e w' => e = .returned (.bool true) ∧ Below w.heap.size w w' := by
  have hc := u64_bd o
  refine alone_core o (IntKind.u64.wrap o) (IntKind.u64.wrap o % 1125899906842624).toNat l.length rfl hc (by omega) a rn rc l w h.len ?_ ?_ ?_
  · rcases h with ⟨_, _, _, rfl⟩ | ⟨_, _, _, _, rfl⟩ | ⟨b, o, e, h1, h2, h3, h4, h5⟩
    · intro k hk; simp at hk
    · intro k hk; simp at hk
    · intro k hk; omega
  · rcases h with ⟨_, rfl, _, rfl⟩ | ⟨_, _, rfl, _, rfl⟩ | ⟨b, o, e, h1, h2, h3, h4, h5⟩
    · intro _; rfl
    · intro _; rfl
    · intro _; omega
  · intro k hk
    rcases h with ⟨_, _, _, rfl⟩ | ⟨_, _, _, _, rfl⟩ | ⟨b, o, e, h1, h2, h3, h4, h5⟩
    · simp at hk
    · simp at hk
    · exact ⟨b, o, e, fun W hW => (hW.cell (p := ⟨b, o + k, none⟩) h3).trans (h4 k hk)⟩
end Go.Proofs.Ytpmkpmenjaekmaa
