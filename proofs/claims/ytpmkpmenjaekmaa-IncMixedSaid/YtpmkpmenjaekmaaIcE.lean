/-
  Lists told alike; fresh, run; incs() is true.
-/
import Derived.Test.YtpmkpmenjaekmaaIcD
import Derived.LoopN
namespace Go.Proofs.Ytpmkpmenjaekmaa
open Go.RowKit Go.MuLone
set_option linter.unusedVariables false
set_option maxHeartbeats 1000000 in
theorem same_core (x y : List Int) (b : Bool) (hl : y.length = x.length) (hb : b = true ↔ ∀ j, j < x.length → nth x j = nth y j) (hn : x.length ≤ 1000) (xa ya : Option Addr) (xc yc : Nat) (w : World) (h1 : Ints w xa x) (h2 : Ints w ya y) :
    Calls Try.prog 20 #[.slice xa x.length xc, .slice ya y.length yc] w fun e w' => e = .returned (.bool b) ∧ Below w.heap.size w w' := by
  have HX := Lib.hid h1
  have HY := Lib.hid (fun j (hj : j < x.length) => h2 j (by omega))
  have HB := Lib.hid hb
  rw [hl]
  clear h1 h2 hl hb
  have HXl := Lib.hid (fun j (hj : j < x.length) => HX.out j hj)
  clear HX
  generalize x.length = n at *
  go_enter Try.func20, Try.ntmps20
  go_wp2
  go_loopw [5] (fun i wr => ∃ k : Nat, k ≤ n ∧ i = .int .i64 k ∧ Hid (∀ j, j < k → nth x j = nth y j) ∧ ∃ m, wr = w.drewN m) (fun i _ => n - (intOf i).toNat)
  case atStart => exact ⟨0, by omega, rfl, fun j hj => absurd hj (by omega), 0, rfl⟩
  case round =>
    obtain ⟨k, hk, rfl, HE, m, rfl⟩ := hrel
    have kb1 : (0 : Int) ≤ (k : Int) := by omega
    by_cases hlt : k < n
    · have kb2 : (k : Int) < (n : Int) := by omega
      obtain ⟨b1, o1, rfl, l1, c1⟩ := HXl.out k hlt
      obtain ⟨b2, o2, rfl, l2, c2⟩ := HY.out k hlt
      by_cases he : nth x k = nth y k
      · have HE2 : Hid (∀ j, j < k + 1 → nth x j = nth y j) := fun j hj => by
          rcases Nat.lt_or_ge j k with h | h
          · exact HE.out j h
          · obtain rfl : j = k := by omega
            exact he
        rw [← he] at c2
        generalize nth x k = t at *
        have e1 : (t != t) = false := by simp
        clear he
        go_wp2
        go_quiet (fail)
        go_wp2
        go_roundw
        case rel => exact ⟨k + 1, by omega, by go_num, HE2, _, rfl⟩
        case measure => simp [intOf]; omega
      · have hbf : b = false := by
          cases b
          · rfl
          · exact absurd (HB.out.1 rfl k hlt) he
        subst hbf
        generalize nth x k = t at *
        generalize nth y k = s at *
        have e1 : (t != s) = true := by simpa using he
        clear he
        go_wp2
        go_quiet (fail)
        go_wp2
        go_ret
        exact ⟨rfl, bl_dn (bl_dn (Below.refl _ _) _) _⟩
    · obtain rfl : n = k := by omega
      have hbt : b = true := HB.out.2 HE.out
      subst hbt
      go_wp2
      go_ret
      exact ⟨rfl, bl_dn (Below.refl _ _) _⟩
theorem same_any (x y : List Int) (hn : x.length ≤ 1000) (hy : y.length ≤ 1000) (xa ya : Option Addr) (xc yc : Nat) (w : World) (h1 : Ints w xa x) (h2 : Ints w ya y) :
    Calls Try.prog 20 #[.slice xa x.length xc, .slice ya y.length yc] w fun e w' => e = .returned (.bool (decide (x = y))) ∧ Below w.heap.size w w' := by
  by_cases hl : y.length = x.length
  · refine same_core x y _ hl ?_ hn xa ya xc yc w h1 h2
    simp only [decide_eq_true_eq]
    exact ⟨fun h => by subst h; exact fun _ _ => rfl, fun h => nth_ext x y hl.symm h⟩
  · have e : decide (x = y) = false := by
      simp only [decide_eq_false_iff_not]; intro h; subst h; exact hl rfl
    rw [e]
    clear e h1 h2
    generalize x.length = n at *
    generalize y.length = m at *
    have e1 : ((n : Int) != (m : Int)) = true := by simp; omega
    go_enter Try.func20, Try.ntmps20
    go_wp2
    go_ret
    exact ⟨rfl, Below.refl _ _⟩
theorem Lst.ints {B : Nat} {v : Value} {l : List Int} {w : World} (h : Lst B v l w) : ∃ a c, v = .slice a l.length c ∧ Ints w a l := by
  rcases h with ⟨rfl, rfl⟩ | ⟨g, cap, cur, rfl, h2, h3, h4, h5, h6⟩
  · exact ⟨none, 0, rfl, fun j hj => by simp at hj⟩
  · exact ⟨_, _, rfl, fun j hj => ⟨g, 0, rfl, lt_hp h5, by rw [Nat.zero_add]; exact h6 j hj⟩⟩
theorem same_l (B C : Nat) (v u : Value) (x y : List Int) (hx : x.length ≤ 1000) (hy : y.length ≤ 1000) (w : World) (h1 : Lst B v x w) (h2 : Lst C u y w) : Calls Try.prog 20 #[v, u] w fun e w' => e = .returned (.bool (decide (x = y))) ∧ Below w.heap.size w w' := by
  obtain ⟨a1, c1, rfl, i1⟩ := h1.ints
  obtain ⟨a2, c2, rfl, i2⟩ := h2.ints
  exact same_any x y hx hy _ _ _ _ w i1 i2
theorem n1 (x : Int) : nth [x] 0 = x := by unfold nth; rfl
theorem lit1 (x : Int) (w : World) : Lst w.heap.size (.slice (some ⟨w.heap.size, 0, none⟩) 1 1) [x] (w.alloc (.cells #[.int .i64 x] 3)) :=
  .inr ⟨_, 1, _, rfl, Nat.le_refl _, by simp, by omega, heap_alloc_new _ _, fun j hj => by
    have hj0 : j = 0 := by simp at hj; omega
    subst hj0
    rw [n1]
    exact (cell_of_row _ _ 0 _ 3 _ (heap_alloc_new _ _)).trans rfl⟩
def FreshOf (n cn : Nat) (X : List Int) (w : World) (e : Ending) (w' : World) : Prop := ∃ q g b kb vs, e = .returned (.tuple #[.pointer (some ⟨q, 0, none⟩), .pointer (some ⟨g, 0, none⟩), .bool true]) ∧ (w.heap.size ≤ q ∧ w.heap.size ≤ g ∧ w.heap.size ≤ b ∧ w.heap.size ≤ kb) ∧ Si q g b kb 1 n vs [0, (cn : Int) * 16, 0] 1 w' ∧ Lst (b + 1) (vs 0) X w' ∧ Below w.heap.size w w'
set_option maxHeartbeats 2000000 in
theorem fresh_any (n cn B : Nat) (v : Value) (X : List Int) (hX : X.length ≤ 1000) (hn : 1 ≤ n) (hn2 : n ≤ 16) (hc : cn ≤ 1125899906842624) (w : World) (hL : Lst B v X w) :
    Calls Try.prog 17 #[.int .i64 n, v, .int .i64 cn] w (FreshOf n cn X w) := by
  have N := Lib.hid (new_ok 3 (by omega) w)
  have C := Lib.hid (fun g b W (hM : MB 0 g b (List.replicate 3 0) 0 0 0 0 0 false W) hW => new_good g b 1 n cn B (List.replicate 3 0) 0 0 0 0 0 false v X hX (by simp) (by simp) hn hn2 hc (by omega) (by omega) W hM hW)
  rw [show (List.replicate 3 (0 : Int)).set 1 ((cn : Int) * 16) = [0, (cn : Int) * 16, 0] from rfl, show (0 : Int) + 1 = 1 from rfl] at C
  have L := Lib.hid hL
  clear hL hX hc
  go_enter Try.func17, Try.ntmps17
  go_wp2_with fail
  refine N.out.mono ?_; rintro e w1 ⟨g, b, rfl, hg, hb, hm, hbl⟩
  have M := Lib.hid hm
  have Bl := Lib.hid hbl
  have L := Lib.hid (L.out.up hbl)
  have G := Lib.hid (And.intro hg (And.intro hb (lt_hp hm.2)))
  clear hm hbl hg hb N
  go_wp2_with fail
  refine (C.out g b _ M.out L.out).mono ?_; rintro e w2 ⟨q, kb, vs, rfl, hq, hk, f1, f2, f3⟩
  have F : Hid (FreshOf n cn X w (.returned (.tuple #[.pointer (some ⟨q, 0, none⟩), .pointer (some ⟨g, 0, none⟩), .bool true])) w2) := Lib.hid (by
    have h1 := G.out
    have h2 := Bl.out.size
    exact ⟨q, g, b, kb, vs, rfl, by omega, f1, f2.mono (by omega), f3.below Bl.out (by intro i hi; simp at hi; omega) h2⟩)
  clear hq hk f1 f2 f3 C M Bl G L
  go_wp2
  go_ret3
  exact F.out
/-! an act alone -/
section
variable {p q g b kb ia n : Nat} {vs : Nat → Value} {l : List Int} {s : Int} {wk : Int} {xv : Value} {c nx rd : Int} {tk : Bool} {w : World}
set_option maxHeartbeats 2000000 in
theorem run_no (x : Int) (hx : nth l ia = x) (hc : x / 16 ≤ c) (s0 : 0 ≤ s) (s1 : s ≤ 1000) (h : Si q g b kb ia n vs l s w) (ha : Ac p q wk xv c 0 rd tk w) :
    Calls Try.prog 21 #[.pointer (some ⟨p, 0, none⟩)] w fun e w' => e = .returned (.bool true) ∧ Af p q g b kb ia n vs l (s + 1) wk xv c 2 x tk w w' := by
  have O := Lib.hid (over_any false rfl ha)
  have L := Lib.hid (step_look (nx := 2) x hx (by rw [if_pos hc]) s0 (by omega) h ha)
  have O2 := Lib.hid (fun W (hW : Af p q g b kb ia n vs l (s + 1) wk xv c 2 x tk w W) => over_any true rfl hW.ac)
  clear h ha hx hc s0 s1
  go_enter Try.func21, Try.ntmps21
  go_wp2_with fail
  refine wp_loop_rounds 2 ?_
  rw [rounds_succ]
  go_wp2_with fail
  refine O.out.mono ?_; rintro e wx ⟨rfl, rfl⟩
  go_wp2_with fail
  refine L.out.mono ?_; rintro e w1 ⟨rfl, f⟩
  have F := Lib.hid f
  clear f L O
  go_wp2_with fail
  rw [rounds_succ]
  go_wp2_with fail
  refine (O2.out _ F.out).mono ?_; rintro e wx ⟨rfl, rfl⟩
  go_wp2_with fail
  refine (O2.out _ F.out).mono ?_; rintro e wx ⟨rfl, rfl⟩
  go_wp2
  go_ret
  exact ⟨rfl, F.out⟩
set_option maxHeartbeats 2000000 in
theorem run_yes (x : Int) (cn wn : Nat) (hxv : ∃ av nv cv, xv = .slice av nv cv) (hcn : c = cn) (hc1 : cn ≤ 1125899906842624) (hwk : wk = wn) (hwn : wn < n) (hx : nth l ia = x) (hc : ¬ x / 16 ≤ c) (s0 : 0 ≤ s) (s1 : s ≤ 1000) (h : Si q g b kb ia n vs l s w) (ha : Ac p q wk xv c 0 rd tk w) :
    Calls Try.prog 21 #[.pointer (some ⟨p, 0, none⟩)] w fun e w' => e = .returned (.bool true) ∧ Af p q g b kb ia n (upk vs wn xv) (l.set ia ((cn : Int) * 16 + wn)) (s + 2) wk xv c 2 x true w w' := by
  have O := Lib.hid (over_any false rfl ha)
  have L := Lib.hid (step_look (nx := 1) x hx (by rw [if_neg hc]) s0 (by omega) h ha)
  have O1 := Lib.hid (fun W (hW : Af p q g b kb ia n vs l (s + 1) wk xv c 1 x tk w W) => over_any false rfl hW.ac)
  have K : Hid (∀ W, Af p q g b kb ia n vs l (s + 1) wk xv c 1 x tk w W → Calls Try.prog 14 #[.pointer (some ⟨p, 0, none⟩)] W fun e w' => e = .returned (.bool true) ∧ Af p q g b kb ia n (upk vs wn xv) (l.set ia ((cn : Int) * 16 + wn)) (s + 2) wk xv c 2 x true w w') := fun W hW => by
    refine (step_swap x cn wn true hxv hcn hc1 hwk hwn hx (by simp) (by omega) (by omega) hW.st hW.ac).mono ?_
    rintro e w' ⟨rfl, f⟩
    rw [swl_yes _ _ _ _ hx, show s + 1 + 1 = s + 2 by omega] at f
    exact ⟨rfl, f.st, f.ac, hW.tw.trans f.tw⟩
  have O2 := Lib.hid (fun W (hW : Af p q g b kb ia n (upk vs wn xv) (l.set ia ((cn : Int) * 16 + wn)) (s + 2) wk xv c 2 x true w W) => over_any true rfl hW.ac)
  clear h ha hx hc s0 s1 hxv hcn hc1 hwk hwn
  generalize l.set ia ((cn : Int) * 16 + wn) = l2 at *
  generalize upk vs wn xv = vs2 at *
  go_enter Try.func21, Try.ntmps21
  go_wp2_with fail
  refine wp_loop_rounds 3 ?_
  rw [rounds_succ]
  go_wp2_with fail
  refine O.out.mono ?_; rintro e wx ⟨rfl, rfl⟩
  go_wp2_with fail
  refine L.out.mono ?_; rintro e w1 ⟨rfl, f⟩
  have F := Lib.hid f
  clear f L O
  go_wp2_with fail
  rw [rounds_succ]
  go_wp2_with fail
  refine (O1.out _ F.out).mono ?_; rintro e wx ⟨rfl, rfl⟩
  go_wp2_with fail
  refine (K.out _ F.out).mono ?_; rintro e w2 ⟨rfl, f⟩
  have F := Lib.hid f
  clear f K O1
  go_wp2_with fail
  rw [rounds_succ]
  go_wp2_with fail
  refine (O2.out _ F.out).mono ?_; rintro e wx ⟨rfl, rfl⟩
  go_wp2
  go_ret
  exact ⟨rfl, F.out⟩
end
theorem n31 (a x c : Int) : nth [a, x, c] 1 = x := by unfold nth; rfl
section
variable {p q g b kb ia n : Nat} {vs : Nat → Value} {l : List Int} {s : Int} {wk : Int} {xv : Value} {c nx rd : Int} {tk : Bool} {w w1 : World}
theorem Si.lk (h : Si q g b kb ia n vs l s w) (ha : Ac p q wk xv c nx rd tk w) {v : Value} {m : List Int} (hL : Lst (b + 1) v m w) (k : Tw [g, b, kb, p] w w1) : Lst (b + 1) v m w1 := by
  obtain ⟨kk, c, o, m, d, hm⟩ := h.mem
  obtain ⟨C, hC, _⟩ := h.kep
  refine hL.keep k (fun i hi => ?_)
  simp at hi
  rcases hi with rfl | rfl | rfl | rfl
  · exact .inr ⟨_, _, hm.1, by decide⟩
  · exact .inl (by omega)
  · exact .inr ⟨_, _, hC, by decide⟩
  · exact .inr ⟨_, _, ha, by decide⟩
theorem Si.lk2 (h : Si q g b kb ia n vs l s w) {v : Value} {m : List Int} (hL : Lst (b + 1) v m w) (k : Tw [g, b] w w1) : Lst (b + 1) v m w1 := by
  obtain ⟨kk, c, o, m, d, hm⟩ := h.mem
  refine hL.keep k (fun i hi => ?_)
  simp at hi
  rcases hi with rfl | rfl
  · exact .inr ⟨_, _, hm.1, by decide⟩
  · exact .inl (by omega)
theorem Si.up (h : Si q g b kb ia n vs l s w) (k : Below w.heap.size w w1) : Si q g b kb ia n vs l s w1 := h.keep (Tw.of (S := []) k) (by simp) (by simp) (by simp) (by simp)
theorem Ac.up (h : Ac p q wk xv c nx rd tk w) (k : Below w.heap.size w w1) : Ac p q wk xv c nx rd tk w1 := h.keep (Tw.of (S := []) k) (by simp)
end
set_option maxHeartbeats 8000000 in
theorem incs_any (w : World) : Calls Try.prog 10 #[] w fun e w' => e = .returned (.bool true) ∧ Below w.heap.size w w' := by
  have L1 := Lib.hid (lit1 1 w)
  have B1 := Lib.hid (bl_al (Below.refl _ w) (.cells #[.int .i64 1] 3))
  have F := Lib.hid (fun v B W (hW : Lst B v [1] W) => fresh_any 2 9 B v [1] (by simp) (by omega) (by omega) (by omega) W hW)
  rw [show ((2 : Nat) : Int) = 2 from rfl, show ((9 : Nat) : Int) = 9 from rfl] at F
  go_enter Try.func10, Try.ntmps10
  go_wp2_with fail
  refine (F.out _ _ _ L1.out).mono ?_; rintro e w1 ⟨q, g, b, kb, vs, rfl, hs, st, hl, bl⟩
  rw [show ((9 : Nat) : Int) * 16 = 144 from rfl] at st
  have B := Lib.hid (bl_tr B1.out bl)
  have G := Lib.hid (show w.heap.size ≤ q ∧ w.heap.size ≤ g ∧ w.heap.size ≤ b ∧ w.heap.size ≤ kb by have := B1.out.size; omega)
  have S := Lib.hid st
  clear hs st hl bl L1 B1 F
  go_wp2_with fail
  have hal := bl_al (Below.refl _ w1) (.cells #[.int .i64 2] 3)
  have L2 := Lib.hid (lit1 2 w1)
  have S := Lib.hid (S.out.up hal)
  have B := Lib.hid (bl_tr B.out hal)
  clear hal
  refine (offer_any 0 _ 7 [2] _ (by omega) (by omega) (fine_of (by omega)) (by simp) S.out L2.out).mono ?_; rintro e w2 ⟨p1, v1, rfl, hp, hl, ha, hb⟩
  have P1 := Lib.hid (show w.heap.size ≤ p1 ∧ w.heap.size ≤ w2.heap.size by have := B.out.size; have := hb.size; omega)
  have X1 := Lib.hid (hl.mono (show b + 1 ≤ _ from S.out.lt.2.2.2))
  have S := Lib.hid (S.out.up hb)
  have A1 := Lib.hid ha
  have B := Lib.hid (bl_tr B.out hb)
  clear hp hl ha hb L2
  go_wp2_with fail
  have hal := bl_al (Below.refl _ w2) (.cells #[.int .i64 3] 3)
  have L2 := Lib.hid (lit1 3 w2)
  have S := Lib.hid (S.out.up hal)
  have A1 := Lib.hid (A1.out.up hal)
  have X1 := Lib.hid (X1.out.up hal)
  have B := Lib.hid (bl_tr B.out hal)
  clear hal
  refine (offer_any 1 _ 8 [3] _ (by omega) (by omega) (fine_of (by omega)) (by simp) S.out L2.out).mono ?_; rintro e w3 ⟨p2, v2, rfl, hp, hl, ha, hb⟩
  have NE := Lib.hid (show p1 ≠ p2 by have := lt_hp A1.out; omega)
  have P2 := Lib.hid (show w.heap.size ≤ p2 by have := B.out.size; omega)
  have S := Lib.hid (S.out.up hb)
  have A1 := Lib.hid (A1.out.up hb)
  have X1 := Lib.hid (X1.out.up hb)
  have A2 := Lib.hid ha
  have B := Lib.hid (bl_tr B.out hb)
  have F1 := Lib.hid X1.out.form
  clear hp hl ha hb L2
  go_wp2_with fail
  refine (run_yes 144 7 0 F1.out rfl (by omega) rfl (by omega) (n31 _ _ _) (by decide) (by omega) (by omega) S.out A1.out).mono ?_; rintro e w4 ⟨rfl, f⟩
  have A2 := Lib.hid (A2.out.keep f.tw (by have h1 := NE.out; have h2 := A2.out.ne S.out; simp; omega))
  have X1 := Lib.hid (S.out.lk A1.out X1.out f.tw)
  have A1 := Lib.hid f.ac
  have B := Lib.hid (f.tw.below B.out (by intro i hi; simp at hi; have := G.out; have := P1.out; omega) B.out.size)
  have S := Lib.hid f.st
  rw [show [(0 : Int), 144, 0].set 1 (((7 : Nat) : Int) * 16 + ((0 : Nat) : Int)) = [0, 112, 0] from rfl] at S
  clear f F1
  have V0 : Hid (upk vs 0 v1 0 = v1) := Lib.hid rfl
  generalize upk vs 0 v1 = vs2 at *
  go_wp2_with fail
  refine (run_no 112 (n31 _ _ _) (by decide) (by omega) (by omega) S.out A2.out).mono ?_; rintro e w5 ⟨rfl, f⟩
  have A1 := Lib.hid (A1.out.keep f.tw (by have h1 := NE.out; have h2 := A1.out.ne S.out; simp; omega))
  have X1 := Lib.hid (S.out.lk A2.out X1.out f.tw)
  have A2 := Lib.hid f.ac
  have B := Lib.hid (f.tw.below B.out (by intro i hi; simp at hi; have := G.out; have := P2.out; omega) B.out.size)
  have S := Lib.hid f.st
  clear f
  go_wp2_with fail
  refine (taken_any A1.out).mono ?_; rintro e wx ⟨rfl, rfl⟩
  go_wp2_with fail
  refine (taken_any A2.out).mono ?_; rintro e wx ⟨rfl, rfl⟩
  clear A1 A2
  go_wp2_with fail
  have X1 := Lib.hid (show Lst (b + 1) (vs2 0) [2] w5 by rw [V0.out]; exact X1.out)
  have BE := Lib.hid (best_any (b + 1) 0 [2] (by simp) (by rw [n31]; rfl) (by omega) (by omega) S.out X1.out)
  rw [n31, show (112 : Int) / 16 = 7 from rfl] at BE
  refine BE.out.mono ?_; rintro e w6 ⟨v', rfl, hl, hs, ht⟩
  have S := Lib.hid hs
  have B := Lib.hid (ht.below B.out (by intro i hi; simp at hi; have := G.out; omega) B.out.size)
  have X2 := Lib.hid hl
  clear hl hs ht BE X1 V0
  go_wp2_with fail
  have hal := bl_al (Below.refl _ w6) (.cells #[.int .i64 2] 3)
  have L2 := Lib.hid (lit1 2 w6)
  have S := Lib.hid (S.out.up hal)
  have X2 := Lib.hid (X2.out.up hal)
  have B := Lib.hid (bl_tr B.out hal)
  clear hal
  refine (same_l _ _ v' _ [2] [2] (by simp) (by simp) _ X2.out L2.out).mono ?_; rintro e w7 ⟨rfl, hb⟩
  rw [show decide ([(2 : Int)] = [2]) = true from rfl]
  have S := Lib.hid (S.out.up hb)
  have B := Lib.hid (bl_tr B.out hb)
  clear hb L2 X2
  go_wp2_with fail
  have LK := Lib.hid (lookN_any (by omega) (by omega) S.out)
  rw [n31, show (112 : Int) / 16 = 7 from rfl] at LK
  refine LK.out.mono ?_; rintro e w8 ⟨rfl, f1, f2⟩
  have B := Lib.hid (f2.below B.out (by intro i hi; simp at hi; have := G.out; omega) B.out.size)
  clear f1 f2 LK S
  go_wp2
  go_ret
  exact ⟨rfl, B.out⟩
end Go.Proofs.Ytpmkpmenjaekmaa
