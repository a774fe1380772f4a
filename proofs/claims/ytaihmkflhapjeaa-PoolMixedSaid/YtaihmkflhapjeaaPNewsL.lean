/-
  The walk through kurganlaw18.PoolNews.
-/
import Derived.Test.YtaihmkflhapjeaaPoF
import Derived.Deep.Cut
namespace Go.Proofs.Ytaihmkflhapjeaa
open Go.RowKit Go.MuLone
set_option linter.unusedVariables false
theorem u64_bd (x : Int) : 0 ≤ IntKind.u64.wrap x ∧ IntKind.u64.wrap x ≤ 18446744073709551615 := by rw [IntKind.wrap_u64]; omega
theorem newN_nil (x y z : Int) (w : World) : Calls Try.prog 8 #[.pointer none, .int .i64 x, .int .i64 y, .int .i64 z] w fun e w' => e = .returned (.tuple #[.pointer none, .int .i64 1]) ∧ w = w' := by
  by_cases hy : 1 ≤ y ∧ y ≤ 4096
  · have CE := Lib.hid (fun W => pcells_ok y hy.1 hy.2 W)
    go_enter Try.func8, Try.ntmps8
    go_wp2_with fail
    refine (CE.out _).mono ?_; rintro e w1 ⟨rfl, rfl⟩
    go_wp2
    go_ret2
    exact ⟨rfl, rfl⟩
  · have CE := Lib.hid (fun W => pcells_no y (by omega) W)
    go_enter Try.func8, Try.ntmps8
    go_wp2_with fail
    refine (CE.out _).mono ?_; rintro e w1 ⟨rfl, rfl⟩
    go_wp2
    go_ret2
    exact ⟨rfl, rfl⟩
set_option maxHeartbeats 4000000 in
theorem new_bad (g b : Nat) (l : List Int) (s k c o n : Int) (d : Bool) (S W : Int) (hl : l.length ≤ 5000) (hbad : S < 1 ∨ 4096 < S ∨ W < 1 ∨ 16 < W ∨ (l.length : Int) < S + 3) (w : World) (h : MB 0 g b l s k c o n d w) :
    Calls Try.prog 8 #[.pointer (some ⟨g, 0, none⟩), .int .i64 2, .int .i64 S, .int .i64 W] w fun e w' => e = .returned (.tuple #[.pointer none, .int .i64 1]) ∧ w = w' := by
  have SZ := Lib.hid (size_any 0 g b l s k c o n d w h)
  clear h
  generalize l.length = m at *
  by_cases hs : 1 ≤ S ∧ S ≤ 4096
  · have CE := Lib.hid (fun W => pcells_ok S hs.1 hs.2 W)
    have e1 : (S + 1 == 0) = false := by simp; omega
    have hw : IntKind.i64.wrap ((m : Int) - (S + 1)) = (m : Int) - (S + 1) := IntWalk.i64_in _ (by omega)
    by_cases h1 : W < 1
    · clear hbad
      go_enter Try.func8, Try.ntmps8
      go_wp2_with fail
      refine (CE.out _).mono ?_; rintro e w1 ⟨rfl, rfl⟩
      go_wp2
      go_ret2
      exact ⟨rfl, rfl⟩
    have d1 : decide (W < 1) = false := decide_eq_false h1
    by_cases h2 : 16 < W
    · clear hbad
      go_enter Try.func8, Try.ntmps8
      go_wp2_with fail
      refine (CE.out _).mono ?_; rintro e w1 ⟨rfl, rfl⟩
      go_wp2
      go_ret2
      exact ⟨rfl, rfl⟩
    have d2 : decide (16 < W) = false := decide_eq_false h2
    have h3 : (m : Int) - (S + 1) < 2 := by omega
    clear hbad
    go_enter Try.func8, Try.ntmps8
    go_wp2_with fail
    refine (CE.out _).mono ?_; rintro e w1 ⟨rfl, rfl⟩
    go_wp2_with fail
    refine SZ.out.mono ?_; rintro e w1 ⟨rfl, rfl⟩
    go_wp2
    go_ret2
    exact ⟨rfl, rfl⟩
  · have CE := Lib.hid (fun W => pcells_no S (by omega) W)
    clear hbad
    go_enter Try.func8, Try.ntmps8
    go_wp2_with fail
    refine (CE.out _).mono ?_; rintro e w1 ⟨rfl, rfl⟩
    go_wp2
    go_ret2
    exact ⟨rfl, rfl⟩
theorem lf_stk {l : List Int} {base n : Nat} (h : LF l base n) : ∀ m k, k + m = n → Stk l base n (List.range' k m) k
  | 0, k, hk => by simp only [List.range'_zero]; exact .inr (by omega)
  | m + 1, k, hk => by
    rw [List.range'_succ]
    refine ⟨rfl, by omega, ?_⟩
    rw [h.lnk k (by omega)]
    have := lf_stk h m (k + 1) (by omega)
    rw [show ((k + 1 : Nat) : Int) = (k : Int) + 1 by omega] at this
    exact this
theorem tpl1 : tpl 1 = 0 := rfl
set_option maxRecDepth 100000 in
set_option maxHeartbeats 16000000 in
theorem newsA0 (x : Int) (Wn : Nat) (rm U : Int) (Sn m : Nat) (hU : IntKind.u64.wrap rm = U) (hU1 : 0 ≤ U ∧ U ≤ 18446744073709551615) (hm : U % 5000 = (m : Int)) (hm1 : m ≤ 4999) (h1 : 50 < x) (h2 : x ≤ 4096) (hS : 4096 - x % 3 = (Sn : Int)) (g1 : ¬ (Wn : Int) < 1) (g2 : ¬ 16 < (Wn : Int)) (g3 : ¬ (m : Int) < (Sn : Int) + 3) (w : World) :
    Calls Try.prog 3 #[.int .i64 x, .int .i64 (Wn : Int), .int .i64 rm] w fun e w' => e = .returned (.bool true) ∧ Below w.heap.size w w' := by
    have e3 : x % 3 = 4096 - (Sn : Int) := by omega
    have e4 : (4096 : Int) - (4096 - (Sn : Int)) = (Sn : Int) := by omega
    have x0 : 0 ≤ x := by omega
    have sb : 4094 ≤ (Sn : Int) ∧ (Sn : Int) ≤ 4096 := by omega
    have NW := Lib.hid (fun W => new_ok m (by omega) W)
    have C := Lib.hid (fun W => pools_any W)
    have G := Lib.hid (fun g b W (hM : MB 0 g b (List.replicate m 0) 0 0 0 0 0 false W) => new_good g b 2 Sn Wn (List.replicate m 0) 0 0 0 0 0 false (by simp; omega) (by simp; omega) (by omega) (by omega) (by omega) (by omega) (by omega) (by omega) W hM)
    rw [show ((2 : Nat) : Int) = 2 from rfl] at G
    have a1 : decide ((1 : Int) ≤ (Sn : Int)) = true := decide_eq_true (by omega)
    have a2 : decide ((Sn : Int) ≤ 4096) = true := decide_eq_true (by omega)
    have a3 : decide ((1 : Int) ≤ (Wn : Int)) = true := decide_eq_true (by omega)
    have a4 : decide ((Wn : Int) ≤ 16) = true := decide_eq_true (by omega)
    have a5 : decide ((2 : Int) + (Sn : Int) + 1 ≤ (m : Int)) = true := decide_eq_true (by omega)
    have b1 : 1 ≤ Sn := by omega
    have b2 : Sn ≤ 4096 := by omega
    have b3 : 1 ≤ Wn := by omega
    have b4 : Wn ≤ 16 := by omega
    have b5 : (2 : Int) + (Sn : Int) + 1 ≤ (m : Int) := by omega
    have w1' : IntKind.i64.wrap ((2 : Int) + (Sn : Int)) = 2 + (Sn : Int) := IntWalk.i64_in _ (by omega)
    have w2' : IntKind.i64.wrap ((2 : Int) + (Sn : Int) + 1) = 2 + (Sn : Int) + 1 := IntWalk.i64_in _ (by omega)
    have ee : ((Sn : Int) == (Sn : Int)) = true := by simp
    clear g1 g2 g3
    go_enter Try.func3, Try.ntmps3
    go_wp2_with fail
    refine (NW.out _).mono ?_; rintro e w1 ⟨g, b, rfl, hg, hb, hm, hbl⟩
    have M := Lib.hid hm
    have B := Lib.hid hbl
    have P := Lib.hid (show w.heap.size ≤ g ∧ w.heap.size ≤ b from ⟨hg, hb⟩)
    clear hm hbl hg hb NW
    go_wp2_with fail
    refine (G.out g b _ M.out).mono ?_; rintro e w2 ⟨A, l', rfl, hg, hb, hbase, hAn, hAk, hsz, hlen, hlf, po, tw⟩
    subst hg hb
    have PO := Lib.hid po
    have B := Lib.hid (tw.below B.out (by intro i hi; simp at hi; have := P.out; omega) B.out.size)
    have LFh := Lib.hid hlf
    clear hsz hlen hlf po tw G M
    go_wp2_with fail
    refine (newN_nil 0 1 1 _).mono ?_; rintro e w3 ⟨rfl, rfl⟩
    go_wp2_with fail
    refine (C.out _).mono ?_; rintro e w4 ⟨rfl, hb⟩
    have PO := Lib.hid (PO.out.up hb)
    have B := Lib.hid (bl_tr B.out hb)
    clear hb C
    go_wp2_with fail
    refine (none_any _).mono ?_; rintro e w5 ⟨rfl, rfl⟩
    go_wp2_with fail
    refine (slots_nil _).mono ?_; rintro e w5 ⟨rfl, rfl⟩
    go_wp2_with fail
    refine (none_any _).mono ?_; rintro e w5 ⟨rfl, rfl⟩
    go_wp2_with fail
    refine (take_nil 0 _).mono ?_; rintro e w5 ⟨rfl, rfl⟩
    go_wp2_with fail
    refine (none_any _).mono ?_; rintro e w5 ⟨rfl, rfl⟩
    go_wp2_with fail
    refine (give_nil 0 0 _).mono ?_; rintro e w5 ⟨rfl, rfl⟩
    go_wp2_with fail
    refine (none_any _).mono ?_; rintro e w5 ⟨rfl, rfl⟩
    go_wp2_with fail
    refine (own_nil' 0 _).mono ?_; rintro e w5 ⟨rfl, rfl⟩
    go_wp2_with fail
    refine (none_any _).mono ?_; rintro e w5 ⟨rfl, rfl⟩
    go_wp2_with fail
    refine (shared_nil _).mono ?_; rintro e w5 ⟨rfl, rfl⟩
    go_wp2_with fail
    refine (over_nil _).mono ?_; rintro e w5 ⟨rfl, rfl⟩
    go_wp2_with fail
    refine (stepA_nil _).mono ?_; rintro e w5 ⟨rfl, rfl⟩
    go_wp2_with fail
    refine (slot_nil _).mono ?_; rintro e w5 ⟨rfl, rfl⟩
    go_wp2_with fail
    have SL := Lib.hid (slots_any _ _ _ _ _ _ _ _ _ PO.out.box)
    rw [hAn] at SL
    refine SL.out.mono ?_; rintro e w6 ⟨rfl, rfl⟩
    clear SL
    go_wp2_with fail
    refine (shared_any 1 (List.range' 0 Sn) (by rw [hbase]; exact LFh.out.top) (by omega) (by omega) (by rw [tpl1, hbase, hAn]; exact lf_stk LFh.out Sn 0 (by omega)) (by simp [hAn]) PO.out).mono ?_; rintro e w7 ⟨v, rfl, hrow, po, tw⟩
    obtain ⟨xa, xc, rfl⟩ := own_sl hrow
    rw [List.length_range']
    have PO := Lib.hid po
    have B := Lib.hid (tw.below B.out (by intro i hi; simp at hi; have := P.out; omega) B.out.size)
    clear hrow po tw LFh
    go_wp2_with fail
    refine (take_no (Wn : Int) (.inr (by omega)) PO.out).mono ?_; rintro e w8 ⟨rfl, rfl⟩
    go_wp2_with fail
    refine (take_no (-1) (.inl (by omega)) PO.out).mono ?_; rintro e w8 ⟨rfl, rfl⟩
    go_wp2_with fail
    refine (give_slot 0 (Sn : Int) (by omega) (by omega) (.inr (by omega)) PO.out).mono ?_; rintro e w8 ⟨rfl, rfl⟩
    go_wp2_with fail
    refine (give_who (Wn : Int) 0 (.inr (by omega)) PO.out).mono ?_; rintro e w8 ⟨rfl, rfl⟩
    clear PO
    go_wp2
    go_ret
    exact ⟨rfl, B.out⟩

set_option maxRecDepth 100000 in
set_option maxHeartbeats 16000000 in
theorem newsB0 (x : Int) (Wn : Nat) (rm U : Int) (Sn m : Nat) (hU : IntKind.u64.wrap rm = U) (hU1 : 0 ≤ U ∧ U ≤ 18446744073709551615) (hm : U % 5000 = (m : Int)) (hm1 : m ≤ 4999) (h1 : ¬ 50 < x) (g0 : ¬ x < 1) (hS : x = (Sn : Int)) (g1 : ¬ (Wn : Int) < 1) (g2 : ¬ 16 < (Wn : Int)) (g3 : ¬ (m : Int) < (Sn : Int) + 3) (w : World) :
    Calls Try.prog 3 #[.int .i64 x, .int .i64 (Wn : Int), .int .i64 rm] w fun e w' => e = .returned (.bool true) ∧ Below w.heap.size w w' := by
    subst hS
    have d1 : decide (50 < (Sn : Int)) = false := decide_eq_false h1
    have NW := Lib.hid (fun W => new_ok m (by omega) W)
    have C := Lib.hid (fun W => pools_any W)
    have G := Lib.hid (fun g b W (hM : MB 0 g b (List.replicate m 0) 0 0 0 0 0 false W) => new_good g b 2 Sn Wn (List.replicate m 0) 0 0 0 0 0 false (by simp; omega) (by simp; omega) (by omega) (by omega) (by omega) (by omega) (by omega) (by omega) W hM)
    rw [show ((2 : Nat) : Int) = 2 from rfl] at G
    have a1 : decide ((1 : Int) ≤ (Sn : Int)) = true := decide_eq_true (by omega)
    have a2 : decide ((Sn : Int) ≤ 4096) = true := decide_eq_true (by omega)
    have a3 : decide ((1 : Int) ≤ (Wn : Int)) = true := decide_eq_true (by omega)
    have a4 : decide ((Wn : Int) ≤ 16) = true := decide_eq_true (by omega)
    have a5 : decide ((2 : Int) + (Sn : Int) + 1 ≤ (m : Int)) = true := decide_eq_true (by omega)
    have b1 : 1 ≤ Sn := by omega
    have b2 : Sn ≤ 4096 := by omega
    have b3 : 1 ≤ Wn := by omega
    have b4 : Wn ≤ 16 := by omega
    have b5 : (2 : Int) + (Sn : Int) + 1 ≤ (m : Int) := by omega
    have w1' : IntKind.i64.wrap ((2 : Int) + (Sn : Int)) = 2 + (Sn : Int) := IntWalk.i64_in _ (by omega)
    have w2' : IntKind.i64.wrap ((2 : Int) + (Sn : Int) + 1) = 2 + (Sn : Int) + 1 := IntWalk.i64_in _ (by omega)
    have ee : ((Sn : Int) == (Sn : Int)) = true := by simp
    clear g1 g2 g3
    go_enter Try.func3, Try.ntmps3
    go_wp2_with fail
    refine (NW.out _).mono ?_; rintro e w1 ⟨g, b, rfl, hg, hb, hm, hbl⟩
    have M := Lib.hid hm
    have B := Lib.hid hbl
    have P := Lib.hid (show w.heap.size ≤ g ∧ w.heap.size ≤ b from ⟨hg, hb⟩)
    clear hm hbl hg hb NW
    go_wp2_with fail
    refine (G.out g b _ M.out).mono ?_; rintro e w2 ⟨A, l', rfl, hg, hb, hbase, hAn, hAk, hsz, hlen, hlf, po, tw⟩
    subst hg hb
    have PO := Lib.hid po
    have B := Lib.hid (tw.below B.out (by intro i hi; simp at hi; have := P.out; omega) B.out.size)
    have LFh := Lib.hid hlf
    clear hsz hlen hlf po tw G M
    go_wp2_with fail
    refine (newN_nil 0 1 1 _).mono ?_; rintro e w3 ⟨rfl, rfl⟩
    go_wp2_with fail
    refine (C.out _).mono ?_; rintro e w4 ⟨rfl, hb⟩
    have PO := Lib.hid (PO.out.up hb)
    have B := Lib.hid (bl_tr B.out hb)
    clear hb C
    go_wp2_with fail
    refine (none_any _).mono ?_; rintro e w5 ⟨rfl, rfl⟩
    go_wp2_with fail
    refine (slots_nil _).mono ?_; rintro e w5 ⟨rfl, rfl⟩
    go_wp2_with fail
    refine (none_any _).mono ?_; rintro e w5 ⟨rfl, rfl⟩
    go_wp2_with fail
    refine (take_nil 0 _).mono ?_; rintro e w5 ⟨rfl, rfl⟩
    go_wp2_with fail
    refine (none_any _).mono ?_; rintro e w5 ⟨rfl, rfl⟩
    go_wp2_with fail
    refine (give_nil 0 0 _).mono ?_; rintro e w5 ⟨rfl, rfl⟩
    go_wp2_with fail
    refine (none_any _).mono ?_; rintro e w5 ⟨rfl, rfl⟩
    go_wp2_with fail
    refine (own_nil' 0 _).mono ?_; rintro e w5 ⟨rfl, rfl⟩
    go_wp2_with fail
    refine (none_any _).mono ?_; rintro e w5 ⟨rfl, rfl⟩
    go_wp2_with fail
    refine (shared_nil _).mono ?_; rintro e w5 ⟨rfl, rfl⟩
    go_wp2_with fail
    refine (over_nil _).mono ?_; rintro e w5 ⟨rfl, rfl⟩
    go_wp2_with fail
    refine (stepA_nil _).mono ?_; rintro e w5 ⟨rfl, rfl⟩
    go_wp2_with fail
    refine (slot_nil _).mono ?_; rintro e w5 ⟨rfl, rfl⟩
    go_wp2_with fail
    have SL := Lib.hid (slots_any _ _ _ _ _ _ _ _ _ PO.out.box)
    rw [hAn] at SL
    refine SL.out.mono ?_; rintro e w6 ⟨rfl, rfl⟩
    clear SL
    go_wp2_with fail
    refine (shared_any 1 (List.range' 0 Sn) (by rw [hbase]; exact LFh.out.top) (by omega) (by omega) (by rw [tpl1, hbase, hAn]; exact lf_stk LFh.out Sn 0 (by omega)) (by simp [hAn]) PO.out).mono ?_; rintro e w7 ⟨v, rfl, hrow, po, tw⟩
    obtain ⟨xa, xc, rfl⟩ := own_sl hrow
    rw [List.length_range']
    have PO := Lib.hid po
    have B := Lib.hid (tw.below B.out (by intro i hi; simp at hi; have := P.out; omega) B.out.size)
    clear hrow po tw LFh
    go_wp2_with fail
    refine (take_no (Wn : Int) (.inr (by omega)) PO.out).mono ?_; rintro e w8 ⟨rfl, rfl⟩
    go_wp2_with fail
    refine (take_no (-1) (.inl (by omega)) PO.out).mono ?_; rintro e w8 ⟨rfl, rfl⟩
    go_wp2_with fail
    refine (give_slot 0 (Sn : Int) (by omega) (by omega) (.inr (by omega)) PO.out).mono ?_; rintro e w8 ⟨rfl, rfl⟩
    go_wp2_with fail
    refine (give_who (Wn : Int) 0 (.inr (by omega)) PO.out).mono ?_; rintro e w8 ⟨rfl, rfl⟩
    clear PO
    go_wp2
    go_ret
    exact ⟨rfl, B.out⟩

set_option maxRecDepth 100000 in
set_option maxHeartbeats 16000000 in
theorem newsA1 (x W rm U S : Int) (m : Nat) (hU : IntKind.u64.wrap rm = U) (hU1 : 0 ≤ U ∧ U ≤ 18446744073709551615) (hm : U % 5000 = (m : Int)) (hm1 : m ≤ 4999) (h1 : 50 < x) (h2 : x ≤ 4096) (hS : 4096 - x % 3 = S) (g1 : W < 1) (w : World) :
    Calls Try.prog 3 #[.int .i64 x, .int .i64 W, .int .i64 rm] w fun e w' => e = .returned (.bool true) ∧ Below w.heap.size w w' := by
    have e3 : x % 3 = 4096 - S := by omega
    have e4 : (4096 : Int) - (4096 - S) = S := by omega
    have x0 : 0 ≤ x := by omega
    have sb : 4094 ≤ S ∧ S ≤ 4096 := by omega
    have a1 : decide (1 ≤ S) = true := decide_eq_true (by omega)
    have a2 : decide (S ≤ 4096) = true := decide_eq_true (by omega)
    have c1 : ¬ 4096 < S := by omega
    have wS : IntKind.i64.wrap (S + 1) = S + 1 := IntWalk.i64_in _ (by omega)
    have a3 : decide (1 ≤ W) = false := decide_eq_false (by omega)
    have NW := Lib.hid (fun W => new_ok m (by omega) W)
    have C := Lib.hid (fun W => pools_any W)
    have G := Lib.hid (fun g b W2 (hM : MB 0 g b (List.replicate m 0) 0 0 0 0 0 false W2) => new_bad g b (List.replicate m 0) 0 0 0 0 0 false S W (by simp; omega) (by simp; omega) W2 hM)
    go_enter Try.func3, Try.ntmps3
    go_wp2_with fail
    refine (NW.out _).mono ?_; rintro e w1 ⟨g, b, rfl, hg, hb, hm, hbl⟩
    have M := Lib.hid hm
    have B := Lib.hid hbl
    have P := Lib.hid (show w.heap.size ≤ g ∧ w.heap.size ≤ b from ⟨hg, hb⟩)
    clear hm hbl hg hb NW
    go_wp2_with fail
    refine (G.out g b _ M.out).mono ?_; rintro e w2 ⟨rfl, rfl⟩
    clear G M
    go_wp2_with fail
    refine (newN_nil 0 1 1 _).mono ?_; rintro e w3 ⟨rfl, rfl⟩
    go_wp2_with fail
    refine (C.out _).mono ?_; rintro e w4 ⟨rfl, hb⟩
    have B := Lib.hid (bl_tr B.out hb)
    clear hb C
    go_wp2_with fail
    refine (none_any _).mono ?_; rintro e w5 ⟨rfl, rfl⟩
    go_wp2_with fail
    refine (slots_nil _).mono ?_; rintro e w5 ⟨rfl, rfl⟩
    go_wp2_with fail
    refine (none_any _).mono ?_; rintro e w5 ⟨rfl, rfl⟩
    go_wp2_with fail
    refine (take_nil 0 _).mono ?_; rintro e w5 ⟨rfl, rfl⟩
    go_wp2_with fail
    refine (none_any _).mono ?_; rintro e w5 ⟨rfl, rfl⟩
    go_wp2_with fail
    refine (give_nil 0 0 _).mono ?_; rintro e w5 ⟨rfl, rfl⟩
    go_wp2_with fail
    refine (none_any _).mono ?_; rintro e w5 ⟨rfl, rfl⟩
    go_wp2_with fail
    refine (own_nil' 0 _).mono ?_; rintro e w5 ⟨rfl, rfl⟩
    go_wp2_with fail
    refine (none_any _).mono ?_; rintro e w5 ⟨rfl, rfl⟩
    go_wp2_with fail
    refine (shared_nil _).mono ?_; rintro e w5 ⟨rfl, rfl⟩
    go_wp2_with fail
    refine (over_nil _).mono ?_; rintro e w5 ⟨rfl, rfl⟩
    go_wp2_with fail
    refine (stepA_nil _).mono ?_; rintro e w5 ⟨rfl, rfl⟩
    go_wp2_with fail
    refine (slot_nil _).mono ?_; rintro e w5 ⟨rfl, rfl⟩
    go_wp2_with fail
    refine (pcells_ok S (by omega) (by omega) _).mono ?_; rintro e w6 ⟨rfl, rfl⟩
    have ee : (S + 1 == S + 1) = true := by simp
    go_wp2
    all_goals go_ret
    all_goals exact ⟨rfl, B.out⟩

set_option maxRecDepth 100000 in
set_option maxHeartbeats 16000000 in
theorem newsA2 (x W rm U S : Int) (m : Nat) (hU : IntKind.u64.wrap rm = U) (hU1 : 0 ≤ U ∧ U ≤ 18446744073709551615) (hm : U % 5000 = (m : Int)) (hm1 : m ≤ 4999) (h1 : 50 < x) (h2 : x ≤ 4096) (hS : 4096 - x % 3 = S) (g1 : ¬ W < 1) (g2 : 16 < W) (w : World) :
    Calls Try.prog 3 #[.int .i64 x, .int .i64 W, .int .i64 rm] w fun e w' => e = .returned (.bool true) ∧ Below w.heap.size w w' := by
    have e3 : x % 3 = 4096 - S := by omega
    have e4 : (4096 : Int) - (4096 - S) = S := by omega
    have x0 : 0 ≤ x := by omega
    have sb : 4094 ≤ S ∧ S ≤ 4096 := by omega
    have a1 : decide (1 ≤ S) = true := decide_eq_true (by omega)
    have a2 : decide (S ≤ 4096) = true := decide_eq_true (by omega)
    have c1 : ¬ 4096 < S := by omega
    have wS : IntKind.i64.wrap (S + 1) = S + 1 := IntWalk.i64_in _ (by omega)
    have a3 : decide (1 ≤ W) = true := decide_eq_true (by omega)
    have a4 : decide (W ≤ 16) = false := decide_eq_false (by omega)
    have NW := Lib.hid (fun W => new_ok m (by omega) W)
    have C := Lib.hid (fun W => pools_any W)
    have G := Lib.hid (fun g b W2 (hM : MB 0 g b (List.replicate m 0) 0 0 0 0 0 false W2) => new_bad g b (List.replicate m 0) 0 0 0 0 0 false S W (by simp; omega) (by simp; omega) W2 hM)
    go_enter Try.func3, Try.ntmps3
    go_wp2_with fail
    refine (NW.out _).mono ?_; rintro e w1 ⟨g, b, rfl, hg, hb, hm, hbl⟩
    have M := Lib.hid hm
    have B := Lib.hid hbl
    have P := Lib.hid (show w.heap.size ≤ g ∧ w.heap.size ≤ b from ⟨hg, hb⟩)
    clear hm hbl hg hb NW
    go_wp2_with fail
    refine (G.out g b _ M.out).mono ?_; rintro e w2 ⟨rfl, rfl⟩
    clear G M
    go_wp2_with fail
    refine (newN_nil 0 1 1 _).mono ?_; rintro e w3 ⟨rfl, rfl⟩
    go_wp2_with fail
    refine (C.out _).mono ?_; rintro e w4 ⟨rfl, hb⟩
    have B := Lib.hid (bl_tr B.out hb)
    clear hb C
    go_wp2_with fail
    refine (none_any _).mono ?_; rintro e w5 ⟨rfl, rfl⟩
    go_wp2_with fail
    refine (slots_nil _).mono ?_; rintro e w5 ⟨rfl, rfl⟩
    go_wp2_with fail
    refine (none_any _).mono ?_; rintro e w5 ⟨rfl, rfl⟩
    go_wp2_with fail
    refine (take_nil 0 _).mono ?_; rintro e w5 ⟨rfl, rfl⟩
    go_wp2_with fail
    refine (none_any _).mono ?_; rintro e w5 ⟨rfl, rfl⟩
    go_wp2_with fail
    refine (give_nil 0 0 _).mono ?_; rintro e w5 ⟨rfl, rfl⟩
    go_wp2_with fail
    refine (none_any _).mono ?_; rintro e w5 ⟨rfl, rfl⟩
    go_wp2_with fail
    refine (own_nil' 0 _).mono ?_; rintro e w5 ⟨rfl, rfl⟩
    go_wp2_with fail
    refine (none_any _).mono ?_; rintro e w5 ⟨rfl, rfl⟩
    go_wp2_with fail
    refine (shared_nil _).mono ?_; rintro e w5 ⟨rfl, rfl⟩
    go_wp2_with fail
    refine (over_nil _).mono ?_; rintro e w5 ⟨rfl, rfl⟩
    go_wp2_with fail
    refine (stepA_nil _).mono ?_; rintro e w5 ⟨rfl, rfl⟩
    go_wp2_with fail
    refine (slot_nil _).mono ?_; rintro e w5 ⟨rfl, rfl⟩
    go_wp2_with fail
    refine (pcells_ok S (by omega) (by omega) _).mono ?_; rintro e w6 ⟨rfl, rfl⟩
    have ee : (S + 1 == S + 1) = true := by simp
    go_wp2
    all_goals go_ret
    all_goals exact ⟨rfl, B.out⟩

set_option maxRecDepth 100000 in
set_option maxHeartbeats 16000000 in
theorem newsA3 (x W rm U S : Int) (m : Nat) (hU : IntKind.u64.wrap rm = U) (hU1 : 0 ≤ U ∧ U ≤ 18446744073709551615) (hm : U % 5000 = (m : Int)) (hm1 : m ≤ 4999) (h1 : 50 < x) (h2 : x ≤ 4096) (hS : 4096 - x % 3 = S) (g1 : ¬ W < 1) (g2 : ¬ 16 < W) (g3 : (m : Int) < S + 3) (w : World) :
    Calls Try.prog 3 #[.int .i64 x, .int .i64 W, .int .i64 rm] w fun e w' => e = .returned (.bool true) ∧ Below w.heap.size w w' := by
    have e3 : x % 3 = 4096 - S := by omega
    have e4 : (4096 : Int) - (4096 - S) = S := by omega
    have x0 : 0 ≤ x := by omega
    have sb : 4094 ≤ S ∧ S ≤ 4096 := by omega
    have a1 : decide (1 ≤ S) = true := decide_eq_true (by omega)
    have a2 : decide (S ≤ 4096) = true := decide_eq_true (by omega)
    have c1 : ¬ 4096 < S := by omega
    have wS : IntKind.i64.wrap (S + 1) = S + 1 := IntWalk.i64_in _ (by omega)
    have a3 : decide (1 ≤ W) = true := decide_eq_true (by omega)
    have a4 : decide (W ≤ 16) = true := decide_eq_true (by omega)
    have a5 : decide (2 + S + 1 ≤ (m : Int)) = false := decide_eq_false (by omega)
    have b5 : ¬ (2 + S + 1 ≤ (m : Int)) := by omega
    have w1' : IntKind.i64.wrap (2 + S) = 2 + S := IntWalk.i64_in _ (by omega)
    have w2' : IntKind.i64.wrap (2 + S + 1) = 2 + S + 1 := IntWalk.i64_in _ (by omega)
    have NW := Lib.hid (fun W => new_ok m (by omega) W)
    have C := Lib.hid (fun W => pools_any W)
    have G := Lib.hid (fun g b W2 (hM : MB 0 g b (List.replicate m 0) 0 0 0 0 0 false W2) => new_bad g b (List.replicate m 0) 0 0 0 0 0 false S W (by simp; omega) (by simp; omega) W2 hM)
    go_enter Try.func3, Try.ntmps3
    go_wp2_with fail
    refine (NW.out _).mono ?_; rintro e w1 ⟨g, b, rfl, hg, hb, hm, hbl⟩
    have M := Lib.hid hm
    have B := Lib.hid hbl
    have P := Lib.hid (show w.heap.size ≤ g ∧ w.heap.size ≤ b from ⟨hg, hb⟩)
    clear hm hbl hg hb NW
    go_wp2_with fail
    refine (G.out g b _ M.out).mono ?_; rintro e w2 ⟨rfl, rfl⟩
    clear G M
    go_wp2_with fail
    refine (newN_nil 0 1 1 _).mono ?_; rintro e w3 ⟨rfl, rfl⟩
    go_wp2_with fail
    refine (C.out _).mono ?_; rintro e w4 ⟨rfl, hb⟩
    have B := Lib.hid (bl_tr B.out hb)
    clear hb C
    go_wp2_with fail
    refine (none_any _).mono ?_; rintro e w5 ⟨rfl, rfl⟩
    go_wp2_with fail
    refine (slots_nil _).mono ?_; rintro e w5 ⟨rfl, rfl⟩
    go_wp2_with fail
    refine (none_any _).mono ?_; rintro e w5 ⟨rfl, rfl⟩
    go_wp2_with fail
    refine (take_nil 0 _).mono ?_; rintro e w5 ⟨rfl, rfl⟩
    go_wp2_with fail
    refine (none_any _).mono ?_; rintro e w5 ⟨rfl, rfl⟩
    go_wp2_with fail
    refine (give_nil 0 0 _).mono ?_; rintro e w5 ⟨rfl, rfl⟩
    go_wp2_with fail
    refine (none_any _).mono ?_; rintro e w5 ⟨rfl, rfl⟩
    go_wp2_with fail
    refine (own_nil' 0 _).mono ?_; rintro e w5 ⟨rfl, rfl⟩
    go_wp2_with fail
    refine (none_any _).mono ?_; rintro e w5 ⟨rfl, rfl⟩
    go_wp2_with fail
    refine (shared_nil _).mono ?_; rintro e w5 ⟨rfl, rfl⟩
    go_wp2_with fail
    refine (over_nil _).mono ?_; rintro e w5 ⟨rfl, rfl⟩
    go_wp2_with fail
    refine (stepA_nil _).mono ?_; rintro e w5 ⟨rfl, rfl⟩
    go_wp2_with fail
    refine (slot_nil _).mono ?_; rintro e w5 ⟨rfl, rfl⟩
    go_wp2_with fail
    refine (pcells_ok S (by omega) (by omega) _).mono ?_; rintro e w6 ⟨rfl, rfl⟩
    have ee : (S + 1 == S + 1) = true := by simp
    go_wp2
    all_goals go_ret
    all_goals exact ⟨rfl, B.out⟩

set_option maxRecDepth 100000 in
set_option maxHeartbeats 16000000 in
theorem newsB1 (x W rm U S : Int) (m : Nat) (hU : IntKind.u64.wrap rm = U) (hU1 : 0 ≤ U ∧ U ≤ 18446744073709551615) (hm : U % 5000 = (m : Int)) (hm1 : m ≤ 4999) (h1 : ¬ 50 < x) (g0 : ¬ x < 1) (hS : x = S) (g1 : W < 1) (w : World) :
    Calls Try.prog 3 #[.int .i64 x, .int .i64 W, .int .i64 rm] w fun e w' => e = .returned (.bool true) ∧ Below w.heap.size w w' := by
    subst hS
    have d1 : decide (50 < x) = false := decide_eq_false h1
    have a1 : decide (1 ≤ x) = true := decide_eq_true (by omega)
    have a2 : decide (x ≤ 4096) = true := decide_eq_true (by omega)
    have c1 : ¬ 4096 < x := by omega
    have wx : IntKind.i64.wrap (x + 1) = x + 1 := IntWalk.i64_in _ (by omega)
    have a3 : decide (1 ≤ W) = false := decide_eq_false (by omega)
    have NW := Lib.hid (fun W => new_ok m (by omega) W)
    have C := Lib.hid (fun W => pools_any W)
    have G := Lib.hid (fun g b W2 (hM : MB 0 g b (List.replicate m 0) 0 0 0 0 0 false W2) => new_bad g b (List.replicate m 0) 0 0 0 0 0 false x W (by simp; omega) (by simp; omega) W2 hM)
    go_enter Try.func3, Try.ntmps3
    go_wp2_with fail
    refine (NW.out _).mono ?_; rintro e w1 ⟨g, b, rfl, hg, hb, hm, hbl⟩
    have M := Lib.hid hm
    have B := Lib.hid hbl
    have P := Lib.hid (show w.heap.size ≤ g ∧ w.heap.size ≤ b from ⟨hg, hb⟩)
    clear hm hbl hg hb NW
    go_wp2_with fail
    refine (G.out g b _ M.out).mono ?_; rintro e w2 ⟨rfl, rfl⟩
    clear G M
    go_wp2_with fail
    refine (newN_nil 0 1 1 _).mono ?_; rintro e w3 ⟨rfl, rfl⟩
    go_wp2_with fail
    refine (C.out _).mono ?_; rintro e w4 ⟨rfl, hb⟩
    have B := Lib.hid (bl_tr B.out hb)
    clear hb C
    go_wp2_with fail
    refine (none_any _).mono ?_; rintro e w5 ⟨rfl, rfl⟩
    go_wp2_with fail
    refine (slots_nil _).mono ?_; rintro e w5 ⟨rfl, rfl⟩
    go_wp2_with fail
    refine (none_any _).mono ?_; rintro e w5 ⟨rfl, rfl⟩
    go_wp2_with fail
    refine (take_nil 0 _).mono ?_; rintro e w5 ⟨rfl, rfl⟩
    go_wp2_with fail
    refine (none_any _).mono ?_; rintro e w5 ⟨rfl, rfl⟩
    go_wp2_with fail
    refine (give_nil 0 0 _).mono ?_; rintro e w5 ⟨rfl, rfl⟩
    go_wp2_with fail
    refine (none_any _).mono ?_; rintro e w5 ⟨rfl, rfl⟩
    go_wp2_with fail
    refine (own_nil' 0 _).mono ?_; rintro e w5 ⟨rfl, rfl⟩
    go_wp2_with fail
    refine (none_any _).mono ?_; rintro e w5 ⟨rfl, rfl⟩
    go_wp2_with fail
    refine (shared_nil _).mono ?_; rintro e w5 ⟨rfl, rfl⟩
    go_wp2_with fail
    refine (over_nil _).mono ?_; rintro e w5 ⟨rfl, rfl⟩
    go_wp2_with fail
    refine (stepA_nil _).mono ?_; rintro e w5 ⟨rfl, rfl⟩
    go_wp2_with fail
    refine (slot_nil _).mono ?_; rintro e w5 ⟨rfl, rfl⟩
    go_wp2_with fail
    refine (pcells_ok x (by omega) (by omega) _).mono ?_; rintro e w6 ⟨rfl, rfl⟩
    have ee : (x + 1 == x + 1) = true := by simp
    go_wp2
    all_goals go_ret
    all_goals exact ⟨rfl, B.out⟩

set_option maxRecDepth 100000 in
set_option maxHeartbeats 16000000 in
theorem newsB2 (x W rm U S : Int) (m : Nat) (hU : IntKind.u64.wrap rm = U) (hU1 : 0 ≤ U ∧ U ≤ 18446744073709551615) (hm : U % 5000 = (m : Int)) (hm1 : m ≤ 4999) (h1 : ¬ 50 < x) (g0 : ¬ x < 1) (hS : x = S) (g1 : ¬ W < 1) (g2 : 16 < W) (w : World) :
    Calls Try.prog 3 #[.int .i64 x, .int .i64 W, .int .i64 rm] w fun e w' => e = .returned (.bool true) ∧ Below w.heap.size w w' := by
    subst hS
    have d1 : decide (50 < x) = false := decide_eq_false h1
    have a1 : decide (1 ≤ x) = true := decide_eq_true (by omega)
    have a2 : decide (x ≤ 4096) = true := decide_eq_true (by omega)
    have c1 : ¬ 4096 < x := by omega
    have wx : IntKind.i64.wrap (x + 1) = x + 1 := IntWalk.i64_in _ (by omega)
    have a3 : decide (1 ≤ W) = true := decide_eq_true (by omega)
    have a4 : decide (W ≤ 16) = false := decide_eq_false (by omega)
    have NW := Lib.hid (fun W => new_ok m (by omega) W)
    have C := Lib.hid (fun W => pools_any W)
    have G := Lib.hid (fun g b W2 (hM : MB 0 g b (List.replicate m 0) 0 0 0 0 0 false W2) => new_bad g b (List.replicate m 0) 0 0 0 0 0 false x W (by simp; omega) (by simp; omega) W2 hM)
    go_enter Try.func3, Try.ntmps3
    go_wp2_with fail
    refine (NW.out _).mono ?_; rintro e w1 ⟨g, b, rfl, hg, hb, hm, hbl⟩
    have M := Lib.hid hm
    have B := Lib.hid hbl
    have P := Lib.hid (show w.heap.size ≤ g ∧ w.heap.size ≤ b from ⟨hg, hb⟩)
    clear hm hbl hg hb NW
    go_wp2_with fail
    refine (G.out g b _ M.out).mono ?_; rintro e w2 ⟨rfl, rfl⟩
    clear G M
    go_wp2_with fail
    refine (newN_nil 0 1 1 _).mono ?_; rintro e w3 ⟨rfl, rfl⟩
    go_wp2_with fail
    refine (C.out _).mono ?_; rintro e w4 ⟨rfl, hb⟩
    have B := Lib.hid (bl_tr B.out hb)
    clear hb C
    go_wp2_with fail
    refine (none_any _).mono ?_; rintro e w5 ⟨rfl, rfl⟩
    go_wp2_with fail
    refine (slots_nil _).mono ?_; rintro e w5 ⟨rfl, rfl⟩
    go_wp2_with fail
    refine (none_any _).mono ?_; rintro e w5 ⟨rfl, rfl⟩
    go_wp2_with fail
    refine (take_nil 0 _).mono ?_; rintro e w5 ⟨rfl, rfl⟩
    go_wp2_with fail
    refine (none_any _).mono ?_; rintro e w5 ⟨rfl, rfl⟩
    go_wp2_with fail
    refine (give_nil 0 0 _).mono ?_; rintro e w5 ⟨rfl, rfl⟩
    go_wp2_with fail
    refine (none_any _).mono ?_; rintro e w5 ⟨rfl, rfl⟩
    go_wp2_with fail
    refine (own_nil' 0 _).mono ?_; rintro e w5 ⟨rfl, rfl⟩
    go_wp2_with fail
    refine (none_any _).mono ?_; rintro e w5 ⟨rfl, rfl⟩
    go_wp2_with fail
    refine (shared_nil _).mono ?_; rintro e w5 ⟨rfl, rfl⟩
    go_wp2_with fail
    refine (over_nil _).mono ?_; rintro e w5 ⟨rfl, rfl⟩
    go_wp2_with fail
    refine (stepA_nil _).mono ?_; rintro e w5 ⟨rfl, rfl⟩
    go_wp2_with fail
    refine (slot_nil _).mono ?_; rintro e w5 ⟨rfl, rfl⟩
    go_wp2_with fail
    refine (pcells_ok x (by omega) (by omega) _).mono ?_; rintro e w6 ⟨rfl, rfl⟩
    have ee : (x + 1 == x + 1) = true := by simp
    go_wp2
    all_goals go_ret
    all_goals exact ⟨rfl, B.out⟩

set_option maxRecDepth 100000 in
set_option maxHeartbeats 16000000 in
theorem newsB3 (x W rm U S : Int) (m : Nat) (hU : IntKind.u64.wrap rm = U) (hU1 : 0 ≤ U ∧ U ≤ 18446744073709551615) (hm : U % 5000 = (m : Int)) (hm1 : m ≤ 4999) (h1 : ¬ 50 < x) (g0 : ¬ x < 1) (hS : x = S) (g1 : ¬ W < 1) (g2 : ¬ 16 < W) (g3 : (m : Int) < S + 3) (w : World) :
    Calls Try.prog 3 #[.int .i64 x, .int .i64 W, .int .i64 rm] w fun e w' => e = .returned (.bool true) ∧ Below w.heap.size w w' := by
    subst hS
    have d1 : decide (50 < x) = false := decide_eq_false h1
    have a1 : decide (1 ≤ x) = true := decide_eq_true (by omega)
    have a2 : decide (x ≤ 4096) = true := decide_eq_true (by omega)
    have c1 : ¬ 4096 < x := by omega
    have wx : IntKind.i64.wrap (x + 1) = x + 1 := IntWalk.i64_in _ (by omega)
    have a3 : decide (1 ≤ W) = true := decide_eq_true (by omega)
    have a4 : decide (W ≤ 16) = true := decide_eq_true (by omega)
    have a5 : decide (2 + x + 1 ≤ (m : Int)) = false := decide_eq_false (by omega)
    have b5 : ¬ (2 + x + 1 ≤ (m : Int)) := by omega
    have w1' : IntKind.i64.wrap (2 + x) = 2 + x := IntWalk.i64_in _ (by omega)
    have w2' : IntKind.i64.wrap (2 + x + 1) = 2 + x + 1 := IntWalk.i64_in _ (by omega)
    have NW := Lib.hid (fun W => new_ok m (by omega) W)
    have C := Lib.hid (fun W => pools_any W)
    have G := Lib.hid (fun g b W2 (hM : MB 0 g b (List.replicate m 0) 0 0 0 0 0 false W2) => new_bad g b (List.replicate m 0) 0 0 0 0 0 false x W (by simp; omega) (by simp; omega) W2 hM)
    go_enter Try.func3, Try.ntmps3
    go_wp2_with fail
    refine (NW.out _).mono ?_; rintro e w1 ⟨g, b, rfl, hg, hb, hm, hbl⟩
    have M := Lib.hid hm
    have B := Lib.hid hbl
    have P := Lib.hid (show w.heap.size ≤ g ∧ w.heap.size ≤ b from ⟨hg, hb⟩)
    clear hm hbl hg hb NW
    go_wp2_with fail
    refine (G.out g b _ M.out).mono ?_; rintro e w2 ⟨rfl, rfl⟩
    clear G M
    go_wp2_with fail
    refine (newN_nil 0 1 1 _).mono ?_; rintro e w3 ⟨rfl, rfl⟩
    go_wp2_with fail
    refine (C.out _).mono ?_; rintro e w4 ⟨rfl, hb⟩
    have B := Lib.hid (bl_tr B.out hb)
    clear hb C
    go_wp2_with fail
    refine (none_any _).mono ?_; rintro e w5 ⟨rfl, rfl⟩
    go_wp2_with fail
    refine (slots_nil _).mono ?_; rintro e w5 ⟨rfl, rfl⟩
    go_wp2_with fail
    refine (none_any _).mono ?_; rintro e w5 ⟨rfl, rfl⟩
    go_wp2_with fail
    refine (take_nil 0 _).mono ?_; rintro e w5 ⟨rfl, rfl⟩
    go_wp2_with fail
    refine (none_any _).mono ?_; rintro e w5 ⟨rfl, rfl⟩
    go_wp2_with fail
    refine (give_nil 0 0 _).mono ?_; rintro e w5 ⟨rfl, rfl⟩
    go_wp2_with fail
    refine (none_any _).mono ?_; rintro e w5 ⟨rfl, rfl⟩
    go_wp2_with fail
    refine (own_nil' 0 _).mono ?_; rintro e w5 ⟨rfl, rfl⟩
    go_wp2_with fail
    refine (none_any _).mono ?_; rintro e w5 ⟨rfl, rfl⟩
    go_wp2_with fail
    refine (shared_nil _).mono ?_; rintro e w5 ⟨rfl, rfl⟩
    go_wp2_with fail
    refine (over_nil _).mono ?_; rintro e w5 ⟨rfl, rfl⟩
    go_wp2_with fail
    refine (stepA_nil _).mono ?_; rintro e w5 ⟨rfl, rfl⟩
    go_wp2_with fail
    refine (slot_nil _).mono ?_; rintro e w5 ⟨rfl, rfl⟩
    go_wp2_with fail
    refine (pcells_ok x (by omega) (by omega) _).mono ?_; rintro e w6 ⟨rfl, rfl⟩
    have ee : (x + 1 == x + 1) = true := by simp
    go_wp2
    all_goals go_ret
    all_goals exact ⟨rfl, B.out⟩

set_option maxRecDepth 100000 in
set_option maxHeartbeats 16000000 in
theorem newsB4 (x W rm U S : Int) (m : Nat) (hU : IntKind.u64.wrap rm = U) (hU1 : 0 ≤ U ∧ U ≤ 18446744073709551615) (hm : U % 5000 = (m : Int)) (hm1 : m ≤ 4999) (h1 : ¬ 50 < x) (g0 : x < 1) (hS : x = S) (w : World) :
    Calls Try.prog 3 #[.int .i64 x, .int .i64 W, .int .i64 rm] w fun e w' => e = .returned (.bool true) ∧ Below w.heap.size w w' := by
    subst hS
    have d1 : decide (50 < x) = false := decide_eq_false h1
    have a1 : decide (1 ≤ x) = false := decide_eq_false (by omega)
    have c0 : (0 == x + 1) = true ∨ (0 == x + 1) = false := by cases h : (0 == x + 1) <;> simp
    have NW := Lib.hid (fun W => new_ok m (by omega) W)
    have C := Lib.hid (fun W => pools_any W)
    have G := Lib.hid (fun g b W2 (hM : MB 0 g b (List.replicate m 0) 0 0 0 0 0 false W2) => new_bad g b (List.replicate m 0) 0 0 0 0 0 false x W (by simp; omega) (by simp; omega) W2 hM)
    go_enter Try.func3, Try.ntmps3
    go_wp2_with fail
    refine (NW.out _).mono ?_; rintro e w1 ⟨g, b, rfl, hg, hb, hm, hbl⟩
    have M := Lib.hid hm
    have B := Lib.hid hbl
    have P := Lib.hid (show w.heap.size ≤ g ∧ w.heap.size ≤ b from ⟨hg, hb⟩)
    clear hm hbl hg hb NW
    go_wp2_with fail
    refine (G.out g b _ M.out).mono ?_; rintro e w2 ⟨rfl, rfl⟩
    clear G M
    go_wp2_with fail
    refine (newN_nil 0 1 1 _).mono ?_; rintro e w3 ⟨rfl, rfl⟩
    go_wp2_with fail
    refine (C.out _).mono ?_; rintro e w4 ⟨rfl, hb⟩
    have B := Lib.hid (bl_tr B.out hb)
    clear hb C
    go_wp2_with fail
    refine (none_any _).mono ?_; rintro e w5 ⟨rfl, rfl⟩
    go_wp2_with fail
    refine (slots_nil _).mono ?_; rintro e w5 ⟨rfl, rfl⟩
    go_wp2_with fail
    refine (none_any _).mono ?_; rintro e w5 ⟨rfl, rfl⟩
    go_wp2_with fail
    refine (take_nil 0 _).mono ?_; rintro e w5 ⟨rfl, rfl⟩
    go_wp2_with fail
    refine (none_any _).mono ?_; rintro e w5 ⟨rfl, rfl⟩
    go_wp2_with fail
    refine (give_nil 0 0 _).mono ?_; rintro e w5 ⟨rfl, rfl⟩
    go_wp2_with fail
    refine (none_any _).mono ?_; rintro e w5 ⟨rfl, rfl⟩
    go_wp2_with fail
    refine (own_nil' 0 _).mono ?_; rintro e w5 ⟨rfl, rfl⟩
    go_wp2_with fail
    refine (none_any _).mono ?_; rintro e w5 ⟨rfl, rfl⟩
    go_wp2_with fail
    refine (shared_nil _).mono ?_; rintro e w5 ⟨rfl, rfl⟩
    go_wp2_with fail
    refine (over_nil _).mono ?_; rintro e w5 ⟨rfl, rfl⟩
    go_wp2_with fail
    refine (stepA_nil _).mono ?_; rintro e w5 ⟨rfl, rfl⟩
    go_wp2_with fail
    refine (slot_nil _).mono ?_; rintro e w5 ⟨rfl, rfl⟩
    go_wp2_with fail
    refine (pcells_no x (by omega) _).mono ?_; rintro e w6 ⟨rfl, rfl⟩
    go_wp2
    all_goals go_ret
    all_goals exact ⟨rfl, B.out⟩

set_option maxRecDepth 100000 in
set_option maxHeartbeats 16000000 in
theorem newsC (x W rm U S : Int) (m : Nat) (hU : IntKind.u64.wrap rm = U) (hU1 : 0 ≤ U ∧ U ≤ 18446744073709551615) (hm : U % 5000 = (m : Int)) (hm1 : m ≤ 4999) (h1 : 50 < x) (h2 : ¬ x ≤ 4096) (hS : x = S) (w : World) :
    Calls Try.prog 3 #[.int .i64 x, .int .i64 W, .int .i64 rm] w fun e w' => e = .returned (.bool true) ∧ Below w.heap.size w w' := by
    subst hS
    have d2 : decide (x ≤ 4096) = false := decide_eq_false h2
    have a1 : decide (1 ≤ x) = true := decide_eq_true (by omega)
    have c1 : 4096 < x := by omega
    have c2 : ¬ x < 1 := by omega
    have NW := Lib.hid (fun W => new_ok m (by omega) W)
    have C := Lib.hid (fun W => pools_any W)
    have G := Lib.hid (fun g b W2 (hM : MB 0 g b (List.replicate m 0) 0 0 0 0 0 false W2) => new_bad g b (List.replicate m 0) 0 0 0 0 0 false x W (by simp; omega) (by simp; omega) W2 hM)
    go_enter Try.func3, Try.ntmps3
    go_wp2_with fail
    refine (NW.out _).mono ?_; rintro e w1 ⟨g, b, rfl, hg, hb, hm, hbl⟩
    have M := Lib.hid hm
    have B := Lib.hid hbl
    have P := Lib.hid (show w.heap.size ≤ g ∧ w.heap.size ≤ b from ⟨hg, hb⟩)
    clear hm hbl hg hb NW
    go_wp2_with fail
    refine (G.out g b _ M.out).mono ?_; rintro e w2 ⟨rfl, rfl⟩
    clear G M
    go_wp2_with fail
    refine (newN_nil 0 1 1 _).mono ?_; rintro e w3 ⟨rfl, rfl⟩
    go_wp2_with fail
    refine (C.out _).mono ?_; rintro e w4 ⟨rfl, hb⟩
    have B := Lib.hid (bl_tr B.out hb)
    clear hb C
    go_wp2_with fail
    refine (none_any _).mono ?_; rintro e w5 ⟨rfl, rfl⟩
    go_wp2_with fail
    refine (slots_nil _).mono ?_; rintro e w5 ⟨rfl, rfl⟩
    go_wp2_with fail
    refine (none_any _).mono ?_; rintro e w5 ⟨rfl, rfl⟩
    go_wp2_with fail
    refine (take_nil 0 _).mono ?_; rintro e w5 ⟨rfl, rfl⟩
    go_wp2_with fail
    refine (none_any _).mono ?_; rintro e w5 ⟨rfl, rfl⟩
    go_wp2_with fail
    refine (give_nil 0 0 _).mono ?_; rintro e w5 ⟨rfl, rfl⟩
    go_wp2_with fail
    refine (none_any _).mono ?_; rintro e w5 ⟨rfl, rfl⟩
    go_wp2_with fail
    refine (own_nil' 0 _).mono ?_; rintro e w5 ⟨rfl, rfl⟩
    go_wp2_with fail
    refine (none_any _).mono ?_; rintro e w5 ⟨rfl, rfl⟩
    go_wp2_with fail
    refine (shared_nil _).mono ?_; rintro e w5 ⟨rfl, rfl⟩
    go_wp2_with fail
    refine (over_nil _).mono ?_; rintro e w5 ⟨rfl, rfl⟩
    go_wp2_with fail
    refine (stepA_nil _).mono ?_; rintro e w5 ⟨rfl, rfl⟩
    go_wp2_with fail
    refine (slot_nil _).mono ?_; rintro e w5 ⟨rfl, rfl⟩
    go_wp2_with fail
    refine (pcells_no x (by omega) _).mono ?_; rintro e w6 ⟨rfl, rfl⟩
    go_wp2
    all_goals go_ret
    all_goals exact ⟨rfl, B.out⟩

theorem news_walk (x W rm : Int) (w : World) (hx : (Lit.int .i64 x).wf = true) (hy : (Lit.int .i64 W).wf = true) (hz : (Lit.int .i64 rm).wf = true) :
    Calls Try.prog 3 #[.int .i64 x, .int .i64 W, .int .i64 rm] w fun e w' => e = .returned (.bool true) ∧ Below w.heap.size w w' := by
  have hb := u64_bd rm
  obtain ⟨m, hm⟩ : ∃ m : Nat, IntKind.u64.wrap rm % 5000 = m := ⟨(IntKind.u64.wrap rm % 5000).toNat, by omega⟩
  have hm1 : m ≤ 4999 := by omega
  by_cases h1 : 50 < x
  · by_cases h2 : x ≤ 4096
    · obtain ⟨S, hS⟩ : ∃ S, 4096 - x % 3 = S := ⟨_, rfl⟩
      by_cases g1 : W < 1
      · exact newsA1 x W rm _ S m rfl hb hm hm1 h1 h2 hS g1 w
      · by_cases g2 : 16 < W
        · exact newsA2 x W rm _ S m rfl hb hm hm1 h1 h2 hS g1 g2 w
        · by_cases g3 : (m : Int) < S + 3
          · exact newsA3 x W rm _ S m rfl hb hm hm1 h1 h2 hS g1 g2 g3 w
          · obtain ⟨W', rfl⟩ : ∃ W' : Nat, W = W' := ⟨W.toNat, by omega⟩
            obtain ⟨S', rfl⟩ : ∃ S' : Nat, S = S' := ⟨S.toNat, by omega⟩
            exact newsA0 x W' rm _ S' m rfl hb hm hm1 h1 h2 hS g1 g2 g3 w
    · exact newsC x W rm _ x m rfl hb hm hm1 h1 h2 rfl w
  · by_cases g0 : x < 1
    · exact newsB4 x W rm _ x m rfl hb hm hm1 h1 g0 rfl w
    · by_cases g1 : W < 1
      · exact newsB1 x W rm _ x m rfl hb hm hm1 h1 g0 rfl g1 w
      · by_cases g2 : 16 < W
        · exact newsB2 x W rm _ x m rfl hb hm hm1 h1 g0 rfl g1 g2 w
        · by_cases g3 : (m : Int) < x + 3
          · exact newsB3 x W rm _ x m rfl hb hm hm1 h1 g0 rfl g1 g2 g3 w
          · obtain ⟨W', rfl⟩ : ∃ W' : Nat, W = W' := ⟨W.toNat, by omega⟩
            obtain ⟨S', rfl⟩ : ∃ S' : Nat, x = S' := ⟨x.toNat, by omega⟩
            exact newsB0 S' W' rm _ S' m rfl hb hm hm1 h1 g0 rfl g1 g2 g3 w
end Go.Proofs.Ytaihmkflhapjeaa
