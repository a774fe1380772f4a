/-
  The walk through kurganlaw25.LogJoins.
-/
import Derived.Test.YtgldgilhegdpjaaSoX
namespace Go.Proofs.Ytgldgilhegdpjaa.so
open Go.RowKit
set_option linter.unusedVariables false
theorem rarg_up {W W1 : World} {a : Option Addr} {n c : Nat} {rs : List Rec} (h : RArg W a n c rs) (hb : Below W.heap.size W W1) : RArg W1 a n c rs := by
  refine ⟨h.1, fun k r hk => ?_⟩
  obtain ⟨b, o, pa, pm, pc, e, hlt, c0, c1, hA⟩ := h.2 k r hk
  exact ⟨b, o, pa, pm, pc, e, Nat.lt_of_lt_of_le hlt hb.size, (hb.cell (p := ⟨b, o + k * 2, none⟩) hlt).trans c0, (hb.cell (p := ⟨b, o + k * 2 + 1, none⟩) hlt).trans c1, hA.keep hb⟩
def WL (wv : Value) (ks : List (Int × Value)) (rs : List Rec) (w : World) : Prop := ∃ C B, w.ownsRow B 45 2 wv ks.length (enc ks) ∧ Ps C ks rs w
theorem WL.up {wv : Value} {ks : List (Int × Value)} {rs : List Rec} {w w1 : World} (h : WL wv ks rs w) (k : Below w.heap.size w w1) : WL wv ks rs w1 := by
  obtain ⟨C, B, h1, h2⟩ := h
  exact ⟨C, B, (Fr.of (B := 0) (P := fun _ => False) k).row h1 (fun h => h), h2.up k⟩
/-- what a fill leaves -/
structure Filled (w : World) (rs : List Rec) (a c : _) (ks : List (Int × Value)) (w1 : World) : Prop where
  lg : LogAt w1 (.pointer (some ⟨w.heap.size, 0, none⟩)) rs
  wl : WL (.slice a rs.length c) ks rs w1
  bl : Below w.heap.size w w1
theorem filled {w w1 : World} {rs : List Rec} {wv : Value} (h : FillS w rs rs.length wv w1) (h40 : rs.length ≤ 40) : ∃ a c ks, wv = .slice a rs.length c ∧ Filled w rs a c ks w1 := by
  obtain ⟨h1, ⟨ks, C, B, h2, h3, h4⟩, h5, _⟩ := fillS_log h h40
  obtain ⟨a, c, rfl⟩ := row_sl h2
  rw [h4]
  exact ⟨a, c, ks, rfl, h1, ⟨C, B, by rw [← h4]; rw [h4] at h2 ⊢; exact h2, h3⟩, h5⟩
theorem log_len {w : World} {q : Nat} {rs : List Rec} (h : LogAt w (.pointer (some ⟨q, 0, none⟩)) rs) : Calls Try.prog 10 #[.pointer (some ⟨q, 0, none⟩)] w fun e w' => e = .returned (.int .i64 (rs.length : Int)) ∧ w = w' := by
  rcases h with ⟨h, _⟩ | ⟨q', ks, u, B, C, h1, h2, h3, h4, h5⟩
  · cases h
  · cases h1
    have := row_sl h3
    rw [← h4.1]
    exact len_any _ u _ w h2 this
def Alls (B : Nat) (v : Value) (ks : List (Int × Value)) (rs : List Rec) (w : World) : Prop := w.ownsRow B 45 2 v rs.length (enc ks) ∧ Ps 0 ks rs w ∧ ks.length = rs.length
theorem alls_app {B : Nat} {v v' : Value} {ks js : List (Int × Value)} {rs qs : List Rec} {w w1 : World} (h : Alls B v ks rs w) (hw : Ps 0 js qs w) (ho : w1.ownsRow B 45 2 v' (rs.length + qs.length) (enc ks ++ enc js)) (hb : Fr B (fun t => t = 45) w w1) : Alls B v' (ks ++ js) (rs ++ qs) w1 := by
  obtain ⟨h1, h2, h3⟩ := h
  refine ⟨by rw [enc_app, List.length_append]; exact ho, Ps.apps (h2.fr hb (by decide)) (hw.fr hb (by decide)), by rw [List.length_append, List.length_append, h3, hw.1]⟩
set_option maxRecDepth 100000 in
set_option maxHeartbeats 16000000 in
theorem joins_walk (rs1 rs2 rs3 : List Rec) (a1 a2 a3 : Option Addr) (n1 c1 n2 c2 n3 c3 : Nat) (w : World) (h1 : RArg w a1 n1 c1 rs1) (h2 : RArg w a2 n2 c2 rs2) (h3 : RArg w a3 n3 c3 rs3) :
    Calls Try.prog 5 #[.slice a1 n1 c1, .slice a2 n2 c2, .slice a3 n3 c3] w fun e w' => e = .returned (.bool true) ∧ Below w.heap.size w w' := by
  have r1 : rs1.length ≤ 40 := by rcases h1.1 with h | h <;> omega
  have r2 : rs2.length ≤ 40 := by rcases h2.1 with h | h <;> omega
  have r3 : rs3.length ≤ 40 := by rcases h3.1 with h | h <;> omega
  have F1 := Lib.hid (fill_any a1 n1 c1 rs1 w h1)
  have F2 := Lib.hid (fun W (h : Below w.heap.size w W) => fill_any a2 n2 c2 rs2 W (rarg_up h2 h))
  have F3 := Lib.hid (fun W (h : Below w.heap.size w W) => fill_any a3 n3 c3 rs3 W (rarg_up h3 h))
  have LG := Lib.hid logs_any
  have JN := Lib.hid join_nil
  clear h1 h2 h3
  go_enter Try.func5, Try.ntmps5
  go_wp2_with fail
  refine F1.out.mono ?_; rintro e w1 ⟨wv1, rfl, s1⟩
  obtain ⟨ua, uc, ks1, rfl, f1⟩ := filled s1 r1
  have G1 := Lib.hid f1
  have B1 := Lib.hid f1.bl
  have hs1 := f1.bl.size
  clear s1 f1 F1
  go_wp2_with fail
  refine (F2.out _ B1.out).mono ?_; rintro e w2 ⟨wv2, rfl, s2⟩
  obtain ⟨va, vc, ks2, rfl, f2⟩ := filled s2 r2
  have G2 := Lib.hid f2
  have B2 := Lib.hid (B1.out.trans (f2.bl.mono hs1))
  have hs2 := f2.bl.size
  clear s2 f2 F2
  go_wp2_with fail
  refine (F3.out _ B2.out).mono ?_; rintro e w3 ⟨wv3, rfl, s3⟩
  obtain ⟨wa, wc, ks3, rfl, f3⟩ := filled s3 r3
  have G3 := Lib.hid f3
  have B3 := Lib.hid (B2.out.trans (f3.bl.mono (Nat.le_trans hs1 hs2)))
  have hs3 := f3.bl.size
  have K := Lib.hid (fun X (h : Below w3.heap.size w3 X) => show (LogAt X (.pointer (some ⟨w.heap.size, 0, none⟩)) rs1 ∧ WL (.slice ua rs1.length uc) ks1 rs1 X) ∧ (LogAt X (.pointer (some ⟨w1.heap.size, 0, none⟩)) rs2 ∧ WL (.slice va rs2.length vc) ks2 rs2 X) ∧ (LogAt X (.pointer (some ⟨w2.heap.size, 0, none⟩)) rs3 ∧ WL (.slice wa rs3.length wc) ks3 rs3 X) from
    ⟨⟨(((G1.out.lg.up G2.out.bl).up G3.out.bl).up h), (((G1.out.wl.up G2.out.bl).up G3.out.bl).up h)⟩, ⟨((G2.out.lg.up G3.out.bl).up h), ((G2.out.wl.up G3.out.bl).up h)⟩, ⟨G3.out.lg.up h, G3.out.wl.up h⟩⟩)
  clear s3 f3 F3 G1 G2 G3 B1 B2
  have A0 := Lib.hid (show Alls w3.heap.size (.slice (some ⟨w3.heap.size, 0, none⟩) 0 0) [] [] (w3.alloc (.cells #[] 45)) from ⟨World.ownsRow_lit w3 #[] 0 (Nat.le_refl _) (by decide) (by decide), Ps.nil _ _, rfl⟩)
  have X0 := Lib.hid (bl_al (Below.refl w3.heap.size w3) (.cells #[] 45))
  obtain ⟨⟨_, C1, D1, o1, p1⟩, _, _⟩ := K.out _ X0.out
  have O1 := Lib.hid o1
  have P1 := Lib.hid p1
  have l1 := p1.1
  clear o1 p1
  go_wp2_with (at_builtin; refine wpList_app45 rfl _ _ rfl rfl w3.heap.size _ _ _ 0 _ _ _ rfl rfl A0.out.1 (l1 ▸ O1.out) (enc_one P1.out) (by omega) (by simp) ?_)
  intro v4 w4 ho4 hg4
  have F4 := Lib.hid (app_fr0 (B := w3.heap.size) A0.out.1 (Nat.le_refl _) hg4)
  have X4 := Lib.hid (F4.out.below X0.out (by simp))
  have A4 := Lib.hid (alls_app A0.out (P1.out.mono (Nat.zero_le _)) ho4 F4.out)
  obtain ⟨_, ⟨_, C2, D2, o2, p2⟩, _⟩ := K.out _ X4.out
  have O2 := Lib.hid o2
  have P2 := Lib.hid p2
  have l2 := p2.1
  have hx4 := X4.out.size
  clear o2 p2 ho4 hg4 A0 O1 P1 l1 X0 F4
  go_wp2_with (at_builtin; refine wpList_app45 rfl _ _ rfl rfl w3.heap.size _ _ _ _ _ _ _ rfl rfl A4.out.1 (l2 ▸ O2.out) (enc_one P2.out) (by simp; omega) hx4 ?_)
  intro v5 w5 ho5 hg5
  have F5 := Lib.hid (app_fr0 (B := w3.heap.size) A4.out.1 (Nat.le_refl _) hg5)
  have X5 := Lib.hid (F5.out.below X4.out hx4)
  have A5 := Lib.hid (alls_app A4.out (P2.out.mono (Nat.zero_le _)) ho5 F5.out)
  obtain ⟨_, _, ⟨_, C3, D3, o3, p3⟩⟩ := K.out _ X5.out
  have O3 := Lib.hid o3
  have P3 := Lib.hid p3
  have l3 := p3.1
  have hx5 := X5.out.size
  clear o3 p3 ho5 hg5 A4 O2 P2 l2 X4 F5 hx4
  go_wp2_with (at_builtin; refine wpList_app45 rfl _ _ rfl rfl w3.heap.size _ _ _ _ _ _ _ rfl rfl A5.out.1 (l3 ▸ O3.out) (enc_one P3.out) (by simp; omega) hx5 ?_)
  intro v6 w6 ho6 hg6
  have F6 := Lib.hid (app_fr0 (B := w3.heap.size) A5.out.1 (Nat.le_refl _) hg6)
  have X6 := Lib.hid (F6.out.below X5.out hx5)
  have A6 := Lib.hid (alls_app A5.out (P3.out.mono (Nat.zero_le _)) (show w6.ownsRow w3.heap.size 45 2 v6 (([] ++ rs1 ++ rs2).length + rs3.length) (enc ([] ++ ks1 ++ ks2) ++ enc ks3) from by simpa using ho6) F6.out)
  have hx6 := X6.out.size
  clear ho6 hg6 A5 O3 P3 l3 X5 F6 hx5
  rw [List.nil_append, List.nil_append] at A6
  obtain ⟨ks, hks⟩ : ∃ ks, ks1 ++ ks2 ++ ks3 = ks := ⟨_, rfl⟩
  rw [hks] at A6
  clear hks
  have e4 : cat (Rof rs1 rs2 rs3) 4 = rs1 ++ rs2 ++ rs3 := cat_of rs1 rs2 rs3
  have hlen : (rs1 ++ rs2 ++ rs3).length ≤ 120 := by simp; omega
  obtain ⟨⟨lg1, _⟩, ⟨lg2, _⟩, ⟨lg3, _⟩⟩ := K.out _ X6.out
  have JO := Lib.hid (show Calls Try.prog 16 #[.slice (some ⟨w6.heap.size, 0, none⟩) 4 4] (w6.alloc (.cells #[.pointer (some ⟨w.heap.size, 0, none⟩), .pointer (some ⟨w1.heap.size, 0, none⟩), .pointer none, .pointer (some ⟨w2.heap.size, 0, none⟩)] 23)) (JoinP (rs1 ++ rs2 ++ rs3) (w6.alloc (.cells #[.pointer (some ⟨w.heap.size, 0, none⟩), .pointer (some ⟨w1.heap.size, 0, none⟩), .pointer none, .pointer (some ⟨w2.heap.size, 0, none⟩)] 23))) from by
    have hb := bl_al (Below.refl w6.heap.size w6) (.cells #[.pointer (some ⟨w.heap.size, 0, none⟩), .pointer (some ⟨w1.heap.size, 0, none⟩), .pointer none, .pointer (some ⟨w2.heap.size, 0, none⟩)] 23)
    have hc := fun j => cell_of_row _ w6.heap.size j _ 23 _ (hal_new w6 (.cells #[.pointer (some ⟨w.heap.size, 0, none⟩), .pointer (some ⟨w1.heap.size, 0, none⟩), .pointer none, .pointer (some ⟨w2.heap.size, 0, none⟩)] 23 (0, 0)))
    rw [← e4]
    refine join_any w6.heap.size (fun k => if k = 0 then .pointer (some ⟨w.heap.size, 0, none⟩) else if k = 1 then .pointer (some ⟨w1.heap.size, 0, none⟩) else if k = 2 then .pointer none else .pointer (some ⟨w2.heap.size, 0, none⟩)) (Rof rs1 rs2 rs3) _ (by simp) (fun k hk => ?_) (fun k hk => ?_)
    · rcases (show k = 0 ∨ k = 1 ∨ k = 2 ∨ k = 3 by omega) with rfl | rfl | rfl | rfl
      · exact (hc 0).trans rfl
      · exact (hc 1).trans rfl
      · exact (hc 2).trans rfl
      · exact (hc 3).trans rfl
    · rcases (show k = 0 ∨ k = 1 ∨ k = 2 ∨ k = 3 by omega) with rfl | rfl | rfl | rfl
      · exact lg1.up hb
      · exact lg2.up hb
      · exact .inl ⟨rfl, rfl⟩
      · exact lg3.up hb)
  have BA := Lib.hid (bl_al (Below.refl w6.heap.size w6) (.cells #[.pointer (some ⟨w.heap.size, 0, none⟩), .pointer (some ⟨w1.heap.size, 0, none⟩), .pointer none, .pointer (some ⟨w2.heap.size, 0, none⟩)] 23))
  clear lg1 lg2 lg3 e4
  go_wp2_with fail
  refine JO.out.mono ?_; rintro e w7 ⟨v7, T, kT, rfl, hT1, hT2, ho7, hp7, hb7⟩
  have B7 := Lib.hid (bl_tr BA.out hb7)
  have O7 := Lib.hid ho7
  have P7 := Lib.hid hp7
  have X7 := Lib.hid (X6.out.trans (B7.out.mono hx6))
  have IT := Lib.hid (And.intro hT1 hT2)
  clear ho7 hp7 hb7 hT1 hT2 JO BA
  obtain ⟨rs, hrs⟩ : ∃ rs, rs1 ++ rs2 ++ rs3 = rs := ⟨_, rfl⟩
  have A7 := Lib.hid (show v6 = v6 ∧ w7.ownsRow w3.heap.size 45 2 v6 ks.length (enc ks) ∧ Ps 0 ks rs w7 from ⟨rfl, by
    have h := (Fr.of (B := 0) (P := fun _ => False) B7.out).row A6.out.1 (fun h => h)
    rw [A6.out.2.2]; exact h, by rw [← hrs]; exact A6.out.2.1.up B7.out⟩)
  rw [hrs] at hlen P7 IT
  clear A6 hrs
  have hx7 := X7.out.size
  go_wp2_with fail
  refine (LG.out _).mono ?_; rintro e w8 ⟨rfl, hb8⟩
  have O8 := Lib.hid ((Fr.of (B := 0) (P := fun _ => False) hb8).row O7.out (fun h => h))
  have P8 := Lib.hid (P7.out.up hb8)
  have A8 := Lib.hid (And.intro ((Fr.of (B := 0) (P := fun _ => False) hb8).row A7.out.2.1 (fun h => h)) (A7.out.2.2.up hb8))
  have X8 := Lib.hid (X7.out.trans (hb8.mono hx7))
  have pl : Hid (kT.length ≤ 1000) := Lib.hid (by rw [P7.out.1]; simp [perm]; rw [IT.out.1.1]; omega)
  have FR := Lib.hid (from_any O8.out P8.out pl.out)
  have hx8 := X8.out.size
  clear hb8 LG O7 P7 A7 X7 B7 X6 hx6 hx7
  go_wp2_with fail
  refine FR.out.mono ?_; rintro e w9 ⟨v9, rfl, ho9, hb9⟩
  have O9 := Lib.hid ho9
  have P9 := Lib.hid (P8.out.up hb9)
  have A9 := Lib.hid (And.intro ((Fr.of (B := 0) (P := fun _ => False) hb9).row A8.out.1 (fun h => h)) (A8.out.2.up hb9))
  have X9 := Lib.hid (X8.out.trans (hb9.mono hx8))
  have hx9 := X9.out.size
  have SD := Lib.hid (sortd_any A9.out.1 A9.out.2 (by omega))
  clear ho9 hb9 FR O8 P8 A8 X8 hx8
  go_wp2_with fail
  refine SD.out.mono ?_; rintro e w10 ⟨v10, U, rfl, hU, hUr, ho10, hb10⟩
  have hUT : U = T := isRk_one IT.out.1 IT.out.2 hU
  have SM := Lib.hid (same_any ((Fr.of (B := 0) (P := fun _ => False) hb10).row O9.out (fun h => h)) (P9.out.up hb10) ho10 (by
    have h := perm_ps (A9.out.2.up hb10) hUr hU.1
    rw [hUT] at h ⊢
    exact h) pl.out)
  have X10 := Lib.hid (X9.out.trans (hb10.mono hx9))
  have hx10 := X10.out.size
  clear hU hUr ho10 hb10 hUT SD O9 P9 A9 X9 hx9 IT
  go_wp2_with fail
  refine SM.out.mono ?_; rintro e w11 ⟨rfl, hb11⟩
  have X11 := Lib.hid (X10.out.trans (hb11.mono hx10))
  have LA := Lib.hid (log_len (K.out _ X11.out).1.1)
  have hx11 := X11.out.size
  have ee : ((rs1.length : Int) == (rs1.length : Int)) = true := by simp
  clear hb11 SM X10 hx10 K
  go_wp2_with fail
  refine LA.out.mono ?_; rintro e w12 ⟨rfl, rfl⟩
  clear LA
  go_wp2_with fail
  refine (JN.out _).mono ?_; rintro e w13 ⟨rfl, hb13⟩
  have BF := Lib.hid (B3.out.trans ((X11.out.trans (hb13.mono hx11)).mono (by omega)))
  clear hb13 X11 JN B3
  go_wp2
  go_ret
  exact ⟨rfl, BF.out⟩
end Go.Proofs.Ytgldgilhegdpjaa.so
