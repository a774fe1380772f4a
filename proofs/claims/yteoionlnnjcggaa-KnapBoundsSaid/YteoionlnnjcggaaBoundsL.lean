/-
  knap: KnapBounds, walked.
-/
import Derived.Test.YteoionlnnjcggaaKc
import Derived.Test.YteoionlnnjcggaaKd
import Derived.Test.YteoionlnnjcggaaSb
import Derived.Test.YteoionlnnjcggaaKidsL
namespace Go.Proofs.Yteoionlnnjcggaa.kd
open Go.RowKit Go.Proofs.Yteoionlnnjcggaa.kn Go.Proofs.Yteoionlnnjcggaa.kc
set_option linter.unusedVariables false
theorem io_src {B g k : Nat} {l : List Int} {X : World} (h : IO B X g k l) (hl : l.length ≤ 70) : Src X (some ⟨g, 0, none⟩) l.length k l := ints_src h.1 h.2.1 h.2.2.1 hl
theorem rwsC_keep {B : Nat} {W W1 : World} {a : Option Addr} {c : Nat} {l : List (List Int)} (h : RwsC B W a c l) (hb : Below W.heap.size W W1) : RwsC B W1 a c l := ⟨h.1, fun j hj => by
  obtain ⟨g, cur, g', cj, e1, e2, e3, e4, e5⟩ := h.2 j hj
  exact ⟨g, cur, g', cj, e1, (hb.block _ (lt_hp e2)).trans e2, e3, e4.keep hb, e5⟩⟩
theorem rwsC_other {B : Nat} {W W1 : World} {a : Option Addr} {c : Nat} {l : List (List Int)} {b : Nat} {cs : Array Value} (h : RwsC B W a c l) (hb : W.heap[b]? = some (.cells cs 25 (0, 0))) (he : ∀ k, k ≠ b → W1.heap[k]? = W.heap[k]?) : RwsC B W1 a c l := ⟨h.1, fun j hj => by
  obtain ⟨g, cur, g', cj, e1, e2, e3, e4, e5⟩ := h.2 j hj
  exact ⟨g, cur, g', cj, e1, (he g (blk_ne e2 hb (by decide))).trans e2, e3, e4.same (he g' (e4.ne hb (by decide))), e5⟩⟩
theorem rsrc_of {B : Nat} {W : World} {a : Option Addr} {c : Nat} {l : List (List Int)} (h : RwsC B W a c l) (hl : l.length ≤ 30) (hr : ∀ j, j < l.length → (l[j]?.getD []).length ≤ 70) : RSrc W a l.length c l := by
  refine ⟨by omega, h.1.1, h.1.2.1, ?_⟩
  by_cases h0 : l.length = 0
  · exact .inl ⟨h0, h.1.2.2⟩
  · obtain ⟨g, cur, g', cj, e1, e2, e3, e4, e5⟩ := h.2 0 (by omega)
    refine .inr ⟨g, 0, e1, lt_hp e2, fun j hj => ?_⟩
    obtain ⟨g1, cur1, g1', cj1, f1, f2, f3, f4, f5⟩ := h.2 j hj
    rw [e1] at f1
    injection f1 with f1
    injection f1 with f1
    subst f1
    rw [e2] at f2
    injection f2 with f2
    injection f2 with f2
    subst f2
    exact ⟨_, _, _, by rw [Nat.zero_add, cell_of_row _ _ _ _ _ _ e2]; exact f3, io_src f4 (hr j hj)⟩
theorem rsrc_len {W : World} {a : Option Addr} {n c : Nat} {cl : List (List Int)} (h : RSrc W a n c cl) : cl.length ≤ 30 ∧ ∀ j, j < cl.length → (cl[j]?.getD []).length ≤ 70 := by
  obtain ⟨h1, h2, h3, h4⟩ := h
  refine ⟨by omega, fun j hj => ?_⟩
  rcases h4 with ⟨h4, _⟩ | ⟨b, o, _, _, h4⟩
  · omega
  · obtain ⟨aj, nj, cj, _, s⟩ := h4 j hj
    have := s.1
    omega
/-- a block that has as many cells -/
def Bk (g n : Nat) (w : World) : Prop := ∃ cur : Array Value, w.heap[g]? = some (.cells cur 3 (0, 0)) ∧ n ≤ cur.size
theorem Bk.set {g n : Nat} {w : World} (h : Bk g n w) (q j : Nat) (v : Value) : Bk g n (w.setCell ⟨q, j, none⟩ v) := by
  obtain ⟨cur, h1, h2⟩ := h
  by_cases e : g = q
  · subst e
    exact ⟨_, blk_set h1 j v, by simpa using h2⟩
  · exact ⟨cur, blk_oth h1 e j v, h2⟩
theorem Bk.cell {g n : Nat} {w : World} (h : Bk g n w) (j : Nat) (hj : j < n) : (∃ u, w.cell? ⟨g, j, none⟩ = some u) ∧ w.frozen? ⟨g, j, none⟩ = false := by
  obtain ⟨cur, h1, h2⟩ := h
  exact ⟨⟨cur[j], by rw [cell_of_row _ _ _ _ _ _ h1, Array.getElem?_eq_getElem (by omega)]⟩, frozen_of_row _ _ _ _ _ h1⟩
theorem io_bk {g : Nat} {l : List Int} {w : World} (h : IntsO w g l) : Bk g l.length w := by
  obtain ⟨cur, h1, h2⟩ := h
  refine ⟨cur, h1, ?_⟩
  rcases Nat.lt_or_ge cur.size l.length with h | h
  · have := h2 cur.size h
    simp at this
  · exact h
theorem bk_dr {g n : Nat} {w : World} (h : Bk g n w) : Bk g n w.drew := h
theorem bd_one (C : Int) (T Wl Vl pl : List Int) : ∃ x er : Int, ∀ w e w', BdP C T Wl Vl pl w e w' → e = .returned (.tuple #[.int .i64 x, .int .i64 er]) ∧ Below w.heap.size w w' := by
  by_cases h : LeftOk C Wl pl
  · exact ⟨_, 0, fun w e w' q => ⟨q.1 h, q.2.2⟩⟩
  · exact ⟨0, 1, fun w e w' q => ⟨q.2.1 h, q.2.2⟩⟩
set_option maxRecDepth 100000 in
set_option maxHeartbeats 16000000 in
theorem bounds_walk (kd N C : Int) (wl vl : List Int) (cl : List (List Int)) (wa va ca : Option Addr) (wn vn cn wc vc cc : Nat) (pl : List Int) (pa : Option Addr) (pn pc : Nat) (w : World) (h1 : Src w wa wn wc wl) (h2 : Src w va vn vc vl) (h3 : RSrc w ca cn cc cl) (h4 : Src w pa pn pc pl) :
    Calls Try.prog 5 #[.agg #[.int .i64 kd, .int .i64 N, .int .i64 C, .slice wa wn wc, .slice va vn vc, .slice ca cn cc], .slice pa pn pc] w fun e w' => e = .returned (.bool true) ∧ Below w.heap.size w w' := by
  have bA : Below w.heap.size w (w.alloc (.cells #[.int .i64 kd, .int .i64 N, .int .i64 C, .slice wa wn wc, .slice va vn vc, .slice ca cn cc] 25)) := bl_al (Below.refl _ _) _
  have HC := Lib.hid (_root_.Go.Proofs.Yteoionlnnjcggaa.kc.refcopy_any kd N C wl vl cl wa va ca wn vn cn wc vc cc _ (h1.keep bA) (h2.keep bA) (h3.keep bA))
  have S4 := Lib.hid (h4.keep bA)
  have HB := Lib.hid bA
  have l1 : wl.length ≤ 70 := by have := h1.1; omega
  have l2 : vl.length ≤ 70 := by have := h2.1; omega
  have l3 := rsrc_len h3
  have lp : pl.length ≤ 70 := by have := h4.1; omega
  have KS := Lib.hid (fun W => knaps_any W)
  have SZ : (w.alloc (.cells #[.int .i64 kd, .int .i64 N, .int .i64 C, .slice wa wn wc, .slice va vn vc, .slice ca cn cc] 25)).heap.size = w.heap.size + 1 := by simp
  have HSZ := Lib.hid SZ
  clear h1 h2 h3 h4 bA SZ
  go_enter Try.func5, Try.ntmps5
  go_wp2_with fail
  refine HC.out.mono ?_; rintro e w1 ⟨g1, k1, g2, k2, ca', cc', rfl, hb, i1, i2, rw⟩
  have q0 : w1.heap[w.heap.size]? = some (.cells #[.int .i64 kd, .int .i64 N, .int .i64 C, .slice wa wn wc, .slice va vn vc, .slice ca cn cc] 25 (0, 0)) := (hb.block _ (by simp)).trans (heap_alloc_new w _)
  have HQ0 := Lib.hid q0
  have PC := Lib.hid (pcut_src (S4.out.keep hb))
  have gg : (g1 < w1.heap.size ∧ w.heap.size ≤ g1) ∧ (g2 < w1.heap.size ∧ w.heap.size ≤ g2) := ⟨⟨i1.1.lt, by have := i1.2.2.2; have := HSZ.out; omega⟩, i2.1.lt, by have := i2.2.2.2; have := HSZ.out; omega⟩
  have HGG := Lib.hid gg
  have H1 := Lib.hid (And.intro i1 (And.intro i2 rw))
  have HB1 := Lib.hid (bl_tr HB.out hb)
  clear hb i1 i2 rw q0 HC HB S4 gg HSZ
  go_wp2_with fail
  refine PC.out.mono ?_; rintro e x1 ⟨g3, k3, rfl, hx, ho⟩
  have QX := Lib.hid ((hx.block _ (lt_hp HQ0.out)).trans HQ0.out)
  have P := put_copy (K := kd) (N := N) (C := C) (k1 := k1) (k2 := k2) (cc := cc') (Nat.le_refl _) QX.out (bl_tr HB1.out hx) (H1.out.1.1.keep hx) (H1.out.2.1.1.keep hx) (RwsC.rwsO (rwsC_keep H1.out.2.2 hx)) (by omega) (by omega) (by omega) _ rfl
  have XO : ∀ k, k ≠ w.heap.size → _ = _ := fun k hk => six_other (w := x1) hk (.int .i64 kd) (.int .i64 N) (.int .i64 C) (.slice (some ⟨g1, 0, none⟩) wl.length k1) (.slice (some ⟨g2, 0, none⟩) vl.length k2) (.slice ca' cl.length cc')
  have I1 := (H1.out.1.keep hx).same (XO g1 ((H1.out.1.keep hx).ne QX.out (by decide)))
  have I2 := (H1.out.2.1.keep hx).same (XO g2 ((H1.out.2.1.keep hx).ne QX.out (by decide)))
  have I3 := rwsC_other (rwsC_keep H1.out.2.2 hx) QX.out XO
  have TX : Tw [w.heap.size] x1 ((((((x1.setCell ⟨w.heap.size, 0, none⟩ (.int .i64 kd)).setCell ⟨w.heap.size, 1, none⟩ (.int .i64 N)).setCell ⟨w.heap.size, 2, none⟩ (.int .i64 C)).setCell ⟨w.heap.size, 3, none⟩ (.slice (some ⟨g1, 0, none⟩) wl.length k1)).setCell ⟨w.heap.size, 4, none⟩ (.slice (some ⟨g2, 0, none⟩) vl.length k2)).setCell ⟨w.heap.size, 5, none⟩ (.slice ca' cl.length cc')) := (((((((Tw.refl [w.heap.size] x1).st w.heap.size (.inl (by simp)) 0 _).st w.heap.size (.inl (by simp)) 1 _).st w.heap.size (.inl (by simp)) 2 _).st w.heap.size (.inl (by simp)) 3 _).st w.heap.size (.inl (by simp)) 4 _).st w.heap.size (.inl (by simp)) 5 _)
  have PO := ol_tw (B := w1.heap.size) (L := pl) (S := [w.heap.size]) (w := x1) ho TX (fun i hi => by simp at hi; subst hi; exact lt_hp HQ0.out)
  have HP := Lib.hid P
  have HPO := Lib.hid PO
  have HI := Lib.hid (And.intro I1 (And.intro I2 I3))
  have WX := Lib.hid (Nat.le_trans hx.size TX.size)
  obtain ⟨c0, c1, c2, c3, c4, c5⟩ := box6 QX.out
  have cf := fr6 QX.out
  clear TX P PO ho hx HB1 PC H1 HQ0 QX XO I1 I2 I3
  have FO := Lib.hid (fun h1 h2 => form_of (K := kd) (N := N) (C := C) (wl := wl) (vl := vl) (cl := cl) h1 h2)
  go_wp2_with fail
  clear c0 c1 c2 c3 c4 c5 cf
  generalize ((((((x1.setCell ⟨w.heap.size, 0, none⟩ (.int .i64 kd)).setCell ⟨w.heap.size, 1, none⟩ (.int .i64 N)).setCell ⟨w.heap.size, 2, none⟩ (.int .i64 C)).setCell ⟨w.heap.size, 3, none⟩ (.slice (some ⟨g1, 0, none⟩) wl.length k1)).setCell ⟨w.heap.size, 4, none⟩ (.slice (some ⟨g2, 0, none⟩) vl.length k2)).setCell ⟨w.heap.size, 5, none⟩ (.slice ca' cl.length cc')) = X at *
  refine (_root_.Go.Proofs.Yteoionlnnjcggaa.kc.refcopy_any kd N C wl vl cl _ _ _ _ _ _ _ _ _ X (io_src HI.out.1 l1) (io_src HI.out.2.1 l2) (rsrc_of HI.out.2.2 l3.1 l3.2)).mono ?_; rintro e y1 ⟨g5, k5, g6, k6, ca2, cc2, rfl, hy, j1, j2, j3⟩
  have al := bl_al (Below.refl _ y1) (.cells #[.int .i64 kd, .int .i64 N, .int .i64 C, .slice (some ⟨g5, 0, none⟩) wl.length k5, .slice (some ⟨g6, 0, none⟩) vl.length k6, .slice ca2 cl.length cc2] 25)
  have ZA := heap_alloc_new y1 (.cells #[.int .i64 kd, .int .i64 N, .int .i64 C, .slice (some ⟨g5, 0, none⟩) wl.length k5, .slice (some ⟨g6, 0, none⟩) vl.length k6, .slice ca2 cl.length cc2] 25)
  have HJ := Lib.hid (And.intro (j1.1.keep al) (j2.1.keep al))
  have HG5 := Lib.hid (And.intro j1.2.2.2 (And.intro j2.2.2.2 hy.size))
  have HP2 := Lib.hid (And.intro ZA (And.intro (show Prob _ wl vl cl (some ⟨g5, 0, none⟩) (some ⟨g6, 0, none⟩) ca2 from ⟨(j1.1.keep al).ints, (j2.1.keep al).ints, ((RwsC.rwsO j3).keep al).rws, by omega, by omega, by omega⟩) (bl_tr hy al)))
  have EZ := Lib.hid ((HP2.out.2.2.block _ (lt_hp HP.out.1)).trans HP.out.1)
  have BZ := Lib.hid (bl_tr HP.out.2.2 HP2.out.2.2)
  obtain ⟨c0, c1, c2, c3, c4, c5⟩ := box6 EZ.out
  clear hy al ZA j1 j2 j3
  go_wp2_with fail
  clear c0 c1 c2 c3 c4 c5
  generalize hZ : y1.alloc (.cells #[.int .i64 kd, .int .i64 N, .int .i64 C, .slice (some ⟨g5, 0, none⟩) wl.length k5, .slice (some ⟨g6, 0, none⟩) vl.length k6, .slice ca2 cl.length cc2] 25) = Z at *
  clear hZ
  have HNw := Lib.hid (_root_.Go.Proofs.Yteoionlnnjcggaa.kd.new_any kd N C wl vl cl (some ⟨g1, 0, none⟩) (some ⟨g2, 0, none⟩) ca' k1 k2 cc' Z (HP.out.2.1.1.keep HP2.out.2.2) (HP.out.2.1.2.1.keep HP2.out.2.2) (HP.out.2.1.2.2.1.keep HP2.out.2.2) (by omega) (by omega) (by omega))
  generalize hch : chk kd N C wl vl cl = ch at *
  have HCH := Lib.hid hch
  clear hch
  refine HNw.out.mono ?_; rintro e w3 hq
  rcases hq with ⟨hz, rfl, hb3⟩ | ⟨rfl, hK, rfl, hb3⟩ | ⟨rfl, rfl, p, T, rfl, hk, ho, hb3⟩
  · have B3 := Lib.hid (bl_tr BZ.out hb3)
    have b2 : (ch != 0) = true := by simpa using hz
    clear hb3 HNw FO hz
    go_wp2_with fail
    refine (KS.out w3).mono ?_; rintro e w4 ⟨rfl, hb4⟩
    have B4 := Lib.hid (bl_tr B3.out hb4)
    clear hb4
    go_wp2_with fail
    refine (KS.out w4).mono ?_; rintro e w5 ⟨rfl, hb5⟩
    have B5 := Lib.hid (bl_tr B4.out hb5)
    clear hb5
    go_wp2
    go_ret
    exact ⟨rfl, B5.out⟩

  · have B3 := Lib.hid (bl_tr BZ.out hb3)
    clear hb3 HNw FO hK
    go_wp2_with fail
    refine (KS.out w3).mono ?_; rintro e w4 ⟨rfl, hb4⟩
    have B4 := Lib.hid (bl_tr B3.out hb4)
    clear hb4
    go_wp2_with fail
    refine (KS.out w4).mono ?_; rintro e w5 ⟨rfl, hb5⟩
    have B5 := Lib.hid (bl_tr B4.out hb5)
    clear hb5
    go_wp2
    go_ret
    exact ⟨rfl, B5.out⟩

  · obtain ⟨hN, lv, n1, n2, c0', c1', io, l0⟩ := FO.out rfl rfl
    have OK := Lib.hid (ho.ok (C := C) n1 n2 lv c0' c1' io)
    have HK3 := Lib.hid hk
    have D3 := Lib.hid hb3
    have HO := Lib.hid ho
    have IO' := Lib.hid io
    clear hb3 hk ho HNw FO c0' c1' io HCH
    go_wp2_with fail
    refine (KS.out w3).mono ?_; rintro e w4 ⟨rfl, hb4⟩
    have D4 := Lib.hid (bl_tr D3.out hb4)
    have K4 := Lib.hid (HK3.out.tw (S := []) (Tw.of hb4) (by simp))
    have X4 := Lib.hid (bl_tr HP2.out.2.2 D4.out)
    have B4 := Lib.hid (bl_tr HP.out.2.2 X4.out)
    have P4 := Lib.hid (ol_tw (S := []) HPO.out (Tw.of X4.out) (by simp))
    have W4 := Lib.hid (show w1.heap.size ≤ X.heap.size ∧ X.heap.size ≤ Z.heap.size ∧ Z.heap.size ≤ w4.heap.size from ⟨WX.out, HP2.out.2.2.size, D4.out.size⟩)
    have EB4 := Lib.hid ((X4.out.block _ (lt_hp HP.out.1)).trans HP.out.1)
    have EZ4 := Lib.hid ((D4.out.block _ (lt_hp HP2.out.1)).trans HP2.out.1)
    have J4 := Lib.hid (And.intro (HJ.out.1.keep D4.out) (HJ.out.2.keep D4.out))
    have K1 : Hid (Bk g1 wl.length w4) := io_bk (HI.out.1.1.keep X4.out)
    have K2 : Hid (Bk g2 wl.length w4) := by rw [← lv]; exact io_bk (HI.out.2.1.1.keep X4.out)
    have NB := Lib.hid (show w.heap.size ∉ [g1, g2] from by
      intro hm
      simp at hm
      have a1 := (HI.out.1.1.keep X4.out).ne EB4.out (by decide)
      have a2 := (HI.out.2.1.1.keep X4.out).ne EB4.out (by decide)
      rcases hm with hm | hm
      · exact a1 hm.symm
      · exact a2 hm.symm)
    have FX := Lib.hid (fun (Y : World) (h : Tw [g1, g2] w4 Y) => box6 (blk_tw EB4.out h NB.out))
    clear hb4 D3 HK3 HPO HP HP2 HI HJ WX EZ BZ
    have i3 : ¬ (0 : Int) < (cl.length : Int) := by omega
    obtain ⟨c0, c1, c2, c3, c4, c5⟩ := box6 EB4.out
    go_wp2_with fail
    clear c0 c1 c2 c3 c4 c5
    go_loopw [8] (fun i wr => ∃ k : Nat, i = .int .i64 (k : Int) ∧ k ≤ wl.length ∧ Hid (Tw [g1, g2] w4 wr) ∧ Hid (Bk g1 wl.length wr) ∧ Hid (Bk g2 wl.length wr)) (fun i _ => wl.length - (intOf i).toNat)
    case atStart => exact ⟨0, rfl, Nat.zero_le _, Lib.hid (Tw.refl _ _), K1, K2⟩
    case round =>
      clear K1 K2
      obtain ⟨k, rfl, hk, HT, HK1, HK2⟩ := hrel
      obtain ⟨c0, c1, c2, c3, c4, c5⟩ := FX.out _ HT.out
      by_cases hlt : k < wl.length
      · obtain ⟨⟨u1, m1⟩, z1⟩ := HK1.out.cell k hlt
        obtain ⟨⟨u2, m2⟩, z2⟩ := HK2.out.cell k hlt
        have i1 : (k : Int) < (wl.length : Int) := by omega
        have i2 : (k : Int) < (vl.length : Int) := by omega
        have n70 : k ≤ 70 := by omega
        obtain ⟨⟨u3, m3⟩, z3⟩ := (HK2.out.set g1 k (.int .i64 1)).cell k hlt
        obtain ⟨⟨u4, m4⟩, z4⟩ := (HK1.out.set g2 k (.int .i64 1)).cell k hlt
        obtain ⟨-, -, -, s3, s4, -⟩ := FX.out _ (HT.out.st g1 (.inl (by simp)) k (.int .i64 1))
        obtain ⟨-, -, -, t3, t4, -⟩ := FX.out _ (HT.out.st g2 (.inl (by simp)) k (.int .i64 1))
        clear c0 c1 c2 c5
        go_wp2
        go_region
        all_goals
          go_wp2
          go_roundw
          case rel => exact ⟨k + 1, by go_num, by omega, Lib.hid (((HT.out.st g1 (.inl (by simp)) k _).st g2 (.inl (by simp)) k _).dr), Lib.hid (bk_dr ((HK1.out.set g1 k _).set g2 k _)), Lib.hid (bk_dr ((HK2.out.set g1 k _).set g2 k _))⟩
          case measure => simp [intOf]; omega
      · obtain rfl : k = wl.length := by omega
        have i2 : ¬ (wl.length : Int) < (wl.length : Int) := by omega
        obtain ⟨x, er, hb1⟩ := bd_one C T (pick wl T) (pick vl T) pl
        have sz := W4.out
        have gg := HGG.out
        have S1 : ∀ i, i ∈ [g1, g2] → i < w1.heap.size ∧ w.heap.size ≤ i := fun i hi => by
          simp at hi
          rcases hi with rfl | rfl
          · exact gg.1
          · exact gg.2
        have N5 : ∀ i, X.heap.size ≤ i → i ∉ [g1, g2] := fun i hi hm => by have := (S1 i hm).1; omega
        have PW := ol_tw P4.out HT.out (fun i hi => (S1 i hi).1)
        have KB := Lib.hid ((bound_any OK.out (K4.out.tw HT.out (fun i hi => by have := (S1 i hi).1; omega)).kn PW.ls (by omega)).mono fun e w' q => hb1 _ _ _ q)
        have Q5 := J4.out.1.same (HT.out.block g5 J4.out.1.lt (N5 g5 HG5.out.1))
        have Q6 := J4.out.2.same (HT.out.block g6 J4.out.2.lt (N5 g6 HG5.out.2.1))
        have BZ5 := blk_tw EZ4.out HT.out (N5 _ HG5.out.2.2)
        have BX := Lib.hid (fun (Y : World) (hb : Below wr.heap.size wr Y) => box6 ((hb.block _ (lt_hp BZ5)).trans BZ5))
        have RBd := Lib.hid (fun (Y : World) (hb : Below wr.heap.size wr Y) => (rbound_any 1 N C wl vl cl T pl (some ⟨g5, 0, none⟩) (some ⟨g6, 0, none⟩) ca2 k5 k6 cc2 _ Y (Q5.keep hb).ints (Q6.keep hb).ints hN lv n2 IO'.out HO.out OK.out (PW.ls.up hb) (by omega)).mono fun e w' q => hb1 _ _ _ q)
        have BF := Lib.hid (Tw.below B4.out HT.out (fun i hi => (S1 i hi).2) B4.out.size)
        clear sz gg S1 N5 PW Q5 Q6 BZ5 hb1 HK1 HK2
        have z1 : (x == x) = true := by simp
        have z2 : (er == er) = true := by simp
        go_wp2
        go_loopw [9] (fun i wr' => i = .int .i64 0 ∧ wr' = wr) (fun _ _ => 0)
        case atStart => exact ⟨rfl, rfl⟩
        case round =>
          obtain ⟨rfl, rfl⟩ := hrel
          go_wp2_with fail
          refine KB.out.mono ?_; rintro e w5 ⟨rfl, hb5⟩
          have D5 := Lib.hid hb5
          clear hb5 c0 c1 c2 c3 c4 c5
          obtain ⟨c0, c1, c2, c3, c4, c5⟩ := BX.out w5 D5.out
          go_wp2_with fail
          have RQ := RBd.out w5 D5.out
          rw [lv, l0] at RQ
          refine RQ.mono ?_; rintro e w6 ⟨rfl, hb6⟩
          clear RQ
          have D6 := Lib.hid (bl_tr BF.out (bl_tr D5.out hb6))
          clear hb6
          go_wp2
          go_ret
          exact ⟨rfl, D6.out⟩
end Go.Proofs.Yteoionlnnjcggaa.kd
