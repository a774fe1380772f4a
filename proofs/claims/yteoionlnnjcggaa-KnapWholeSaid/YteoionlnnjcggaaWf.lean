/-
  knap: KnapWhole, walked.
-/
import Derived.Test.YteoionlnnjcggaaWOne
import Derived.Test.YteoionlnnjcggaaWw
namespace Go.Proofs.Yteoionlnnjcggaa.kn
open Go.RowKit
set_option linter.unusedVariables false
set_option linter.unusedSimpArgs false
open Classical in
noncomputable def msrK (C : Int) (Wl : List Int) (v : Value) (W : World) : Nat := if h : ∃ M, MXg 0 0 W.heap.size v M W then kmsr C Wl (Classical.choose h) else 0
theorem MXg.zero {B B0 H : Nat} {v : Value} {M : List (List Int)} {W : World} (h : MXg B B0 H v M W) : MXg 0 0 W.heap.size v M W := by
  obtain ⟨ws, h1, h2, h3⟩ := h.top
  refine ⟨ws, own_mono h1 (Nat.zero_le _), h2, fun j hj => ?_⟩
  obtain ⟨r, e1, e2, e3⟩ := h3 j hj
  exact ⟨r, e1, e2.mono (Nat.zero_le _), e3⟩
theorem msrK_eq {C : Int} {Wl : List Int} {B B0 H : Nat} {v : Value} {M : List (List Int)} {W : World} (h : MXg B B0 H v M W) : msrK C Wl v W = kmsr C Wl M := by
  unfold msrK
  have hh : ∃ M, MXg 0 0 W.heap.size v M W := ⟨M, h.zero⟩
  rw [dif_pos hh]
  exact congrArg (kmsr C Wl) ((Classical.choose_spec hh).inj h)
namespace ww
theorem ol_ints {B c : Nat} {a : Option Addr} {l : List Int} {W : World} (h : Ol B (.slice a l.length c) l W) : Ints W a l := fun j hj => by
  rcases h.ls with ⟨_, _, _, e⟩ | ⟨g, o, c', e, _, hg, q⟩
  · rw [e] at hj; exact absurd hj (by simp)
  · injection e with e _ _
    exact ⟨g, o, e, hg, by have := q j hj; unfold nt at this; exact this⟩
theorem ol_od {B c : Nat} {a : Option Addr} {l : List Int} {W : World} (h : Ol B (.slice a l.length c) l W) : od.Ints W a l := ints_od (ol_ints h)
theorem ol_some {B c : Nat} {a : Option Addr} {l : List Int} {W : World} (h : Ol B (.slice a l.length c) l W) (hl : 1 ≤ l.length) : ∃ g, a = some ⟨g, 0, none⟩ ∧ g < W.heap.size ∧ l.length ≤ c ∧ c ≤ 9223372036854775807 := by
  rcases h.2 with ⟨h1, _⟩ | ⟨g, cap, cur, h1, h2, h3, h4, h5, _⟩
  · injection h1 with _ h1 _; omega
  · injection h1 with h1 _ h6
    subst h6
    exact ⟨g, h1, lt_hp h3, h4, by unfold maxLen at h5; omega⟩
/-- Kids of a beginning -/
theorem kd_v {C : Int} {T Wl p : List Int} {w w' : World} {e : Ending} (hw : Wl.length = T.length) (hp : LeftOk C Wl p) (h : KdP C T Wl p w e w') :
    (p.length = T.length ∧ ∃ a c, e = .returned (.tuple #[.slice a 0 c, .int .i64 0]) ∧ Below w.heap.size w w') ∨
    (p.length < T.length ∧ ∃ g cap l, e = .returned (.tuple #[.slice (some ⟨g, 0, none⟩) l.length cap, .int .i64 0]) ∧ KidK C Wl p l ∧ l.length ≤ 2 ∧ Ol w.heap.size (.slice (some ⟨g, 0, none⟩) l.length cap) l w' ∧ Below w.heap.size w w') := by
  obtain ⟨l, er, hv, v, rfl, ho, hb⟩ := h
  have le := hp.le
  by_cases q : p.length = T.length
  · obtain ⟨rfl, rfl⟩ := hv.whole hp q
    obtain ⟨a, c, rfl⟩ := ho.form
    exact .inl ⟨q, a, c, rfl, hb⟩
  · have key : KidK C Wl p l ∧ er = 0 := by
      by_cases z : nt Wl p.length ≤ rm C Wl p p.length
      · obtain ⟨e1, e2⟩ := hv.fit hp q z
        exact ⟨.inl ⟨z, e1⟩, e2⟩
      · obtain ⟨e1, e2⟩ := hv.big hp q (by omega)
        exact ⟨.inr ⟨by omega, e1⟩, e2⟩
    obtain ⟨kk, rfl⟩ := key
    have hl : 1 ≤ l.length ∧ l.length ≤ 2 := by rcases kk with ⟨_, rfl⟩ | ⟨_, rfl⟩ <;> decide
    obtain ⟨a, c, rfl⟩ := ho.form
    obtain ⟨g, rfl, _⟩ := ol_some ho hl.1
    exact .inr ⟨by omega, g, c, l, rfl, kk, hl.2, ho, hb⟩
end ww
set_option maxRecDepth 100000 in
set_option maxHeartbeats 16000000 in
theorem whole_walk (kd N C : Int) (wl vl : List Int) (cl : List (List Int)) (wa va ca : Option Addr) (wn vn cn wc vc cc : Nat) (w : World) (h1 : Src w wa wn wc wl) (h2 : Src w va vn vc vl) (h3 : RSrc w ca cn cc cl) :
    Calls Try.prog 7 #[.agg #[.int .i64 kd, .int .i64 N, .int .i64 C, .slice wa wn wc, .slice va vn vc, .slice ca cn cc]] w fun e w' => e = .returned (.bool true) ∧ Below w.heap.size w w' := by
  have bA : Below w.heap.size w (w.alloc (.cells #[.int .i64 kd, .int .i64 N, .int .i64 C, .slice wa wn wc, .slice va vn vc, .slice ca cn cc] 25)) := bl_al (Below.refl _ _) _
  have HC := Lib.hid (refcopy_any kd N C wl vl cl wa va ca wn vn cn wc vc cc _ (h1.keep bA) (h2.keep bA) (h3.keep bA))
  have HB := Lib.hid bA
  have l1 : wl.length ≤ 1000 := by have := h1.1; omega
  have l2 : vl.length ≤ 1000 := by have := h2.1; omega
  have l3 : cl.length ≤ 1000 := by have := h3.1; omega
  have KS := Lib.hid (fun W => knaps_any W)
  clear h1 h2 h3 bA
  go_enter Try.func7, Try.ntmps7
  go_wp2_with fail
  refine HC.out.mono ?_; rintro e w1 ⟨g1, k1, g2, k2, ca', cc', rfl, hb, i1, i2, rw⟩
  have q0 : w1.heap[w.heap.size]? = some (.cells #[.int .i64 kd, .int .i64 N, .int .i64 C, .slice wa wn wc, .slice va vn vc, .slice ca cn cc] 25 (0, 0)) := (hb.block _ (by simp)).trans (heap_alloc_new w _)
  have P := put_copy (K := kd) (N := N) (C := C) (k1 := k1) (k2 := k2) (cc := cc') (Nat.le_refl _) q0 (bl_tr HB.out hb) i1 i2 rw l1 l2 l3 _ rfl
  have HP := Lib.hid P
  obtain ⟨c0, c1, c2, c3, c4, c5⟩ := box6 q0
  have cf := fr6 q0
  clear hb i1 i2 rw q0 HC HB P
  have FO := Lib.hid (fun h1 h2 => form_of (K := kd) (N := N) (C := C) (wl := wl) (vl := vl) (cl := cl) h1 h2)
  go_wp2_with fail
  clear c0 c1 c2 c3 c4 c5 cf
  generalize ((((((w1.setCell ⟨w.heap.size, 0, none⟩ (.int .i64 kd)).setCell ⟨w.heap.size, 1, none⟩ (.int .i64 N)).setCell ⟨w.heap.size, 2, none⟩ (.int .i64 C)).setCell ⟨w.heap.size, 3, none⟩ (.slice (some ⟨g1, 0, none⟩) wl.length k1)).setCell ⟨w.heap.size, 4, none⟩ (.slice (some ⟨g2, 0, none⟩) vl.length k2)).setCell ⟨w.heap.size, 5, none⟩ (.slice ca' cl.length cc')) = X at *
  have E2 := Lib.hid HP.out.1
  have PR := Lib.hid HP.out.2.1
  have B2 := Lib.hid HP.out.2.2
  have HNw := Lib.hid (new_any kd N C wl vl cl (some ⟨g1, 0, none⟩) (some ⟨g2, 0, none⟩) ca' k1 k2 cc' X PR.out.1 PR.out.2.1 PR.out.2.2.1 l1 l2 l3)
  clear HP
  generalize hch : chk kd N C wl vl cl = ch at *
  have HCH := Lib.hid hch
  clear hch
  refine HNw.out.mono ?_; rintro e w3 hq
  rcases hq with ⟨hz, rfl, hb3⟩ | ⟨rfl, hK, rfl, hb3⟩ | ⟨rfl, rfl, b, T, rfl, hk, ho, hb3⟩
  · have B3 := Lib.hid (bl_tr B2.out hb3)
    have b2 : (ch != 0) = true := by simpa using hz
    clear hb3 HNw hz FO
    go_wp2_with fail
    refine (KS.out w3).mono ?_; rintro e w4 ⟨rfl, hb4⟩
    have B4 := Lib.hid (bl_tr B3.out hb4)
    clear hb4
    go_wp2_with fail
    refine (KS.out w4).mono ?_; rintro e w5 ⟨rfl, hb5⟩
    have B5 := Lib.hid (bl_tr B4.out hb5)
    clear hb5
    go_wp2
    go_ret
    exact ⟨rfl, B5.out⟩
  · have B3 := Lib.hid (bl_tr B2.out hb3)
    clear hb3 HNw hK FO
    go_wp2_with fail
    refine (KS.out w3).mono ?_; rintro e w4 ⟨rfl, hb4⟩
    have B4 := Lib.hid (bl_tr B3.out hb4)
    clear hb4
    go_wp2_with fail
    refine (KS.out w4).mono ?_; rintro e w5 ⟨rfl, hb5⟩
    have B5 := Lib.hid (bl_tr B4.out hb5)
    clear hb5
    go_wp2
    go_ret
    exact ⟨rfl, B5.out⟩
  · obtain ⟨hN, lv, n1, n2, c0', c1', io, l0⟩ := FO.out rfl rfl
    subst hN
    have OK := Lib.hid (ho.ok (C := C) n1 n2 lv c0' c1' io)
    have TL : T.length = wl.length := ho.rng.1
    have pm := prm_of ho (fun j hj => (io j hj).1.1)
    have HPM := Lib.hid pm
    have hc0 := HCH.out
    have B3 := Lib.hid (bl_tr B2.out hb3)
    have PRY := Lib.hid (fun (Y : World) (hb : Below w3.heap.size w3 Y) => show Prob Y wl vl cl (some ⟨g1, 0, none⟩) (some ⟨g2, 0, none⟩) ca' from ⟨PR.out.1.keep (bl_tr hb3 hb), PR.out.2.1.keep (bl_tr hb3 hb), PR.out.2.2.1.keep (bl_tr hb3 hb), l1, l2, l3⟩)
    have BX := Lib.hid (fun (Y : World) (hb : Below w3.heap.size w3 Y) => box6 (((bl_tr hb3 hb).block _ (lt_hp E2.out)).trans E2.out))
    have SM := Lib.hid (fun (Y : World) (hb : Below w3.heap.size w3 Y) => small_any wl.length C wl vl cl (some ⟨g1, 0, none⟩) (some ⟨g2, 0, none⟩) ca' k1 k2 cc' Y (PRY.out Y hb) hc0)
    have DE := Lib.hid (fun (Y : World) (hb : Below w3.heap.size w3 Y) => depth_any (hk.up hb))
    obtain ⟨W, hW⟩ : ∃ W, W = pick wl T := ⟨_, rfl⟩
    have WL : W.length = T.length := by rw [hW, pick_len]
    have KD := Lib.hid (fun (Y : World) (hb : Below w3.heap.size w3 Y) (p : List Int) (hp : LeftOk C W p) (v : Value) (hI : Ls v p Y) => (kids_any OK.out (hk.up hb) hI (by have := hp.le; omega)).mono fun e w' q => ww.kd_v (C := C) (T := T) (Wl := W) WL hp (by rw [hW]; exact q))
    have AN := Lib.hid (fun (Y : World) (hb : Below w3.heap.size w3 Y) (p : List Int) (hp : LeftOk C W p) (hl : p.length = T.length) (v : Value) (hI : Ls v p Y) => kans_z OK.out (hk.up hb) hI (by omega) (by rw [← hW]; exact hp) hl)
    have CO := Lib.hid (fun (Y : World) (hb : Below w3.heap.size w3 Y) (p : List Int) (hp : LeftOk C W p) (hl : p.length = T.length) (v : Value) (hI : Ls v (ansl T p T.length) Y) => (rcost_full wl.length C wl vl cl (ansl T p T.length) (some ⟨g1, 0, none⟩) (some ⟨g2, 0, none⟩) ca' k1 k2 cc' v Y (PRY.out Y hb) hc0 rfl lv n2 io hI (by rw [ansl_len]; exact TL) (fun j hj => by
      rw [ansl_len] at hj
      obtain ⟨i, hi, _, e⟩ := ansl_all (pl := p) pm j hj
      rw [e]
      exact hp.bit i (by omega))).mono fun e w' q => show ∃ c, e = .returned (.tuple #[.int .i64 c, .int .i64 0]) ∧ Below Y.heap.size Y w' from by
        obtain ⟨c, q1, q2⟩ := q
        rw [if_pos (by
          rw [← TL, ws_ansl C pm]
          have := hp.room
          rw [hl, hW] at this
          omega)] at q1
        exact ⟨c, q1, q2⟩)
    have AQ := Lib.hid (fun (Y : World) (h7 : wl.length ≤ 7) (hb : Below w3.heap.size w3 Y) => answers_any C wl vl cl (some ⟨g1, 0, none⟩) (some ⟨g2, 0, none⟩) ca' k1 k2 cc' hc0 lv h7 io wl.length [] none 0 Y (by simp) (fun j hj => by simp at hj) (PRY.out Y hb) (.inl ⟨none, 0, rfl, rfl⟩) (.inl ⟨rfl, rfl, rfl⟩))
    have CE := Lib.hid (show scnt W W.length 0 C = acnt wl C wl.length wl.length [] from by rw [hW]; exact cnt_eq pm TL (fun j hj => (io j hj).1.1) c0')
    have KS9 := Lib.hid (fun (Y : World) (hb : Below w3.heap.size w3 Y) => KS.out Y)
    have HC0 := Lib.hid c0'
    have HTL := Lib.hid (And.intro TL WL)
    clear hb3 HNw hk ho hc0 HCH E2 PR B2 PRY FO lv n2 c0' c1' io l0 pm hW TL WL OK
    go_wp2_with fail
    refine (KS.out w3).mono ?_; rintro e w4 ⟨rfl, D4⟩
    replace D4 := Lib.hid D4
    obtain ⟨c0, c1, c2, c3, c4, c5⟩ := BX.out w4 D4.out
    go_wp2_with fail
    clear c0 c1 c2 c3 c4 c5 KS
    obtain ⟨n, hn⟩ : ∃ n, n = wl.length := ⟨_, rfl⟩
    by_cases h9 : (wl.length : Int) ≤ 9
    case neg =>
      have SM2 := SM.out w4 D4.out
      rw [decide_eq_false h9] at SM2
      refine SM2.mono ?_; rintro e w5 ⟨rfl, hb5⟩
      have D5 := Lib.hid (bl_tr D4.out hb5)
      clear hb5 SM2
      go_wp2_with fail
      refine (KS9.out w5 D5.out).mono ?_; rintro e w6 ⟨rfl, hb6⟩
      have D6 := Lib.hid (bl_tr B3.out (bl_tr D5.out hb6))
      clear hb6
      go_wp2
      go_ret
      exact ⟨rfl, D6.out⟩
    have SM2 := SM.out w4 D4.out
    rw [decide_eq_true h9] at SM2
    refine SM2.mono ?_; rintro e w5 ⟨rfl, hb5⟩
    have D5 := Lib.hid (bl_tr D4.out hb5)
    clear hb5 SM2 SM
    obtain ⟨c0, c1, c2, c3, c4, c5⟩ := BX.out w5 D5.out
    by_cases h7 : wl.length ≤ 7
    rotate_left
    · have d5 : (wl.length : Int) > 7 := by omega
      have d5' : (7 : Int) < wl.length := by omega
      go_wp2_with fail
      refine (KS9.out w5 D5.out).mono ?_; rintro e w6 ⟨rfl, hb6⟩
      have D6 := Lib.hid (bl_tr B3.out (bl_tr D5.out hb6))
      clear hb6
      go_wp2
      go_ret
      exact ⟨rfl, D6.out⟩
    · have d5 : ¬ (wl.length : Int) > 7 := by omega
      have d5' : ¬ (7 : Int) < wl.length := by omega
      have N7 := Lib.hid h7
      have N1 := Lib.hid n1
      have OW0 : Hid (Ol w5.heap.size (.slice (some ⟨w5.heap.size, 0, none⟩) 0 0) [] ((w5.alloc (.cells #[] 3)).alloc (.cells #[.slice (some ⟨w5.heap.size, 0, none⟩) 0 0] 22))) := Lib.hid (Ol.keep (L := []) (v := .slice (some ⟨w5.heap.size, 0, none⟩) 0 0) (own0 w5) (Tw.al (Tw.refl [] _) _) (by simp))
      go_wp2_with (at_builtin; refine wpList_app23 rfl _ _ rfl rfl w5.heap.size (.slice none 0 0) 0 1 1 [] [.slice (some ⟨w5.heap.size, 0, none⟩) 0 0] ⟨w5.heap.size + 1, 0, none⟩ rfl rfl (World.ownsRow_nil _ _ _ _) (by simp; omega) rfl (fun j u hj => by
        cases j with
        | zero =>
          simp at hj; subst hj
          exact (cell_of_row _ _ 0 _ 22 _ (heap_alloc2_new w5 _ _)).trans rfl
        | succ j => simp at hj) (fun u hu => by simp at hu; subst hu; rfl) (by omega) ?_)
      intro v6 w6 own6 tw6 vb6
      clear c0 c1 c2 c3 c4 c5 d5 d5' h7 h9 n1
      have tw6' : Tw [] ((w5.alloc (.cells #[] 3)).alloc (.cells #[.slice (some ⟨w5.heap.size, 0, none⟩) 0 0] 22)) w6 := tw6
      have HM0 : Hid (MXg w5.heap.size w5.heap.size w6.heap.size v6 [[]] w6) := Lib.hid (by
        have := MXg.app (Z := [[]]) (M := []) (us := [.slice (some ⟨w5.heap.size, 0, none⟩) 0 0]) (H := w6.heap.size) (mxg_nil w5.heap.size w5.heap.size w6.heap.size _) rfl (fun j hj => by
          have : j = 0 := by simpa using hj
          subst this
          have ok := OW0.out.keep tw6' (by simp)
          refine ⟨_, rfl, ok, fun i hi => ?_⟩
          obtain ⟨_, C, c1⟩ := ok.blk i hi
          exact lt_hp c1) [] (World.ownsRow_nil _ _ _ _) (by simpa using own6) tw6'
        simpa using this)
      have BW6 : Hid (Below w5.heap.size w5 w6) := Lib.hid (Tw.below (bl_al (bl_al (Below.refl _ w5) _) _) tw6' (by simp) (by simp; omega))
      have HS0 := Lib.hid (skn_start W HC0.out)
      clear own6 tw6 vb6 tw6' OW0
      go_wp2
      go_loopw [5, 6] (fun wv fv wr => ∃ M Fd Ps, Hid (MXg w5.heap.size w5.heap.size wr.heap.size wv M wr) ∧ Hid (MXg w5.heap.size w5.heap.size wr.heap.size fv Fd wr) ∧ Hid (∀ g, g ∈ vb wv → g ∉ vb fv) ∧ Hid (Skn C W M Ps) ∧ Hid (Fd = Ps.map (fun p => ansl T p T.length)) ∧ Hid (Below w5.heap.size w5 wr)) (fun wv _ wr => msrK C W wv wr)
      case atStart => exact ⟨[[]], [], [], HM0, Lib.hid (mxg_nil _ _ _ _), Lib.hid (fun g _ h => by simp [vb] at h), HS0, Lib.hid rfl, BW6⟩
      case round =>
        clear HM0 BW6 HS0
        obtain ⟨M, Fd, Ps, HM, HF, HV, HS, HFP, BW⟩ := hrel
        have hfl : Fd.length = Ps.length := by rw [HFP.out, List.length_map]
        have h7w : W.length ≤ 7 := by have := N7.out; have := HTL.out; omega
        have D := Lib.hid (bl_tr D5.out BW.out)
        rcases List.eq_nil_or_concat M with hM | ⟨M', p, hM⟩
        · subst hM
          obtain ⟨wa', wc', rfl⟩ := HM.out.form
          rw [show ([] : List (List Int)).length = 0 from rfl]
          obtain ⟨fa, fc, rfl⟩ := HF.out.form
          have HFin := Lib.hid HS.out.fin
          have hFl : Fd.length ≤ 128 := by have := HS.out.len h7w; simp at this; omega
          have HFN := Lib.hid (show (Fd.length : Int) = (acnt wl C wl.length wl.length [] : Nat) by rw [hfl, HFin.out.1, CE.out])
          have HRow : Hid (∀ j, j < Fd.length → ∃ g ra rc, fa = some ⟨g, 0, none⟩ ∧ (Fd[j]?.getD []).length ≤ 1000 ∧ ∀ Y, Below wr.heap.size wr Y → Y.cell? ⟨g, j, none⟩ = some (.slice ra (Fd[j]?.getD []).length rc) ∧ od.Ints Y ra (Fd[j]?.getD [])) := Lib.hid fun j hj => by
            obtain ⟨g, c, r, e, e1, e2, e3, _⟩ := MXg.cell HF.out hj
            obtain ⟨ra, rc, rfl⟩ := e2.form
            have hpj : (Fd[j]?.getD []).length = T.length := by
              rw [HFP.out, List.getElem?_map]
              rw [hfl] at hj
              rw [List.getElem?_eq_getElem hj]
              exact ansl_len T _ _
            injection e with e _ _
            have htl := HTL.out
            refine ⟨g, ra, rc, e, by omega, fun Y hb => ⟨(hb.cell (p := ⟨g, j, none⟩) e3).trans e1, ?_⟩⟩
            exact ww.ol_od (e2.keep (Tw.of (S := []) hb) (by simp))
          have AQr := Lib.hid (fun Y hb => AQ.out Y N7.out hb)
          have HD : Hid (∀ (i j : Nat), i < Fd.length → j < i → Fd[i]?.getD [] ≠ Fd[j]?.getD []) := Lib.hid fun i j hi hj => by
            rw [hfl] at hi
            have hne := HFin.out.2 i j hi hj
            rw [HFP.out, List.getElem?_map, List.getElem?_map, List.getElem?_eq_getElem hi, List.getElem?_eq_getElem (show j < Ps.length by omega)]
            rw [List.getElem?_eq_getElem hi, List.getElem?_eq_getElem (show j < Ps.length by omega)] at hne
            have f1 := (HS.out.ful (Ps[i]) (List.getElem_mem hi)).2
            have f2 := (HS.out.ful (Ps[j]) (List.getElem_mem (by omega))).2
            exact ansl_ne HPM.out (by have := HTL.out; omega) (by have := HTL.out; omega) hne
          have DB := D
          clear HM HF HV HS HFin BW HFP hfl h7w
          go_wp2
          generalize wr = We at *
          go_loopw [15] (fun i wr => ∃ a : Nat, a ≤ Fd.length ∧ i = .int .i64 a ∧ Hid (Below We.heap.size We wr)) (fun i _ => Fd.length - (intOf i).toNat)
          case atStart => exact ⟨0, by omega, rfl, Lib.hid (Below.refl _ _)⟩
          case round =>
            obtain ⟨a, ha, rfl, BE⟩ := hrel
            by_cases hal : a < Fd.length
            · have a1 : (a : Int) < (Fd.length : Int) := by omega
              have a0 : (0 : Int) ≤ (a : Int) := by omega
              go_wp2
              go_loopw [16] (fun i wr => ∃ b : Nat, b ≤ a ∧ i = .int .i64 b ∧ Hid (Below We.heap.size We wr)) (fun i _ => a - (intOf i).toNat)
              case atStart => exact ⟨0, by omega, rfl, BE⟩
              case round =>
                clear BE
                obtain ⟨b, hb, rfl, BE⟩ := hrel
                by_cases hbl : b < a
                · obtain ⟨g, ra, rc, rfl, hla, hr1⟩ := HRow.out a hal
                  obtain ⟨g', rb, rd, e', hlb, hr2⟩ := HRow.out b (by omega)
                  injection e' with e'
                  injection e' with e' _ _
                  subst e'
                  have b1 : (b : Int) < (a : Int) := by omega
                  have b2 : (b : Int) < (Fd.length : Int) := by omega
                  have b0 : (0 : Int) ≤ (b : Int) := by omega
                  have HNe := Lib.hid (HD.out a b hal hbl)
                  have SMc := Lib.hid (fun Y hbb => od.same_any (Fd[a]?.getD []) (Fd[b]?.getD []) hla hlb ra rb rc rd Y (hr1 Y hbb).2 (hr2 Y hbb).2)
                  generalize Fd[a]?.getD [] = La at *
                  generalize Fd[b]?.getD [] = Lb at *
                  have BD := Lib.hid (bl_tr BE.out (bl_drew wr))
                  go_upto_region 30 with fail
                  refine wp_region_held_drew (S := fun W => Below We.heap.size We W) (by kernel_rfl) BD.out (fun hHeld => ?_)
                  generalize World.drew wr = Wd at *
                  refine wpAnyH_take (i := 0) (v := ?vz0) (by rw [List.getElem?_toArray]; rfl) (by kernel_rfl) (by kernel_rfl) (by kernel_rfl) ?kz0 (Or.inl ⟨by rfl, ?yz0⟩) hHeld ?rz0
                  case kz0 => exact fun _ _ _ h => h
                  case yz0 => (intro wz hSw; go_simp; try (with_reducible rfl))
                  try simp only [Act.put, List.setIfInBounds_toArray, List.set_cons_zero, List.set_cons_succ]
                  refine wpAnyH_take (i := 1) (v := ?vz1) (by rw [List.getElem?_toArray]; rfl) (by kernel_rfl) (by kernel_rfl) (by kernel_rfl) ?kz1 (Or.inl ⟨by rfl, ?yz1⟩) hHeld ?rz1
                  case kz1 => exact fun _ _ _ h => h
                  case yz1 => (intro wz hSw; go_simp; try (with_reducible rfl))
                  try simp only [Act.put, List.setIfInBounds_toArray, List.set_cons_zero, List.set_cons_succ]
                  refine wpAnyH_take (i := 2) (v := ?vz2) (by rw [List.getElem?_toArray]; rfl) (by kernel_rfl) (by kernel_rfl) (by kernel_rfl) ?kz2 (Or.inl ⟨by rfl, ?yz2⟩) hHeld ?rz2
                  case kz2 => exact fun _ _ _ h => h
                  case yz2 => (intro wz hSw; go_simp; try (with_reducible rfl))
                  try simp only [Act.put, List.setIfInBounds_toArray, List.set_cons_zero, List.set_cons_succ]
                  refine wpAnyH_take (i := 3) (v := ?vz3) (by rw [List.getElem?_toArray]; rfl) (by kernel_rfl) (by kernel_rfl) (by kernel_rfl) ?kz3 (Or.inl ⟨by rfl, ?yz3⟩) hHeld ?rz3
                  case kz3 => exact fun _ _ _ h => h
                  case yz3 => (intro wz hSw; have c9 := (hr1 _ hSw).1; go_simp; try (with_reducible rfl))
                  try simp only [Act.put, List.setIfInBounds_toArray, List.set_cons_zero, List.set_cons_succ]
                  refine wpAnyH_take (i := 4) (v := ?vz4) (by rw [List.getElem?_toArray]; rfl) (by kernel_rfl) (by kernel_rfl) (by kernel_rfl) ?kz4 (Or.inl ⟨by rfl, ?yz4⟩) hHeld ?rz4
                  case kz4 => exact fun _ _ _ h => h
                  case yz4 => (intro wz hSw; go_simp; try (with_reducible rfl))
                  try simp only [Act.put, List.setIfInBounds_toArray, List.set_cons_zero, List.set_cons_succ]
                  refine wpAnyH_take (i := 5) (v := ?vz5) (by rw [List.getElem?_toArray]; rfl) (by kernel_rfl) (by kernel_rfl) (by kernel_rfl) ?kz5 (Or.inl ⟨by rfl, ?yz5⟩) hHeld ?rz5
                  case kz5 => exact fun _ _ _ h => h
                  case yz5 => (intro wz hSw; go_simp; try (with_reducible rfl))
                  try simp only [Act.put, List.setIfInBounds_toArray, List.set_cons_zero, List.set_cons_succ]
                  refine wpAnyH_take (i := 6) (v := ?vz6) (by rw [List.getElem?_toArray]; rfl) (by kernel_rfl) (by kernel_rfl) (by kernel_rfl) ?kz6 (Or.inl ⟨by rfl, ?yz6⟩) hHeld ?rz6
                  case kz6 => exact fun _ _ _ h => h
                  case yz6 => (intro wz hSw; go_simp; try (with_reducible rfl))
                  try simp only [Act.put, List.setIfInBounds_toArray, List.set_cons_zero, List.set_cons_succ]
                  refine wpAnyH_take (i := 7) (v := ?vz7) (by rw [List.getElem?_toArray]; rfl) (by kernel_rfl) (by kernel_rfl) (by kernel_rfl) ?kz7 (Or.inl ⟨by rfl, ?yz7⟩) hHeld ?rz7
                  case kz7 => exact fun _ _ _ h => h
                  case yz7 => (intro wz hSw; have c9 := (hr2 _ hSw).1; go_simp; try (with_reducible rfl))
                  try simp only [Act.put, List.setIfInBounds_toArray, List.set_cons_zero, List.set_cons_succ]
                  refine wpAnyH_ready (rs := [8]) (by kernel_rfl) (by simp) ?_
                  refine AllReadyH.cons (by rw [List.getElem?_toArray]; rfl) (fun Kq hKq => ?_) AllReadyH.nil
                  go_simp
                  go_at_call 21
                  refine (SMc.out Wd hHeld).mono ?_; rintro e w20 ⟨rfl, hb20⟩
                  have BE20 := Lib.hid (bl_tr BD.out hb20)
                  rw [decide_eq_false HNe.out]
                  clear hb20 hHeld
                  go_wp2_with fail
                  refine hKq.out _ _ BE20.out (fun hHeld => ?_)
                  clear hKq Kq hHeld
                  try simp only [Act.put, List.setIfInBounds_toArray, List.set_cons_zero, List.set_cons_succ]
                  refine wpAnyH_done (by kernel_rfl) ?_ _
                  clear SMc HNe BD BE
                  go_wp2
                  go_roundw
                  case rel => exact ⟨b + 1, by omega, by go_num, BE20⟩
                  case measure => simp [intOf]; omega
                · obtain rfl : b = a := by omega
                  go_wp2
                  go_roundw
                  case rel => exact ⟨b + 1, by omega, by go_num, BE⟩
                  case measure => simp [intOf]; omega
            · obtain rfl : a = Fd.length := by omega
              have DD := Lib.hid (bl_tr DB.out BE.out)
              have AQ9 := Lib.hid (AQr.out wr DD.out)
              obtain ⟨c0, c1, c2, c3, c4, c5⟩ := BX.out wr DD.out
              have hfn := HFN.out
              have hbb : ((Fd.length : Int) == ((acnt wl C wl.length wl.length [] : Nat) : Int)) = true := by rw [hfn]; simp
              clear hfn HRow HD HFN AQr
              go_wp2_with fail
              clear c0 c1 c2 c3 c4 c5
              refine AQ9.out.mono ?_; rintro e w21 ⟨rfl, hb21⟩
              have D21 := Lib.hid (bl_tr B3.out (bl_tr DD.out hb21))
              clear hb21 AQ9
              go_wp2
              go_ret
              exact ⟨rfl, D21.out⟩
        · rw [List.concat_eq_append] at hM
          subst hM
          have HMs := Lib.hid (msrK_eq (C := C) (Wl := W) HM.out)
          obtain ⟨gw, cw, r, rfl, hcell, hol, hgw, hc1, hc2⟩ := MXg.cell HM.out (j := M'.length) (by simp)
          have hp0 : (M' ++ [p])[M'.length]?.getD [] = p := by simp
          have hlen : (M' ++ [p]).length = M'.length + 1 := by simp
          rw [hp0] at hol
          obtain ⟨ra, rc, rfl⟩ := hol.form
          obtain ⟨fa, fc, rfl⟩ := HF.out.form
          have HP := Lib.hid (MXg.pop HM.out)
          have HPr := Lib.hid (HS.out.pre p (by simp))
          have hL8 := HS.out.len h7w
          have K1 := Lib.hid (KD.out wr D.out p HPr.out _ hol.ls)
          have HOl := Lib.hid hol
          rw [hlen] at hc1 hL8 HMs ⊢
          have m0 : (0 : Int) ≤ (M'.length : Int) := by omega
          have m1 : (M'.length : Int) ≤ 128 := by omega
          have m2 : (Fd.length : Int) ≤ 128 := by omega
          have m3 : (M'.length : Int) ≤ (cw : Int) := by omega
          have m4 : ¬ (M'.length : Int) + (Fd.length : Int) > 3000 := by omega
          have m5 : (cw : Int) ≤ 9223372036854775807 := by omega
          have m6 : ((M'.length + 1 : Nat) : Int) - 1 = (M'.length : Int) := by omega
          clear hp0 hlen hol hgw hL8 hfl h7w
          go_wp2_with fail
          refine K1.out.mono ?_; rintro e w7 q
          rcases q with ⟨hl, a8, c8, rfl, hb7⟩ | ⟨hl, g8, c8, Lk, rfl, t1, t2, t4, hb7⟩
          · have D7 := Lib.hid (bl_tr D.out hb7)
            have DE7 := Lib.hid (DE.out w7 D7.out)
            have AN7 := Lib.hid (AN.out w7 D7.out p HPr.out hl _ (HOl.out.ls.up hb7))
            have HF7 := Lib.hid (HF.out.keep hb7)
            have HP7 := Lib.hid (HP.out.keep hb7)
            have BW7 := Lib.hid (bl_tr BW.out hb7)
            have HLF := Lib.hid (HS.out.leaf (by have := HTL.out; omega))
            have HFP2 := Lib.hid (show Fd ++ [ansl T p T.length] = (Ps ++ [p]).map (fun p => ansl T p T.length) by rw [HFP.out, List.map_append]; rfl)
            have HM2 := Lib.hid (kmsr_leaf C W M' p)
            have dl : ((p.length : Int) == (T.length : Int)) = true := by rw [hl]; simp
            have COp := Lib.hid (fun (Y : World) (hb : Below w3.heap.size w3 Y) => CO.out Y hb p HPr.out hl)
            clear hl hb7 K1 HF HP HOl HM HS D BW KD AN CO hcell HPr HFP
            go_wp2_with fail
            refine DE7.out.mono ?_; rintro e w8 ⟨rfl, rfl⟩
            go_wp2_with fail
            refine AN7.out.mono ?_; rintro e w8 ⟨g9, rfl, ho9, hb8⟩
            have D8 := Lib.hid (bl_tr D7.out hb8)
            have CO8 := Lib.hid (COp.out w8 D8.out _ ho9.ls)
            have HO8 := Lib.hid (ho9.mono BW7.out.size)
            have HF8 := Lib.hid (HF7.out.keep hb8)
            have HP8 := Lib.hid (HP7.out.keep hb8)
            have BW8 := Lib.hid (bl_tr BW7.out hb8)
            clear ho9 hb8 AN7 COp HF7 HP7 BW7 D7 DE7
            obtain ⟨c0, c1, c2, c3, c4, c5⟩ := BX.out w8 D8.out
            go_wp2_with fail
            clear c0 c1 c2 c3 c4 c5
            refine CO8.out.mono ?_; rintro e w9 ⟨cst, rfl, hb9⟩
            have D9 := Lib.hid (bl_tr D8.out hb9)
            have al9 : Below w9.heap.size w9 (w9.alloc (.cells #[.slice (some ⟨g9, 0, none⟩) p.length p.length] 22)) := bl_al (Below.refl _ _) _
            have HO9 := Lib.hid (HO8.out.keep (Tw.of (S := []) (bl_tr hb9 al9)) (by simp))
            have HF9 := Lib.hid (HF8.out.keep (bl_tr hb9 al9))
            have HP9 := Lib.hid (HP8.out.keep (bl_tr hb9 al9))
            have BW9 := Lib.hid (bl_tr BW8.out (bl_tr hb9 al9))
            have hgw9 : gw < (w9.alloc (.cells #[.slice (some ⟨g9, 0, none⟩) p.length p.length] 22)).heap.size := by
              obtain ⟨_, C, q⟩ := HP9.out.blk gw (by simp [vb])
              exact lt_hp q
            clear hb9 al9 CO8 HO8 HF8 HP8 BW8 D8
            have HGW := Lib.hid hgw9
            clear hgw9
            obtain ⟨fs, f1, f2, f3⟩ := HF9.out
            have F1 := Lib.hid f1
            clear f1 f2 f3
            go_wp2_with (at_builtin; refine wpList_app23 rfl _ _ rfl rfl w5.heap.size (.slice fa Fd.length fc) Fd.length 1 1 fs [.slice (some ⟨g9, 0, none⟩) p.length p.length] ⟨w9.heap.size, 0, none⟩ rfl rfl F1.out BW9.out.size rfl (fun j u hj => by
              cases j with
              | zero =>
                simp at hj; subst hj
                exact (cell_of_row _ _ 0 _ 22 _ (heap_alloc_new w9 _)).trans rfl
              | succ j => simp at hj) (fun u hu => by simp at hu; subst hu; rfl) (by omega) ?_)
            intro v10 w10 own10 tw10 vb10
            have hbf := HF9.out.blk
            have n22 : ∀ (i : Nat), i ∈ vb (.slice fa Fd.length fc) → ∀ C, (w9.alloc (.cells #[.slice (some ⟨g9, 0, none⟩) p.length p.length] 22)).heap[i]? ≠ some (.cells C 3 (0, 0)) := fun i hi C e => by
              obtain ⟨_, D, q⟩ := hbf i hi
              rw [e] at q
              injection q with q
              injection q with _ q
              cases q
            have HO10 := HO9.out.keep tw10 (fun i hi hm => by
              obtain ⟨_, C, q⟩ := HO9.out.blk i hm
              exact n22 i hi C q)
            have HF10 := Lib.hid (MXg.app (Z := [ansl T p T.length]) (us := [.slice (some ⟨g9, 0, none⟩) p.length p.length]) (HF9.out.top.up tw10.size) rfl (fun j hj => by
              have : j = 0 := by simpa using hj
              subst this
              refine ⟨_, rfl, HO10, fun i hi => ?_⟩
              obtain ⟨_, C, c1⟩ := HO10.blk i hi
              exact lt_hp c1) fs F1.out own10 tw10)
            have HV2 := HV.out
            have HP10 := Lib.hid ((HP9.out.tw tw10 (fun i hi hm => HV2 i hm hi) (fun i hi => .inr (n22 i hi))).top)
            have HV10 : Hid (∀ g, g ∈ vb (.slice (some ⟨gw, 0, none⟩) M'.length cw) → g ∉ vb v10) := Lib.hid fun g hg hm => by
              rcases vb10 g hm with q | q
              · exact HV2 g hg q
              · simp [vb] at hg
                subst hg
                have := HGW.out
                rw [World.size_alloc] at this
                omega
            have BW10 := Lib.hid (Tw.below BW9.out tw10 (fun i hi => (hbf i hi).1) BW9.out.size)
            have HM10 := Lib.hid (msrK_eq (C := C) (Wl := W) HP10.out)
            clear own10 tw10 vb10 HO10 HV2 n22 hbf HF9 HP9 F1
            go_wp2
            go_roundw
            case rel => exact ⟨M', Fd ++ [ansl T p T.length], Ps ++ [p], HP10, HF10, HV10, HLF, HFP2, BW10⟩
            case measure => rw [HM10.out, HMs.out]; exact HM2.out
          · have D7 := Lib.hid (bl_tr D.out hb7)
            have DE7 := Lib.hid (DE.out w7 D7.out)
            have HF7 := Lib.hid (HF.out.keep hb7)
            have HP7 := Lib.hid (HP.out.keep hb7).top
            have BW7 := Lib.hid (bl_tr BW.out hb7)
            have hlW : p.length < W.length := by have := HTL.out; omega
            have HNo := Lib.hid (HS.out.node hlW t1).1
            have HM2 := Lib.hid (HS.out.node hlW t1).2
            have HO7 := Lib.hid (HOl.out.keep (Tw.of (S := []) hb7) (by simp))
            have dl : ((p.length : Int) == (T.length : Int)) = false := by simp; omega
            have HT4 := Lib.hid t4
            have HV7 : Hid (∀ g, g ∈ vb (.slice (some ⟨gw, 0, none⟩) M'.length cw) → g ∉ vb (.slice fa Fd.length fc)) := Lib.hid fun g hg => HV.out g hg
            have hT4 : (Lk.length : Int) ≤ 2 := by omega
            have hp5 : p.length ≤ 800 := by have := HTL.out; omega
            have HP5 := Lib.hid hp5
            have ML := Lib.hid (show M'.length ≤ 128 by omega)
            clear hl t1 t2 t4 hb7 K1 HF HP HOl HM HS D BW KD AN CO hcell HPr HV hp5 hlW
            go_wp2_with fail
            refine DE7.out.mono ?_; rintro e w8 ⟨rfl, rfl⟩
            go_wp2
            go_loopw [5, 14] (fun wv i wr => ∃ (t gq cq : Nat), t ≤ Lk.length ∧ wv = .slice (some ⟨gq, 0, none⟩) (M' ++ (Lk.take t).map (fun a => p ++ [a])).length cq ∧ i = .int .i64 t ∧ Hid (MXg w5.heap.size w5.heap.size wr.heap.size (.slice (some ⟨gq, 0, none⟩) (M' ++ (Lk.take t).map (fun a => p ++ [a])).length cq) (M' ++ (Lk.take t).map (fun a => p ++ [a])) wr) ∧ Hid (∀ g, g ∈ vb (.slice (some ⟨gq, 0, none⟩) (M' ++ (Lk.take t).map (fun a => p ++ [a])).length cq) → g ∉ vb (.slice fa Fd.length fc)) ∧ Hid (Below w7.heap.size w7 wr)) (fun _ i _ => Lk.length - (intOf i).toNat)
            case atStart => exact ⟨0, gw, cw, by omega, by simp, rfl, by simpa using HP7, by simpa using HV7, Lib.hid (Below.refl _ _)⟩
            case round =>
              clear HP7 HV7
              obtain ⟨t, gq, cq, ht, rfl, rfl, HQ, HVq, BQ⟩ := hrel
              have BWq := Lib.hid (bl_tr BW7.out BQ.out)
              by_cases htl : t < Lk.length
              · have q1 : (t : Int) < (Lk.length : Int) := by omega
                have q0 : (0 : Int) ≤ (t : Int) := by omega
                have HSr := Lib.hid (ol_srcA HO7.out wr BQ.out)
                have HCl : Hid (∀ Y, Below wr.heap.size wr Y → Y.cell? ⟨g8, 0 + t, none⟩ = some (.int .i64 (nt Lk t))) := Lib.hid fun Y hb => by
                  obtain ⟨b, o, e, lt, m⟩ := ww.ol_ints HT4.out t htl
                  injection e with e
                  injection e with e1 e2
                  subst e1 e2
                  refine ((bl_tr BQ.out hb).cell (p := ⟨g8, 0 + t, none⟩) lt).trans ?_
                  rw [m]; unfold nt; rfl
                have HTk := Lib.hid (show Lk.take (t + 1) = Lk.take t ++ [nt Lk t] by rw [List.take_succ_eq_append_getElem htl, nt_get Lk t htl])
                have hMM : (M' ++ (Lk.take t).map (fun a => p ++ [a])).length ≤ 8000 := by
                  have := ML.out
                  rw [List.length_append, List.length_map, List.length_take]
                  omega
                go_upto_region 23 with fail
                refine push_any 128 5 7 8 14 w5.heap.size wr.heap.size w5.heap.size gq cq (M' ++ (Lk.take t).map (fun a => p ++ [a])) ra rc p g8 0 Lk.length c8 t (nt Lk t) (by kernel_rfl) (ok_hop (fun k hk => ?hop)) (by simp) (by decide) rfl rfl rfl rfl HQ.out BWq.out.size HSr.out HP5.out hMM htl HCl.out (fun u x hm hb => ?hk)
                case hop =>
                  rcases fifteen hk with rfl | rfl | rfl | rfl | rfl | rfl | rfl | rfl | rfl | rfl | rfl | rfl | rfl | rfl | rfl
                  all_goals exact ⟨_, rfl, rfl, rfl, rfl, by first | exact fun _ => rfl | exact fun h => absurd rfl h, by kernel_rfl⟩
                case hk =>
                  obtain ⟨H, hm⟩ := hm
                  have eM : M' ++ (Lk.take t).map (fun a => p ++ [a]) ++ [p ++ [nt Lk t]] = M' ++ (Lk.take (t + 1)).map (fun a => p ++ [a]) := by rw [HTk.out, List.map_append, List.append_assoc]; rfl
                  rw [eM] at hm
                  obtain ⟨g9, c9, r9, hu, _⟩ := hm.cell (j := 0) (by rw [← eM]; simp; omega)
                  have hbk := hm.blk
                  have hm2 := (hm.mono BWq.out.size).top
                  rw [hu] at hbk hm2
                  have HM9 := Lib.hid hm2
                  have HV9 : Hid (∀ g, g ∈ vb (.slice (some ⟨g9, 0, none⟩) (M' ++ (Lk.take (t + 1)).map (fun a => p ++ [a])).length c9) → g ∉ vb (.slice fa Fd.length fc)) := Lib.hid fun g hg hf => by
                    obtain ⟨_, C, q⟩ := HF7.out.blk g hf
                    have a1 := lt_hp q
                    have a2 := (hbk g hg).1
                    have a3 := BQ.out.size
                    omega
                  have BQ9 := Lib.hid (bl_tr BQ.out hb)
                  have e15 : (List.range 15).map (dstP 128 5) = [128, 129, 130, 131, 132, 133, 134, 135, 136, 137, 138, 139, 140, 141, 5] := by decide
                  rw [e15]
                  simp only [List.foldl_cons, List.foldl_nil, List.setIfInBounds_toArray, List.set_cons_zero, List.set_cons_succ]
                  rw [hu]
                  clear hm hm2 hbk hu eM e15 hb HCl HSr HTk HQ HVq BWq BQ hMM
                  go_wp2
                  go_roundw
                  case rel => exact ⟨t + 1, g9, c9, by omega, rfl, by go_num, HM9, HV9, BQ9⟩
                  case measure => simp [intOf]; omega
              · obtain rfl : t = Lk.length := by omega
                have hTt : Lk.take Lk.length = Lk := List.take_length
                rw [hTt] at HQ HVq ⊢
                have HMq := Lib.hid (msrK_eq (C := C) (Wl := W) HQ.out)
                have HFq := Lib.hid ((HF7.out.keep BQ.out).top)
                go_wp2
                go_roundw
                case rel => exact ⟨_, Fd, Ps, HQ, HFq, HVq, HNo, HFP, BWq⟩
                case measure => rw [HMq.out, HMs.out]; exact HM2.out
end Go.Proofs.Yteoionlnnjcggaa.kn
