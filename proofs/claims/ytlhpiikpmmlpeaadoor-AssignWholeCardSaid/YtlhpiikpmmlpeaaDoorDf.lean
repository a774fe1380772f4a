/-
  assign: AssignWhole, walked.
-/
import Derived.Test.YtlhpiikpmmlpeaaDoorCd
import Derived.Test.YtlhpiikpmmlpeaaDoorDc
import Derived.Test.YtlhpiikpmmlpeaaDoorDe
import Derived.Test.YtlhpiikpmmlpeaaDoorHl
import Derived.Test.YtlhpiikpmmlpeaaDoorBs
namespace Go.Proofs.YtlhpiikpmmlpeaaDoor.kn
open Go.RowKit
set_option linter.unusedVariables false
set_option linter.unusedSimpArgs false
namespace ww
theorem an_v {n : Nat} {p : List Int} {w w' : World} {e : Ending} (hp : Pre n p) (hl : p.length = n) (h : AnP n p w e w') : ∃ g lc, e = .returned (.tuple #[.slice (some ⟨g, 0, none⟩) p.length lc, .int .i64 0]) ∧ Ol w.heap.size (.slice (some ⟨g, 0, none⟩) p.length lc) p w' ∧ Below w.heap.size w w' := by
  rcases h with ⟨h1, _⟩ | ⟨h1, h2, g, cap, rfl, h5⟩
  · exact absurd ⟨hp, hl⟩ h1
  · exact ⟨g, cap, rfl, h5.2.2.1, h5.2.2.2⟩
theorem ol_ints {B c : Nat} {a : Option Addr} {l : List Int} {W : World} (h : Ol B (.slice a l.length c) l W) : Ints W a l := ls_ints h.ls
theorem ol_od {B c : Nat} {a : Option Addr} {l : List Int} {W : World} (h : Ol B (.slice a l.length c) l W) : od.Ints W a l := fun j hj => by
  obtain ⟨b, o, e, l1, m⟩ := ol_ints h j hj
  exact ⟨b, o, e, l1, by rw [m]; unfold od.nth; rfl⟩
theorem ol_some {B c : Nat} {a : Option Addr} {l : List Int} {W : World} (h : Ol B (.slice a l.length c) l W) (hl : 1 ≤ l.length) : ∃ g, a = some ⟨g, 0, none⟩ ∧ g < W.heap.size ∧ l.length ≤ c ∧ c ≤ 9223372036854775807 := by
  rcases h.2 with ⟨h1, _⟩ | ⟨g, cap, cur, h1, h2, h3, h4, h5, _⟩
  · injection h1 with _ h1 _; omega
  · injection h1 with h1 _ h6
    subst h6
    exact ⟨g, h1, lt_hp h3, h4, by unfold maxLen at h5; omega⟩
/-- Kids of a beginning -/
theorem kd_v {n : Nat} {cl : List (List Int)} {p : List Int} {w w' : World} {e : Ending} (hn : n ≤ 128) (hp : Pre n p) (h : KiP n cl p w e w') :
    (p.length = n ∧ e = .returned (.tuple #[.slice none 0 0, .int .i64 0]) ∧ Below w.heap.size w w') ∨
    (p.length < n ∧ ∃ g cap T, e = .returned (.tuple #[.slice (some ⟨g, 0, none⟩) T.length cap, .int .i64 0]) ∧ T.Nodup ∧ (∀ v : Int, v ∈ T → (0 ≤ v ∧ v < n) ∧ v ∉ p) ∧ T.length = n - p.length ∧ Ol w.heap.size (.slice (some ⟨g, 0, none⟩) T.length cap) T w' ∧ Below w.heap.size w w') := by
  rcases h with ⟨h1, _⟩ | ⟨h1, h2, h3, h4⟩ | ⟨h1, h2, g, cap, T, rfl, h4, h5⟩
  · exact absurd hp h1
  · exact .inl ⟨h2, h3, h4⟩
  · have hnd : (frl n p).Nodup := by rw [List.nodup_iff_pairwise_ne]; exact (frl_pw n p).imp (fun q => by omega)
    obtain ⟨m1, m2⟩ := h4.mem hnd
    exact .inr ⟨h2, g, cap, T, rfl, m1, fun v hv => (frl_mem hn p v).1 (m2 v hv), by rw [h4.len, frl_full hn hp], h5.2.2.1, h5.2.2.2⟩
end ww
set_option maxRecDepth 100000 in
set_option maxHeartbeats 16000000 in
theorem whole_walk (kd N C : Int) (wl vl : List Int) (cl : List (List Int)) (wa va ca : Option Addr) (wn vn cn wc vc cc : Nat) (w : World) (hT : st.T64 w) (h1 : Src w wa wn wc wl) (h2 : Src w va vn vc vl) (h3 : RSrc w ca cn cc cl) :
    Calls Tryd.prog 7 #[.agg #[.int .i64 kd, .int .i64 N, .int .i64 C, .slice wa wn wc, .slice va vn vc, .slice ca cn cc]] w fun e w' => e = .returned (.bool true) ∧ Below w.heap.size w w' := by
  have bA : Below w.heap.size w (w.alloc (.cells #[.int .i64 kd, .int .i64 N, .int .i64 C, .slice wa wn wc, .slice va vn vc, .slice ca cn cc] 25)) := bl_al (Below.refl _ _) _
  have HC := Lib.hid (refcopy_any kd N C wl vl cl wa va ca wn vn cn wc vc cc _ (h1.keep bA) (h2.keep bA) (h3.keep bA))
  have HB := Lib.hid bA
  have l1 : wl.length ≤ 1000 := by have := h1.1; omega
  have l2 : vl.length ≤ 1000 := by have := h2.1; omega
  have l3 : cl.length ≤ 1000 := by have := h3.1; omega
  have KS := Lib.hid (fun (W : World) (hb : Below w.heap.size w W) => assigns_any W (hT.keep hb))
  have HT := Lib.hid hT
  clear h1 h2 h3 bA hT
  go_enter Tryd.func7, Tryd.ntmps7
  go_wp2_with fail
  refine HC.out.mono ?_; rintro e w1 ⟨g1, k1, g2, k2, ca', cc', rfl, hb, i1, i2, rw, -⟩
  have q0 : w1.heap[w.heap.size]? = some (.cells #[.int .i64 kd, .int .i64 N, .int .i64 C, .slice wa wn wc, .slice va vn vc, .slice ca cn cc] 25 (0, 0)) := (hb.block _ (by simp)).trans (heap_alloc_new w _)
  have P := put_copy (K := kd) (N := N) (C := C) (k1 := k1) (k2 := k2) (cc := cc') (Nat.le_refl _) q0 (bl_tr HB.out hb) i1 i2 rw l1 l2 l3 _ rfl
  have HP := Lib.hid P
  obtain ⟨c0, c1, c2, c3, c4, c5⟩ := box6 q0
  have cf := fr6 q0
  clear hb i1 i2 rw q0 HC HB P
  go_wp2_with fail
  clear c0 c1 c2 c3 c4 c5 cf
  generalize ((((((w1.setCell ⟨w.heap.size, 0, none⟩ (.int .i64 kd)).setCell ⟨w.heap.size, 1, none⟩ (.int .i64 N)).setCell ⟨w.heap.size, 2, none⟩ (.int .i64 C)).setCell ⟨w.heap.size, 3, none⟩ (.slice (some ⟨g1, 0, none⟩) wl.length k1)).setCell ⟨w.heap.size, 4, none⟩ (.slice (some ⟨g2, 0, none⟩) vl.length k2)).setCell ⟨w.heap.size, 5, none⟩ (.slice ca' cl.length cc')) = X at *
  have E2 := Lib.hid HP.out.1
  have PR := Lib.hid HP.out.2.1
  have B2 := Lib.hid HP.out.2.2
  have HNw := Lib.hid (new_any kd N C wl vl cl (some ⟨g1, 0, none⟩) (some ⟨g2, 0, none⟩) ca' k1 k2 cc' X PR.out)
  clear HP
  obtain ⟨ch, hch⟩ : ∃ ch, ch = chk kd N C wl vl cl := ⟨_, rfl⟩
  have HCH := Lib.hid hch
  clear hch
  refine HNw.out.mono ?_; rintro e w3 hq
  unfold NaP at hq
  rw [← HCH.out] at hq
  rcases hq with ⟨hz, rfl, hb3⟩ | ⟨rfl, hK, rfl, hb3⟩ | ⟨rfl, rfl, b, n, hNn, hln, rfl, hb3, hk⟩
  · have B3 := Lib.hid (bl_tr B2.out hb3)
    have b2 : (ch != 0) = true := by simpa using hz
    clear hb3 HNw hz
    go_wp2_with fail
    refine (KS.out w3 B3.out).mono ?_; rintro e w4 ⟨rfl, hb4⟩
    have B4 := Lib.hid (bl_tr B3.out hb4)
    clear hb4
    go_wp2_with fail
    refine (KS.out w4 B4.out).mono ?_; rintro e w5 ⟨rfl, hb5⟩
    have B5 := Lib.hid (bl_tr B4.out hb5)
    clear hb5
    go_wp2
    go_ret
    exact ⟨rfl, B5.out⟩
  · have B3 := Lib.hid (bl_tr B2.out hb3)
    clear hb3 HNw hK
    go_wp2_with fail
    refine (KS.out w3 B3.out).mono ?_; rintro e w4 ⟨rfl, hb4⟩
    have B4 := Lib.hid (bl_tr B3.out hb4)
    clear hb4
    go_wp2_with fail
    refine (KS.out w4 B4.out).mono ?_; rintro e w5 ⟨rfl, hb5⟩
    have B5 := Lib.hid (bl_tr B4.out hb5)
    clear hb5
    go_wp2
    go_ret
    exact ⟨rfl, B5.out⟩
  · subst hNn
    have hc0 := HCH.out.symm
    obtain ⟨z1, z2⟩ := chk_rw HCH.out.symm
    have n1 : 1 ≤ n := by omega
    have n24 : n ≤ 24 := by have := (z2 (by decide)).1; omega
    have B3 := Lib.hid (bl_tr B2.out hb3)
    have KS3 := Lib.hid (KS.out w3 B3.out)
    have PRW := Lib.hid (fun (Y : World) (hb : Below w3.heap.size w3 Y) => PR.out.keep (bl_tr hb3 hb))
    have BX := Lib.hid (fun (Y : World) (hb : Below w3.heap.size w3 Y) => box6 (((bl_tr hb3 hb).block _ (lt_hp E2.out)).trans E2.out))
    have SM := Lib.hid (fun (Y : World) (hb : Below w3.heap.size w3 Y) => small_any 2 n C wl vl cl (some ⟨g1, 0, none⟩) (some ⟨g2, 0, none⟩) ca' k1 k2 cc' Y (PRW.out Y hb))
    have DE := Lib.hid (fun (Y : World) (hb : Below w3.heap.size w3 Y) => depth_any (hk.keep hb))
    have KD := Lib.hid (fun (Y : World) (hb : Below w3.heap.size w3 Y) (p : List Int) (hp : Pre n p) (pa : Option Addr) (pc : Nat) (hI : Ints Y pa p) => (kids_any p (by have := pre_len hp; omega) pa pc Y (HT.out.keep (bl_tr B2.out (bl_tr hb3 hb))) (hk.keep hb) hI).mono fun e w' q => ww.kd_v (by omega) hp q)
    have AN := Lib.hid (fun (Y : World) (hb : Below w3.heap.size w3 Y) (p : List Int) (hp : Pre n p) (hl : p.length = n) (g pc : Nat) (hI : Ints Y (some ⟨g, 0, none⟩) p) (hg : g < Y.heap.size) (hpc : p.length ≤ pc ∧ pc ≤ 9223372036854775807) => (answer_any p (by omega) g 0 pc Y (hk.keep hb) hI hg hpc).mono fun e w' q => ww.an_v hp hl q)
    have CO := Lib.hid (fun (Y : World) (hb : Below w3.heap.size w3 Y) (p : List Int) (hp : Pre n p) (hl : p.length = n) (xa : Option Addr) (xc : Nat) (hI : Ints Y xa p) => rcost_any hc0 p hp hl (some ⟨g1, 0, none⟩) (some ⟨g2, 0, none⟩) ca' xa k1 k2 cc' xc Y (PRW.out Y hb) hI)
    have AQ := Lib.hid (fun (Y : World) (h5 : n ≤ 5) => answers_any 2 C n n1 h5 (.slice (some ⟨g1, 0, none⟩) wl.length k1) (.slice (some ⟨g2, 0, none⟩) vl.length k2) (.slice ca' cl.length cc') (.slice none 0 0) Y)
    have KS9 := Lib.hid (fun (Y : World) (hb : Below w3.heap.size w3 Y) => KS.out Y (bl_tr B3.out hb))
    clear hb3 HNw z1 z2 hk hc0 HCH E2 PR B2 KS HT PRW hln
    go_wp2_with fail
    refine KS3.out.mono ?_; rintro e w4 ⟨rfl, D4⟩
    replace D4 := Lib.hid D4
    obtain ⟨c0, c1, c2, c3, c4, c5⟩ := BX.out w4 D4.out
    go_wp2_with fail
    clear c0 c1 c2 c3 c4 c5
    refine (SM.out w4 D4.out).mono ?_; rintro e w5 ⟨sb, rfl, -, hb5⟩
    have D5 := Lib.hid (bl_tr D4.out hb5)
    clear hb5 SM
    obtain ⟨c0, c1, c2, c3, c4, c5⟩ := BX.out w5 D5.out
    cases sb with
    | false =>
      go_wp2_with fail
      refine (KS9.out w5 D5.out).mono ?_; rintro e w6 ⟨rfl, hb6⟩
      have D6 := Lib.hid (bl_tr B3.out (bl_tr D5.out hb6))
      clear hb6
      go_wp2
      go_ret
      exact ⟨rfl, D6.out⟩
    | true =>
      by_cases h5 : n ≤ 5
      rotate_left
      · have d5 : (n : Int) > 5 := by omega
        have d5' : (5 : Int) < n := by omega
        go_wp2_with fail
        refine (KS9.out w5 D5.out).mono ?_; rintro e w6 ⟨rfl, hb6⟩
        have D6 := Lib.hid (bl_tr B3.out (bl_tr D5.out hb6))
        clear hb6
        go_wp2
        go_ret
        exact ⟨rfl, D6.out⟩
      · have d5 : ¬ (n : Int) > 5 := by omega
        have d5' : ¬ (5 : Int) < n := by omega
        have N5 := Lib.hid h5
        have N1 := Lib.hid n1
        have OW0 : Hid (Ol w5.heap.size (.slice (some ⟨w5.heap.size, 0, none⟩) 0 0) [] ((w5.alloc (.cells #[] 3)).alloc (.cells #[.slice (some ⟨w5.heap.size, 0, none⟩) 0 0] 22))) := Lib.hid (Ol.keep (L := []) (v := .slice (some ⟨w5.heap.size, 0, none⟩) 0 0) (own0 w5) (Tw.al (Tw.refl [] _) _) (by simp))
        go_wp2_with (at_builtin; refine wpList_app23 rfl _ _ rfl rfl w5.heap.size (.slice none 0 0) 0 1 1 [] [.slice (some ⟨w5.heap.size, 0, none⟩) 0 0] ⟨w5.heap.size + 1, 0, none⟩ rfl rfl (World.ownsRow_nil _ _ _ _) (by simp; omega) rfl (fun j u hj => by
          cases j with
          | zero =>
            simp at hj; subst hj
            exact (cell_of_row _ _ 0 _ 22 _ (heap_alloc2_new w5 _ _)).trans rfl
          | succ j => simp at hj) (fun u hu => by simp at hu; subst hu; rfl) (by omega) ?_)
        intro v6 w6 own6 tw6 vb6
        clear c0 c1 c2 c3 c4 c5 d5 d5' h5 n1 n24
        have tw6' : Tw [] ((w5.alloc (.cells #[] 3)).alloc (.cells #[.slice (some ⟨w5.heap.size, 0, none⟩) 0 0] 22)) w6 := tw6
        have HM0 : Hid (MXg w5.heap.size w5.heap.size w6.heap.size v6 [[]] w6) := Lib.hid (by
          have := MXg.app (Z := [[]]) (M := []) (us := [.slice (some ⟨w5.heap.size, 0, none⟩) 0 0]) (H := w6.heap.size) (mxg_nil w5.heap.size w5.heap.size w6.heap.size _) rfl (fun j hj => by
            have : j = 0 := by simpa using hj
            subst this
            have ok := OW0.out.keep tw6' (by simp)
            refine ⟨_, rfl, ok, fun i hi => ?_⟩
            obtain ⟨_, C, c1⟩ := ok.blk i hi
            exact lt_hp c1) [] (World.ownsRow_nil _ _ _ _) (by simpa using own6) tw6'
          simpa using this)
        have BW6 : Hid (Below w5.heap.size w5 w6) := Lib.hid (Tw.below (bl_al (bl_al (Below.refl _ w5) _) _) tw6' (by simp) (by simp; omega))
        have HS0 := Lib.hid (sch_start n)
        clear own6 tw6 vb6 tw6' OW0
        go_wp2
        go_loopw [5, 6] (fun wv fv wr => ∃ M Fd, Hid (MXg w5.heap.size w5.heap.size wr.heap.size wv M wr) ∧ Hid (MXg w5.heap.size w5.heap.size wr.heap.size fv Fd wr) ∧ Hid (∀ g, g ∈ vb wv → g ∉ vb fv) ∧ Hid (Sch n M Fd) ∧ Hid (Below w5.heap.size w5 wr)) (fun wv _ wr => msrV n wv wr)
        case atStart => exact ⟨[[]], [], HM0, Lib.hid (mxg_nil _ _ _ _), Lib.hid (fun g _ h => by simp [vb] at h), HS0, BW6⟩
        case round =>
          clear HM0 BW6 HS0
          obtain ⟨M, Fd, HM, HF, HV, HS, BW⟩ := hrel
          have D := Lib.hid (bl_tr D5.out BW.out)
          rcases List.eq_nil_or_concat M with hM | ⟨M', p, hM⟩
          · subst hM
            obtain ⟨wa', wc', rfl⟩ := HM.out.form
            rw [show ([] : List (List Int)).length = 0 from rfl]
            obtain ⟨fa, fc, rfl⟩ := HF.out.form
            have HFin := Lib.hid HS.out.fin
            have n5 := N5.out
            have hFl : Fd.length ≤ 120 := by rw [HFin.out.1]; exact fac_le n5
            have HFN := Lib.hid (show (Fd.length : Int) = (fac n : Nat) by rw [HFin.out.1])
            have HRow : Hid (∀ j, j < Fd.length → ∃ g ra rc, fa = some ⟨g, 0, none⟩ ∧ (Fd[j]?.getD []).length ≤ 1000 ∧ ∀ Y, Below wr.heap.size wr Y → Y.cell? ⟨g, j, none⟩ = some (.slice ra (Fd[j]?.getD []).length rc) ∧ od.Ints Y ra (Fd[j]?.getD [])) := Lib.hid fun j hj => by
              obtain ⟨g, c, r, e, e1, e2, e3, _⟩ := MXg.cell HF.out hj
              obtain ⟨ra, rc, rfl⟩ := e2.form
              have hpj := HS.out.ful (Fd[j]?.getD []) (by rw [List.getElem?_eq_getElem hj]; exact List.getElem_mem hj)
              injection e with e _ _
              refine ⟨g, ra, rc, e, by omega, fun Y hb => ⟨(hb.cell (p := ⟨g, j, none⟩) e3).trans e1, ?_⟩⟩
              exact ww.ol_od (e2.keep (Tw.of (S := []) hb) (by simp))
            have AQr := Lib.hid (fun Y => AQ.out Y n5)
            have HD := Lib.hid (fun (i j : Nat) (hi : i < Fd.length) (hj : j < i) => HFin.out.2 i j hi hj)
            have DB := D
            clear HM HF HV HS n5 HFin BW
            go_wp2
            generalize wr = We at *
            go_loopw [15] (fun i wr => ∃ a : Nat, a ≤ Fd.length ∧ i = .int .i64 a ∧ Hid (Below We.heap.size We wr)) (fun i _ => Fd.length - (intOf i).toNat)
            case atStart => exact ⟨0, by omega, rfl, Lib.hid (Below.refl _ _)⟩
            case round =>
              obtain ⟨a, ha, rfl, BE⟩ := hrel
              by_cases hal : a < Fd.length
              · have a1 : (a : Int) < (Fd.length : Int) := by omega
                have a0 : (0 : Int) ≤ (a : Int) := by omega
                go_wp2
                go_loopw [16] (fun i wr => ∃ b : Nat, b ≤ a ∧ i = .int .i64 b ∧ Hid (Below We.heap.size We wr)) (fun i _ => a - (intOf i).toNat)
                case atStart => exact ⟨0, by omega, rfl, BE⟩
                case round =>
                  clear BE
                  obtain ⟨b, hb, rfl, BE⟩ := hrel
                  by_cases hbl : b < a
                  · obtain ⟨g, ra, rc, rfl, hla, hr1⟩ := HRow.out a hal
                    obtain ⟨g', rb, rd, e', hlb, hr2⟩ := HRow.out b (by omega)
                    injection e' with e'
                    injection e' with e' _ _
                    subst e'
                    have b1 : (b : Int) < (a : Int) := by omega
                    have b2 : (b : Int) < (Fd.length : Int) := by omega
                    have b0 : (0 : Int) ≤ (b : Int) := by omega
                    have HNe := Lib.hid (HD.out a b hal hbl)
                    have SMc := Lib.hid (fun Y hbb => od.same_any (Fd[a]?.getD []) (Fd[b]?.getD []) hla hlb ra rb rc rd Y (hr1 Y hbb).2 (hr2 Y hbb).2)
                    generalize Fd[a]?.getD [] = La at *
                    generalize Fd[b]?.getD [] = Lb at *
                    have BD := Lib.hid (bl_tr BE.out (bl_drew wr))
                    go_upto_region 30 with fail
                    refine wp_region_held_drew (S := fun W => Below We.heap.size We W) (by kernel_rfl) BD.out (fun hHeld => ?_)
                    generalize World.drew wr = Wd at *
                    refine wpAnyH_take (i := 0) (v := ?vz0) (by rw [List.getElem?_toArray]; rfl) (by kernel_rfl) (by kernel_rfl) (by kernel_rfl) ?kz0 (Or.inl ⟨by rfl, ?yz0⟩) hHeld ?rz0
                    case kz0 => exact fun _ _ _ h => h
                    case yz0 => (intro wz hSw; go_simp; try (with_reducible rfl))
                    try simp only [Act.put, List.setIfInBounds_toArray, List.set_cons_zero, List.set_cons_succ]
                    refine wpAnyH_take (i := 1) (v := ?vz1) (by rw [List.getElem?_toArray]; rfl) (by kernel_rfl) (by kernel_rfl) (by kernel_rfl) ?kz1 (Or.inl ⟨by rfl, ?yz1⟩) hHeld ?rz1
                    case kz1 => exact fun _ _ _ h => h
                    case yz1 => (intro wz hSw; go_simp; try (with_reducible rfl))
                    try simp only [Act.put, List.setIfInBounds_toArray, List.set_cons_zero, List.set_cons_succ]
                    refine wpAnyH_take (i := 2) (v := ?vz2) (by rw [List.getElem?_toArray]; rfl) (by kernel_rfl) (by kernel_rfl) (by kernel_rfl) ?kz2 (Or.inl ⟨by rfl, ?yz2⟩) hHeld ?rz2
                    case kz2 => exact fun _ _ _ h => h
                    case yz2 => (intro wz hSw; go_simp; try (with_reducible rfl))
                    try simp only [Act.put, List.setIfInBounds_toArray, List.set_cons_zero, List.set_cons_succ]
                    refine wpAnyH_take (i := 3) (v := ?vz3) (by rw [List.getElem?_toArray]; rfl) (by kernel_rfl) (by kernel_rfl) (by kernel_rfl) ?kz3 (Or.inl ⟨by rfl, ?yz3⟩) hHeld ?rz3
                    case kz3 => exact fun _ _ _ h => h
                    case yz3 => (intro wz hSw; have c9 := (hr1 _ hSw).1; go_simp; try (with_reducible rfl))
                    try simp only [Act.put, List.setIfInBounds_toArray, List.set_cons_zero, List.set_cons_succ]
                    refine wpAnyH_take (i := 4) (v := ?vz4) (by rw [List.getElem?_toArray]; rfl) (by kernel_rfl) (by kernel_rfl) (by kernel_rfl) ?kz4 (Or.inl ⟨by rfl, ?yz4⟩) hHeld ?rz4
                    case kz4 => exact fun _ _ _ h => h
                    case yz4 => (intro wz hSw; go_simp; try (with_reducible rfl))
                    try simp only [Act.put, List.setIfInBounds_toArray, List.set_cons_zero, List.set_cons_succ]
                    refine wpAnyH_take (i := 5) (v := ?vz5) (by rw [List.getElem?_toArray]; rfl) (by kernel_rfl) (by kernel_rfl) (by kernel_rfl) ?kz5 (Or.inl ⟨by rfl, ?yz5⟩) hHeld ?rz5
                    case kz5 => exact fun _ _ _ h => h
                    case yz5 => (intro wz hSw; go_simp; try (with_reducible rfl))
                    try simp only [Act.put, List.setIfInBounds_toArray, List.set_cons_zero, List.set_cons_succ]
                    refine wpAnyH_take (i := 6) (v := ?vz6) (by rw [List.getElem?_toArray]; rfl) (by kernel_rfl) (by kernel_rfl) (by kernel_rfl) ?kz6 (Or.inl ⟨by rfl, ?yz6⟩) hHeld ?rz6
                    case kz6 => exact fun _ _ _ h => h
                    case yz6 => (intro wz hSw; go_simp; try (with_reducible rfl))
                    try simp only [Act.put, List.setIfInBounds_toArray, List.set_cons_zero, List.set_cons_succ]
                    refine wpAnyH_take (i := 7) (v := ?vz7) (by rw [List.getElem?_toArray]; rfl) (by kernel_rfl) (by kernel_rfl) (by kernel_rfl) ?kz7 (Or.inl ⟨by rfl, ?yz7⟩) hHeld ?rz7
                    case kz7 => exact fun _ _ _ h => h
                    case yz7 => (intro wz hSw; have c9 := (hr2 _ hSw).1; go_simp; try (with_reducible rfl))
                    try simp only [Act.put, List.setIfInBounds_toArray, List.set_cons_zero, List.set_cons_succ]
                    refine wpAnyH_ready (rs := [8]) (by kernel_rfl) (by simp) ?_
                    refine AllReadyH.cons (by rw [List.getElem?_toArray]; rfl) (fun Kq hKq => ?_) AllReadyH.nil
                    go_simp
                    go_at_call 26
                    refine (SMc.out Wd hHeld).mono ?_; rintro e w20 ⟨rfl, hb20⟩
                    have BE20 := Lib.hid (bl_tr BD.out hb20)
                    rw [decide_eq_false HNe.out]
                    clear hb20 hHeld
                    go_wp2_with fail
                    refine hKq.out _ _ BE20.out (fun hHeld => ?_)
                    clear hKq Kq hHeld
                    try simp only [Act.put, List.setIfInBounds_toArray, List.set_cons_zero, List.set_cons_succ]
                    refine wpAnyH_done (by kernel_rfl) ?_ _
                    clear SMc HNe BD BE
                    go_wp2
                    go_roundw
                    case rel => exact ⟨b + 1, by omega, by go_num, BE20⟩
                    case measure => simp [intOf]; omega
                  · obtain rfl : b = a := by omega
                    go_wp2
                    go_roundw
                    case rel => exact ⟨b + 1, by omega, by go_num, BE⟩
                    case measure => simp [intOf]; omega
              · obtain rfl : a = Fd.length := by omega
                have DD := Lib.hid (bl_tr DB.out BE.out)
                have AQ9 := Lib.hid (AQr.out wr)
                obtain ⟨c0, c1, c2, c3, c4, c5⟩ := BX.out wr DD.out
                have hfn := HFN.out
                have hbb : ((Fd.length : Int) == ((fac n : Nat) : Int)) = true := by rw [hfn]; simp
                clear hfn HRow HD HFN AQr
                go_wp2_with fail
                clear c0 c1 c2 c3 c4 c5
                refine AQ9.out.mono ?_; rintro e w21 ⟨rfl, hb21⟩
                have D21 := Lib.hid (bl_tr B3.out (bl_tr DD.out hb21))
                clear hb21 AQ9
                go_wp2
                go_ret
                exact ⟨rfl, D21.out⟩
          · rw [List.concat_eq_append] at hM
            subst hM
            have HMs := Lib.hid (msrV_eq (n := n) HM.out)
            obtain ⟨gw, cw, r, rfl, hcell, hol, hgw, hc1, hc2⟩ := MXg.cell HM.out (j := M'.length) (by simp)
            have hp0 : (M' ++ [p])[M'.length]?.getD [] = p := by simp
            have hlen : (M' ++ [p]).length = M'.length + 1 := by simp
            rw [hp0] at hol
            obtain ⟨ra, rc, rfl⟩ := hol.form
            obtain ⟨fa, fc, rfl⟩ := HF.out.form
            have HP := Lib.hid (MXg.pop HM.out)
            have HPr := Lib.hid (HS.out.pre p (by simp))
            have HL := HS.out.len
            have hfl := fac_le N5.out
            have K1 := Lib.hid (KD.out wr D.out p HPr.out ra rc (ww.ol_ints hol))
            have HOl := Lib.hid hol
            rw [hlen] at hc1 HL HMs ⊢
            have m0 : (0 : Int) ≤ (M'.length : Int) := by omega
            have m1 : (M'.length : Int) ≤ 120 := by omega
            have m2 : (Fd.length : Int) ≤ 120 := by omega
            have m3 : (M'.length : Int) ≤ (cw : Int) := by omega
            have m4 : ¬ (M'.length : Int) + (Fd.length : Int) > 3000 := by omega
            have m5 : (cw : Int) ≤ 9223372036854775807 := by omega
            have m6 : ((M'.length + 1 : Nat) : Int) - 1 = (M'.length : Int) := by omega
            clear hp0 hlen hol hgw hfl HL
            go_wp2_with fail
            refine K1.out.mono ?_; rintro e w7 q
            rcases q with ⟨hl, rfl, hb7⟩ | ⟨hl, g8, c8, T, rfl, t1, t2, t3, t4, hb7⟩
            · have D7 := Lib.hid (bl_tr D.out hb7)
              have DE7 := Lib.hid (DE.out w7 D7.out)
              obtain ⟨g, rfl, o1, o2, o3⟩ := ww.ol_some HOl.out (by rw [hl]; exact N1.out)
              have AN7 := Lib.hid (AN.out w7 D7.out p HPr.out hl g rc ((ww.ol_ints HOl.out).keep hb7) (Nat.lt_of_lt_of_le o1 hb7.size) ⟨o2, o3⟩)
              have HF7 := Lib.hid (HF.out.keep hb7)
              have HP7 := Lib.hid (HP.out.keep hb7)
              have BW7 := Lib.hid (bl_tr BW.out hb7)
              have HLF := Lib.hid (HS.out.leaf hl)
              have HM2 := Lib.hid (msr_leaf n M' p)
              have dl : ((p.length : Int) == (n : Int)) = true := by rw [hl]; simp
              have COp := Lib.hid (fun (Y : World) (hb : Below w3.heap.size w3 Y) => CO.out Y hb p HPr.out hl)
              clear hl o1 o2 o3 hb7 K1 HF HP HOl HM HS D BW KD AN CO hcell HPr
              go_wp2_with fail
              refine DE7.out.mono ?_; rintro e w8 ⟨rfl, rfl⟩
              go_wp2_with fail
              refine AN7.out.mono ?_; rintro e w8 ⟨g9, c9, rfl, ho9, hb8⟩
              have D8 := Lib.hid (bl_tr D7.out hb8)
              have CO8 := Lib.hid (COp.out w8 D8.out (some ⟨g9, 0, none⟩) c9 (ww.ol_ints ho9))
              have HO8 := Lib.hid (ho9.mono BW7.out.size)
              have HF8 := Lib.hid (HF7.out.keep hb8)
              have HP8 := Lib.hid (HP7.out.keep hb8)
              have BW8 := Lib.hid (bl_tr BW7.out hb8)
              clear ho9 hb8 AN7 COp HF7 HP7 BW7 D7 DE7
              obtain ⟨c0, c1, c2, c3, c4, c5⟩ := BX.out w8 D8.out
              go_wp2_with fail
              clear c0 c1 c2 c3 c4 c5
              refine CO8.out.mono ?_; rintro e w9 ⟨rfl, hb9⟩
              have D9 := Lib.hid (bl_tr D8.out hb9)
              have al9 : Below w9.heap.size w9 (w9.alloc (.cells #[.slice (some ⟨g9, 0, none⟩) p.length c9] 22)) := bl_al (Below.refl _ _) _
              have HO9 := Lib.hid (HO8.out.keep (Tw.of (S := []) (bl_tr hb9 al9)) (by simp))
              have HF9 := Lib.hid (HF8.out.keep (bl_tr hb9 al9))
              have HP9 := Lib.hid (HP8.out.keep (bl_tr hb9 al9))
              have BW9 := Lib.hid (bl_tr BW8.out (bl_tr hb9 al9))
              have hgw9 : gw < (w9.alloc (.cells #[.slice (some ⟨g9, 0, none⟩) p.length c9] 22)).heap.size := by
                obtain ⟨_, C, q⟩ := HP9.out.blk gw (by simp [vb])
                exact lt_hp q
              clear hb9 al9 CO8 HO8 HF8 HP8 BW8 D8
              have HGW := Lib.hid hgw9
              clear hgw9
              obtain ⟨fs, f1, f2, f3⟩ := HF9.out
              have F1 := Lib.hid f1
              clear f1 f2 f3
              go_wp2_with (at_builtin; refine wpList_app23 rfl _ _ rfl rfl w5.heap.size (.slice fa Fd.length fc) Fd.length 1 1 fs [.slice (some ⟨g9, 0, none⟩) p.length c9] ⟨w9.heap.size, 0, none⟩ rfl rfl F1.out BW9.out.size rfl (fun j u hj => by
                cases j with
                | zero =>
                  simp at hj; subst hj
                  exact (cell_of_row _ _ 0 _ 22 _ (heap_alloc_new w9 _)).trans rfl
                | succ j => simp at hj) (fun u hu => by simp at hu; subst hu; rfl) (by omega) ?_)
              intro v10 w10 own10 tw10 vb10
              have hbf := HF9.out.blk
              have n22 : ∀ (i : Nat), i ∈ vb (.slice fa Fd.length fc) → ∀ C, (w9.alloc (.cells #[.slice (some ⟨g9, 0, none⟩) p.length c9] 22)).heap[i]? ≠ some (.cells C 3 (0, 0)) := fun i hi C e => by
                obtain ⟨_, D, q⟩ := hbf i hi
                rw [e] at q
                injection q with q
                injection q with _ q
                cases q
              have HO10 := HO9.out.keep tw10 (fun i hi hm => by
                obtain ⟨_, C, q⟩ := HO9.out.blk i hm
                exact n22 i hi C q)
              have HF10 := Lib.hid (MXg.app (Z := [p]) (us := [.slice (some ⟨g9, 0, none⟩) p.length c9]) (HF9.out.top.up tw10.size) rfl (fun j hj => by
                have : j = 0 := by simpa using hj
                subst this
                refine ⟨_, rfl, HO10, fun i hi => ?_⟩
                obtain ⟨_, C, c1⟩ := HO10.blk i hi
                exact lt_hp c1) fs F1.out own10 tw10)
              have HV2 := HV.out
              have HP10 := Lib.hid ((HP9.out.tw tw10 (fun i hi hm => HV2 i hm hi) (fun i hi => .inr (n22 i hi))).top)
              have HV10 : Hid (∀ g, g ∈ vb (.slice (some ⟨gw, 0, none⟩) M'.length cw) → g ∉ vb v10) := Lib.hid fun g hg hm => by
                rcases vb10 g hm with q | q
                · exact HV2 g hg q
                · simp [vb] at hg
                  subst hg
                  have := HGW.out
                  rw [World.size_alloc] at this
                  omega
              have BW10 := Lib.hid (Tw.below BW9.out tw10 (fun i hi => (hbf i hi).1) BW9.out.size)
              have HM10 := Lib.hid (msrV_eq (n := n) HP10.out)
              clear own10 tw10 vb10 HO10 HV2 n22 hbf HF9 HP9 F1
              go_wp2
              go_roundw
              case rel => exact ⟨M', Fd ++ [p], HP10, HF10, HV10, HLF, BW10⟩
              case measure => rw [HM10.out, HMs.out]; exact HM2.out
            · have D7 := Lib.hid (bl_tr D.out hb7)
              have DE7 := Lib.hid (DE.out w7 D7.out)
              have HF7 := Lib.hid (HF.out.keep hb7)
              have HP7 := Lib.hid (HP.out.keep hb7).top
              have BW7 := Lib.hid (bl_tr BW.out hb7)
              have HNo := Lib.hid (HS.out.node (by have := N5.out; omega) hl t1 t2 t3)
              have HM2 := Lib.hid (msr_node (M := M') hl t3)
              have HO7 := Lib.hid (HOl.out.keep (Tw.of (S := []) hb7) (by simp))
              have dl : ((p.length : Int) == (n : Int)) = false := by simp; omega
              have HT4 := Lib.hid t4
              have HV7 : Hid (∀ g, g ∈ vb (.slice (some ⟨gw, 0, none⟩) M'.length cw) → g ∉ vb (.slice fa Fd.length fc)) := Lib.hid fun g hg => HV.out g hg
              have hT4 : (T.length : Int) ≤ 5 := by have := N5.out; omega
              have hp5 : p.length ≤ 800 := by have := N5.out; omega
              have HP5 := Lib.hid hp5
              have ML := Lib.hid (show M'.length ≤ 120 by omega)
              clear hl t1 t2 t3 t4 hb7 K1 HF HP HOl HM HS D BW KD AN CO hcell HPr HV hp5
              go_wp2_with fail
              refine DE7.out.mono ?_; rintro e w8 ⟨rfl, rfl⟩
              go_wp2
              go_loopw [5, 14] (fun wv i wr => ∃ (t gq cq : Nat), t ≤ T.length ∧ wv = .slice (some ⟨gq, 0, none⟩) (M' ++ (T.take t).map (fun a => p ++ [a])).length cq ∧ i = .int .i64 t ∧ Hid (MXg w5.heap.size w5.heap.size wr.heap.size (.slice (some ⟨gq, 0, none⟩) (M' ++ (T.take t).map (fun a => p ++ [a])).length cq) (M' ++ (T.take t).map (fun a => p ++ [a])) wr) ∧ Hid (∀ g, g ∈ vb (.slice (some ⟨gq, 0, none⟩) (M' ++ (T.take t).map (fun a => p ++ [a])).length cq) → g ∉ vb (.slice fa Fd.length fc)) ∧ Hid (Below w7.heap.size w7 wr)) (fun _ i _ => T.length - (intOf i).toNat)
              case atStart => exact ⟨0, gw, cw, by omega, by simp, rfl, by simpa using HP7, by simpa using HV7, Lib.hid (Below.refl _ _)⟩
              case round =>
                clear HP7 HV7
                obtain ⟨t, gq, cq, ht, rfl, rfl, HQ, HVq, BQ⟩ := hrel
                have BWq := Lib.hid (bl_tr BW7.out BQ.out)
                by_cases htl : t < T.length
                · have q1 : (t : Int) < (T.length : Int) := by omega
                  have q0 : (0 : Int) ≤ (t : Int) := by omega
                  have HSr := Lib.hid (ol_srcA HO7.out wr BQ.out)
                  have HCl : Hid (∀ Y, Below wr.heap.size wr Y → Y.cell? ⟨g8, 0 + t, none⟩ = some (.int .i64 (od.nth T t))) := Lib.hid fun Y hb => by
                    obtain ⟨b, o, e, lt, m⟩ := ww.ol_ints HT4.out t htl
                    injection e with e
                    injection e with e1 e2
                    subst e1 e2
                    refine ((bl_tr BQ.out hb).cell (p := ⟨g8, 0 + t, none⟩) lt).trans ?_
                    rw [m]; unfold od.nth; rfl
                  have HTk := Lib.hid (show T.take (t + 1) = T.take t ++ [od.nth T t] by rw [List.take_succ_eq_append_getElem htl, od.nth_at T t htl])
                  have hMM : (M' ++ (T.take t).map (fun a => p ++ [a])).length ≤ 8000 := by
                    have := ML.out
                    rw [List.length_append, List.length_map, List.length_take]
                    omega
                  go_upto_region 23 with fail
                  refine push_any 128 5 7 8 14 w5.heap.size wr.heap.size w5.heap.size gq cq (M' ++ (T.take t).map (fun a => p ++ [a])) ra rc p g8 0 T.length c8 t (od.nth T t) (by kernel_rfl) (ok_hop (fun k hk => ?hop)) (by simp) (by decide) rfl rfl rfl rfl HQ.out BWq.out.size HSr.out HP5.out hMM htl HCl.out (fun u x hm hb => ?hk)
                  case hop =>
                    rcases fifteen hk with rfl | rfl | rfl | rfl | rfl | rfl | rfl | rfl | rfl | rfl | rfl | rfl | rfl | rfl | rfl
                    all_goals exact ⟨_, rfl, rfl, rfl, rfl, by first | exact fun _ => rfl | exact fun h => absurd rfl h, by kernel_rfl⟩
                  case hk =>
                    obtain ⟨H, hm⟩ := hm
                    have eM : M' ++ (T.take t).map (fun a => p ++ [a]) ++ [p ++ [od.nth T t]] = M' ++ (T.take (t + 1)).map (fun a => p ++ [a]) := by rw [HTk.out, List.map_append, List.append_assoc]; rfl
                    rw [eM] at hm
                    obtain ⟨g9, c9, r9, hu, _⟩ := hm.cell (j := 0) (by rw [← eM]; simp; omega)
                    have hbk := hm.blk
                    have hm2 := (hm.mono BWq.out.size).top
                    rw [hu] at hbk hm2
                    have HM9 := Lib.hid hm2
                    have HV9 : Hid (∀ g, g ∈ vb (.slice (some ⟨g9, 0, none⟩) (M' ++ (T.take (t + 1)).map (fun a => p ++ [a])).length c9) → g ∉ vb (.slice fa Fd.length fc)) := Lib.hid fun g hg hf => by
                      obtain ⟨_, C, q⟩ := HF7.out.blk g hf
                      have a1 := lt_hp q
                      have a2 := (hbk g hg).1
                      have a3 := BQ.out.size
                      omega
                    have BQ9 := Lib.hid (bl_tr BQ.out hb)
                    have e15 : (List.range 15).map (dstP 128 5) = [128, 129, 130, 131, 132, 133, 134, 135, 136, 137, 138, 139, 140, 141, 5] := by decide
                    rw [e15]
                    simp only [List.foldl_cons, List.foldl_nil, List.setIfInBounds_toArray, List.set_cons_zero, List.set_cons_succ]
                    rw [hu]
                    clear hm hm2 hbk hu eM e15 hb HCl HSr HTk HQ HVq BWq BQ hMM
                    go_wp2
                    go_roundw
                    case rel => exact ⟨t + 1, g9, c9, by omega, rfl, by go_num, HM9, HV9, BQ9⟩
                    case measure => simp [intOf]; omega
                · obtain rfl : t = T.length := by omega
                  have hTt : T.take T.length = T := List.take_length
                  rw [hTt] at HQ HVq ⊢
                  have HMq := Lib.hid (msrV_eq (n := n) HQ.out)
                  have HFq := Lib.hid ((HF7.out.keep BQ.out).top)
                  go_wp2
                  go_roundw
                  case rel => exact ⟨_, Fd, HQ, HFq, HVq, HNo, BWq⟩
                  case measure => rw [HMq.out, HMs.out]; exact HM2.out
end Go.Proofs.YtlhpiikpmmlpeaaDoor.kn
