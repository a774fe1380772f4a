/-
  assign: AssignBelow, walked.
-/
import Derived.Test.YtlhpiikpmmlpeaaDoorCd
import Derived.Test.YtlhpiikpmmlpeaaDoorBa
namespace Go.Proofs.YtlhpiikpmmlpeaaDoor.kn
open Go.RowKit
set_option linter.unusedVariables false
set_option linter.unusedSimpArgs false
namespace bw
theorem src_ls {g cap : Nat} {l : List Int} {X : World} (h : IntsO X g l) (hc : l.length ≤ cap) : Ls (.slice (some ⟨g, 0, none⟩) l.length cap) l X ∧ SrcA X (some ⟨g, 0, none⟩) cap l := by
  have hlt := h.lt
  have hi := h.ints
  have key : ∀ j, j < l.length → X.cell? ⟨g, 0 + j, none⟩ = some (.int .i64 (nt l j)) := fun j hj => by
    obtain ⟨b, o, e, _, m⟩ := hi j hj
    injection e with e
    injection e with e1 e2
    subst e1 e2
    exact m
  exact ⟨.inr ⟨g, 0, cap, rfl, hc, hlt, key⟩, .inr ⟨_, rfl, cells_src key⟩⟩
theorem bd_v {n : Nat} {cl : List (List Int)} {p : List Int} {w w' : World} {e : Ending} (h : BdP n cl p w e w') : (¬ Pre n p ∧ e = .returned (.tuple #[.int .i64 0, .int .i64 1]) ∧ Below w.heap.size w w') ∨ ∃ x, Pre n p ∧ x = csm cl p p.length + restR n cl (frl n p) p.length ∧ e = .returned (.tuple #[.int .i64 x, .int .i64 0]) ∧ Below w.heap.size w w' := by
  rcases h with ⟨h1, h2, h3⟩ | ⟨h1, h2, h3⟩
  · exact .inl ⟨h1, h2, h3⟩
  · exact .inr ⟨_, h1, rfl, h2, h3⟩
theorem an_v {n : Nat} {p : List Int} {w w' : World} {e : Ending} (hp : Pre n p) (hl : p.length = n) (h : AnP n p w e w') : ∃ la lc, e = .returned (.tuple #[.slice la p.length lc, .int .i64 0]) ∧ Ints w' la p ∧ Below w.heap.size w w' := by
  rcases h with ⟨h1, _⟩ | ⟨h1, h2, g, cap, rfl, h5⟩
  · exact absurd ⟨hp, hl⟩ h1
  · refine ⟨_, cap, rfl, fun j hj => ?_, h5.2.2.2⟩
    obtain ⟨b, o, e, l1, m1⟩ := h5.ints j hj
    exact ⟨b, o, e, l1, by rw [m1]; unfold od.nth; rfl⟩
end bw
set_option maxRecDepth 100000 in
set_option maxHeartbeats 16000000 in
theorem below_walk (kd N C : Int) (wl vl : List Int) (cl : List (List Int)) (wa va ca : Option Addr) (wn vn cn wc vc cc : Nat) (pl : List Int) (pa : Option Addr) (pn pc : Nat) (w : World) (hT : st.T64 w) (h1 : Src w wa wn wc wl) (h2 : Src w va vn vc vl) (h3 : RSrc w ca cn cc cl) (h4 : Src w pa pn pc pl) :
    Calls Tryd.prog 6 #[.agg #[.int .i64 kd, .int .i64 N, .int .i64 C, .slice wa wn wc, .slice va vn vc, .slice ca cn cc], .slice pa pn pc] w fun e w' => e = .returned (.bool true) ∧ Below w.heap.size w w' := by
  have bA : Below w.heap.size w (w.alloc (.cells #[.int .i64 kd, .int .i64 N, .int .i64 C, .slice wa wn wc, .slice va vn vc, .slice ca cn cc] 25)) := bl_al (Below.refl _ _) _
  have HC := Lib.hid (refcopy_any kd N C wl vl cl wa va ca wn vn cn wc vc cc _ (h1.keep bA) (h2.keep bA) (h3.keep bA))
  have S4 := Lib.hid (h4.keep bA)
  have HB := Lib.hid bA
  have l1 : wl.length ≤ 1000 := by have := h1.1; omega
  have l2 : vl.length ≤ 1000 := by have := h2.1; omega
  have l3 : cl.length ≤ 1000 := by have := h3.1; omega
  have lp : pl.length ≤ 70 := by have := h4.1; omega
  have KS := Lib.hid (fun (W : World) (hb : Below w.heap.size w W) => assigns_any W (hT.keep hb))
  have HT := Lib.hid hT
  clear h1 h2 h3 h4 bA hT
  go_enter Tryd.func6, Tryd.ntmps6
  go_wp2_with fail
  refine HC.out.mono ?_; rintro e w1 ⟨g1, k1, g2, k2, ca', cc', rfl, hb, i1, i2, rw, -⟩
  have q0 : w1.heap[w.heap.size]? = some (.cells #[.int .i64 kd, .int .i64 N, .int .i64 C, .slice wa wn wc, .slice va vn vc, .slice ca cn cc] 25 (0, 0)) := (hb.block _ (by simp)).trans (heap_alloc_new w _)
  have HQ0 := Lib.hid q0
  have PC := Lib.hid (pcut_src (S4.out.keep hb))
  have H1 := Lib.hid (And.intro i1 (And.intro i2 rw))
  have HB1 := Lib.hid (bl_tr HB.out hb)
  clear hb i1 i2 rw q0 HC HB S4
  go_wp2_with fail
  refine PC.out.mono ?_; rintro e x1 ⟨g3, k3, rfl, hx, ho⟩
  have QX := Lib.hid ((hx.block _ (lt_hp HQ0.out)).trans HQ0.out)
  have hcap : pl.length ≤ k3 ∧ k3 ≤ 9223372036854775807 := ⟨(src_of ho lp).2.1, (src_of ho lp).2.2.1⟩
  have P := put_copy (K := kd) (N := N) (C := C) (k1 := k1) (k2 := k2) (cc := cc') (Nat.le_refl _) QX.out (bl_tr HB1.out hx) (H1.out.1.keep hx) (H1.out.2.1.keep hx) (H1.out.2.2.keep hx) l1 l2 l3 _ rfl
  have PI : IntsO _ g3 pl := (ints_own rfl ho).same (six_other (w := x1) ((ints_own rfl ho).ne QX.out (by decide)) (.int .i64 kd) (.int .i64 N) (.int .i64 C) (.slice (some ⟨g1, 0, none⟩) wl.length k1) (.slice (some ⟨g2, 0, none⟩) vl.length k2) (.slice ca' cl.length cc'))
  have HP := Lib.hid P
  have HPI := Lib.hid PI
  obtain ⟨c0, c1, c2, c3, c4, c5⟩ := box6 QX.out
  have cf := fr6 QX.out
  clear P PI ho hx HB1 PC H1 HQ0 QX
  go_wp2_with fail
  clear c0 c1 c2 c3 c4 c5 cf
  generalize ((((((x1.setCell ⟨w.heap.size, 0, none⟩ (.int .i64 kd)).setCell ⟨w.heap.size, 1, none⟩ (.int .i64 N)).setCell ⟨w.heap.size, 2, none⟩ (.int .i64 C)).setCell ⟨w.heap.size, 3, none⟩ (.slice (some ⟨g1, 0, none⟩) wl.length k1)).setCell ⟨w.heap.size, 4, none⟩ (.slice (some ⟨g2, 0, none⟩) vl.length k2)).setCell ⟨w.heap.size, 5, none⟩ (.slice ca' cl.length cc')) = X at *
  have HCP := Lib.hid hcap
  have E2 := Lib.hid HP.out.1
  have PR := Lib.hid HP.out.2.1
  have B2 := Lib.hid HP.out.2.2
  have HNw := Lib.hid (new_any kd N C wl vl cl (some ⟨g1, 0, none⟩) (some ⟨g2, 0, none⟩) ca' k1 k2 cc' X PR.out)
  clear hcap HP
  obtain ⟨c0, c1, c2, c3, c4, c5⟩ := box6 E2.out
  go_wp2_with fail
  clear c0 c1 c2 c3 c4 c5
  obtain ⟨ch, hch⟩ : ∃ ch, ch = chk kd N C wl vl cl := ⟨_, rfl⟩
  have HCH := Lib.hid hch
  clear hch
  refine HNw.out.mono ?_; rintro e w3 hq
  unfold NaP at hq
  rw [← HCH.out] at hq
  rcases hq with ⟨hz, rfl, hb3⟩ | ⟨rfl, hK, rfl, hb3⟩ | ⟨rfl, rfl, b, n, hNn, hln, rfl, hb3, hk⟩
  · have B3 := Lib.hid (bl_tr B2.out hb3)
    have b2 : (ch != 0) = true := by simpa using hz
    clear hb3 HNw hz
    go_wp2_with fail
    refine (KS.out w3 B3.out).mono ?_; rintro e w4 ⟨rfl, hb4⟩
    have B4 := Lib.hid (bl_tr B3.out hb4)
    clear hb4
    go_wp2_with fail
    refine (KS.out w4 B4.out).mono ?_; rintro e w5 ⟨rfl, hb5⟩
    have B5 := Lib.hid (bl_tr B4.out hb5)
    clear hb5
    go_wp2
    go_ret
    exact ⟨rfl, B5.out⟩
  · have B3 := Lib.hid (bl_tr B2.out hb3)
    clear hb3 HNw hK
    go_wp2_with fail
    refine (KS.out w3 B3.out).mono ?_; rintro e w4 ⟨rfl, hb4⟩
    have B4 := Lib.hid (bl_tr B3.out hb4)
    clear hb4
    go_wp2_with fail
    refine (KS.out w4 B4.out).mono ?_; rintro e w5 ⟨rfl, hb5⟩
    have B5 := Lib.hid (bl_tr B4.out hb5)
    clear hb5
    go_wp2
    go_ret
    exact ⟨rfl, B5.out⟩
  · subst hln hNn
    have hc0 := HCH.out.symm
    obtain ⟨z1, z2⟩ := chk_rw HCH.out.symm
    obtain ⟨z3, _, z5⟩ := z2 (by decide)
    have hE := (zr.ent_of HCH.out.symm).1
    have n1 : 1 ≤ cl.length := by omega
    have n24 : cl.length ≤ 24 := by omega
    have B3 := Lib.hid (bl_tr B2.out hb3)
    have KS3 := Lib.hid (KS.out w3 B3.out)
    have PRW := Lib.hid (fun (Y : World) (hb : Below w3.heap.size w3 Y) => PR.out.keep (bl_tr hb3 hb))
    have BX := Lib.hid (fun (Y : World) (hb : Below w3.heap.size w3 Y) => box6 (((bl_tr hb3 hb).block _ (lt_hp E2.out)).trans E2.out))
    have BD := Lib.hid (fun (Y : World) (hb : Below w3.heap.size w3 Y) => (bound_any pl (by omega) (some ⟨g3, 0, none⟩) k3 Y (HT.out.keep (bl_tr B2.out (bl_tr hb3 hb))) (hk.keep hb) (HPI.out.keep (bl_tr hb3 hb)).ints hE).mono fun e w' q => bw.bd_v q)
    have SM := Lib.hid (fun (Y : World) (hb : Below w3.heap.size w3 Y) => small_any 2 cl.length C wl vl cl (some ⟨g1, 0, none⟩) (some ⟨g2, 0, none⟩) ca' k1 k2 cc' Y (PRW.out Y hb))
    have BE := Lib.hid (fun (hp : Pre cl.length pl) (Y : World) (hb : Below w3.heap.size w3 Y) => best_any (by omega) hc0 (some ⟨g1, 0, none⟩) (some ⟨g2, 0, none⟩) ca' k1 k2 cc' (cl.length - pl.length) pl (some ⟨g3, 0, none⟩) k3 Y hp (by have := pre_len hp; omega) (PRW.out Y hb) (bw.src_ls (HPI.out.keep (bl_tr hb3 hb)) HCP.out.1).1 (bw.src_ls (HPI.out.keep (bl_tr hb3 hb)) HCP.out.1).2)
    have DE := Lib.hid (fun (Y : World) (hb : Below w3.heap.size w3 Y) => depth_any (hk.keep hb))
    have AN := Lib.hid (fun (hp : Pre cl.length pl) (hl : pl.length = cl.length) (Y : World) (hb : Below w3.heap.size w3 Y) => (answer_any pl (by omega) g3 0 k3 Y (hk.keep hb) (HPI.out.keep (bl_tr hb3 hb)).ints (HPI.out.keep (bl_tr hb3 hb)).lt HCP.out).mono fun e w' q => bw.an_v hp hl q)
    have CO := Lib.hid (fun (hp : Pre cl.length pl) (hl : pl.length = cl.length) (Y : World) (hb : Below w3.heap.size w3 Y) (xa : Option Addr) (xc : Nat) (hI : Ints Y xa pl) => rcost_any hc0 pl hp hl (some ⟨g1, 0, none⟩) (some ⟨g2, 0, none⟩) ca' xa k1 k2 cc' xc Y (PRW.out Y hb) hI)
    have MB := Lib.hid (fun (hp : Pre cl.length pl) => bst_bound n24 hE hp (cl.length - pl.length) (by have := pre_len hp; omega))
    have MW := Lib.hid (fun (hp : Pre cl.length pl) (hl : pl.length = cl.length) => bound_whole n24 (cl := cl) hp hl)
    have MZ := Lib.hid (bstA_zero cl cl.length pl)
    have PL := Lib.hid (fun (hp : Pre cl.length pl) => pre_len hp)
    have KS9 := Lib.hid (fun (Y : World) (hb : Below w3.heap.size w3 Y) => KS.out Y (bl_tr B3.out hb))
    clear hb3 HNw z1 z2 z3 z5 n1 n24 hk hE hc0 HCH E2 PR B2 KS HT HCP HPI PRW
    go_wp2_with fail
    refine KS3.out.mono ?_; rintro e w4 ⟨rfl, D4⟩
    replace D4 := Lib.hid D4
    obtain ⟨c0, c1, c2, c3, c4, c5⟩ := BX.out w4 D4.out
    go_wp2_with fail
    clear c0 c1 c2 c3 c4 c5
    refine (SM.out w4 D4.out).mono ?_; rintro e w5 ⟨sb, rfl, -, hb5⟩
    have D5 := Lib.hid (bl_tr D4.out hb5)
    clear hb5 SM
    cases sb with
    | false =>
      go_wp2_with fail
      refine (KS9.out w5 D5.out).mono ?_; rintro e w6 ⟨rfl, hb6⟩
      have D6 := Lib.hid (bl_tr B3.out (bl_tr D5.out hb6))
      clear hb6
      go_wp2
      go_ret
      exact ⟨rfl, D6.out⟩
    | true =>
      go_wp2_with fail
      refine (BD.out w5 D5.out).mono ?_; rintro e w6 q
      rcases q with ⟨_, rfl, hb6⟩ | ⟨x, hp, hx, rfl, hb6⟩
      · have D6 := Lib.hid (bl_tr B3.out (bl_tr D5.out hb6))
        clear hb6
        go_wp2
        go_ret
        exact ⟨rfl, D6.out⟩
      · have D6 := Lib.hid (bl_tr D5.out hb6)
        have BE6 := Lib.hid (BE.out hp w6 D6.out)
        have HPr := Lib.hid hp
        have HMB := Lib.hid (MB.out hp)
        have HX := Lib.hid hx
        clear hb6 hp hx BE BD MB
        obtain ⟨c0, c1, c2, c3, c4, c5⟩ := BX.out w6 D6.out
        go_wp2_with fail
        clear c0 c1 c2 c3 c4 c5
        refine BE6.out.mono ?_; rintro e w7 ⟨rfl, hb7⟩
        have D7 := Lib.hid (bl_tr D6.out hb7)
        have DE7 := Lib.hid (DE.out w7 D7.out)
        clear hb7 BE6
        obtain ⟨bb, hbb⟩ : ∃ bb, bb = bstA cl cl.length (cl.length - pl.length) pl := ⟨_, rfl⟩
        have HBB := Lib.hid hbb
        rw [← hbb]
        clear hbb
        go_wp2_with fail
        refine DE7.out.mono ?_; rintro e w8 ⟨rfl, rfl⟩
        by_cases hl : pl.length = cl.length
        · have AN7 := Lib.hid (AN.out HPr.out hl w7 D7.out)
          have CO7 := Lib.hid (fun (Y : World) (hb : Below w3.heap.size w3 Y) => CO.out HPr.out hl Y hb)
          have hxx : x = csm cl pl cl.length := by rw [HX.out]; exact MW.out HPr.out hl
          have hbx : bb = csm cl pl cl.length := by rw [HBB.out, hl, Nat.sub_self]; exact MZ.out
          have HXX := Lib.hid (hbx.trans hxx.symm)
          rw [← hxx] at CO7
          have dl : ((pl.length : Int) == (cl.length : Int)) = true := by rw [hl]; simp
          clear hxx hbx hl AN CO DE HX HMB HBB
          go_wp2_with fail
          refine AN7.out.mono ?_; rintro e w8 ⟨la, lc, rfl, hI, hb8⟩
          have D8 := Lib.hid (bl_tr D7.out hb8)
          have CO8 := Lib.hid (CO7.out w8 D8.out la lc hI)
          clear hI hb8 AN7 CO7
          obtain ⟨c0, c1, c2, c3, c4, c5⟩ := BX.out w8 D8.out
          go_wp2_with fail
          clear c0 c1 c2 c3 c4 c5
          refine CO8.out.mono ?_; rintro e w9 ⟨rfl, hb9⟩
          have D9 := Lib.hid (bl_tr B3.out (bl_tr D8.out hb9))
          obtain rfl := HXX.out
          have e1 : (bb == bb) = true := by simp
          clear hb9 CO8
          go_wp2
          go_ret
          exact ⟨rfl, D9.out⟩
        · have dl : ((pl.length : Int) == (cl.length : Int)) = false := by simp; omega
          have D9 := Lib.hid (bl_tr B3.out D7.out)
          have m := HMB.out
          rw [← HX.out, ← HBB.out] at m
          obtain ⟨m1, m2⟩ := m
          have e1 : decide (x ≥ 0) = true := decide_eq_true m1
          have e2 : decide (bb ≥ x) = true := decide_eq_true m2
          have e3 : decide (0 ≤ x) = true := decide_eq_true m1
          have e4 : decide (x ≤ bb) = true := decide_eq_true m2
          clear AN CO DE HX HMB HBB hl MW MZ
          go_wp2
          go_ret
          exact ⟨rfl, D9.out⟩
end Go.Proofs.YtlhpiikpmmlpeaaDoor.kn
