/-
  The reference's First of every problem; kurganlaw10.GreedyFirsts, walked.
-/
import Derived.Test.YtaobaiifbmhegaaRmAll
import Derived.Test.YtaobaiifbmhegaaLb
namespace Go.Proofs.Ytaobaiifbmhegaa
open Go.RowKit
set_option linter.unusedVariables false
set_option maxRecDepth 100000 in
set_option maxHeartbeats 4000000 in
theorem rfirst_no (K N C : Int) (wl vl : List Int) (cl : List (List Int)) (wa va ca : Option Addr) (wc vc cc : Nat) (w : World) (h : Prob w wl vl cl wa va ca) (hc : chk K N C wl vl cl ≠ 0) :
    Calls Try.prog 11 #[.agg #[.int .i64 K, .int .i64 N, .int .i64 C, .slice wa wl.length wc, .slice va vl.length vc, .slice ca cl.length cc]] w (RsP K N C wl vl cl w) := by
  have bA : Below w.heap.size w (w.alloc (ob K N C (.slice wa wl.length wc) (.slice va vl.length vc) (.slice ca cl.length cc))) := bl_al (Below.refl _ _) _
  have HC := Lib.hid (ref_any K N C wl vl cl wa va ca wc vc cc _ (h.keep bA))
  have HG : Hid (∀ W', Below w.heap.size w W' → RsP K N C wl vl cl w (.returned (.tuple #[.slice none 0 0, .int .i64 (chk K N C wl vl cl)])) W') := fun W' hb => .inl ⟨hc, rfl, hb⟩
  have BA := Lib.hid bA
  unfold ob at HC BA
  clear h bA
  have hc' : (chk K N C wl vl cl != 0) = true := by simpa using hc
  clear hc
  generalize RsP K N C wl vl cl w = G at *
  generalize chk K N C wl vl cl = ce at *
  go_enter Try.func11, Try.ntmps11
  go_wp2_with fail
  refine HC.out.mono ?_; rintro e w1 ⟨rfl, hb⟩
  have B1 := Lib.hid (bl_tr BA.out hb)
  clear hb HC
  go_wp2
  exact HG.out _ B1.out
set_option maxRecDepth 100000 in
set_option maxHeartbeats 4000000 in
theorem rfirst_items (N C : Int) (wl vl : List Int) (cl : List (List Int)) (wa va ca : Option Addr) (wc vc cc : Nat) (w : World) (h : Prob w wl vl cl wa va ca) (hc : chk 1 N C wl vl cl = 0) :
    Calls Try.prog 11 #[.agg #[.int .i64 1, .int .i64 N, .int .i64 C, .slice wa wl.length wc, .slice va vl.length vc, .slice ca cl.length cc]] w (RsP 1 N C wl vl cl w) := by
  obtain ⟨z1, hF, zN, zv, zc, zC⟩ := itf_of hc
  have bA : Below w.heap.size w (w.alloc (ob 1 N C (.slice wa wl.length wc) (.slice va vl.length vc) (.slice ca cl.length cc))) := bl_al (Below.refl _ _) _
  have HC := Lib.hid (ref_any 1 N C wl vl cl wa va ca wc vc cc _ (h.keep bA))
  have q0 := Lib.hid (heap_alloc_new w (ob 1 N C (.slice wa wl.length wc) (.slice va vl.length vc) (.slice ca cl.length cc)))
  rw [hc] at HC
  have HP : Hid (∀ W, Below w.heap.size w W → Calls Try.prog 36 #[.agg #[.int .i64 1, .int .i64 N, .int .i64 C, .slice wa wl.length wc, .slice va vl.length vc, .slice ca cl.length cc]] W fun e w' => ∃ g T, e = .returned (.slice (some ⟨g, 0, none⟩) wl.length wl.length) ∧ Hid (od.IsRk (od.ltR vl wl) wl.length T ∧ od.OnRk (od.ltR vl wl) wl.length T ∧ od.Own w.heap.size g wl.length wl.length (packR C wl vl T) w w')) := fun W hW => by
    have p := rpack_any 1 C wl vl (.slice ca cl.length cc) wl.length rfl hF z1 zC wa va wc vc W (h.1.keep hW) (h.2.1.keep hW)
    rw [zN, zv]
    exact p.mono fun e w' ⟨g, T, e1, t1, t3⟩ => ⟨g, T, e1, t1, on_rk (od.ltR_ord wl.length vl wl (fun j hj => by rw [od_nth]; exact (hF.2.2 j hj).1.1)) t1, t3.down hW hW.size⟩
  have HG : Hid (∀ g T W', od.IsRk (od.ltR vl wl) wl.length T → od.OnRk (od.ltR vl wl) wl.length T → od.Own w.heap.size g wl.length wl.length (packR C wl vl T) w W' → RsP 1 N C wl vl cl w (.returned (.tuple #[.slice (some ⟨g, 0, none⟩) wl.length wl.length, .int .i64 0])) W') := fun g T W' t1 t2 t3 => by
    have l : (packR C wl vl T).length = wl.length := t3.1
    exact .inr ⟨hc, g, wl.length, packR C wl vl T, by rw [l], .inl ⟨rfl, T, t1, t2, rfl⟩, by rw [l]; exact t3⟩
  have BA := Lib.hid bA
  unfold ob at HC BA q0
  clear h bA hF hc z1 zN zv zc zC
  generalize RsP 1 N C wl vl cl w = G at *
  go_enter Try.func11, Try.ntmps11
  go_wp2_with fail
  refine HC.out.mono ?_; rintro e w1 ⟨rfl, hb⟩
  have B1 := Lib.hid (bl_tr BA.out hb)
  obtain ⟨c0, c1, c2, c3, c4, c5⟩ := box6 ((hb.block _ (lt_hp q0.out)).trans q0.out)
  clear hb HC q0
  go_wp2_with fail
  refine (HP.out w1 B1.out).mono ?_; rintro e w2 ⟨g, T, rfl, hT⟩
  have HF := Lib.hid (HG.out g T w2 hT.out.1 hT.out.2.1 hT.out.2.2)
  clear HP HG hT c0 c1 c2 c3 c4 c5
  go_wp2
  exact HF.out
theorem rfirst_any (K N C : Int) (wl vl : List Int) (cl : List (List Int)) (wa va ca : Option Addr) (wc vc cc : Nat) (w : World) (h : Prob w wl vl cl wa va ca) :
    Calls Try.prog 11 #[.agg #[.int .i64 K, .int .i64 N, .int .i64 C, .slice wa wl.length wc, .slice va vl.length vc, .slice ca cl.length cc]] w (RsP K N C wl vl cl w) := by
  by_cases hc : chk K N C wl vl cl = 0
  · by_cases h1 : K = 1
    · subst h1; exact rfirst_items N C wl vl cl wa va ca wc vc cc w h hc
    · obtain ⟨z1, z24, zN, zp, zK, _⟩ := rows_of h1 hc
      have bA : Below w.heap.size w (w.alloc (ob K N C (.slice wa wl.length wc) (.slice va vl.length vc) (.slice ca cl.length cc))) := bl_al (Below.refl _ _) _
      have hC := ref_any K N C wl vl cl wa va ca wc vc cc _ (h.keep bA)
      rw [hc] at hC
      subst zN
      rcases zK with rfl | rfl
      · refine (rrows_asg C _ _ cl cl.length rfl zp z1 z24 ca cc w h.2.2.1 hC).mono fun e w' ⟨g, cap, e1, ho⟩ => ?_
        have l : (asR 2 cl cl.length).length = cl.length := ho.1
        exact .inr ⟨hc, g, cap, asR 2 cl cl.length, by rw [l]; exact e1, .inr ⟨by decide, rfl⟩, by rw [l]; exact ho⟩
      · refine (rrows_tour C _ _ cl cl.length rfl zp z1 z24 ca cc w h.2.2.1 hC).mono fun e w' ⟨g, cap, e1, ho⟩ => ?_
        have l : (asR 3 cl cl.length).length = cl.length := ho.1
        exact .inr ⟨hc, g, cap, asR 3 cl cl.length, by rw [l]; exact e1, .inr ⟨by decide, rfl⟩, by rw [l]; exact ho⟩
  · exact rfirst_no K N C wl vl cl wa va ca wc vc cc w h hc
theorem first_uniq {K C : Int} {wl vl : List Int} {cl : List (List Int)} {x y : List Int} (hx : FirstR K C wl vl cl x) (hy : FirstR K C wl vl cl y) : y = x := by
  rcases hx with ⟨rfl, T, t1, t2, rfl⟩ | ⟨h1, rfl⟩
  · rcases hy with ⟨_, U, u1, u2, rfl⟩ | ⟨h, _⟩
    · rw [od.isRk_one t1 t2 u1]
    · exact absurd rfl h
  · rcases hy with ⟨h, _⟩ | ⟨_, rfl⟩
    · exact absurd h h1
    · rfl
theorem first_len {K N C : Int} {wl vl : List Int} {cl : List (List Int)} (hc : chk K N C wl vl cl = 0) {x : List Int} (hx : FirstR K C wl vl cl x) : x.length ≤ 64 := (cost_len (first_ok hc hx)).2
set_option maxRecDepth 100000 in
set_option maxHeartbeats 8000000 in
theorem greedyFirsts_walk (kd N C : Int) (wl vl : List Int) (cl : List (List Int)) (wa va ca : Option Addr) (wn vn cn wc vc cc : Nat) (w : World) (h1 : Src w wa wn wc wl) (h2 : Src w va vn vc vl) (h3 : RSrc w ca cn cc cl) :
    Calls Try.prog 3 #[.agg #[.int .i64 kd, .int .i64 N, .int .i64 C, .slice wa wn wc, .slice va vn vc, .slice ca cn cc]] w fun e w' => e = .returned (.bool true) ∧ Below w.heap.size w w' := by
  have bA : Below w.heap.size w (w.alloc (.cells #[.int .i64 kd, .int .i64 N, .int .i64 C, .slice wa wn wc, .slice va vn vc, .slice ca cn cc] 25)) := bl_al (Below.refl _ _) _
  have HC := Lib.hid (refcopy_any kd N C wl vl cl wa va ca wn vn cn wc vc cc _ (h1.keep bA) (h2.keep bA) (h3.keep bA))
  have HB := Lib.hid bA
  have Q0 := Lib.hid (heap_alloc_new w (.cells #[.int .i64 kd, .int .i64 N, .int .i64 C, .slice wa wn wc, .slice va vn vc, .slice ca cn cc] 25))
  have l1 : wl.length ≤ 1000 := by have := h1.1; omega
  have l2 : vl.length ≤ 1000 := by have := h2.1; omega
  have l3 : cl.length ≤ 1000 := by have := h3.1; omega
  have HF := Lib.hid (fun W => finds_any W)
  clear h1 h2 h3 bA
  go_enter Try.func3, Try.ntmps3
  go_wp2_with fail
  refine HC.out.mono ?_; rintro e w1 ⟨g1, k1, g2, k2, ca', cc', rfl, hb, i1, i2, rw⟩
  have q0 := (hb.block _ (lt_hp Q0.out)).trans Q0.out
  have P := put_copy (K := kd) (N := N) (C := C) (k1 := k1) (k2 := k2) (cc := cc') (Nat.le_refl _) q0 (bl_tr HB.out hb) i1 i2 rw l1 l2 l3 _ rfl
  have HP := Lib.hid P
  obtain ⟨c0, c1, c2, c3, c4, c5⟩ := box6 q0
  have cf := fr6 q0
  have hs := lt_hp q0
  clear hb i1 i2 rw q0 HC HB Q0 P
  go_upto_region 2 with fail
  clear c0 c1 c2 c3 c4 c5 cf hs
  generalize ((((((w1.setCell ⟨w.heap.size, 0, none⟩ (.int .i64 kd)).setCell ⟨w.heap.size, 1, none⟩ (.int .i64 N)).setCell ⟨w.heap.size, 2, none⟩ (.int .i64 C)).setCell ⟨w.heap.size, 3, none⟩ (.slice (some ⟨g1, 0, none⟩) wl.length k1)).setCell ⟨w.heap.size, 4, none⟩ (.slice (some ⟨g2, 0, none⟩) vl.length k2)).setCell ⟨w.heap.size, 5, none⟩ (.slice ca' cl.length cc')) = X at *
  have PX := Lib.hid HP.out.2.1
  have BX := Lib.hid HP.out.2.2
  have S1 := Lib.hid HP.out.1
  have H6 := Lib.hid (fun (W : World) (h : Below X.heap.size X W) => box6 ((h.block _ (lt_hp S1.out)).trans S1.out))
  have FA := Lib.hid (first_any kd N C wl vl cl (some ⟨g1, 0, none⟩) (some ⟨g2, 0, none⟩) ca' k1 k2 cc' X PX.out)
  have RA := Lib.hid (fun (W : World) (hW : Below X.heap.size X W) => rfirst_any kd N C wl vl cl (some ⟨g1, 0, none⟩) (some ⟨g2, 0, none⟩) ca' k1 k2 cc' W (PX.out.keep hW))
  have RC := Lib.hid (fun (W : World) (y : List Int) (ya : Option Addr) (yc : Nat) (hW : Below X.heap.size X W) (hy : Ints W ya y) (hl : y.length ≤ 1000) => refCost_any kd N C wl vl cl y (some ⟨g1, 0, none⟩) (some ⟨g2, 0, none⟩) ca' ya k1 k2 cc' yc W (PX.out.keep hW) hy hl)
  clear HP
  obtain ⟨c0, c1, c2, c3, c4, c5⟩ := H6.out X (Below.refl _ _)
  go_wp2_with fail
  refine FA.out.mono ?_; rintro e w4 h
  clear c0 c1 c2 c3 c4 c5 FA
  rcases h with ⟨hc, rfl, hb4⟩ | ⟨hc, gx, x, rfl, fx, hx⟩
  · have B4 := Lib.hid hb4
    obtain ⟨c0, c1, c2, c3, c4, c5⟩ := H6.out w4 B4.out
    have R4 := Lib.hid (RA.out w4 hb4)
    have H4 := Lib.hid hc
    have hc' : (chk kd N C wl vl cl != 0) = true := by simpa using hc
    have RCn : Hid (∀ (W : World) (hW : Below X.heap.size X W), Calls Try.prog 14 #[.agg #[.int .i64 kd, .int .i64 N, .int .i64 C, .slice (some ⟨g1, 0, none⟩) wl.length k1, .slice (some ⟨g2, 0, none⟩) vl.length k2, .slice ca' cl.length cc'], .slice none 0 0] W fun e w' => ∃ a b, e = .returned (.tuple #[.int .i64 a, .int .i64 b]) ∧ Below W.heap.size W w') := fun W hW =>
      (RC.out W [] none 0 hW (fun j hj => absurd hj (by simp)) (by simp)).mono fun e w' ⟨e1, e2⟩ => ⟨_, _, e1, e2⟩
    clear hb4 RA RC hc
    go_wp2_with fail
    refine R4.out.mono ?_; rintro e w5 h
    rcases h with ⟨_, rfl, hb5⟩ | ⟨hc2, _⟩
    rotate_left
    · exact absurd hc2 H4.out
    have B5 := Lib.hid (bl_tr B4.out hb5)
    clear hb5 R4 c0 c1 c2 c3 c4 c5 H4
    generalize chk kd N C wl vl cl = ce at *
    have ces : (ce != ce) = false := by simp
    go_wp2_with fail
    refine (HF.out w5).mono ?_; rintro e w6 ⟨rfl, hb6⟩
    have B6 := Lib.hid (bl_tr B5.out hb6)
    clear hb6
    go_wp2_with fail
    refine (same_nil w6).mono ?_; rintro e w7 ⟨rfl, hb7⟩
    have B7 := Lib.hid (bl_tr B6.out hb7)
    clear hb7
    obtain ⟨c0, c1, c2, c3, c4, c5⟩ := H6.out w7 B7.out
    go_wp2_with fail
    refine (RCn.out w7 B7.out).mono ?_; rintro e w8 ⟨qa, qb, rfl, hb8⟩
    have B8 := Lib.hid (BX.out.trans ((bl_tr B7.out hb8).mono BX.out.size))
    clear hb8 c0 c1 c2 c3 c4 c5
    go_wp2
    first
      | exact ⟨rfl, B8.out⟩
      | (go_ret; exact ⟨rfl, B8.out⟩)
  · have hlx := first_len hc fx
    have hcx := first_ok hc fx
    have B4 := Lib.hid hx.2.2.2
    obtain ⟨c0, c1, c2, c3, c4, c5⟩ := H6.out w4 B4.out
    have R4 : Hid (Calls Try.prog 11 #[.agg #[.int .i64 kd, .int .i64 N, .int .i64 C, .slice (some ⟨g1, 0, none⟩) wl.length k1, .slice (some ⟨g2, 0, none⟩) vl.length k2, .slice ca' cl.length cc']] w4 fun e w' => ∃ g cap, e = .returned (.tuple #[.slice (some ⟨g, 0, none⟩) x.length cap, .int .i64 0]) ∧ Hid (od.Own w4.heap.size g x.length cap x w4 w')) := (RA.out w4 hx.2.2.2).mono fun e w' h => by
      rcases h with ⟨h, _⟩ | ⟨_, g, cap, y, rfl, fy, hy⟩
      · exact absurd hc h
      · have := first_uniq fx fy
        subst this
        exact ⟨g, cap, rfl, hy⟩
    have RX : Hid (∀ (W : World) (hW : Below X.heap.size X W) (h : od.Own X.heap.size gx x.length x.length x X W), Calls Try.prog 14 #[.agg #[.int .i64 kd, .int .i64 N, .int .i64 C, .slice (some ⟨g1, 0, none⟩) wl.length k1, .slice (some ⟨g2, 0, none⟩) vl.length k2, .slice ca' cl.length cc'], .slice (some ⟨gx, 0, none⟩) x.length x.length] W fun e w' => ∃ a, e = .returned (.tuple #[.int .i64 a, .int .i64 0]) ∧ Below W.heap.size W w') := fun W hW h => by
      have := RC.out W x (some ⟨gx, 0, none⟩) x.length hW (own_ints h) (by omega)
      rw [hcx] at this
      exact this.mono fun e w' ⟨e1, e2⟩ => ⟨_, e1, e2⟩
    have OX := Lib.hid hx
    clear hx RA RC hc hcx fx
    generalize hn : x.length = n at *
    have HN := Lib.hid hn
    clear hn
    go_wp2_with fail
    refine R4.out.mono ?_; rintro e w5 ⟨gy, cy, rfl, hy⟩
    have B5 := Lib.hid (bl_tr B4.out hy.out.2.2.2)
    have OX5 := Lib.hid (OX.out.keep hy.out.2.2.2)
    clear R4 OX c0 c1 c2 c3 c4 c5
    go_wp2_with fail
    refine (HF.out w5).mono ?_; rintro e w6 ⟨rfl, hb6⟩
    have B6 := Lib.hid (bl_tr B5.out hb6)
    have OX6 := Lib.hid (OX5.out.keep hb6)
    have OY6 := Lib.hid (hy.out.keep hb6)
    clear hb6 OX5 hy
    go_wp2_with fail
    refine (same_own OX6.out OY6.out (by omega)).mono ?_; rintro e w7 ⟨rfl, hb7⟩
    have B7 := Lib.hid (bl_tr B6.out hb7)
    have OX7 := Lib.hid (OX6.out.keep hb7)
    clear hb7 OX6 OY6
    obtain ⟨c0, c1, c2, c3, c4, c5⟩ := H6.out w7 B7.out
    go_wp2_with fail
    refine (RX.out w7 B7.out OX7.out).mono ?_; rintro e w8 ⟨qa, rfl, hb8⟩
    have B8 := Lib.hid (BX.out.trans ((bl_tr B7.out hb8).mono BX.out.size))
    clear hb8 c0 c1 c2 c3 c4 c5 RX
    go_wp2
    first
      | exact ⟨rfl, B8.out⟩
      | (go_ret; exact ⟨rfl, B8.out⟩)
end Go.Proofs.Ytaobaiifbmhegaa
