import Derived.Test.YtjlaankgfpjeeaaDoorInOne
import Derived.BigQuiet
import Derived.Deep.QuietTactic

/-
  What slices.Equal of two lists of numbers answers.
-/
namespace Go.Proofs.YtjlaankgfpjeeaaDoor.ip
open Go.RowKit
set_option linter.unusedVariables false
theorem bl_dN {B : Nat} {a w : World} (h : Below B a w) (n : Nat) : Below B a (w.drewN n) := ⟨h.os, h.tape, h.output, h.size, h.block⟩
theorem eq_of_gets {l l' : List Int} (h : l.length = l'.length) (hg : ∀ j, j < l.length → l[j]?.getD 0 = l'[j]?.getD 0) : l = l' := by
  apply List.ext_getElem h
  intro i h1 h2
  have := hg i h1
  rw [List.getElem?_eq_getElem h1, List.getElem?_eq_getElem h2] at this
  exact this
set_option maxHeartbeats 2000000 in
theorem eqi_any (b : Bool) (l l' : List Int) (hb : b = true ↔ l = l') (a a' : Option Addr) (c c' : Nat) (w : World) (h1 : Ints w a l) (h2 : Ints w a' l') (l1 : l.length ≤ 1000) (l2 : l'.length ≤ 1000) :
    Calls Tryd.prog 40 #[.slice a l.length c, .slice a' l'.length c'] w fun e w' => e = .returned (.bool b) ∧ Below w.heap.size w w' := by
  by_cases hl : l.length = l'.length
  · obtain ⟨n, hn⟩ : ∃ n, l.length = n := ⟨_, rfl⟩
    have hn2 : l'.length = n := by omega
    have HB := Lib.hid hb
    have H1 := Lib.hid h1
    have H2 := Lib.hid h2
    have HL := Lib.hid (show l.length = n ∧ l'.length = n from ⟨hn, hn2⟩)
    rw [hn, hn2]
    have l1 : n ≤ 1000 := by omega
    clear hb h1 h2 hl hn hn2 l2
    go_enter Tryd.func40, Tryd.ntmps40
    go_wp2
    go_loopw [13] (fun i wr => ∃ k : Nat, k ≤ n ∧ i = .int .i64 k ∧ Hid (∀ j, j < k → l[j]?.getD 0 = l'[j]?.getD 0) ∧ Hid (Below w.heap.size w wr)) (fun i _ => n - (intOf i).toNat)
    case atStart => exact ⟨0, by omega, rfl, Lib.hid (fun j hj => by omega), Lib.hid (Below.refl _ _)⟩
    case round =>
      obtain ⟨k, hk, rfl, HE, B⟩ := hrel
      by_cases hlt : k < n
      · have h3 : (k : Int) < (n : Int) := by omega
        obtain ⟨b1, o1, rfl, hb1, d1⟩ := (H1.out.keep B.out) k (by have := HL.out; omega)
        obtain ⟨b2, o2, rfl, hb2, d2⟩ := (H2.out.keep B.out) k (by have := HL.out; omega)
        obtain ⟨x, hx⟩ : ∃ x, l[k]?.getD 0 = x := ⟨_, rfl⟩
        obtain ⟨y, hy⟩ : ∃ y, l'[k]?.getD 0 = y := ⟨_, rfl⟩
        rw [hx] at d1
        rw [hy] at d2
        by_cases hxy : x = y
        · subst hxy
          have hq : ((x : Int) != x) = false := by simp
          have HN := Lib.hid (show ∀ j, j < k + 1 → l[j]?.getD 0 = l'[j]?.getD 0 from fun j hj => by
            rcases Nat.lt_or_ge j k with q | q
            · exact HE.out j q
            · obtain rfl : j = k := by omega
              rw [hx, hy])
          clear hx hy HE
          go_wp2
          go_quiet (fail)
          go_wp2
          go_roundw
          case rel => exact ⟨k + 1, by omega, by go_num, HN, Lib.hid (bl_dN B.out _)⟩
          case measure => simp [intOf]; omega
        · have hq : ((x : Int) != y) = true := by simpa using hxy
          have hbf : b = false := by
            cases b
            · rfl
            · exact absurd (by rw [← hx, ← hy, HB.out.1 rfl]) hxy
          subst hbf
          clear hx hy hxy HE HB
          go_wp2
          go_quiet (fail)
          go_wp2
          go_ret
          exact ⟨rfl, bl_dN B.out _⟩
      · have h3 : ¬ (k : Int) < (n : Int) := by omega
        have hbt : b = true := HB.out.2 (eq_of_gets (by have := HL.out; omega) (fun j hj => HE.out j (by have := HL.out; omega)))
        subst hbt
        clear HB
        go_wp2
        go_ret
        exact ⟨rfl, B.out⟩
  · have hbf : b = false := by
      cases b
      · rfl
      · exact absurd (by rw [hb.1 rfl]) hl
    subst hbf
    have h3 : ((l.length : Int) != (l'.length : Int)) = true := by simp; omega
    clear hb hl h1 h2
    go_enter Tryd.func40, Tryd.ntmps40
    go_wp2
    go_ret
    exact ⟨rfl, Below.refl _ _⟩
end Go.Proofs.YtjlaankgfpjeeaaDoor.ip

/-
  What slices.EqualFunc of two lists of lists, by slices.Equal, answers.
-/
namespace Go.Proofs.YtjlaankgfpjeeaaDoor.ip
open Go.RowKit
set_option linter.unusedVariables false
theorem eq_of_rows {l l' : List (List Int)} (h : l.length = l'.length) (hg : ∀ j, j < l.length → l[j]?.getD [] = l'[j]?.getD []) : l = l' := by
  apply List.ext_getElem h
  intro i h1 h2
  have := hg i h1
  rw [List.getElem?_eq_getElem h1, List.getElem?_eq_getElem h2] at this
  exact this
set_option maxHeartbeats 2000000 in
theorem eqf_any (b : Bool) (l l' : List (List Int)) (hb : b = true ↔ l = l') (a a' : Option Addr) (c c' : Nat) (w : World) (h1 : Rws w a l) (h2 : Rws w a' l') (l1 : l.length ≤ 1000) (l2 : l'.length ≤ 1000) :
    Calls Tryd.prog 41 #[.slice a l.length c, .slice a' l'.length c', .func (.func 40) #[] #[]] w fun e w' => e = .returned (.bool b) ∧ Below w.heap.size w w' := by
  by_cases hl : l.length = l'.length
  · obtain ⟨n, hn⟩ : ∃ n, l.length = n := ⟨_, rfl⟩
    have hn2 : l'.length = n := by omega
    have HB := Lib.hid hb
    have H1 := Lib.hid h1
    have H2 := Lib.hid h2
    have HL := Lib.hid (show l.length = n ∧ l'.length = n from ⟨hn, hn2⟩)
    rw [hn, hn2]
    have l1 : n ≤ 1000 := by omega
    clear hb h1 h2 hl hn hn2 l2
    go_enter Tryd.func41, Tryd.ntmps41
    go_wp2
    go_loopw [17] (fun i wr => ∃ k : Nat, k ≤ n ∧ i = .int .i64 k ∧ Hid (∀ j, j < k → l[j]?.getD [] = l'[j]?.getD []) ∧ Hid (Below w.heap.size w wr)) (fun i _ => n - (intOf i).toNat)
    case atStart => exact ⟨0, by omega, rfl, Lib.hid (fun j hj => by omega), Lib.hid (Below.refl _ _)⟩
    case round =>
      obtain ⟨k, hk, rfl, HE, B⟩ := hrel
      by_cases hlt : k < n
      · have h3 : (k : Int) < (n : Int) := by omega
        obtain ⟨b1, o1, a1, c1, rfl, hb1, d1, r1, m1⟩ := (H1.out.keep B.out) k (by have := HL.out; omega)
        obtain ⟨b2, o2, a2, c2, rfl, hb2, d2, r2, m2⟩ := (H2.out.keep B.out) k (by have := HL.out; omega)
        obtain ⟨x, hx⟩ : ∃ x, l[k]?.getD [] = x := ⟨_, rfl⟩
        obtain ⟨y, hy⟩ : ∃ y, l'[k]?.getD [] = y := ⟨_, rfl⟩
        rw [hx] at d1 r1 m1
        rw [hy] at d2 r2 m2
        by_cases hxy : x = y
        · subst hxy
          have CE := Lib.hid (eqi_any true x x (by simp) a1 a2 c1 c2 wr r1 r2 m1 m2)
          have HN := Lib.hid (show ∀ j, j < k + 1 → l[j]?.getD [] = l'[j]?.getD [] from fun j hj => by
            rcases Nat.lt_or_ge j k with q | q
            · exact HE.out j q
            · obtain rfl : j = k := by omega
              rw [hx, hy])
          clear hx hy HE r1 r2
          go_wp2_with fail
          refine CE.out.mono ?_; rintro e w2 ⟨rfl, hb4⟩
          have B2 := Lib.hid (bl_tr B.out hb4)
          clear d1 d2 hb4
          go_wp2
          go_roundw
          case rel => exact ⟨k + 1, by omega, by go_num, HN, B2⟩
          case measure => simp [intOf]; omega
        · have CE := Lib.hid (eqi_any false x y ⟨fun h => (by cases h), fun h => absurd h hxy⟩ a1 a2 c1 c2 wr r1 r2 m1 m2)
          have hbf : b = false := by
            cases b
            · rfl
            · exact absurd (by rw [← hx, ← hy, HB.out.1 rfl]) hxy
          subst hbf
          clear hx hy hxy HE HB r1 r2
          go_wp2_with fail
          refine CE.out.mono ?_; rintro e w2 ⟨rfl, hb4⟩
          have B2 := Lib.hid (bl_tr B.out hb4)
          clear d1 d2 hb4
          go_wp2
          go_ret
          exact ⟨rfl, B2.out⟩
      · have h3 : ¬ (k : Int) < (n : Int) := by omega
        have hbt : b = true := HB.out.2 (eq_of_rows (by have := HL.out; omega) (fun j hj => HE.out j (by have := HL.out; omega)))
        subst hbt
        clear HB
        go_wp2
        go_ret
        exact ⟨rfl, B.out⟩
  · have hbf : b = false := by
      cases b
      · rfl
      · exact absurd (by rw [hb.1 rfl]) hl
    subst hbf
    have h3 : ((l.length : Int) != (l'.length : Int)) = true := by simp; omega
    clear hb hl h1 h2
    go_enter Tryd.func41, Tryd.ntmps41
    go_wp2
    go_ret
    exact ⟨rfl, Below.refl _ _⟩
end Go.Proofs.YtjlaankgfpjeeaaDoor.ip

/-
  What inst.Same answers of problems that lie in memory.
-/
namespace Go.Proofs.YtjlaankgfpjeeaaDoor.ip
open Go.RowKit
set_option linter.unusedVariables false
theorem undef_neC (b : Bool) : ¬ (undef = Value.bool b) := by intro h; unfold undef at h; cases h
set_option maxRecDepth 100000 in
set_option maxHeartbeats 4000000 in
theorem isame_any (b : Bool) (K N C K' N' C' : Int) (wl vl wl' vl' : List Int) (cl cl' : List (List Int)) (hb : b = true ↔ K = K' ∧ N = N' ∧ C = C' ∧ wl = wl' ∧ vl = vl' ∧ cl = cl') (wa va ca wa' va' ca' : Option Addr) (wc vc cc wc' vc' cc' : Nat) (w : World)
    (i1 : Ints w wa wl) (i2 : Ints w va vl) (i3 : Rws w ca cl) (j1 : Ints w wa' wl') (j2 : Ints w va' vl') (j3 : Rws w ca' cl') (l1 : wl.length ≤ 1000) (l2 : vl.length ≤ 1000) (l3 : cl.length ≤ 1000) (m1 : wl'.length ≤ 1000) (m2 : vl'.length ≤ 1000) (m3 : cl'.length ≤ 1000) :
    Calls Tryd.prog 19 #[.agg #[.int .i64 K, .int .i64 N, .int .i64 C, .slice wa wl.length wc, .slice va vl.length vc, .slice ca cl.length cc], .agg #[.int .i64 K', .int .i64 N', .int .i64 C', .slice wa' wl'.length wc', .slice va' vl'.length vc', .slice ca' cl'.length cc']] w fun e w' => e = .returned (.bool b) ∧ Below w.heap.size w w' := by
  have bA : Below w.heap.size w ((w.alloc (.cells #[.int .i64 K, .int .i64 N, .int .i64 C, .slice wa wl.length wc, .slice va vl.length vc, .slice ca cl.length cc] 25)).alloc (.cells #[.int .i64 K', .int .i64 N', .int .i64 C', .slice wa' wl'.length wc', .slice va' vl'.length vc', .slice ca' cl'.length cc'] 25)) := bl_al (bl_al (Below.refl _ _) _) _
  have BA := Lib.hid bA
  have I1 := Lib.hid i1; have I2 := Lib.hid i2; have I3 := Lib.hid i3; have J1 := Lib.hid j1; have J2 := Lib.hid j2; have J3 := Lib.hid j3
  have HB := Lib.hid hb
  clear i1 i2 i3 j1 j2 j3 bA hb
  have C1 := Lib.hid (fun (W : World) (hW : Below w.heap.size w W) (d : Bool) (hd : d = true ↔ wl = wl') => eqi_any d wl wl' hd wa wa' wc wc' W (I1.out.keep hW) (J1.out.keep hW) l1 m1)
  have C2 := Lib.hid (fun (W : World) (hW : Below w.heap.size w W) (d : Bool) (hd : d = true ↔ vl = vl') => eqi_any d vl vl' hd va va' vc vc' W (I2.out.keep hW) (J2.out.keep hW) l2 m2)
  have C3 := Lib.hid (fun (W : World) (hW : Below w.heap.size w W) (d : Bool) (hd : d = true ↔ cl = cl') => eqf_any d cl cl' hd ca ca' cc cc' W (I3.out.keep hW) (J3.out.keep hW) l3 m3)
  have hud := undef_neC
  by_cases hK : K = K'
  · by_cases hN : N = N'
    · by_cases hC : C = C'
      · by_cases hw : wl = wl'
        · by_cases hv : vl = vl'
          · by_cases hc : cl = cl'
            · have hbt : b = true := HB.out.2 ⟨hK, hN, hC, hw, hv, hc⟩
              subst hbt
              have HW := Lib.hid hw
              have HV := Lib.hid hv
              have HC := Lib.hid hc
              clear hw hv hc
              have e1 : ((K : Int) == K') = true := by simpa using hK
              have e2 : ((N : Int) == N') = true := by simpa using hN
              have e3 : ((C : Int) == C') = true := by simpa using hC
              clear hK hN hC HB
              go_enter Tryd.func19, Tryd.ntmps19
              go_wp2_with fail
              refine (C1.out _ BA.out true (⟨fun _ => HW.out, fun _ => rfl⟩)).mono ?_; rintro e w1 ⟨rfl, hb1⟩
              have B1 := Lib.hid (bl_tr BA.out hb1)
              obtain ⟨⟨x0, x1, x2, x3, x4, x5⟩, ⟨x6, x7, x8, x9, xa, xb⟩⟩ := two_boxes (hb1)
              have D1 := Lib.hid (hb1)
              clear hb1
              go_wp2_with fail
              refine (C2.out _ B1.out true (⟨fun _ => HV.out, fun _ => rfl⟩)).mono ?_; rintro e w2 ⟨rfl, hb2⟩
              have B2 := Lib.hid (bl_tr B1.out hb2)
              clear x0 x1 x2 x3 x4 x5 x6 x7 x8 x9 xa xb
              obtain ⟨⟨x0, x1, x2, x3, x4, x5⟩, ⟨x6, x7, x8, x9, xa, xb⟩⟩ := two_boxes (bl_tr (D1.out) hb2)
              have D2 := Lib.hid (bl_tr D1.out hb2)
              clear hb2
              go_wp2_with fail
              refine (C3.out _ B2.out true (⟨fun _ => HC.out, fun _ => rfl⟩)).mono ?_; rintro e w3 ⟨rfl, hb3⟩
              have B3 := Lib.hid (bl_tr B2.out hb3)
              clear x0 x1 x2 x3 x4 x5 x6 x7 x8 x9 xa xb
              obtain ⟨⟨x0, x1, x2, x3, x4, x5⟩, ⟨x6, x7, x8, x9, xa, xb⟩⟩ := two_boxes (bl_tr (D2.out) hb3)
              have D3 := Lib.hid (bl_tr D2.out hb3)
              clear hb3
              go_wp2
              go_ret
              exact ⟨rfl, B3.out⟩
            · have hbf : b = false := by
                cases b
                · rfl
                · exact absurd (HB.out.1 rfl).2.2.2.2.2 hc
              subst hbf
              have HW := Lib.hid hw
              have HV := Lib.hid hv
              have HC := Lib.hid hc
              clear hw hv hc
              have e1 : ((K : Int) == K') = true := by simpa using hK
              have e2 : ((N : Int) == N') = true := by simpa using hN
              have e3 : ((C : Int) == C') = true := by simpa using hC
              clear hK hN hC HB
              go_enter Tryd.func19, Tryd.ntmps19
              go_wp2_with fail
              refine (C1.out _ BA.out true (⟨fun _ => HW.out, fun _ => rfl⟩)).mono ?_; rintro e w1 ⟨rfl, hb1⟩
              have B1 := Lib.hid (bl_tr BA.out hb1)
              obtain ⟨⟨x0, x1, x2, x3, x4, x5⟩, ⟨x6, x7, x8, x9, xa, xb⟩⟩ := two_boxes (hb1)
              have D1 := Lib.hid (hb1)
              clear hb1
              go_wp2_with fail
              refine (C2.out _ B1.out true (⟨fun _ => HV.out, fun _ => rfl⟩)).mono ?_; rintro e w2 ⟨rfl, hb2⟩
              have B2 := Lib.hid (bl_tr B1.out hb2)
              clear x0 x1 x2 x3 x4 x5 x6 x7 x8 x9 xa xb
              obtain ⟨⟨x0, x1, x2, x3, x4, x5⟩, ⟨x6, x7, x8, x9, xa, xb⟩⟩ := two_boxes (bl_tr (D1.out) hb2)
              have D2 := Lib.hid (bl_tr D1.out hb2)
              clear hb2
              go_wp2_with fail
              refine (C3.out _ B2.out false (⟨fun h => (by cases h), fun h => absurd h HC.out⟩)).mono ?_; rintro e w3 ⟨rfl, hb3⟩
              have B3 := Lib.hid (bl_tr B2.out hb3)
              clear x0 x1 x2 x3 x4 x5 x6 x7 x8 x9 xa xb
              obtain ⟨⟨x0, x1, x2, x3, x4, x5⟩, ⟨x6, x7, x8, x9, xa, xb⟩⟩ := two_boxes (bl_tr (D2.out) hb3)
              have D3 := Lib.hid (bl_tr D2.out hb3)
              clear hb3
              go_wp2
              go_ret
              exact ⟨rfl, B3.out⟩
          · have hbf : b = false := by
              cases b
              · rfl
              · exact absurd (HB.out.1 rfl).2.2.2.2.1 hv
            subst hbf
            have HW := Lib.hid hw
            have HV := Lib.hid hv
            clear hw hv
            have e1 : ((K : Int) == K') = true := by simpa using hK
            have e2 : ((N : Int) == N') = true := by simpa using hN
            have e3 : ((C : Int) == C') = true := by simpa using hC
            clear hK hN hC HB
            go_enter Tryd.func19, Tryd.ntmps19
            go_wp2_with fail
            refine (C1.out _ BA.out true (⟨fun _ => HW.out, fun _ => rfl⟩)).mono ?_; rintro e w1 ⟨rfl, hb1⟩
            have B1 := Lib.hid (bl_tr BA.out hb1)
            obtain ⟨⟨x0, x1, x2, x3, x4, x5⟩, ⟨x6, x7, x8, x9, xa, xb⟩⟩ := two_boxes (hb1)
            have D1 := Lib.hid (hb1)
            clear hb1
            go_wp2_with fail
            refine (C2.out _ B1.out false (⟨fun h => (by cases h), fun h => absurd h HV.out⟩)).mono ?_; rintro e w2 ⟨rfl, hb2⟩
            have B2 := Lib.hid (bl_tr B1.out hb2)
            clear x0 x1 x2 x3 x4 x5 x6 x7 x8 x9 xa xb
            obtain ⟨⟨x0, x1, x2, x3, x4, x5⟩, ⟨x6, x7, x8, x9, xa, xb⟩⟩ := two_boxes (bl_tr (D1.out) hb2)
            have D2 := Lib.hid (bl_tr D1.out hb2)
            clear hb2
            go_wp2
            go_ret
            exact ⟨rfl, B2.out⟩
        · have hbf : b = false := by
            cases b
            · rfl
            · exact absurd (HB.out.1 rfl).2.2.2.1 hw
          subst hbf
          have HW := Lib.hid hw
          clear hw
          have e1 : ((K : Int) == K') = true := by simpa using hK
          have e2 : ((N : Int) == N') = true := by simpa using hN
          have e3 : ((C : Int) == C') = true := by simpa using hC
          clear hK hN hC HB
          go_enter Tryd.func19, Tryd.ntmps19
          go_wp2_with fail
          refine (C1.out _ BA.out false (⟨fun h => (by cases h), fun h => absurd h HW.out⟩)).mono ?_; rintro e w1 ⟨rfl, hb1⟩
          have B1 := Lib.hid (bl_tr BA.out hb1)
          obtain ⟨⟨x0, x1, x2, x3, x4, x5⟩, ⟨x6, x7, x8, x9, xa, xb⟩⟩ := two_boxes (hb1)
          have D1 := Lib.hid (hb1)
          clear hb1
          go_wp2
          go_ret
          exact ⟨rfl, B1.out⟩
      · have hbf : b = false := by
          cases b
          · rfl
          · exact absurd (HB.out.1 rfl).2.2.1 hC
        subst hbf
        have e1 : ((K : Int) == K') = true := by simpa using hK
        have e2 : ((N : Int) == N') = true := by simpa using hN
        have e3 : ((C : Int) == C') = false := by simpa using hC
        clear hK hN hC HB
        go_enter Tryd.func19, Tryd.ntmps19
        go_wp2
        go_ret
        exact ⟨rfl, BA.out⟩
    · have hbf : b = false := by
        cases b
        · rfl
        · exact absurd (HB.out.1 rfl).2.1 hN
      subst hbf
      have e1 : ((K : Int) == K') = true := by simpa using hK
      have e2 : ((N : Int) == N') = false := by simpa using hN
      clear hK hN HB
      go_enter Tryd.func19, Tryd.ntmps19
      go_wp2
      go_ret
      exact ⟨rfl, BA.out⟩
  · have hbf : b = false := by
      cases b
      · rfl
      · exact absurd (HB.out.1 rfl).1 hK
    subst hbf
    have e1 : ((K : Int) == K') = false := by simpa using hK
    clear hK HB
    go_enter Tryd.func19, Tryd.ntmps19
    go_wp2
    go_ret
    exact ⟨rfl, BA.out⟩
end Go.Proofs.YtjlaankgfpjeeaaDoor.ip
