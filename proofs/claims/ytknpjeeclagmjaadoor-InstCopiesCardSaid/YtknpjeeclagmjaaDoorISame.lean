/-
  What inst.Same answers of problems that lie in memory.
-/
import Derived.Test.YtknpjeeclagmjaaDoorEqF
namespace Go.Proofs.YtknpjeeclagmjaaDoor
open Go.RowKit
set_option linter.unusedVariables false
theorem undef_neC (b : Bool) : ¬ (undef = Value.bool b) := by intro h; unfold undef at h; cases h
set_option maxRecDepth 100000 in
set_option maxHeartbeats 4000000 in
theorem isame_any (b : Bool) (K N C K' N' C' : Int) (wl vl wl' vl' : List Int) (cl cl' : List (List Int)) (hb : b = true ↔ K = K' ∧ N = N' ∧ C = C' ∧ wl = wl' ∧ vl = vl' ∧ cl = cl') (wa va ca wa' va' ca' : Option Addr) (wc vc cc wc' vc' cc' : Nat) (w : World)
    (i1 : Ints w wa wl) (i2 : Ints w va vl) (i3 : Rws w ca cl) (j1 : Ints w wa' wl') (j2 : Ints w va' vl') (j3 : Rws w ca' cl') (l1 : wl.length ≤ 1000) (l2 : vl.length ≤ 1000) (l3 : cl.length ≤ 1000) (m1 : wl'.length ≤ 1000) (m2 : vl'.length ≤ 1000) (m3 : cl'.length ≤ 1000) :
    Calls Tryd.prog 16 #[.agg #[.int .i64 K, .int .i64 N, .int .i64 C, .slice wa wl.length wc, .slice va vl.length vc, .slice ca cl.length cc], .agg #[.int .i64 K', .int .i64 N', .int .i64 C', .slice wa' wl'.length wc', .slice va' vl'.length vc', .slice ca' cl'.length cc']] w fun e w' => e = .returned (.bool b) ∧ Below w.heap.size w w' := by
  have bA : Below w.heap.size w ((w.alloc (.cells #[.int .i64 K, .int .i64 N, .int .i64 C, .slice wa wl.length wc, .slice va vl.length vc, .slice ca cl.length cc] 25)).alloc (.cells #[.int .i64 K', .int .i64 N', .int .i64 C', .slice wa' wl'.length wc', .slice va' vl'.length vc', .slice ca' cl'.length cc'] 25)) := bl_al (bl_al (Below.refl _ _) _) _
  have BA := Lib.hid bA
  have I1 := Lib.hid i1; have I2 := Lib.hid i2; have I3 := Lib.hid i3; have J1 := Lib.hid j1; have J2 := Lib.hid j2; have J3 := Lib.hid j3
  have HB := Lib.hid hb
  clear i1 i2 i3 j1 j2 j3 bA hb
  have C1 := Lib.hid (fun (W : World) (hW : Below w.heap.size w W) (d : Bool) (hd : d = true ↔ wl = wl') => eqi_any d wl wl' hd wa wa' wc wc' W (I1.out.keep hW) (J1.out.keep hW) l1 m1)
  have C2 := Lib.hid (fun (W : World) (hW : Below w.heap.size w W) (d : Bool) (hd : d = true ↔ vl = vl') => eqi_any d vl vl' hd va va' vc vc' W (I2.out.keep hW) (J2.out.keep hW) l2 m2)
  have C3 := Lib.hid (fun (W : World) (hW : Below w.heap.size w W) (d : Bool) (hd : d = true ↔ cl = cl') => eqf_any d cl cl' hd ca ca' cc cc' W (I3.out.keep hW) (J3.out.keep hW) l3 m3)
  have hud := undef_neC
  by_cases hK : K = K'
  · by_cases hN : N = N'
    · by_cases hC : C = C'
      · by_cases hw : wl = wl'
        · by_cases hv : vl = vl'
          · by_cases hc : cl = cl'
            · have hbt : b = true := HB.out.2 ⟨hK, hN, hC, hw, hv, hc⟩
              subst hbt
              have HW := Lib.hid hw
              have HV := Lib.hid hv
              have HC := Lib.hid hc
              clear hw hv hc
              have e1 : ((K : Int) == K') = true := by simpa using hK
              have e2 : ((N : Int) == N') = true := by simpa using hN
              have e3 : ((C : Int) == C') = true := by simpa using hC
              clear hK hN hC HB
              go_enter Tryd.func16, Tryd.ntmps16
              go_wp2_with fail
              refine (C1.out _ BA.out true (⟨fun _ => HW.out, fun _ => rfl⟩)).mono ?_; rintro e w1 ⟨rfl, hb1⟩
              have B1 := Lib.hid (bl_tr BA.out hb1)
              obtain ⟨⟨x0, x1, x2, x3, x4, x5⟩, ⟨x6, x7, x8, x9, xa, xb⟩⟩ := two_boxes (hb1)
              have D1 := Lib.hid (hb1)
              clear hb1
              go_wp2_with fail
              refine (C2.out _ B1.out true (⟨fun _ => HV.out, fun _ => rfl⟩)).mono ?_; rintro e w2 ⟨rfl, hb2⟩
              have B2 := Lib.hid (bl_tr B1.out hb2)
              clear x0 x1 x2 x3 x4 x5 x6 x7 x8 x9 xa xb
              obtain ⟨⟨x0, x1, x2, x3, x4, x5⟩, ⟨x6, x7, x8, x9, xa, xb⟩⟩ := two_boxes (bl_tr (D1.out) hb2)
              have D2 := Lib.hid (bl_tr D1.out hb2)
              clear hb2
              go_wp2_with fail
              refine (C3.out _ B2.out true (⟨fun _ => HC.out, fun _ => rfl⟩)).mono ?_; rintro e w3 ⟨rfl, hb3⟩
              have B3 := Lib.hid (bl_tr B2.out hb3)
              clear x0 x1 x2 x3 x4 x5 x6 x7 x8 x9 xa xb
              obtain ⟨⟨x0, x1, x2, x3, x4, x5⟩, ⟨x6, x7, x8, x9, xa, xb⟩⟩ := two_boxes (bl_tr (D2.out) hb3)
              have D3 := Lib.hid (bl_tr D2.out hb3)
              clear hb3
              go_wp2
              go_ret
              exact ⟨rfl, B3.out⟩
            · have hbf : b = false := by
                cases b
                · rfl
                · exact absurd (HB.out.1 rfl).2.2.2.2.2 hc
              subst hbf
              have HW := Lib.hid hw
              have HV := Lib.hid hv
              have HC := Lib.hid hc
              clear hw hv hc
              have e1 : ((K : Int) == K') = true := by simpa using hK
              have e2 : ((N : Int) == N') = true := by simpa using hN
              have e3 : ((C : Int) == C') = true := by simpa using hC
              clear hK hN hC HB
              go_enter Tryd.func16, Tryd.ntmps16
              go_wp2_with fail
              refine (C1.out _ BA.out true (⟨fun _ => HW.out, fun _ => rfl⟩)).mono ?_; rintro e w1 ⟨rfl, hb1⟩
              have B1 := Lib.hid (bl_tr BA.out hb1)
              obtain ⟨⟨x0, x1, x2, x3, x4, x5⟩, ⟨x6, x7, x8, x9, xa, xb⟩⟩ := two_boxes (hb1)
              have D1 := Lib.hid (hb1)
              clear hb1
              go_wp2_with fail
              refine (C2.out _ B1.out true (⟨fun _ => HV.out, fun _ => rfl⟩)).mono ?_; rintro e w2 ⟨rfl, hb2⟩
              have B2 := Lib.hid (bl_tr B1.out hb2)
              clear x0 x1 x2 x3 x4 x5 x6 x7 x8 x9 xa xb
              obtain ⟨⟨x0, x1, x2, x3, x4, x5⟩, ⟨x6, x7, x8, x9, xa, xb⟩⟩ := two_boxes (bl_tr (D1.out) hb2)
              have D2 := Lib.hid (bl_tr D1.out hb2)
              clear hb2
              go_wp2_with fail
              refine (C3.out _ B2.out false (⟨fun h => (by cases h), fun h => absurd h HC.out⟩)).mono ?_; rintro e w3 ⟨rfl, hb3⟩
              have B3 := Lib.hid (bl_tr B2.out hb3)
              clear x0 x1 x2 x3 x4 x5 x6 x7 x8 x9 xa xb
              obtain ⟨⟨x0, x1, x2, x3, x4, x5⟩, ⟨x6, x7, x8, x9, xa, xb⟩⟩ := two_boxes (bl_tr (D2.out) hb3)
              have D3 := Lib.hid (bl_tr D2.out hb3)
              clear hb3
              go_wp2
              go_ret
              exact ⟨rfl, B3.out⟩
          · have hbf : b = false := by
              cases b
              · rfl
              · exact absurd (HB.out.1 rfl).2.2.2.2.1 hv
            subst hbf
            have HW := Lib.hid hw
            have HV := Lib.hid hv
            clear hw hv
            have e1 : ((K : Int) == K') = true := by simpa using hK
            have e2 : ((N : Int) == N') = true := by simpa using hN
            have e3 : ((C : Int) == C') = true := by simpa using hC
            clear hK hN hC HB
            go_enter Tryd.func16, Tryd.ntmps16
            go_wp2_with fail
            refine (C1.out _ BA.out true (⟨fun _ => HW.out, fun _ => rfl⟩)).mono ?_; rintro e w1 ⟨rfl, hb1⟩
            have B1 := Lib.hid (bl_tr BA.out hb1)
            obtain ⟨⟨x0, x1, x2, x3, x4, x5⟩, ⟨x6, x7, x8, x9, xa, xb⟩⟩ := two_boxes (hb1)
            have D1 := Lib.hid (hb1)
            clear hb1
            go_wp2_with fail
            refine (C2.out _ B1.out false (⟨fun h => (by cases h), fun h => absurd h HV.out⟩)).mono ?_; rintro e w2 ⟨rfl, hb2⟩
            have B2 := Lib.hid (bl_tr B1.out hb2)
            clear x0 x1 x2 x3 x4 x5 x6 x7 x8 x9 xa xb
            obtain ⟨⟨x0, x1, x2, x3, x4, x5⟩, ⟨x6, x7, x8, x9, xa, xb⟩⟩ := two_boxes (bl_tr (D1.out) hb2)
            have D2 := Lib.hid (bl_tr D1.out hb2)
            clear hb2
            go_wp2
            go_ret
            exact ⟨rfl, B2.out⟩
        · have hbf : b = false := by
            cases b
            · rfl
            · exact absurd (HB.out.1 rfl).2.2.2.1 hw
          subst hbf
          have HW := Lib.hid hw
          clear hw
          have e1 : ((K : Int) == K') = true := by simpa using hK
          have e2 : ((N : Int) == N') = true := by simpa using hN
          have e3 : ((C : Int) == C') = true := by simpa using hC
          clear hK hN hC HB
          go_enter Tryd.func16, Tryd.ntmps16
          go_wp2_with fail
          refine (C1.out _ BA.out false (⟨fun h => (by cases h), fun h => absurd h HW.out⟩)).mono ?_; rintro e w1 ⟨rfl, hb1⟩
          have B1 := Lib.hid (bl_tr BA.out hb1)
          obtain ⟨⟨x0, x1, x2, x3, x4, x5⟩, ⟨x6, x7, x8, x9, xa, xb⟩⟩ := two_boxes (hb1)
          have D1 := Lib.hid (hb1)
          clear hb1
          go_wp2
          go_ret
          exact ⟨rfl, B1.out⟩
      · have hbf : b = false := by
          cases b
          · rfl
          · exact absurd (HB.out.1 rfl).2.2.1 hC
        subst hbf
        have e1 : ((K : Int) == K') = true := by simpa using hK
        have e2 : ((N : Int) == N') = true := by simpa using hN
        have e3 : ((C : Int) == C') = false := by simpa using hC
        clear hK hN hC HB
        go_enter Tryd.func16, Tryd.ntmps16
        go_wp2
        go_ret
        exact ⟨rfl, BA.out⟩
    · have hbf : b = false := by
        cases b
        · rfl
        · exact absurd (HB.out.1 rfl).2.1 hN
      subst hbf
      have e1 : ((K : Int) == K') = true := by simpa using hK
      have e2 : ((N : Int) == N') = false := by simpa using hN
      clear hK hN HB
      go_enter Tryd.func16, Tryd.ntmps16
      go_wp2
      go_ret
      exact ⟨rfl, BA.out⟩
  · have hbf : b = false := by
      cases b
      · rfl
      · exact absurd (HB.out.1 rfl).1 hK
    subst hbf
    have e1 : ((K : Int) == K') = false := by simpa using hK
    clear hK HB
    go_enter Tryd.func16, Tryd.ntmps16
    go_wp2
    go_ret
    exact ⟨rfl, BA.out⟩
end Go.Proofs.YtknpjeeclagmjaaDoor
