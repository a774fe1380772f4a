/-
  The walk of kurganlaw07.GenFine.
-/
import Derived.Test.YtjlaankgfpjeeaaDoorTxOne
import Derived.Test.YtjlaankgfpjeeaaDoorGnTwo
import Derived.Deep.Cut
namespace Go.Proofs.YtjlaankgfpjeeaaDoor
open Go.RowKit
open ip (wtx chk chk_zero Tab WPost Src RSrc Ints Rws IntsO RwsO)
set_option linter.unusedVariables false
theorem gmd (x : Int) (m : Nat) (hm : 0 < m) : ∃ a : Nat, a < m ∧ (IntKind.u64.wrap x).tmod m = a := by
  rw [IntKind.wrap_u64]
  have h : 0 ≤ x % 18446744073709551616 := Int.emod_nonneg x (by decide)
  obtain ⟨y, hy⟩ : ∃ y : Nat, x % 18446744073709551616 = y := ⟨_, (Int.toNat_of_nonneg h).symm⟩
  rw [hy]; exact ⟨y % m, Nat.mod_lt _ hm, (Int.ofNat_tmod y m).symm⟩
theorem ent_bd (t : Bool) (m s : Int) (n a b : Nat) (h0 : 0 ≤ m) (h1 : m ≤ 2147483647) : 0 ≤ gn.ent t m s n a b ∧ gn.ent t m s n a b ≤ 2147483647 := by
  unfold gn.ent
  split
  · omega
  · have := gn.dr_bd m s (gn.bas t n a + gn.ctn t a b) h0
    omega
theorem cl_tab (t : Bool) (m s : Int) (n : Nat) : gn.CL t m s n = tab n (gn.ent t m s n) := rfl
/-- what Make makes is in form -/
theorem make_fm (K : Int) (hK : K = 1 ∨ K = 2 ∨ K = 3) (n : Nat) (n1 : 1 ≤ n) (n2 : n ≤ 24) (m s : Int) (h0 : 0 ≤ m) (h1 : m ≤ 2147483647) : ∃ (C : Int) (wl vl : List Int) (cl : List (List Int)), Fm K n C wl vl cl ∧ ∀ W, Calls Tryd.prog 14 #[.int .i64 K, .int .i64 n, .int .i64 m, .int .u64 s] W (gn.MkP 0 K n C wl vl cl W) := by
  rcases hK with rfl | rfl | rfl
  · refine ⟨_, _, _, _, ?_, gn.make_knap n n1 (by omega) m s h0 h1⟩
    have hb := gn.ps_bd m s h0 h1 n
    refine ⟨n1, .inl rfl, ?_, fun _ => ⟨by omega, gn.WL_len _ _ _, gn.VL_len _ _ _, rfl, fun j hj => ?_⟩, fun c => absurd rfl c⟩
    · unfold gn.capOf
      split <;> omega
    · unfold gn.WL gn.VL
      rw [map_get0 hj, map_get0 hj]
      have a := gn.dr_bd m s (j + j) h0
      have b := gn.dr_bd m s (j + j + 1) h0
      omega
  · refine ⟨_, _, _, _, ?_, gn.make_two n n1 n2 m s h0 h1⟩
    rw [cl_tab]
    exact tab_fm (.inl rfl) n1 n2 fun a b ha hb => ⟨ent_bd _ m s n a b h0 h1, fun c => absurd c (by decide)⟩
  · refine ⟨_, _, _, _, ?_, gn.make_three n n1 n2 m s h0 h1⟩
    rw [cl_tab]
    exact tab_fm (.inr rfl) n1 n2 fun a b ha hb => ⟨ent_bd _ m s n a b h0 h1, fun _ e => by subst e; exact gn.ent_diag m s n a⟩
theorem Fm.lens {K : Int} {n : Nat} {C : Int} {wl vl : List Int} {cl : List (List Int)} (h : Fm K n C wl vl cl) : wl.length ≤ 64 ∧ vl.length ≤ 64 ∧ cl.length ≤ 64 := by
  rcases Decidable.em (K = 1) with k | k
  · obtain ⟨a1, a2, a3, a4, _⟩ := h.ks k
    rw [a4]; exact ⟨by omega, by omega, by simp⟩
  · obtain ⟨a1, a2, a3, a4, a5, _⟩ := h.rs k
    rw [a3, a4]; exact ⟨by simp, by simp, by omega⟩
set_option maxRecDepth 100000 in
set_option maxHeartbeats 2000000 in
theorem fine_core (kind num s K C a b : Int) (n : Nat) (wl vl : List Int) (cl : List (List Int)) (hk : (IntKind.u64.wrap kind).tmod 3 = a) (o0 : IntKind.i64.wrap a = a) (o1 : IntKind.i64.wrap (1 + a) = K) (hb : (IntKind.u64.wrap num).tmod 24 = b) (o2 : IntKind.i64.wrap b = b) (o3 : IntKind.i64.wrap (1 + b) = n)
    (hF : Fm K n C wl vl cl) (hM : ∀ W, Calls Tryd.prog 14 #[.int .i64 K, .int .i64 n, .int .i64 2147483647, .int .u64 s] W (gn.MkP 0 K n C wl vl cl W)) (w : World) (ht : Tab w) :
    Calls Tryd.prog 5 #[.int .i64 kind, .int .i64 num, .int .u64 s] w fun e w' => e = .returned (.bool true) ∧ Below w.heap.size w w' := by
  have HM := Lib.hid hM
  have HT := Lib.hid ht
  have HP := Lib.hid (fun W => parse_any ⟨(wtx K n C wl vl cl).toArray⟩ W)
  rw [hF.xback] at HP
  obtain ⟨m1, m2, m3⟩ := hF.lens
  have HF := Lib.hid hF
  have HG := Lib.hid gn.gens_any
  clear hM ht hF
  go_enter Tryd.func5, Tryd.ntmps5
  go_wp2_with fail
  refine (HM.out _).mono ?_
  rintro e w1 ⟨wa, va, ca, wc, vc, cc, rfl, i1, i2, i3, hB1⟩
  have Z := Lib.hid (Bx.new (K := K) (N := n) (C := C) (wc := wc) (vc := vc) (cc := cc) (show Ints w1 wa wl from i1) (show Ints w1 va vl from i2) (show Rws w1 ca cl from i3))
  have BY := Lib.hid (bl_al hB1 (.cells #[.int .i64 K, .int .i64 n, .int .i64 C, .slice wa wl.length wc, .slice va vl.length vc, .slice ca cl.length cc] 25))
  clear hB1 i1 i2 i3 hk o0 o1 hb o2 o3
  go_upto_region 3 with fail
  generalize w1.alloc (.cells #[.int .i64 K, .int .i64 n, .int .i64 C, .slice wa wl.length wc, .slice va vl.length vc, .slice ca cl.length cc] 25) = Y at Z BY ⊢
  have T1 := Lib.hid (tab_st HT.out BY.out)
  go_wp2_with fail
  refine (HM.out _).mono ?_
  rintro e w2 ⟨wa', va', ca', wc', vc', cc', rfl, i1, i2, i3, hB2⟩
  have U := Lib.hid (Bx.new (K := K) (N := n) (C := C) (wc := wc') (vc := vc') (cc := cc') (show Ints w2 wa' wl from i1) (show Ints w2 va' vl from i2) (show Rws w2 ca' cl from i3))
  have B2 := Lib.hid (bl_al hB2 (.cells #[.int .i64 K, .int .i64 n, .int .i64 C, .slice wa' wl.length wc', .slice va' vl.length vc', .slice ca' cl.length cc'] 25))
  clear hB2 i1 i2 i3 HM
  go_upto_region 4 with fail
  generalize w2.alloc (.cells #[.int .i64 K, .int .i64 n, .int .i64 C, .slice wa' wl.length wc', .slice va' vl.length vc', .slice ca' cl.length cc'] 25) = Y2 at U B2 ⊢
  have T2 := Lib.hid (tab_st T1.out B2.out)
  have Z2 := Lib.hid (Z.out.keep B2.out)
  have BB := Lib.hid (BY.out.trans (B2.out.mono BY.out.size))
  clear T1 Z BY B2 HT
  have HW := Lib.hid (write_fm HF.out wa va ca wc vc cc Y2 T2.out Z2.out.i1 Z2.out.i2 Z2.out.i3)
  obtain ⟨d0, d1, d2, d3, d4, d5⟩ := ip.box6 Z2.out.box
  go_wp2_with fail
  refine HW.out.mono ?_; rintro e w3 ⟨rfl, hb3⟩
  have Z3 := Lib.hid (Z2.out.keep hb3)
  have U3 := Lib.hid (U.out.keep hb3)
  have B3 := Lib.hid (BB.out.trans (hb3.mono BB.out.size))
  clear hb3 Z2 U T2 HW BB d0 d1 d2 d3 d4 d5
  go_wp2_with fail
  refine (HP.out _).mono ?_
  rintro e w4 ⟨v, rfl, hV, hB4⟩
  obtain ⟨wb, vb, cb, wd, vd, cd, rfl, i1, i2, i3⟩ := hV.lists (by omega)
  have X := Lib.hid (Bx.new (K := K) (N := n) (C := C) (wc := wd) (vc := vd) (cc := cd) i1 i2 i3)
  have bz : Below w4.heap.size w4 (w4.alloc (.cells #[.int .i64 K, .int .i64 n, .int .i64 C, .slice wb wl.length wd, .slice vb vl.length vd, .slice cb cl.length cd] 25)) := bl_al (Below.refl _ _) _
  have B4 := Lib.hid (bl_tr hB4 bz)
  clear hB4 hV i1 i2 i3 bz HP
  go_upto_region 6 with fail
  generalize w4.alloc (.cells #[.int .i64 K, .int .i64 n, .int .i64 C, .slice wb wl.length wd, .slice vb vl.length vd, .slice cb cl.length cd] 25) = Y4 at X B4 ⊢
  have Z4 := Lib.hid (Z3.out.keep B4.out)
  have U4 := Lib.hid (U3.out.keep B4.out)
  have B5 := Lib.hid (B3.out.trans (B4.out.mono B3.out.size))
  clear Z3 U3 B3 B4
  go_wp2_with fail
  refine (HG.out _).mono ?_; rintro e w5 ⟨rfl, rfl⟩
  obtain ⟨d0, d1, d2, d3, d4, d5⟩ := ip.box6 Z4.out.box
  obtain ⟨c0, c1, c2, c3, c4, c5⟩ := ip.box6 U4.out.box
  have HS := Lib.hid (ip.same_any true K n C K n C wl vl wl vl cl cl (by simp) wa va ca wa' va' ca' wc vc cc wc' vc' cc' Y4 Z4.out.i1 Z4.out.i2 Z4.out.i3 U4.out.i1 U4.out.i2 U4.out.i3 (by omega) (by omega) (by omega) (by omega) (by omega))
  go_wp2_with fail
  refine HS.out.mono ?_; rintro e w6 ⟨rfl, hb6⟩
  have Z6 := Lib.hid (Z4.out.keep hb6)
  have X6 := Lib.hid (X.out.keep hb6)
  have B6 := Lib.hid (B5.out.trans (hb6.mono B5.out.size))
  clear hb6 Z4 U4 X B5 HS HG d0 d1 d2 d3 d4 d5 c0 c1 c2 c3 c4 c5
  obtain ⟨d0, d1, d2, d3, d4, d5⟩ := ip.box6 Z6.out.box
  obtain ⟨c0, c1, c2, c3, c4, c5⟩ := ip.box6 X6.out.box
  have HS := Lib.hid (ip.same_any true K n C K n C wl vl wl vl cl cl (by simp) wa va ca wb vb cb wc vc cc wd vd cd w6 Z6.out.i1 Z6.out.i2 Z6.out.i3 X6.out.i1 X6.out.i2 X6.out.i3 (by omega) (by omega) (by omega) (by omega) (by omega))
  go_wp2_with fail
  refine HS.out.mono ?_; rintro e w7 ⟨rfl, hb7⟩
  have B7 := Lib.hid (B6.out.trans (hb7.mono B6.out.size))
  clear hb7 Z6 X6 B6 HS d0 d1 d2 d3 d4 d5 c0 c1 c2 c3 c4 c5
  go_wp2
  go_ret
  exact ⟨rfl, B7.out⟩
theorem fine_walk (kind num s : Int) (w : World) (ht : Tab w) : Calls Tryd.prog 5 #[.int .i64 kind, .int .i64 num, .int .u64 s] w fun e w' => e = .returned (.bool true) ∧ Below w.heap.size w w' := by
  obtain ⟨a, ha, hk⟩ := gmd kind 3 (by decide)
  obtain ⟨b, hb, hn⟩ := gmd num 24 (by decide)
  obtain ⟨C, wl, vl, cl, hF, hM⟩ := make_fm (1 + (a : Int)) (by omega) (1 + b) (by omega) (by omega) 2147483647 s (by decide) (by decide)
  refine fine_core kind num s _ C a b _ wl vl cl hk (IntWalk.i64_in _ (by omega)) (IntWalk.i64_in _ (by omega)) hn (IntWalk.i64_in _ (by omega)) ?_ hF hM w ht
  rw [IntWalk.i64_in _ (by omega)]; omega
end Go.Proofs.YtjlaankgfpjeeaaDoor
