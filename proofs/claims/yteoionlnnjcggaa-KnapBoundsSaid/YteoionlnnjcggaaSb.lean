/-
  knap: the reference's Bound.
-/
import Derived.Test.YteoionlnnjcggaaSt2
namespace Go.Proofs.Yteoionlnnjcggaa.kn
open Go.RowKit
set_option linter.unusedVariables false
theorem part_t {z R y : Int} (hz : 0 ≤ z) (hR : 0 ≤ R) (hy : 0 ≤ y) : Int.tdiv (z * R) y = ((z.toNat * R.toNat / y.toNat : Nat) : Int) := by
  obtain ⟨a, rfl⟩ : ∃ a : Nat, z = (a : Int) := ⟨_, (Int.toNat_of_nonneg hz).symm⟩
  obtain ⟨b, rfl⟩ : ∃ a : Nat, R = (a : Int) := ⟨_, (Int.toNat_of_nonneg hR).symm⟩
  obtain ⟨c, rfl⟩ : ∃ a : Nat, y = (a : Int) := ⟨_, (Int.toNat_of_nonneg hy).symm⟩
  simp only [Int.toNat_natCast]
  rw [← Int.natCast_mul]
  exact (Int.ofNat_tdiv _ _).symm
theorem mul_in {z R : Int} (hz : 0 ≤ z) (hz1 : z ≤ 2147483647) (hR : 0 ≤ R) (hR1 : R ≤ 2147483647) : 0 ≤ z * R ∧ z * R ≤ 4611686014132420609 :=
  ⟨Int.mul_nonneg hz hR, Int.le_trans (Int.mul_le_mul hz1 hR1 hR (by omega)) (by decide)⟩
/-- what the loop of the reference's Bound knows -/
structure BInv (G : Int) (T Wl Vl : List Int) (k : Nat) (U R : Int) (b : Bool) : Prop where
  u0 : 0 ≤ U
  u1 : U ≤ G
  r : b = true → 0 ≤ R ∧ R ≤ 2147483647 ∧ U + gn Wl Vl (T.length - k) k R = G
  f : b = false → U = G
set_option maxRecDepth 100000 in
set_option maxHeartbeats 16000000 in
theorem rbound_any (K N C : Int) (wl vl : List Int) (cl : List (List Int)) (T pl : List Int) (wa va ca : Option Addr) (wc vc cc : Nat) (v : Value) (w : World) (hw : Ints w wa wl) (hv : Ints w va vl) (hN : (wl.length : Int) = N) (lv : vl.length = wl.length) (n2 : wl.length ≤ 64)
    (io : ∀ j, j < wl.length → (0 ≤ nt wl j ∧ nt wl j ≤ 2147483647) ∧ (0 ≤ nt vl j ∧ nt vl j ≤ 2147483647)) (ho : Ordd wl vl T) (ok : KnOk C T (pick wl T) (pick vl T)) (hp : Ls v pl w) (hl : pl.length ≤ 1000) :
    Calls Try.prog 22 #[.agg #[.int .i64 K, .int .i64 N, .int .i64 C, .slice wa wl.length wc, .slice va vl.length vc, .slice ca cl.length cc], v] w (BdP C T (pick wl T) (pick vl T) pl w) := by
  have BA := bl_al (Below.refl _ w) (.cells #[.int .i64 K, .int .i64 N, .int .i64 C, .slice wa wl.length wc, .slice va vl.length vc, .slice ca cl.length cc] 25)
  have ST := Lib.hid (state_any K N C wl vl cl T pl wa va ca wc vc cc v _ (hw.keep BA) (hv.keep BA) hN lv n2 io ho ok (hp.up BA) hl)
  have q0 := heap_alloc_new w (.cells #[.int .i64 K, .int .i64 N, .int .i64 C, .slice wa wl.length wc, .slice va vl.length vc, .slice ca cl.length cc] 25)
  obtain ⟨c0, c1, c2, c3, c4, c5⟩ := box6 q0
  have Q0 := Lib.hid q0
  have HBA := Lib.hid BA
  obtain ⟨pa, pc, rfl⟩ := hp.form
  have HP := Lib.hid (fun (X : World) (h : Below w.heap.size w X) => hp.up h)
  have HW := Lib.hid (fun (X : World) (h : Below w.heap.size w X) => hw.keep h)
  have HV := Lib.hid (fun (X : World) (h : Below w.heap.size w X) => hv.keep h)
  have OK := Lib.hid ok
  have IO := Lib.hid io
  have LV := Lib.hid lv
  have TL : T.length = wl.length := ho.is_.1
  have HTL := Lib.hid TL
  have RG := Lib.hid ho.rng.2
  have NN := Lib.hid n2
  have PW := Lib.hid (fun k (hk : k < wl.length) => And.intro (nt_pick wl T k (by rw [TL]; exact hk)) (nt_pick vl T k (by rw [TL]; exact hk)))
  clear BA q0 hp hw hv ok io lv ho TL
  go_enter Try.func22, Try.ntmps22
  go_wp2_with fail
  refine ST.out.mono ?_; rintro e w2 hq
  rcases hq with ⟨hk, g, rfl, LT, hb⟩ | ⟨hk, rfl, hb⟩
  · have HK := Lib.hid hk
    have HB := Lib.hid (bl_tr HBA.out hb)
    have E2 := Lib.hid ((hb.block _ (lt_hp Q0.out)).trans Q0.out)
    clear c0 c1 c2 c3 c4 c5
    obtain ⟨c0, c1, c2, c3, c4, c5⟩ := box6 E2.out
    have HLT := Lib.hid LT
    have le : pl.length ≤ T.length := by have := hk.le; rw [pick_len] at this; exact this
    have rr := hk.room
    have rc := rm_b pl OK.out pl.length le
    have ok1 := OK.out.c1
    have tn : T.length ≤ 64 := OK.out.n2
    have gb := gn_b OK.out (T.length - pl.length) pl.length (rm C (pick wl T) pl pl.length) rr (by omega) (by omega)
    have UY := Lib.hid (show ∀ m e, e = Ending.returned (.tuple #[.int .i64 (lost (pick vl T) pl T.length - gn (pick wl T) (pick vl T) (T.length - pl.length) pl.length (rm C (pick wl T) pl pl.length)), .int .i64 0]) → BdP C T (pick wl T) (pick vl T) pl w e (w2.drewN m) from fun m e he => ⟨fun _ => he, fun h => absurd hk h, bl_dn HB.out m⟩)
    have LB := Lib.hid (fun k (hk : k ≤ T.length) => lost_b pl OK.out k hk)
    have GB := Lib.hid (fun k (R : Int) (hk : k ≤ T.length) (h0 : 0 ≤ R) (h1 : R ≤ 2147483647) => gn_b OK.out (T.length - k) k R h0 h1 (by omega))
    have lbp := lost_b pl OK.out pl.length le
    have I0 : Hid (BInv (gn (pick wl T) (pick vl T) (T.length - pl.length) pl.length (rm C (pick wl T) pl pl.length)) T (pick wl T) (pick vl T) pl.length 0 (rm C (pick wl T) pl pl.length) true) := ⟨by omega, gb.1, fun _ => ⟨rr, by omega, by omega⟩, fun h => by cases h⟩
    have HN := Lib.hid hN
    have gb1 := gb.1
    have gb2 : gn (pick wl T) (pick vl T) (T.length - pl.length) pl.length (rm C (pick wl T) pl pl.length) ≤ 137438953408 := by have := gb.2; omega
    clear hk hb LT ST Q0 HBA HK gb rr rc
    generalize gn (pick wl T) (pick vl T) (T.length - pl.length) pl.length (rm C (pick wl T) pl pl.length) = G at *
    generalize rm C (pick wl T) pl pl.length = R0 at *
    generalize hlp : lost (pick vl T) pl pl.length = O at *
    have HLP := Lib.hid hlp
    clear hlp
    go_wp2
    go_loopw [13, 10, 11, 12, 7] (fun i r u mo ro wr => ∃ (k : Nat) (U R : Int) (b : Bool), i = .int .i64 (k : Int) ∧ r = .int .i64 (lost (pick vl T) pl k - O) ∧ u = .int .i64 U ∧ mo = .bool b ∧ ro = .int .i64 R ∧ pl.length ≤ k ∧ k ≤ T.length ∧ Hid (BInv G T (pick wl T) (pick vl T) k U R b) ∧ ∃ m, wr = w2.drewN m) (fun i _ _ _ _ _ => T.length - (intOf i).toNat)
    case atStart => exact ⟨pl.length, 0, R0, true, rfl, by rw [HLP.out]; simp, rfl, rfl, rfl, Nat.le_refl _, le, I0, 0, rfl⟩
    case round =>
      clear I0
      obtain ⟨k, U, R, b, rfl, rfl, rfl, rfl, rfl, hk1, hk, HI, m, rfl⟩ := hrel
      have lb := LB.out k hk
      have u0 := HI.out.u0
      have u1 := HI.out.u1
      by_cases hlt : k < T.length
      · have hkw : k < wl.length := by rw [← HTL.out]; exact hlt
        obtain ⟨b', o', e', _, m2⟩ := HLT.out k hlt
        obtain ⟨rfl, rfl⟩ : b' = g ∧ o' = 0 := by injection e' with q; injection q with q1 q2; exact ⟨q1.symm, q2.symm⟩
        rw [nt_od, Nat.zero_add] at m2
        obtain ⟨t, ht⟩ : ∃ t : Nat, nt T k = (t : Int) := ⟨_, (Int.toNat_of_nonneg (RG.out k hkw).1).symm⟩
        have tw : t < wl.length := by have := (RG.out k hkw).2; omega
        rw [ht] at m2
        have pw := PW.out k hkw
        rw [ht] at pw
        simp only [Int.toNat_natCast] at pw
        obtain ⟨b3, o3, rfl, _, m3⟩ := HW.out _ HB.out t tw
        obtain ⟨b4, o4, rfl, _, m4⟩ := HV.out _ HB.out t (by rw [LV.out]; exact tw)
        replace m3 : w2.cell? ⟨b3, o3 + t, none⟩ = some (.int .i64 (nt wl t)) := m3
        replace m4 : w2.cell? ⟨b4, o4 + t, none⟩ = some (.int .i64 (nt vl t)) := m4
        have i2 : (k : Int) < N := by rw [← HN.out]; omega
        have i3 : (k : Int) < (T.length : Int) := by omega
        have i4 : (t : Int) < (wl.length : Int) := by omega
        have i5 : (t : Int) < (vl.length : Int) := by rw [LV.out]; omega
        have wb := (IO.out t tw).1
        have vb := (IO.out t tw).2
        have EL : Hid (lost (pick vl T) pl (k + 1) = lost (pick vl T) pl k + nt vl t) := by
          rw [← pw.2]
          show lost (pick vl T) pl k + (if pl.length ≤ k ∨ nt pl k = 0 then nt (pick vl T) k else 0) = _
          rw [if_pos (.inl hk1)]
        have GP := Lib.hid (show ∀ R : Int, R < nt wl t → gn (pick wl T) (pick vl T) (T.length - k) k R = (((nt vl t).toNat * R.toNat / (nt wl t).toNat : Nat) : Int) from fun R h => by
          rw [show T.length - k = (T.length - (k + 1)) + 1 from by omega, gn_part (by rw [pw.1]; exact h), pw.1, pw.2])
        have GS := Lib.hid (show ∀ R : Int, ¬ R < nt wl t → gn (pick wl T) (pick vl T) (T.length - k) k R = nt vl t + gn (pick wl T) (pick vl T) (T.length - (k + 1)) (k + 1) (R - nt wl t) from fun R h => by
          rw [show T.length - k = (T.length - (k + 1)) + 1 from by omega, gn_step (by rw [pw.1]; exact h), pw.1, pw.2])
        clear pw e' ht
        generalize lost (pick vl T) pl k = L0 at *
        generalize nt wl t = y at *
        generalize nt vl t = z at *
        have kb : k ≤ 64 := by omega
        cases b with
        | false =>
          have HI2 : Hid (BInv G T (pick wl T) (pick vl T) (k + 1) U R false) := ⟨u0, u1, (fun h => by cases h), HI.out.f⟩
          clear HI GP GS
          go_wp2
          go_quiet (fail)
          go_wp2
          go_roundw
          case rel => exact ⟨k + 1, U, R, false, by go_num, by rw [EL.out]; go_num, rfl, rfl, rfl, by omega, hlt, HI2, _, rfl⟩
          case measure => simp [intOf]; omega
        | true =>
          obtain ⟨r0, r1, rg⟩ := HI.out.r rfl
          by_cases hy : R < y
          · have gp := GP.out R hy
            rw [← part_t vb.1 r0 wb.1] at gp
            have mi := mul_in vb.1 vb.2 r0 r1
            have hwr : IntKind.i64.wrap (z * R) = z * R := IntWalk.i64_in _ (by omega)
            have q0 : 0 ≤ Int.tdiv (z * R) y := by rw [part_t vb.1 r0 wb.1]; exact Int.natCast_nonneg _
            have HI2 : Hid (BInv G T (pick wl T) (pick vl T) (k + 1) (U + Int.tdiv (z * R) y) R false) := ⟨by omega, by omega, (fun h => by cases h), fun _ => by omega⟩
            have q1 : Int.tdiv (z * R) y ≤ G := by omega
            have y0 : (y == 0) = false := beq_eq_false_iff_ne.mpr (by omega)
            have y1 : ¬ y ≤ R := by omega
            have y2 : y ≠ 0 := by omega
            clear HI GP GS gp rg mi
            generalize hq : Int.tdiv (z * R) y = q at *
            generalize hm : z * R = zr at *
            go_wp2
            go_quiet (fail)
            go_wp2
            go_roundw
            case rel => exact ⟨k + 1, U + q, R, false, by go_num, by rw [EL.out]; go_num, by go_num, rfl, rfl, by omega, hlt, HI2, _, rfl⟩
            case measure => simp [intOf]; omega
          · have gs := GS.out R hy
            have gb := GB.out (k + 1) (R - y) hlt (by omega) (by omega)
            have HI2 : Hid (BInv G T (pick wl T) (pick vl T) (k + 1) (U + z) (R - y) true) := ⟨by omega, by omega, fun _ => ⟨by omega, by omega, by omega⟩, fun h => by cases h⟩
            have y1 : y ≤ R := by omega
            have uz : U + z ≤ G := by omega
            clear HI GP GS gs gb rg
            go_wp2
            go_quiet (fail)
            go_wp2
            go_roundw
            case rel => exact ⟨k + 1, U + z, R - y, true, by go_num, by rw [EL.out]; go_num, by go_num, rfl, by go_num, by omega, hlt, HI2, _, rfl⟩
            case measure => simp [intOf]; omega
      · obtain rfl : k = T.length := by omega
        have hUG : U = G := by
          cases b with
          | false => exact HI.out.f rfl
          | true =>
            have := (HI.out.r rfl).2.2
            rw [Nat.sub_self, gn_zero] at this
            omega
        have i2 : ¬ ((T.length : Nat) : Int) < N := by rw [← HN.out]; have := HTL.out; omega
        have U1 := Lib.hid (UY.out m)
        subst hUG
        clear HI
        generalize lost (pick vl T) pl T.length = L1 at *
        go_wp2
        go_ret2
        exact U1.out _ (by go_num)
  · have U := Lib.hid (show BdP C T (pick wl T) (pick vl T) pl w (.returned (.tuple #[.int .i64 0, .int .i64 1])) w2 from ⟨fun h => absurd h hk, fun _ => rfl, bl_tr HBA.out hb⟩)
    clear hk hb ST HBA
    go_wp2
    go_ret2
    exact U.out
end Go.Proofs.Yteoionlnnjcggaa.kn
