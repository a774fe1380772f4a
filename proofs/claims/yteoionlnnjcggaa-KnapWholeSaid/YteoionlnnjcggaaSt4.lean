/-
  knap: the reference's Answer.
-/
import Derived.Test.YteoionlnnjcggaaSt3
namespace Go.Proofs.Yteoionlnnjcggaa.kn
open Go.RowKit
set_option linter.unusedVariables false
set_option maxRecDepth 100000 in
set_option maxHeartbeats 8000000 in
theorem rans_any (K N C : Int) (wl vl : List Int) (cl : List (List Int)) (T pl : List Int) (wa va ca : Option Addr) (wc vc cc : Nat) (v : Value) (w : World) (hw : Ints w wa wl) (hv : Ints w va vl) (hN : (wl.length : Int) = N) (lv : vl.length = wl.length) (n2 : wl.length ≤ 64)
    (io : ∀ j, j < wl.length → (0 ≤ nt wl j ∧ nt wl j ≤ 2147483647) ∧ (0 ≤ nt vl j ∧ nt vl j ≤ 2147483647)) (ho : Ordd wl vl T) (ok : KnOk C T (pick wl T) (pick vl T)) (hp : Ls v pl w) (hl : pl.length ≤ 1000) :
    Calls Try.prog 20 #[.agg #[.int .i64 K, .int .i64 N, .int .i64 C, .slice wa wl.length wc, .slice va vl.length vc, .slice ca cl.length cc], v] w (AnP C T (pick wl T) pl w) := by
  subst hN
  obtain ⟨i0, hi, hz0, hz1, hz2⟩ := info_parts info3
  have BA := bl_al (Below.refl _ w) (.cells #[.int .i64 K, .int .i64 (wl.length : Int), .int .i64 C, .slice wa wl.length wc, .slice va vl.length vc, .slice ca cl.length cc] 25)
  have ST := Lib.hid (state_any K _ C wl vl cl T pl wa va ca wc vc cc v _ (hw.keep BA) (hv.keep BA) rfl lv n2 io ho ok (hp.up BA) hl)
  have q0 := heap_alloc_new w (.cells #[.int .i64 K, .int .i64 (wl.length : Int), .int .i64 C, .slice wa wl.length wc, .slice va vl.length vc, .slice ca cl.length cc] 25)
  obtain ⟨c0, c1, c2, c3, c4, c5⟩ := box6 q0
  have Q0 := Lib.hid q0
  have HBA := Lib.hid BA
  obtain ⟨pa, pc, rfl⟩ := hp.form
  have HP := Lib.hid (fun (X : World) (h : Below w.heap.size w X) => hp.up h)
  have HW := Lib.hid (fun (X : World) (h : Below w.heap.size w X) => hw.keep h)
  have LV := Lib.hid lv
  have TL : T.length = wl.length := ho.is_.1
  have HTL := Lib.hid TL
  have RG := Lib.hid ho.rng.2
  have NN := Lib.hid n2
  have PW := Lib.hid (fun k (hk : k < wl.length) => nt_pick wl T k (by rw [TL]; exact hk))
  clear BA q0 hp hw hv ok io lv ho TL
  go_enter Try.func20, Try.ntmps20
  go_wp2_with fail
  refine ST.out.mono ?_; rintro e w2 hq
  rcases hq with ⟨hk, g0, rfl, LT, hb⟩ | ⟨hk, rfl, hb⟩
  · have HK := Lib.hid hk
    have HB := Lib.hid (bl_tr HBA.out hb)
    have E2 := Lib.hid ((hb.block _ (lt_hp Q0.out)).trans Q0.out)
    clear c0 c1 c2 c3 c4 c5
    have HLT := Lib.hid (fun (X : World) (h : Below w2.heap.size w2 X) => LT.keep h)
    have BX := Lib.hid (fun (X : World) (h : Below w2.heap.size w2 X) => box6 ((h.block _ (lt_hp E2.out)).trans E2.out))
    have HP2 := Lib.hid (fun (X : World) (h : Below w2.heap.size w2 X) => HP.out X (bl_tr HB.out h))
    obtain ⟨c0, c1, c2, c3, c4, c5⟩ := box6 E2.out
    clear hk hb LT ST Q0 HBA
    generalize rm C (pick wl T) pl pl.length = R at *
    generalize lost (pick vl T) pl pl.length = O at *
    by_cases hn : pl.length = T.length
    · have UY := Lib.hid (show ∀ e W, AnY T pl w e W → AnP C T (pick wl T) pl w e W from fun e W q => .inl ⟨⟨HK.out, hn⟩, q⟩)
      have hnw : pl.length = wl.length := by have := HTL.out; omega
      have b1 : ((pl.length : Int) != (wl.length : Int)) = false := by rw [hnw]; simp
      have HN := Lib.hid hn
      have HNW := Lib.hid hnw
      have n2' : wl.length ≤ 64 := NN.out
      clear hn hnw
      go_wp2_with (at_make; refine wpList_make_full _ rfl _ _ 22 rfl w2.heap.size 3 i0 (.int .i64 0) 1 Try.underlying22 hi hz0 hz1 .i64 .i64 _ _ wl.length rfl rfl rfl rfl (by rw [hz2]; omega) (by unfold maxLen; omega) (Nat.le_refl _) ?_)
      intro w3 hown hgrow
      have A0 : Hid (od.Own w2.heap.size w2.heap.size wl.length wl.length (List.replicate wl.length 0) w2 w3) := ⟨by simp, Nat.le_refl _, by rw [List.map_replicate, ← toList_madeCells_one]; exact hown, (Below.refl _ _).grown hgrow (Nat.le_refl _) (fun j hj => by cases hj)⟩
      clear hown hgrow
      obtain ⟨g, hg⟩ : ∃ g, g = w2.heap.size := ⟨_, rfl⟩
      rw [← hg] at A0
      clear c0 c1 c2 c3 c4 c5
      go_wp2
      rw [← hg]
      have A1 : Hid (od.Own g g wl.length wl.length (ansl T pl 0) w2 w3) := by show Hid (od.Own g g wl.length wl.length (List.replicate T.length 0) w2 w3); rw [HTL.out]; exact A0
      have HG := Lib.hid hg
      clear hg A0
      go_loopw [11] (fun i wr => ∃ k : Nat, k ≤ wl.length ∧ i = .int .i64 (k : Int) ∧ Hid (od.Own g g wl.length wl.length (ansl T pl k) w2 wr)) (fun i _ => wl.length - (intOf i).toNat)
      case atStart => exact ⟨0, Nat.zero_le _, rfl, A1⟩
      case round =>
        clear A1
        obtain ⟨k, hk, rfl, HO⟩ := hrel
        have bel := HO.out.2.2.2
        rw [HG.out] at bel
        obtain ⟨c0, c1, c2, c3, c4, c5⟩ := BX.out _ bel
        by_cases hlt : k < wl.length
        · obtain ⟨gp, op, rfl, m1⟩ := (HP2.out _ bel).at_ k (by rw [HNW.out]; exact hlt)
          obtain ⟨b', o', e', _, m2⟩ := HLT.out _ bel k (by rw [HTL.out]; exact hlt)
          obtain ⟨rfl, rfl⟩ : b' = g0 ∧ o' = 0 := by injection e' with q; injection q with q1 q2; exact ⟨q1.symm, q2.symm⟩
          rw [nt_od, Nat.zero_add] at m2
          have rg := RG.out k hlt
          obtain ⟨t, ht⟩ : ∃ t : Nat, nt T k = (t : Int) := ⟨_, (Int.toNat_of_nonneg rg.1).symm⟩
          have tw : t < wl.length := by have := rg.2; omega
          have HS : Hid (od.Own g g wl.length wl.length (ansl T pl (k + 1)) w2 _) := Lib.hid (by have q := HO.out.set t (nt pl k); rw [show (ansl T pl k).set t (nt pl k) = ansl T pl (k + 1) from by show _ = (ansl T pl k).set (nt T k).toNat (nt pl k); rw [ht]; rfl] at q; exact q)
          have fz := HO.out.frozen t
          have cz := HO.out.cell t tw
          rw [ht] at m2
          have i2 : (k : Int) < (pl.length : Int) := by have := HNW.out; omega
          have i3 : (k : Int) < (T.length : Int) := by have := HTL.out; omega
          have i3' : (k : Int) < (wl.length : Int) := by omega
          have i4 : (t : Int) < (wl.length : Int) := by omega
          clear rg ht c0 c2 c3 c4 c5 bel e'
          generalize nt pl k = x at *
          go_wp2
          go_region
          all_goals
            go_wp2
            go_roundw
            case rel => exact ⟨k + 1, by omega, by go_num, HS.out.keep (bl_drew _)⟩
            case measure => simp [intOf]; omega
        · obtain rfl : k = wl.length := by omega
          have U1 := Lib.hid (UY.out _ _ ⟨_, rfl, by rw [HTL.out]; exact own_ls HO.out, bl_tr HB.out bel⟩)
          have i2 : ¬ (wl.length : Int) < (wl.length : Int) := by omega
          clear bel
          go_wp2
          go_ret2
          exact U1.out
    · have U := Lib.hid (show AnP C T (pick wl T) pl w (.returned (.tuple #[.slice none 0 0, .int .i64 1])) w2 from .inr ⟨fun g => hn g.2, rfl, HB.out⟩)
      have b1 : ((pl.length : Int) != (wl.length : Int)) = true := by have := HTL.out; simp; omega
      clear hn
      go_wp2
      go_ret2
      exact U.out
  · have U := Lib.hid (show AnP C T (pick wl T) pl w (.returned (.tuple #[.slice none 0 0, .int .i64 1])) w2 from .inr ⟨fun g => hk g.1, rfl, bl_tr HBA.out hb⟩)
    clear hk hb ST HBA
    go_wp2
    go_ret2
    exact U.out
end Go.Proofs.Yteoionlnnjcggaa.kn
