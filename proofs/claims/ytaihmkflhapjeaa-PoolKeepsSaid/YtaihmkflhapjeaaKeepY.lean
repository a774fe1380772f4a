/-
  The walk through kurganlaw18.PoolKeeps, a slot that is there.
-/
import Derived.Test.YtaihmkflhapjeaaKeepL
namespace Go.Proofs.Ytaihmkflhapjeaa
open Go.RowKit Go.MuLone
set_option linter.unusedVariables false
theorem lst_node {B : Nat} {v : Value} {l : List Int} {w : World} (h : Lst B v l w) : ∃ a c g, v = .slice a l.length c ∧ B ≤ g ∧ c ≤ 9223372036854775807 ∧ l.length ≤ c ∧ (0 < l.length → a = some ⟨g, 0, none⟩ ∧ g < w.heap.size ∧ Junk g l.length w) := by
  rcases Junk.lst h with ⟨rfl, rfl⟩ | ⟨g, cap, h1, h2, h3, h4, h5⟩
  · exact ⟨none, 0, B, rfl, Nat.le_refl _, by omega, by simp, fun h => by simp at h⟩
  · exact ⟨_, cap, g, h1, h2, h4, h3, fun _ => ⟨rfl, lt_hp h5.1.choose_spec, h5⟩⟩
theorem fld62 (a : Option Addr) (n c : Nat) (b : Int) (w : World) : (Instr.field 62 (.agg #[.slice a n c, .int .i64 b]) 0).run Try.prog w = .ok (.slice a n c) w := by kernel_rfl
theorem same_s (B C : Nat) (v u : Value) (x : List Int) (hx : x.length ≤ 1000) (w : World) (h1 : Lst B v x w) (h2 : Lst C u x w) : Calls Try.prog 27 #[v, u] w fun e w' => e = .returned (.bool true) ∧ Below w.heap.size w w' := by
  have h := same_l B C v u x x hx hx w h1 h2
  rw [show decide (x = x) = true from decide_eq_true rfl] at h
  exact h
set_option maxRecDepth 100000 in
set_option maxHeartbeats 16000000 in
theorem keeps_yes (m m2 : Nat) (bb : Int) (a : Option Addr) (n c : Nat) (l : List Int) (w : World) (hA : Arg 70 w a n c l) (hm : m < 5) (hm2 : m2 < 5) (hmm : m2 ≠ m) (h2 : ((m : Int) + 1).tmod 5 = (m2 : Int)) :
    Calls Try.prog 6 #[.int .i64 (m : Int), .slice a n c, .int .i64 bb] w fun e w' => e = .returned (.bool true) ∧ Below w.heap.size w w' := by
  have FR := Lib.hid (fresh_any 5 1 (by omega) (by omega) (by omega) (by omega) w)
  rw [show ((5 : Nat) : Int) = 5 from rfl, show ((1 : Nat) : Int) = 1 from rfl] at FR
  have AR := Lib.hid hA
  have PA := Lib.hid pools_any
  have s1 := sl_run w a n c l hA
  have s2 := sl_run2 w a n c l hA
  have hlen := hA.len
  have hmin : min (n : Int) 70 = (l.length : Int) := by
    rcases hA with ⟨rfl, rfl, rfl, rfl⟩ | ⟨ad, rfl, rfl, q2, rfl⟩ | ⟨b, o, rfl, q1, q2, q3, q4, q5⟩
    · rfl
    · rfl
    · omega
  clear hA
  have d1 : decide ((m : Int) < 0) = false := by simp
  have d2 : decide ((5 : Int) ≤ (m : Int)) = false := by simp; omega
  have hwm : IntKind.i64.wrap ((m : Int) + 1) = (m : Int) + 1 := IntWalk.i64_in _ (by omega)
  have hbb : (bb != bb) = false := by simp
  go_enter Try.func6, Try.ntmps6
  go_wp2_with fail
  refine FR.out.mono ?_; rintro e w1 ⟨A, l', rfl, hbase, hAn, hAk, hsz, hln, hlf, po, bl⟩
  have PO := Lib.hid po
  have B := Lib.hid bl
  have SZ := Lib.hid hsz
  have hAn := Lib.hid hAn
  have B1 := Lib.hid bl.size
  clear po bl hbase hAk hsz hln hlf FR
  have SA := Lib.hid (arg_srcA AR.out _ (B.out.trans (show Below w.heap.size w1 (w1.alloc (.cells #[] 3)) from (bl_al (Below.refl _ w1) _).mono B.out.size)))
  go_wp2_with (at_builtin; refine wpList_app rfl _ _ rfl rfl w1.heap.size w1.heap.size l a c rfl rfl (by omega) (own0 w1) (by simp) SA.out ?_)
  intro g cap w2 ho hgr hlt
  have LA := Lib.hid ((own_of ho (app_below hgr)).lst)
  have AL := Lib.hid (show A.p < w1.heap.size ∧ A.g < w1.heap.size ∧ A.b < w1.heap.size ∧ A.bn < w1.heap.size ∧ A.bh < w1.heap.size ∧ A.bo < w1.heap.size from PO.out.lt)
  have PO := Lib.hid (PO.out.up (app_below hgr))
  have B := Lib.hid (bl_tr B.out (app_below hgr))
  clear ho hgr hlt SA s1 s2 hmin AR
  go_wp2_with fail
  refine (PA.out _).mono ?_; rintro e w3 ⟨rfl, hb3⟩
  have LA := Lib.hid (LA.out.up hb3)
  have PO := Lib.hid (PO.out.up hb3)
  have B := Lib.hid (bl_tr B.out hb3)
  clear hb3 PA
  have SA := Lib.hid (lst_srcA LA.out _ (bl_al (Below.refl _ w3) (.cells #[] 3)))
  go_wp2_with (at_builtin; refine wpList_app rfl _ _ rfl rfl w3.heap.size w3.heap.size l _ _ rfl rfl (by omega) (own0 w3) (by simp) SA.out ?_)
  intro h hcap w4 ho hgr hlt
  have LW := Lib.hid ((own_of ho (app_below hgr)).lst)
  have GL := Lib.hid (show w1.heap.size ≤ g ∧ g < w3.heap.size ∧ l.length ≤ cap ∧ cap ≤ 9223372036854775807 from ⟨(lst_at LA.out).1, (lst_at LA.out).2.2.2.2.1, (lst_at LA.out).2.2.1, (lst_at LA.out).2.2.2.1⟩)
  have LA := Lib.hid (LA.out.up (app_below hgr))
  have PO := Lib.hid (PO.out.up (app_below hgr))
  have B := Lib.hid (bl_tr B.out (app_below hgr))
  have SZ4 := (app_below hgr).size
  clear ho hgr hlt SA
  have SZ4 := Lib.hid (show w3.heap.size ≤ w4.heap.size from SZ4)
  have KN := Lib.hid (keep_any w1.heap.size m (by rw [hAn.out]; exact hm) (.slice (some ⟨g, 0, none⟩) l.length cap) bb l (by omega) LA.out PO.out)
  go_wp2_with fail
  refine KN.out.mono ?_; rintro e w5 ⟨rfl, v5, l5, po, tw⟩
  have LA := Lib.hid (LA.out.keep tw (by intro i hi; simp at hi; subst hi; exact .inl AL.out.2.2.2.1))
  have LW := Lib.hid (LW.out.keep tw (by intro i hi; simp at hi; subst hi; left; have := AL.out; have := GL.out; omega))
  have L5 := Lib.hid l5
  have PO := Lib.hid po
  have B := Lib.hid (tw.below B.out (by intro i hi; simp at hi; subst hi; exact SZ.out.2.2.2.1) B.out.size)
  have S5 := Lib.hid tw.size
  clear l5 po tw KN
  go_wp2_with fail
  go_loopw [11] (fun i wr => ∃ k : Nat, i = .int .i64 k ∧ k ≤ l.length ∧ Hid (Junk g l.length wr) ∧ Hid (Tw [g] w5 wr)) (fun i _ => l.length - (intOf i).toNat)
  case atStart => exact ⟨0, rfl, by omega, Lib.hid (lst_at LA.out).2.2.2.2.2, Lib.hid (Tw.refl _ _)⟩
  case round =>
    obtain ⟨k, rfl, hk3, JK, TW⟩ := hrel
    by_cases hlt : k < l.length
    · have i1 : (k : Int) < (l.length : Int) := by omega
      have hwk : IntKind.i64.wrap ((k : Int) + 1) = (k : Int) + 1 := IntWalk.i64_in _ (by omega)
      obtain ⟨z, hz⟩ := JK.out.2 k hlt
      have hf := JK.out.fz k
      have JS := Lib.hid (fun y => JK.out.st k y)
      have TS := Lib.hid (fun y => TW.out.st g (.inl (by simp)) k (.int .i64 y))
      clear PO LA LW B SZ AL GL hAn JK TW L5 S5 SZ4 h2 d1 d2
      go_wp2
      go_roundw
      case rel => exact ⟨k + 1, by simp, by omega, JS.out _, TS.out _⟩
      case measure => simp [intOf]; omega
    · obtain rfl : l.length = k := by omega
      have PO := Lib.hid (PO.out.keep TW.out (by have := AL.out; have := GL.out; simp; omega) (by have := AL.out; have := GL.out; simp; omega) (by have := AL.out; have := GL.out; simp; omega) (by have := AL.out; have := GL.out; simp; omega) (by have := AL.out; have := GL.out; simp; omega) (by have := AL.out; have := GL.out; simp; omega))
      have B := Lib.hid (TW.out.below B.out (by intro i hi; simp at hi; subst hi; have := SZ.out; have := GL.out; have := B1.out; omega) B.out.size)
      have L5 := Lib.hid (L5.out.keep TW.out (by intro i hi; simp at hi; subst hi; left; have := SZ4.out; have := GL.out; omega))
      have LW := Lib.hid (LW.out.keep TW.out (by intro i hi; simp at hi; subst hi; left; have := GL.out; omega))
      clear TW JK LA
      have NN := Lib.hid (node_any w4.heap.size m (by rw [hAn.out]; exact hm) l (by omega) (by rw [upf_at]; exact L5.out) PO.out)
      rw [upf_at] at NN
      go_wp2_with fail
      refine NN.out.mono ?_; rintro e w8 ⟨v8, rfl, l8, hb8⟩
      obtain ⟨a8, c8, g8, rfl, hg8, hc8, hc9, hj8⟩ := lst_node l8
      have bx := hal_new w8 (.cells #[.slice a8 l.length c8, .int .i64 bb] 62 (0, 0))
      obtain ⟨c0, c1, cf⟩ := cells2 bx
      have B6 := Lib.hid (bl_al hb8 (.cells #[.slice a8 l.length c8, .int .i64 bb] 62))
      have SM := Lib.hid (same_s _ _ _ _ l (by omega) _ (l8.up (bl_al (Below.refl _ w8) (.cells #[.slice a8 l.length c8, .int .i64 bb] 62))) (LW.out.up B6.out))
      have FJ := Lib.hid (fun h => (⟨(hj8 h).1, by have := (hj8 h).2.1; omega, (hj8 h).2.2.up (Tw.of (bl_al (Below.refl _ w8) (.cells #[.slice a8 l.length c8, .int .i64 bb] 62)))⟩ : a8 = some ⟨g8, 0, none⟩ ∧ g8 ≠ w8.heap.size ∧ Junk g8 l.length (w8.alloc (.cells #[.slice a8 l.length c8, .int .i64 bb] 62))))
      have BX := Lib.hid bx
      clear hb8 l8 NN hj8 bx cf SZ GL AL SZ4
      go_wp2_with fail
      refine SM.out.mono ?_; rintro e w10 ⟨rfl, hb10⟩
      have B6 := Lib.hid (bl_tr B6.out hb10)
      have bx := (hb10.block _ (lt_hp BX.out)).trans BX.out
      have FJ := Lib.hid (fun h => (⟨(FJ.out h).1, (FJ.out h).2.1, (FJ.out h).2.2.up (Tw.of hb10)⟩ : a8 = some ⟨g8, 0, none⟩ ∧ g8 ≠ w8.heap.size ∧ Junk g8 l.length w10))
      clear c0 c1 hb10 BX SM
      obtain ⟨c0, c1, cf⟩ := cells2 bx
      have LQ := Lib.hid (lt_hp bx)
      have C0 := Lib.hid c0
      generalize w8.heap.size = q at *
      have BD := Lib.hid (bound_any m (by rw [hAn.out]; exact hm) (PO.out.up B6.out))
      rw [upf_at] at BD
      clear bx cf
      go_wp2_with fail
      refine BD.out.mono ?_; rintro e w11 ⟨rfl, rfl⟩
      clear BD c0 c1
      go_wp2_with fail
      go_loopw [13] (fun i wr => ∃ k : Nat, i = .int .i64 k ∧ k ≤ l.length ∧ Hid (wr.cell? ⟨q, 0, none⟩ = some (.slice a8 l.length c8) ∧ q < wr.heap.size) ∧ Hid (0 < l.length → Junk g8 l.length wr) ∧ Hid (Tw [g8] w10 wr)) (fun i _ => l.length - (intOf i).toNat)
      case atStart => exact ⟨0, rfl, by omega, Lib.hid ⟨C0.out, LQ.out⟩, Lib.hid (fun h => (FJ.out h).2.2), Lib.hid (Tw.refl _ _)⟩
      case round =>
        obtain ⟨k, rfl, hk3, CQ, JK, TW⟩ := hrel
        obtain ⟨c0, hq0⟩ := CQ.out
        by_cases hlt : k < l.length
        · have i1 : (k : Int) < (l.length : Int) := by omega
          have hwk : IntKind.i64.wrap ((k : Int) + 1) = (k : Int) + 1 := IntWalk.i64_in _ (by omega)
          obtain ⟨rfl, hne, -⟩ := FJ.out (by omega)
          obtain ⟨z, hz⟩ := (JK.out (by omega)).2 k hlt
          have hf := (JK.out (by omega)).fz k
          have JS := Lib.hid (fun y => show Junk g8 l.length (wr.setCell ⟨g8, k, none⟩ (.int .i64 y)).drew from (JK.out (by omega)).st k y)
          have TS := Lib.hid (fun y => (TW.out.st g8 (.inl (by simp)) k (.int .i64 y)).dr)
          have CS := Lib.hid (fun y => (⟨(cell_tw ((Tw.refl [g8] wr).st g8 (.inl (by simp)) k (.int .i64 y)).dr hq0 (by simp; exact fun e => hne e.symm) 0).trans c0, Nat.lt_of_lt_of_le hq0 ((Tw.refl [g8] wr).st g8 (.inl (by simp)) k (.int .i64 y)).size⟩ : (wr.setCell ⟨g8, k, none⟩ (.int .i64 y)).drew.cell? ⟨q, 0, none⟩ = some (.slice (some ⟨g8, 0, none⟩) l.length c8) ∧ q < (wr.setCell ⟨g8, k, none⟩ (.int .i64 y)).drew.heap.size))
          clear PO LW L5 B B6 hAn JK TW CQ FJ hq0 C0 LQ h2 S5 B1 hg8 d1 d2
          go_wp2_with fail
          go_region_with (fail)
          all_goals
            go_wp2
            go_roundw
            case rel => exact ⟨k + 1, by simp, by omega, CS.out _, Lib.hid (fun _ => JS.out _), TS.out _⟩
            case measure => simp [intOf]; omega
        · obtain rfl : l.length = k := by omega
          have B6 := Lib.hid (TW.out.below B6.out (by intro i hi; simp at hi; subst hi; exact hg8) B6.out.size)
          have PO := Lib.hid (PO.out.up B6.out)
          have L5 := Lib.hid (L5.out.up B6.out)
          have LW := Lib.hid (LW.out.up B6.out)
          have B := Lib.hid (bl_tr B.out B6.out)
          have NN := Lib.hid (node_any w4.heap.size m (by rw [hAn.out]; exact hm) l (by omega) (by rw [upf_at]; exact L5.out) PO.out)
          clear TW B6 FJ JK CQ C0 LQ L5 hg8
          go_wp2_with fail
          refine NN.out.mono ?_; rintro e w12 ⟨v12, rfl, l12, hb12⟩
          obtain ⟨a12, c12, g12, rfl, -, -, -, -⟩ := lst_node l12
          have fl := fun b => fld62 a12 l.length c12 b w12
          have SM := Lib.hid (same_s _ _ _ _ l (by omega) _ l12 (LW.out.up hb12))
          have PO := Lib.hid (PO.out.up hb12)
          have B := Lib.hid (bl_tr B.out hb12)
          clear hb12 l12 NN LW
          go_wp2_with fail
          refine SM.out.mono ?_; rintro e w13 ⟨rfl, hb13⟩
          have PO := Lib.hid (PO.out.up hb13)
          have B := Lib.hid (bl_tr B.out hb13)
          have NN := Lib.hid (node_any 0 m2 (by rw [hAn.out]; exact hm2) [] (by simp) (by rw [upf_ne _ _ _ _ hmm]; exact .inl ⟨rfl, rfl⟩) PO.out)
          clear hb13 SM PO
          go_wp2_with fail
          refine NN.out.mono ?_; rintro e w14 ⟨v14, rfl, l14, hb14⟩
          obtain ⟨a14, c14, g14, rfl, -, -, -, -⟩ := lst_node l14
          have B := Lib.hid (bl_tr B.out hb14)
          have fm := fun b => fld62 a14 0 c14 b w14
          clear hb14 l14 NN
          go_wp2
          go_ret
          exact ⟨rfl, B.out⟩
end Go.Proofs.Ytaihmkflhapjeaa
