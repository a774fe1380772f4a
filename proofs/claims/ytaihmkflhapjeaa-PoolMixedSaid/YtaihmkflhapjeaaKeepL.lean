/-
  The walk through kurganlaw18.PoolKeeps.
-/
import Derived.Test.YtaihmkflhapjeaaAp
import Derived.Test.YtaihmkflhapjeaaPoE
namespace Go.Proofs.Ytaihmkflhapjeaa
open Go.RowKit Go.MuLone
set_option linter.unusedVariables false
theorem add_at (b o j : Nat) : (⟨b, o, none⟩ : Addr).add j = ⟨b, o + j, none⟩ := by
  unfold Addr.add
  split <;> simp_all
theorem cells_src {X : World} {b o : Nat} {l : List Int} (hc : ∀ j, j < l.length → X.cell? ⟨b, o + j, none⟩ = some (.int .i64 (nth l j))) : ∀ j u, (l.map (Value.int .i64))[j]? = some u → X.cell? ((⟨b, o, none⟩ : Addr).add j) = some u := fun j u hj => by
  have hjl : j < l.length := by
    have := (List.getElem?_eq_some_iff.mp hj).1
    simpa using this
  have e : (l.map (Value.int .i64))[j]? = some (.int .i64 (nth l j)) := by
    rw [List.getElem?_map, List.getElem?_eq_getElem hjl, nth_at l j hjl]; rfl
  rw [e] at hj
  injection hj with hj
  subst hj
  rw [add_at]
  exact hc j hjl
theorem arg_srcA {w : World} {a : Option Addr} {n c : Nat} {l : List Int} (h : Arg 70 w a n c l) (X : World) (hb : Below w.heap.size w X) : SrcA X a c l := by
  rcases h with ⟨rfl, rfl, rfl, rfl⟩ | ⟨ad, rfl, rfl, q2, rfl⟩ | ⟨b, o, rfl, q1, q2, q3, q4, q5⟩
  · exact .inl ⟨rfl, rfl, rfl⟩
  · exact .inr ⟨ad, rfl, fun j u hj => by simp at hj⟩
  · exact .inr ⟨_, rfl, cells_src fun j hj => (hb.cell (p := ⟨b, o + j, none⟩) q3).trans (q4 j hj)⟩
theorem lst_srcA {B : Nat} {w : World} {a : Option Addr} {n c : Nat} {l : List Int} (h : Lst B (.slice a n c) l w) (X : World) (hb : Below w.heap.size w X) : SrcA X a c l := by
  rcases h with ⟨h1, rfl⟩ | ⟨g, cap, cur, h1, h2, h3, h4, h5, h6⟩
  · cases h1
    exact .inl ⟨rfl, rfl, rfl⟩
  · cases h1
    exact .inr ⟨_, rfl, cells_src fun j hj => by
      rw [Nat.zero_add]
      exact (hb.cell (p := ⟨g, j, none⟩) (lt_hp h5)).trans (h6 j hj)⟩
theorem app_below {w w2 : World} (h : (w.alloc (.cells #[] 3)).grownBy w2 (some w.heap.size)) : Below w.heap.size w w2 :=
  (bl_al (Below.refl _ _) _).grown h (by simp) (fun j hj => by simp at hj; omega)
theorem lst_at {B g n cap : Nat} {l : List Int} {w : World} (h : Lst B (.slice (some ⟨g, 0, none⟩) n cap) l w) : B ≤ g ∧ n = l.length ∧ l.length ≤ cap ∧ cap ≤ 9223372036854775807 ∧ g < w.heap.size ∧ Junk g l.length w := by
  rcases Junk.lst h with ⟨h1, _⟩ | ⟨g', cap', h1, h2, h3, h4, h5⟩
  · cases h1
  · cases h1
    exact ⟨h2, rfl, h3, h4, lt_hp h5.1.choose_spec, h5⟩
set_option maxRecDepth 100000 in
set_option maxHeartbeats 16000000 in
theorem keeps_no (x bb : Int) (a : Option Addr) (n c : Nat) (l : List Int) (w : World) (hA : Arg 70 w a n c l) (d1 : decide (x < 0) = true ∨ (decide (x < 0) = false ∧ decide (5 ≤ x) = true)) :
    Calls Try.prog 6 #[.int .i64 x, .slice a n c, .int .i64 bb] w fun e w' => e = .returned (.bool true) ∧ Below w.heap.size w w' := by
  have FR := Lib.hid (fresh_any 5 1 (by omega) (by omega) (by omega) (by omega) w)
  rw [show ((5 : Nat) : Int) = 5 from rfl, show ((1 : Nat) : Int) = 1 from rfl] at FR
  have AR := Lib.hid hA
  have PA := Lib.hid pools_any
  have s1 := sl_run w a n c l hA
  have s2 := sl_run2 w a n c l hA
  have hlen := hA.len
  have hmin : min (n : Int) 70 = (l.length : Int) := by
    rcases hA with ⟨rfl, rfl, rfl, rfl⟩ | ⟨ad, rfl, rfl, q2, rfl⟩ | ⟨b, o, rfl, q1, q2, q3, q4, q5⟩
    · rfl
    · rfl
    · omega
  clear hA
  have hx : x < 0 ∨ ((5 : Nat) : Int) ≤ x := by rcases d1 with h | ⟨_, h⟩ <;> simp at h <;> omega
  go_enter Try.func6, Try.ntmps6
  go_wp2_with fail
  refine FR.out.mono ?_; rintro e w1 ⟨A, l', rfl, hbase, hAn, hAk, hsz, hln, hlf, po, bl⟩
  have PO := Lib.hid po
  have B := Lib.hid bl
  have SZ := Lib.hid hsz
  have hAn := Lib.hid hAn
  have B1 := Lib.hid bl.size
  clear po bl hbase hAk hsz hln hlf FR
  have SA := Lib.hid (arg_srcA AR.out _ (B.out.trans (show Below w.heap.size w1 (w1.alloc (.cells #[] 3)) from (bl_al (Below.refl _ w1) _).mono B.out.size)))
  go_wp2_with (at_builtin; refine wpList_app rfl _ _ rfl rfl w1.heap.size w1.heap.size l a c rfl rfl (by omega) (own0 w1) (by simp) SA.out ?_)
  intro g cap w2 ho hgr hlt
  have LA := Lib.hid ((own_of ho (app_below hgr)).lst)
  have AL := Lib.hid (show A.p < w1.heap.size ∧ A.g < w1.heap.size ∧ A.b < w1.heap.size ∧ A.bn < w1.heap.size ∧ A.bh < w1.heap.size ∧ A.bo < w1.heap.size from PO.out.lt)
  have PO := Lib.hid (PO.out.up (app_below hgr))
  have B := Lib.hid (bl_tr B.out (app_below hgr))
  clear ho hgr hlt SA s1 s2 hmin AR
  go_wp2_with fail
  refine (PA.out _).mono ?_; rintro e w3 ⟨rfl, hb3⟩
  have LA := Lib.hid (LA.out.up hb3)
  have PO := Lib.hid (PO.out.up hb3)
  have B := Lib.hid (bl_tr B.out hb3)
  clear hb3 PA
  have SA := Lib.hid (lst_srcA LA.out _ (bl_al (Below.refl _ w3) (.cells #[] 3)))
  go_wp2_with (at_builtin; refine wpList_app rfl _ _ rfl rfl w3.heap.size w3.heap.size l _ _ rfl rfl (by omega) (own0 w3) (by simp) SA.out ?_)
  intro h hcap w4 ho hgr hlt
  have LW := Lib.hid ((own_of ho (app_below hgr)).lst)
  have GL := Lib.hid (show w1.heap.size ≤ g ∧ g < w3.heap.size ∧ l.length ≤ cap ∧ cap ≤ 9223372036854775807 from ⟨(lst_at LA.out).1, (lst_at LA.out).2.2.2.2.1, (lst_at LA.out).2.2.1, (lst_at LA.out).2.2.2.1⟩)
  have LA := Lib.hid (LA.out.up (app_below hgr))
  have PO := Lib.hid (PO.out.up (app_below hgr))
  have B := Lib.hid (bl_tr B.out (app_below hgr))
  clear ho hgr hlt SA
  have KN := Lib.hid (fun W (hW : Po A (fun _ => .slice none 0 0) (fun _ => 0) (fun _ => false) (fun _ => .slice none 0 0) l' (((5 : Nat) : Int) + 1) W) => keep_no x (by rw [hAn.out]; exact hx) (some ⟨g, 0, none⟩) l.length cap bb hW)
  have NN := Lib.hid (fun W (hW : Po A (fun _ => .slice none 0 0) (fun _ => 0) (fun _ => false) (fun _ => .slice none 0 0) l' (((5 : Nat) : Int) + 1) W) => node_no x (by rw [hAn.out]; exact hx) hW)
  go_wp2_with fail
  refine (KN.out _ PO.out).mono ?_; rintro e w5 ⟨rfl, hb5⟩
  have LA := Lib.hid (LA.out.up hb5)
  have LW := Lib.hid (LW.out.up hb5)
  have PO := Lib.hid (PO.out.up hb5)
  have B := Lib.hid (bl_tr B.out hb5)
  clear hb5 KN hx
  go_wp2_with fail
  go_loopw [11] (fun i wr => ∃ k : Nat, i = .int .i64 k ∧ k ≤ l.length ∧ Hid (Junk g l.length wr) ∧ Hid (Tw [g] w5 wr)) (fun i _ => l.length - (intOf i).toNat)
  case atStart => exact ⟨0, rfl, by omega, Lib.hid (lst_at LA.out).2.2.2.2.2, Lib.hid (Tw.refl _ _)⟩
  case round =>
    obtain ⟨k, rfl, hk3, JK, TW⟩ := hrel
    by_cases hlt : k < l.length
    · have i1 : (k : Int) < (l.length : Int) := by omega
      have hwk : IntKind.i64.wrap ((k : Int) + 1) = (k : Int) + 1 := IntWalk.i64_in _ (by omega)
      obtain ⟨z, hz⟩ := JK.out.2 k hlt
      have hf := JK.out.fz k
      have JS := Lib.hid (fun y => JK.out.st k y)
      have TS := Lib.hid (fun y => TW.out.st g (.inl (by simp)) k (.int .i64 y))
      clear PO LA LW B SZ AL GL hAn JK TW
      go_wp2
      go_roundw
      case rel => exact ⟨k + 1, by simp, by omega, JS.out _, TS.out _⟩
      case measure => simp [intOf]; omega
    · obtain rfl : l.length = k := by omega
      have PO := Lib.hid (PO.out.keep TW.out (by have := AL.out; have := GL.out; simp; omega) (by have := AL.out; have := GL.out; simp; omega) (by have := AL.out; have := GL.out; simp; omega) (by have := AL.out; have := GL.out; simp; omega) (by have := AL.out; have := GL.out; simp; omega) (by have := AL.out; have := GL.out; simp; omega))
      have B := Lib.hid (TW.out.below B.out (by intro i hi; simp at hi; subst hi; have := SZ.out; have := GL.out; have := B1.out; omega) B.out.size)
      clear TW JK LA LW AL
      go_wp2_with fail
      refine (NN.out _ PO.out).mono ?_; rintro e w8 ⟨rfl, hb8⟩
      have B := Lib.hid (bl_tr B.out hb8)
      have B := Lib.hid (bl_al B.out (.cells #[.slice none 0 0, .int .i64 0] 62))
      clear hb8 PO NN SZ GL hAn
      rcases d1 with d1 | ⟨d1, d2⟩
      · go_wp2
        go_ret
        exact ⟨rfl, B.out⟩
      · go_wp2
        go_ret
        exact ⟨rfl, B.out⟩
end Go.Proofs.Ytaihmkflhapjeaa
