/-
  Records compared (the reference's Same).
-/
import Derived.Test.YtgldgilhegdpjaaLgC
import Derived.Deep.RegionHeld3
namespace Go.Proofs.Ytgldgilhegdpjaa
open Go.RowKit
set_option linter.unusedVariables false
set_option maxRecDepth 100000 in
set_option maxHeartbeats 16000000 in
theorem same_any {B1 B2 C1 C2 : Nat} {v1 v2 : Value} {k1 k2 : List (Int × Value)} {rs : List Rec} {w : World} (ho1 : w.ownsRow B1 45 2 v1 k1.length (enc k1)) (hp1 : Ps C1 k1 rs w) (ho2 : w.ownsRow B2 45 2 v2 k2.length (enc k2)) (hp2 : Ps C2 k2 rs w) (hn : k1.length ≤ 1000) :
    Calls Try.prog 12 #[v1, v2] w fun e w' => e = .returned (.bool true) ∧ Below w.heap.size w w' := by
  obtain ⟨va, vc, rfl⟩ := row_sl ho1
  obtain ⟨ua, uc, rfl⟩ := row_sl ho2
  have HR1 := Lib.hid (fun k (hk : k < k1.length) => row_at ho1 hk)
  have HR2 := Lib.hid (fun k (hk : k < k2.length) => row_at ho2 hk)
  have HP1 := Lib.hid hp1
  have HP2 := Lib.hid hp2
  have HL := Lib.hid hp1.1
  have e2 : k2.length = k1.length := hp2.1.trans hp1.1.symm
  rw [e2] at HR2 ⊢
  obtain ⟨n, hkn⟩ : ∃ n, k1.length = n := ⟨_, rfl⟩
  rw [hkn] at hn HR1 HR2 HL ⊢
  clear ho1 hp1 ho2 hp2 e2 hkn
  have e0 : ((n : Int) != (n : Int)) = false := by simp
  go_enter Try.func12, Try.ntmps12
  go_wp2
  go_loopw [5] (fun i wr => ∃ k : Nat, k ≤ n ∧ i = .int .i64 k ∧ ∃ m, wr = w.drewN m) (fun i _ => n - (intOf i).toNat)
  case atStart => exact ⟨0, by omega, rfl, 0, rfl⟩
  case round =>
    obtain ⟨k, hk, rfl, m, rfl⟩ := hrel
    by_cases hlt : k < n
    · have i1 : (k : Int) < (n : Int) := by omega
      have hwk : IntKind.i64.wrap ((k : Int) + 1) = (k : Int) + 1 := IntWalk.i64_in _ (by omega)
      obtain ⟨g1, b1, p1, rfl, hbp1, _, _, hc1⟩ := HR1.out k hlt
      obtain ⟨g2, b2, p2, rfl, hbp2, _, _, hc2⟩ := HR2.out k hlt
      obtain ⟨b, l, hbl⟩ : ∃ b l, rs[k]? = some (b, l) := ⟨_, _, List.getElem?_eq_getElem (by rw [← HL.out]; exact hlt)⟩
      obtain ⟨x1, l1, h20⟩ := HP1.out.2 k _ _ hbp1 hbl
      obtain ⟨x2, l2, _⟩ := HP2.out.2 k _ _ hbp2 hbl
      have x1 : b1 = b := x1
      have x2 : b2 = b := x2
      subst x1 x2
      have h20 : l.length ≤ 20 := h20
      obtain ⟨a1, c1, rfl, i1'⟩ : ∃ a c, p1 = .slice a l.length c ∧ Ints w a l := Lst.ints l1
      obtain ⟨a2, c2, rfl, i2'⟩ : ∃ a c, p2 = .slice a l.length c ∧ Ints w a l := Lst.ints l2
      obtain ⟨d0, d1, df⟩ := hc1 w rfl
      obtain ⟨f0, f1, ff⟩ := hc2 w rfl
      have ab : ahd l l = false := by unfold ahd; rw [(lexc_zero l l).mpr rfl]; rfl
      have HS := Lib.hid (fun (W : World) (hW : ∃ m, W = w.drewN m) => show (W.cell? ⟨g1, k * 2, none⟩ = some (.int .i64 b2) ∧ W.cell? ⟨g1, k * 2 + 1, none⟩ = some (.slice a1 l.length c1) ∧ W.cell? ⟨g2, k * 2, none⟩ = some (.int .i64 b2) ∧ W.cell? ⟨g2, k * 2 + 1, none⟩ = some (.slice a2 l.length c2)) ∧ (Calls Try.prog 15 #[.slice a1 l.length c1, .slice a2 l.length c2] W fun e w' => e = .returned (.bool (ahd l l)) ∧ ∃ m, w' = w.drewN m) ∧ (Calls Try.prog 15 #[.slice a2 l.length c2, .slice a1 l.length c1] W fun e w' => e = .returned (.bool (ahd l l)) ∧ ∃ m, w' = w.drewN m) from by
        obtain ⟨m, rfl⟩ := hW
        have hb := bl_dn (Below.refl w.heap.size w) m
        refine ⟨⟨d0, d1, f0, f1⟩, (rahead_any l l (by omega) (by omega) a1 a2 c1 c2 _ (i1'.keep hb) (i2'.keep hb)).mono ?_, (rahead_any l l (by omega) (by omega) a2 a1 c2 c1 _ (i2'.keep hb) (i1'.keep hb)).mono ?_⟩
        · rintro e w' ⟨h, m2, rfl⟩; exact ⟨h, m + m2, by rw [World.drewN_drewN]⟩
        · rintro e w' ⟨h, m2, rfl⟩; exact ⟨h, m + m2, by rw [World.drewN_drewN]⟩)
      rw [ab] at HS
      have eb : (b2 != b2) = false := by simp
      clear l1 l2 i1' i2' hc1 hc2 df ff hbl hbp1 hbp2 HR1 HR2 HP1 HP2 HL ab h20 d0 d1 f0 f1
      generalize l.length = ll at *
      go_upto_region 6 with fail
      generalize hwr : w.drewN m = wr
      have D0 : Hid (∃ m, wr = w.drewN m) := Lib.hid ⟨m, hwr.symm⟩
      have D1 : Hid (∃ m, wr.drew = w.drewN m) := Lib.hid ⟨m + 1, by rw [← hwr]; exact World.drew_drewN ..⟩
      have hd0 := (HS.out wr D0.out).1
      have R1 := Lib.hid (HS.out _ D1.out).2.1
      clear hwr D0 D1
      go_cut [53] (fun v wx => v = .bool false ∧ Hid (∃ m, wx = w.drewN m))
      case first =>
        go_region_held3 (fun w' => w'.cell? ⟨g1, k * 2, none⟩ = some (.int .i64 b2) ∧ w'.cell? ⟨g1, k * 2 + 1, none⟩ = some (.slice a1 ll c1) ∧ w'.cell? ⟨g2, k * 2, none⟩ = some (.int .i64 b2) ∧ w'.cell? ⟨g2, k * 2 + 1, none⟩ = some (.slice a2 ll c2)) (first | exact hd0 | exact hz | exact hy)
          (first
            | (go_at_call 15; (with_reducible refine R1.out.mono ?_); rintro e w3 ⟨rfl, hm3⟩; obtain ⟨hz, _, R2'⟩ := HS.out w3 hm3; have R2 := Lib.hid R2'; clear R2'; clear hm3 R1)
            | (go_at_call 15; (with_reducible refine R2.out.mono ?_); rintro e w4 ⟨rfl, hm4⟩; obtain ⟨hy, _, _⟩ := HS.out w4 hm4; have H4 := Lib.hid hm4; clear hm4 R2)
            | fail)
        all_goals go_wp2
        all_goals go_meet
        all_goals exact ⟨rfl, H4⟩
      case rest =>
        obtain ⟨rfl, H4⟩ := hcut
        obtain ⟨m', hm'⟩ := H4.out
        subst hm'
        clear HS R1 hd0 H4
        go_wp2
        go_roundw
        case rel => exact ⟨k + 1, by omega, by go_num, _, rfl⟩
        case measure => simp [intOf]; omega
    · have i1 : ¬ (k : Int) < (n : Int) := by omega
      go_wp2
      go_ret
      exact ⟨rfl, bl_dn (Below.refl _ _) _⟩
end Go.Proofs.Ytgldgilhegdpjaa
