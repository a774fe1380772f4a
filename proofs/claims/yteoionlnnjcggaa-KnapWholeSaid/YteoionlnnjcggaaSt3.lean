/-
  knap: the kernel's Answer and the reference's.
-/
import Derived.Test.YteoionlnnjcggaaSt2
import Derived.OwnWalk
namespace Go.Proofs.Yteoionlnnjcggaa.kn
open Go.RowKit
set_option linter.unusedVariables false
/-- the answer of a whole list, as it is written -/
def ansl (T pl : List Int) : Nat → List Int
  | 0 => List.replicate T.length 0
  | k + 1 => (ansl T pl k).set (nt T k).toNat (nt pl k)
theorem ansl_len (T pl : List Int) : ∀ k, (ansl T pl k).length = T.length
  | 0 => by simp [ansl]
  | k + 1 => by simp only [ansl, List.length_set]; exact ansl_len T pl k
def AnY (T pl : List Int) (w : World) (e : Ending) (w' : World) : Prop := ∃ v, e = .returned (.tuple #[v, .int .i64 0]) ∧ Ls v (ansl T pl T.length) w' ∧ Below w.heap.size w w'
def AnN (w : World) (e : Ending) (w' : World) : Prop := e = .returned (.tuple #[.slice none 0 0, .int .i64 1]) ∧ Below w.heap.size w w'
def AnP (C : Int) (T Wl pl : List Int) (w : World) (e : Ending) (w' : World) : Prop := ((LeftOk C Wl pl ∧ pl.length = T.length) ∧ AnY T pl w e w') ∨ (¬ (LeftOk C Wl pl ∧ pl.length = T.length) ∧ AnN w e w')
theorem own_ls {B g n c : Nat} {l : List Int} {w0 wr : World} (h : od.Own B g n c l w0 wr) : Ls (.slice (some ⟨g, 0, none⟩) n c) l wr := by
  have h3 := h.2.2.1
  have e := h.1
  subst e
  exact Ol.ls (B := B) h3
set_option maxHeartbeats 8000000 in
set_option maxRecDepth 100000 in
theorem kans_any {p : Nat} {C : Int} {T Wl Vl pl : List Int} {v : Value} {w : World} (ok : KnOk C T Wl Vl) (h : Kn p C T Wl Vl w) (hp : Ls v pl w) (hl : pl.length ≤ 1000) :
    Calls Try.prog 13 #[.pointer (some ⟨p, 0, none⟩), v] w (AnP C T Wl pl w) := by
  obtain ⟨i0, hi, hz0, hz1, hz2⟩ := info_parts info3
  have D := Lib.hid (depth_any h)
  have LF := Lib.hid (left_any ok h hp hl)
  have KN := Lib.hid (fun (X : World) (hb : Below w.heap.size w X) => (h.up hb).cells)
  have HP := Lib.hid (fun (X : World) (hb : Below w.heap.size w X) => hp.up hb)
  obtain ⟨pa, pc, rfl⟩ := hp.form
  have RG := Lib.hid ok.t
  have n2 := ok.n2
  have LW := Lib.hid ok.lw
  clear h hp ok
  by_cases hk : LeftOk C Wl pl
  · have LF2 := Lib.hid (show Calls Try.prog 30 #[.pointer (some ⟨p, 0, none⟩), .slice pa pl.length pc] w fun e w' => e = .returned (.tuple #[.int .i64 (rm C Wl pl pl.length), .int .i64 0]) ∧ w = w' from LF.out.mono fun e w' q => ⟨q.2.1 hk, q.1⟩)
    have le : pl.length ≤ T.length := by have := hk.le; rw [LW.out] at this; exact this
    generalize rm C Wl pl pl.length = R at *
    by_cases hn : pl.length = T.length
    · have UY := Lib.hid (show ∀ e W, AnY T pl w e W → AnP C T Wl pl w e W from fun e W q => .inl ⟨⟨hk, hn⟩, q⟩)
      have i1 : ¬ (pl.length : Int) < (T.length : Int) := by omega
      have HN := Lib.hid hn
      have n2' : pl.length ≤ 64 := by omega
      clear LF hk hn le
      go_enter Try.func13, Try.ntmps13
      go_wp2_with fail
      refine LF2.out.mono ?_; rintro e w1 ⟨rfl, rfl⟩
      go_wp2_with fail
      refine D.out.mono ?_; rintro e w1 ⟨rfl, rfl⟩
      go_wp2_with (at_make; refine wpList_make_full _ rfl _ _ 22 rfl w.heap.size 3 i0 (.int .i64 0) 1 Try.underlying22 hi hz0 hz1 .i64 .i64 _ _ pl.length rfl rfl rfl rfl (by rw [hz2]; omega) (by unfold maxLen; omega) (Nat.le_refl _) ?_)
      intro w2 hown hgrow
      have A0 : Hid (od.Own w.heap.size w.heap.size pl.length pl.length (List.replicate pl.length 0) w w2) := ⟨by simp, Nat.le_refl _, by rw [List.map_replicate, ← toList_madeCells_one]; exact hown, (Below.refl _ _).grown hgrow (Nat.le_refl _) (fun j hj => by cases hj)⟩
      clear hown hgrow
      obtain ⟨g, hg⟩ : ∃ g, g = w.heap.size := ⟨_, rfl⟩
      rw [← hg] at A0
      go_wp2
      rw [← hg]
      have A1 : Hid (od.Own g g pl.length pl.length (ansl T pl 0) w w2) := by show Hid (od.Own g g pl.length pl.length (List.replicate T.length 0) w w2); rw [← HN.out]; exact A0
      have HG := Lib.hid hg
      clear hg A0
      go_loopw [31] (fun i wr => ∃ k : Nat, k ≤ pl.length ∧ i = .int .i64 (k : Int) ∧ Hid (od.Own g g pl.length pl.length (ansl T pl k) w wr)) (fun i _ => pl.length - (intOf i).toNat)
      case atStart => exact ⟨0, Nat.zero_le _, rfl, A1⟩
      case round =>
        clear A1
        obtain ⟨k, hk, rfl, HO⟩ := hrel
        have bel := HO.out.2.2.2
        rw [HG.out] at bel
        by_cases hlt : k < pl.length
        · obtain ⟨ia, ic, wa, wc, va, vc, c0, c1, c2, c3, li, lw, lv⟩ := KN.out _ bel
          obtain ⟨gp, op, rfl, m1⟩ := (HP.out _ bel).at_ k hlt
          obtain ⟨gi, oi, rfl, m2⟩ := li.at_ k (by rw [← HN.out]; exact hlt)
          have rg := RG.out k (by rw [← HN.out]; exact hlt)
          obtain ⟨t, ht⟩ : ∃ t : Nat, nt T k = (t : Int) := ⟨_, (Int.toNat_of_nonneg rg.1).symm⟩
          have tw : t < pl.length := by have := rg.2; have := HN.out; omega
          have HS : Hid (od.Own g g pl.length pl.length (ansl T pl (k + 1)) w _) := Lib.hid (by have q := HO.out.set t (nt pl k); rw [show (ansl T pl k).set t (nt pl k) = ansl T pl (k + 1) from by show _ = (ansl T pl k).set (nt T k).toNat (nt pl k); rw [ht]; rfl] at q; exact q)
          have fz := HO.out.frozen t
          have cz := HO.out.cell t tw
          rw [ht] at m2
          have i2 : (k : Int) < (pl.length : Int) := by omega
          have i3 : (k : Int) < (T.length : Int) := by have := HN.out; omega
          have i4 : (t : Int) < (pl.length : Int) := by omega
          clear li lw lv rg ht c0 c2 c3 bel
          generalize nt pl k = x at *
          go_wp2
          go_roundw
          case rel => exact ⟨k + 1, by omega, by go_num, HS⟩
          case measure => simp [intOf]; omega
        · obtain rfl : k = pl.length := by omega
          have U1 := Lib.hid (UY.out _ _ ⟨_, rfl, by rw [← HN.out]; exact own_ls HO.out, bel⟩)
          have i2 : ¬ (pl.length : Int) < (pl.length : Int) := by omega
          clear bel
          go_wp2
          go_ret2
          exact U1.out
    · have U := Lib.hid (show AnP C T Wl pl w (.returned (.tuple #[.slice none 0 0, .int .i64 1])) w from .inr ⟨fun g => hn g.2, rfl, Below.refl _ _⟩)
      have i1 : (pl.length : Int) < (T.length : Int) := by omega
      clear LF hk hn le
      go_enter Try.func13, Try.ntmps13
      go_wp2_with fail
      refine LF2.out.mono ?_; rintro e w1 ⟨rfl, rfl⟩
      go_wp2_with fail
      refine D.out.mono ?_; rintro e w1 ⟨rfl, rfl⟩
      go_wp2
      go_ret2
      exact U.out
  · have LF2 := Lib.hid (show Calls Try.prog 30 #[.pointer (some ⟨p, 0, none⟩), .slice pa pl.length pc] w fun e w' => e = .returned (.tuple #[.int .i64 0, .int .i64 1]) ∧ w = w' from LF.out.mono fun e w' q => ⟨q.2.2 hk, q.1⟩)
    have U := Lib.hid (show AnP C T Wl pl w (.returned (.tuple #[.slice none 0 0, .int .i64 1])) w from .inr ⟨fun g => hk g.1, rfl, Below.refl _ _⟩)
    clear LF hk
    go_enter Try.func13, Try.ntmps13
    go_wp2_with fail
    refine LF2.out.mono ?_; rintro e w1 ⟨rfl, rfl⟩
    go_wp2
    go_ret2
    exact U.out
end Go.Proofs.Yteoionlnnjcggaa.kn
