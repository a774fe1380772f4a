/-
  assign: Kids, walked.
-/
import Derived.Test.YtlhpiikpmmlpeaaDoorAi
namespace Go.Proofs.YtlhpiikpmmlpeaaDoor
open Go.RowKit
set_option linter.unusedVariables false
theorem own_low {B C g n cap : Nat} {l : List Int} {w0 w1 wr : World} (h : od.Own B g n cap l w0 wr) (hC : C ≤ B) (hb : Below C w1 wr) : od.Own C g n cap l w1 wr := by
  obtain ⟨h1, h2, ⟨h3, h4⟩, _⟩ := h
  refine ⟨h1, Nat.le_trans hC h2, ⟨h3, ?_⟩, hb⟩
  rcases h4 with hn | ⟨g', cap', cur, e, hg, r⟩
  · exact .inl hn
  · exact .inr ⟨g', cap', cur, e, Nat.le_trans hC hg, r⟩
theorem own_same {B g n cap : Nat} {l : List Int} {w0 w1 wr wz : World} (h : od.Own B g n cap l w0 wr) (he : wz.heap[g]? = wr.heap[g]?) (hb : Below B w1 wz) : od.Own B g n cap l w1 wz := by
  obtain ⟨h1, h2, ⟨h3, h4⟩, _⟩ := h
  refine ⟨h1, h2, ⟨h3, ?_⟩, hb⟩
  rcases h4 with hn | ⟨g', cap', cur, e, hg, hh, r⟩
  · exact .inl hn
  · injection e with e1 e2 e3
    injection e1 with e1
    injection e1 with e1 e4 e5
    subst e1
    exact .inr ⟨g, cap', cur, by rw [e2, e3], hg, he.trans hh, r⟩
/-- a list that List has made -/
theorem list_own {a c B : Nat} {l : List Int} {v : Value} {W w0 : World} (hl : st.both a c = l) (h1 : 1 ≤ l.length) (ho : W.ownsRow B 3 1 v (st.both a c).length ((st.both a c).map (Value.int .i64))) (hn : v = .slice none 0 0 ↔ st.both a c = []) (hb : Below B w0 W) : ∃ g cap, v = .slice (some ⟨g, 0, none⟩) l.length cap ∧ od.Own B g l.length cap l w0 W := by
  rw [hl] at ho hn
  obtain ⟨g, cap, e⟩ := kn.own_form ho (fun e => by rw [hn.1 e] at h1; simp at h1)
  subst e
  exact ⟨g, cap, rfl, rfl, by
    rcases ho.2 with ⟨e, _⟩ | ⟨g', cap', cur, e, hg, _⟩
    · cases e
    · injection e with e1 e2 e3
      injection e1 with e1
      injection e1 with e1 e4 e5
      omega, ho, hb⟩
/-- what Kids leaves -/
def KiP (n : Nat) (cl : List (List Int)) (p : List Int) (w : World) (e : Ending) (w' : World) : Prop :=
  (¬ Pre n p ∧ e = .returned (.tuple #[.slice none 0 0, .int .i64 1]) ∧ Below w.heap.size w w') ∨
  (Pre n p ∧ p.length = n ∧ e = .returned (.tuple #[.slice none 0 0, .int .i64 0]) ∧ Below w.heap.size w w') ∨
  (Pre n p ∧ p.length < n ∧ ∃ g cap T, e = .returned (.tuple #[.slice (some ⟨g, 0, none⟩) T.length cap, .int .i64 0]) ∧ KidT (cl[p.length]?.getD []) (frl n p) T ∧ od.Own w.heap.size g T.length cap T w w')
theorem JR.row {B gt n : Nat} {R : Nat → List Int} {W : World} (h : JR B gt n R W) {r : Nat} (hr : r < n) : ∃ g c, W.cell? ⟨gt, r, none⟩ = some (.slice (some ⟨g, 0, none⟩) n c) ∧ IntsO W g (R r) ∧ (R r).length = n ∧ gt < W.heap.size := by
  obtain ⟨cur, h1, h2⟩ := h
  obtain ⟨g, c, e1, e2, e3, _⟩ := h2 r hr
  exact ⟨g, c, by rw [cell_of_row _ _ _ _ _ _ h1]; exact e1, e2, e3, lt_hp h1⟩
theorem od_ints {W : World} {a : Option Addr} {l : List Int} (h : Ints W a l) : od.Ints W a l := fun j hj => by
  obtain ⟨b, o, h1, h2, h3⟩ := h j hj
  exact ⟨b, o, h1, h2, by rw [h3]; unfold od.nth; rfl⟩
set_option maxRecDepth 100000 in
set_option maxHeartbeats 8000000 in
theorem kids_any {B b n : Nat} {cl : List (List Int)} (p : List Int) (hp : p.length ≤ 1000) (pa : Option Addr) (pc : Nat) (w : World) (hT : st.T64 w) (h : AK B b n cl w) (hI : Ints w pa p) :
    Calls Tryd.prog 16 #[.pointer (some ⟨b, 0, none⟩), .slice pa p.length pc] w (KiP n cl p w) := by
  have HFr := Lib.hid (free_any p hp pa pc w h hI)
  have HD := Lib.hid (fun (W : World) (hb : Below w.heap.size w W) => depth_any (h.keep hb))
  by_cases hP : Pre n p
  rotate_left
  · have HG : Hid (∀ w', Below w.heap.size w w' → KiP n cl p w (.returned (.tuple #[.slice none 0 0, .int .i64 1])) w') := fun w' hb => .inl ⟨hP, rfl, hb⟩
    have HP := Lib.hid hP
    clear h hI hP
    generalize KiP n cl p w = G at *
    generalize p.length = l at *
    go_enter Tryd.func16, Tryd.ntmps16
    go_wp2_with fail
    refine HFr.out.mono ?_; rintro e w1 q
    rcases q with ⟨q, _⟩ | ⟨_, rfl, hb1⟩
    · exact absurd q HP.out
    have B1 := Lib.hid (bl_al hb1 (.cells #[.int .u64 0, .int .u64 0] 55))
    clear hb1
    go_wp2
    first
      | exact HG.out _ B1.out
      | (go_ret; exact HG.out _ B1.out)
  · have n24 := h.2.2.1
    have HP := Lib.hid hP
    by_cases hl : p.length = n
    · have HG : Hid (∀ w', Below w.heap.size w w' → KiP n cl p w (.returned (.tuple #[.slice none 0 0, .int .i64 0])) w') := fun w' hb => .inr (.inl ⟨hP, hl, rfl, hb⟩)
      clear h hI hP
      generalize KiP n cl p w = G at *
      generalize p.length = l at *
      subst hl
      go_enter Tryd.func16, Tryd.ntmps16
      go_wp2_with fail
      refine HFr.out.mono ?_; rintro e w1 q
      rcases q with ⟨_, ⟨a, c, rfl, _, _, _⟩, hb1⟩ | ⟨q, _⟩
      rotate_left
      · exact absurd HP.out q
      have B1 := Lib.hid (bl_al hb1 (.cells #[.int .u64 a, .int .u64 c] 55))
      clear hb1
      go_wp2_with fail
      refine (HD.out _ B1.out).mono ?_; rintro e w2 ⟨rfl, rfl⟩
      go_wp2
      first
        | exact HG.out _ B1.out
        | (go_ret; exact HG.out _ B1.out)
    · have hlt : p.length < n := by have := pre_len hP; omega
      have HG : Hid (∀ (g cap : Nat) (T : List Int) (w' : World), KidT (cl[p.length]?.getD []) (frl n p) T → od.Own w.heap.size g (frl n p).length cap T w w' → KiP n cl p w (.returned (.tuple #[.slice (some ⟨g, 0, none⟩) (frl n p).length cap, .int .i64 0])) w') := fun g cap T w' h1 h2 => by
        have e := h1.len
        rw [← e] at h2 ⊢
        exact .inr (.inr ⟨hP, hlt, g, cap, T, rfl, h1, h2⟩)
      obtain ⟨_, n1, _, gt, kc, hq, _, hj⟩ := h
      obtain ⟨gr, cr, hc, hi, hil, hgt⟩ := hj.row hlt
      have Q0 := Lib.hid hq
      have HI2 := Lib.hid hi
      have HIL := Lib.hid hil
      have HC := Lib.hid (And.intro hgt hc)
      have FS := Lib.hid (frl_some (by omega) hlt)
      have FL := Lib.hid (frl_len (by omega : n ≤ 128) p)
      have FI := Lib.hid (frl_in (by omega : n ≤ 128) p)
      have FU := Lib.hid (frl_up n p)
      have HT := Lib.hid hT
      have TL : Hid (∀ (C : Nat) (Z : World) (g cap bv : Nat), w.heap.size ≤ C → od.Own C g (frl n p).length cap (frl n p) Z Z → Z.heap[bv]? = some (.cells #[.slice (some ⟨gr, 0, none⟩) n cr] 22 (0, 0)) → Below w.heap.size w Z → Calls Tryd.prog 51 #[.slice (some ⟨g, 0, none⟩) (frl n p).length cap, .func (.func 52) #[] #[.pointer (some ⟨bv, 0, none⟩)]] Z fun e w' => e = .returned (.tuple #[]) ∧ ∃ T, Hid (KidT (cl[p.length]?.getD []) (frl n p) T) ∧ Hid (od.Own w.heap.size g (frl n p).length cap T w w')) := fun C Z g cap bv hC ho hz hb => by
        refine (sort_any (N := n) (cl[p.length]?.getD []) HIL.out C g (frl n p).length cap (.pointer (some ⟨bv, 0, none⟩)) Z (fun x y W x0 x1 y0 y1 bt => ?_) (by have := FL.out; omega) (frl n p) rfl FI.out FU.out Z (ho.ows (od.BT.refl _ _))).mono ?_
        · refine od.closA_any (cl[p.length]?.getD []) (by rw [HIL.out]; omega) bv (some ⟨gr, 0, none⟩) cr W ?_ (od_ints (((HI2.out.keep hb).same ?_).ints)) x y x0 (by rw [HIL.out]; exact x1) y0 (by rw [HIL.out]; exact y1)
          · have q := (bt.oth bv _ _ hz (by decide)).trans hz
            rw [cell_of_row _ _ _ _ _ _ q, HIL.out]
            rfl
          · have := HI2.out.lt
            exact bt.bel.block _ (by omega)
        · rintro e w' ⟨he, T, kt, hO⟩
          exact ⟨he, T, kt, own_low hO.own hC (hb.trans (hO.2.2.2.bel.mono hC))⟩
      clear hI hP hq hj hc hi hil hgt hl
      generalize KiP n cl p w = G at *
      have HLp := Lib.hid hp
      have p1 : (p.length : Int) < (n : Int) := by omega
      have p2 : (0 : Int) ≤ (p.length : Int) := by omega
      have p3 : ((p.length : Int) == (n : Int)) = false := by simp; omega
      go_enter Tryd.func16, Tryd.ntmps16
      go_wp2_with fail
      refine HFr.out.mono ?_; rintro e w1 q
      rcases q with ⟨_, ⟨a, c, rfl, ha, hc, hm⟩, hb1⟩ | ⟨q, _⟩
      rotate_left
      · exact absurd HP.out q
      have HB := Lib.hid (both_frl hm)
      have LI := Lib.hid (fun (W : World) (hb : Below w.heap.size w W) => st.list_any a c ha hc W (HT.out.keep hb))
      obtain ⟨Y, hY⟩ : ∃ Y, Y = w1.alloc (.cells #[.int .u64 a, .int .u64 c] 55) := ⟨_, rfl⟩
      have QY := Lib.hid (heap_alloc_new w1 (.cells #[.int .u64 a, .int .u64 c] 55))
      have B1 := Lib.hid (bl_al hb1 (.cells #[.int .u64 a, .int .u64 c] 55))
      rw [← hY] at QY B1
      clear hb1 hm HFr
      go_wp2_with fail
      rw [← hY]
      clear hY
      refine (HD.out _ B1.out).mono ?_; rintro e w2 ⟨rfl, rfl⟩
      go_wp2
      have HK : Hid (∀ W, Below Y.heap.size Y W → W.cell? ⟨w1.heap.size, 0, none⟩ = some (.int .u64 a) ∧ W.cell? ⟨w1.heap.size, 1, none⟩ = some (.int .u64 c) ∧ W.cell? ⟨b, 0, none⟩ = some (.slice (some ⟨gt, 0, none⟩) n kc) ∧ W.cell? ⟨gt, p.length, none⟩ = some (.slice (some ⟨gr, 0, none⟩) n cr)) := Lib.hid fun W hb => by
        have hw : Below w.heap.size w W := bl_tr B1.out hb
        have t := two_row ((hb.block _ (lt_hp QY.out)).trans QY.out)
        refine ⟨t.1, t.2.1, ?_, (hw.cell (p := ⟨gt, p.length, none⟩) HC.out.1).trans HC.out.2⟩
        rw [cell_of_row _ _ _ _ _ _ ((hw.block _ (lt_hp Q0.out)).trans Q0.out)]
        rfl
      have bD0 := od.bl_drew Y
      have bD1 : Below Y.heap.size Y (Y.drew.alloc (.cells #[.slice none 0 0] 22)) := (od.bl_drew Y).alloc (Nat.le_refl _) _
      have K0 := Lib.hid (HK.out _ bD0)
      have K1 := Lib.hid (HK.out _ bD1)
      have D0 := Lib.hid bD0
      have D1 := Lib.hid bD1
      clear bD0 bD1
      go_region_held3 (fun W => W.cell? ⟨w1.heap.size, 0, none⟩ = some (.int .u64 a) ∧ W.cell? ⟨w1.heap.size, 1, none⟩ = some (.int .u64 c) ∧ W.cell? ⟨b, 0, none⟩ = some (.slice (some ⟨gt, 0, none⟩) n kc) ∧ W.cell? ⟨gt, p.length, none⟩ = some (.slice (some ⟨gr, 0, none⟩) n cr)) (first | exact K0.out | exact K1.out | exact K2.out | exact K3.out | exact K4.out | exact K5.out)
        (first
          | (go_at_call 50; refine (LI.out _ (bl_tr B1.out D0.out)).mono ?_; rintro e x1 hL; obtain ⟨v, rfl, ho, hnv, hb⟩ := hL; have b1 : Below Y.heap.size Y x1 := od.bl_undr hb; have K2 := Lib.hid (HK.out x1 b1); have b3 := bl_al b1 (.cells #[.slice none 0 0] 22); have K3 := Lib.hid (HK.out (x1.alloc (.cells #[.slice none 0 0] 22)) b3); have K4 := Lib.hid (HK.out ((x1.alloc (.cells #[.slice none 0 0] 22)).setCell ⟨x1.heap.size, 0, none⟩ (.slice (some ⟨gr, 0, none⟩) n cr)) (b3.setCell (p := ⟨x1.heap.size, 0, none⟩) b1.size _)); have K5 := Lib.hid (HK.out (x1.alloc (.cells #[.slice (some ⟨gr, 0, none⟩) n cr] 22)) (bl_al b1 _)); have QX := Lib.hid (heap_alloc_new x1 (.cells #[.slice (some ⟨gr, 0, none⟩) n cr] 22)); have X1 := Lib.hid b1; have HO := Lib.hid ho; have HV := Lib.hid hnv; clear hb b1 b3 ho hnv)
          | (go_at_call 50; refine (LI.out _ (bl_tr B1.out D1.out)).mono ?_; rintro e x1 hL; obtain ⟨v, rfl, ho, hnv, hb⟩ := hL; have b1 : Below Y.heap.size Y x1 := bl_tr D1.out hb; have qb := (hb.block Y.heap.size (by simp)).trans (heap_alloc_new Y.drew (.cells #[.slice none 0 0] 22)); have QX := Lib.hid (heap_setCell_same x1 Y.heap.size 0 _ 22 (.slice (some ⟨gr, 0, none⟩) n cr) qb); have f0 : x1.frozen? ⟨Y.heap.size, 0, none⟩ = false := frozen_of_row _ _ _ _ _ qb; have f1 : x1.cell? ⟨Y.heap.size, 0, none⟩ = some (.slice none 0 0) := (cell_of_row _ _ 0 _ _ _ qb).trans rfl; have K2 := Lib.hid (HK.out x1 b1); have K4 := Lib.hid (HK.out (x1.setCell ⟨Y.heap.size, 0, none⟩ (.slice (some ⟨gr, 0, none⟩) n cr)) (b1.setCell (p := ⟨Y.heap.size, 0, none⟩) (Nat.le_refl _) _)); have X1 := Lib.hid b1; have HO := Lib.hid ho; have HV := Lib.hid hnv; clear hb b1 ho hnv qb))
      all_goals
        clear K0 K1 K2 K4 HD
      · clear K3 K5 D0 D1
        rename_i hHeld
        clear hHeld
        obtain ⟨g, cap, rfl, ho⟩ := list_own HB.out FS.out HO.out HV.out (Below.refl Y.drew.heap.size x1)
        have B3 := bl_al X1.out (.cells #[.slice (some ⟨gr, 0, none⟩) n cr] 22)
        have CL := Lib.hid (TL.out Y.heap.size _ g cap x1.heap.size B1.out.size (own_low (ho.keep (bl_al (Below.refl _ x1) (.cells #[.slice (some ⟨gr, 0, none⟩) n cr] 22))) (Nat.le_refl _) (Below.refl _ _)) QX.out (bl_tr B1.out B3))
        clear ho B3 QX TL
        generalize (x1.alloc (.cells #[.slice (some ⟨gr, 0, none⟩) n cr] 22)) = Z at *
        go_wp2_with fail
        refine CL.out.mono ?_; rintro e w3 ⟨rfl, T, kt, hO⟩
        have HE := Lib.hid (HG.out g cap T _ kt.out hO.out)
        go_wp2
        first
          | exact HE.out
          | (go_ret; exact HE.out)
      · clear D0 D1 f0 f1
        rename_i hHeld
        clear hHeld
        obtain ⟨g, cap, rfl, ho⟩ := list_own HB.out FS.out HO.out HV.out (Below.refl (Y.drew.alloc (.cells #[.slice none 0 0] 22)).heap.size x1)
        have B3 := X1.out.setCell (p := ⟨Y.heap.size, 0, none⟩) (Nat.le_refl _) (.slice (some ⟨gr, 0, none⟩) n cr)
        have hgy : Y.heap.size + 1 ≤ g := by have := ho.2.1; simpa using this
        have CL := Lib.hid (TL.out (Y.heap.size + 1) _ g cap Y.heap.size (by have := B1.out.size; omega) (own_low (own_same ho (heap_setCell_other x1 ⟨Y.heap.size, 0, none⟩ g (.slice (some ⟨gr, 0, none⟩) n cr) (by show g ≠ Y.heap.size; omega)) (Below.refl _ _)) (by simp) (Below.refl _ _)) QX.out (bl_tr B1.out B3))
        clear ho B3 QX TL hgy
        generalize (x1.setCell ⟨Y.heap.size, 0, none⟩ (.slice (some ⟨gr, 0, none⟩) n cr)) = Z at *
        go_wp2_with fail
        refine CL.out.mono ?_; rintro e w3 ⟨rfl, T, kt, hO⟩
        have HE := Lib.hid (HG.out g cap T _ kt.out hO.out)
        go_wp2
        first
          | exact HE.out
          | (go_ret; exact HE.out)
end Go.Proofs.YtlhpiikpmmlpeaaDoor
