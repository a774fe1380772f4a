/-
  The reference's changed.
-/
import Derived.Test.YtaobaiifbmhegaaGv
namespace Go.Proofs.Ytaobaiifbmhegaa
open Go.RowKit
set_option linter.unusedVariables false
theorem od_own_down {w X : World} {g n cap : Nat} {l : List Int} {W : World} (h : od.Own X.heap.size g n cap l X W) (hb : Below w.heap.size w X) : od.Own w.heap.size g n cap l w W := h.down hb hb.size
set_option maxRecDepth 100000 in
set_option maxHeartbeats 4000000 in
theorem changed_any (K N C : Int) (v3 v4 v5 : Value) (x : List Int) (b o c n : Nat) (hn : x.length = n) (h64 : n ≤ 64) (hnc : n ≤ c ∧ c ≤ 9223372036854775807) (p q : Nat) (hpq : p < q) (hq : q < n) (w : World) (hb : b < w.heap.size) (hI : ∀ j, j < n → w.cell? ⟨b, o + j, none⟩ = some (.int .i64 (od.nth x j))) :
    Calls Try.prog 40 #[.agg #[.int .i64 K, .int .i64 N, .int .i64 C, v3, v4, v5], .slice (some ⟨b, o, none⟩) n c, .int .i64 p, .int .i64 q] w
      fun e w' => ∃ g cap, e = .returned (.slice (some ⟨g, 0, none⟩) n cap) ∧ od.Own w.heap.size g n cap (chg K x p q) w w' := by
  obtain ⟨i0, hi, hz0, hz1, hz2⟩ := info_parts od.info3
  have bA : Below w.heap.size w (w.alloc (ob K N C v3 v4 v5)) := bl_al (Below.refl _ _) _
  have BA := Lib.hid bA
  have q0 := Lib.hid (heap_alloc_new w (ob K N C v3 v4 v5))
  have HI := Lib.hid hI
  have HN := Lib.hid hn
  have ho := od.own0 (w.alloc (ob K N C v3 v4 v5))
  have hbX : b < (w.alloc (ob K N C v3 v4 v5)).heap.size := Nat.lt_of_lt_of_le hb bA.size
  have HNs := Lib.hid (od.app_src (X := w.alloc (ob K N C v3 v4 v5)) (b := b) (o := o) (l := x) hbX (fun j hj => (bA.cell (p := ⟨b, o + j, none⟩) hb).trans (hI j (by omega))))
  have HCk : Hid (K ≠ 3 → od.sw x p q = chg K x p q) := fun h => (chg_other h x p q).symm
  have HTk : Hid (K = 3 → rvt x p q (q + 1 - p) = chg K x p q) := fun h => by subst h; exact rvt_end hpq (by omega)
  have HR0 := Lib.hid (rvt_zero x p q)
  have HRs := Lib.hid (rvt_succ x p q)
  have HRl := Lib.hid (rvt_len x p q)
  have HOf := Lib.hid (fun (w1 : World) (g cap : Nat) h1 h2 => od.own_of (w := w.alloc (ob K N C v3 v4 v5)) (w1 := w1) (g := g) (cap := cap) (l := x) h1 h2)
  have HQ := Lib.hid (box6 q0.out)
  have HC0 := Lib.hid (fun (W : World) (h : Below (w.alloc (ob K N C v3 v4 v5)).heap.size (w.alloc (ob K N C v3 v4 v5)) W) => box6 ((h.block _ (lt_hp q0.out)).trans q0.out))
  unfold ob at *
  clear hI hn bA
  go_enter Try.func40, Try.ntmps40
  go_upto_region 1 with fail
  generalize w.alloc (.cells #[.int .i64 K, .int .i64 N, .int .i64 C, v3, v4, v5] 25) = X at *
  go_wp2_with (at_builtin; refine wpList_append_own _ rfl _ _ 22 rfl X.heap.size 3 i0 (.int .i64 0) 1 8 Try.underlying22 hi hz0 hz1 hz2 rfl (by decide) _ _ _ rfl ho ⟨b, o, none⟩ _ c (x.map (Value.int .i64)) rfl (by simp [HN.out]) HNs.out (by simp [Value.oneCell']) (by unfold maxLen; omega) (by omega) (by simp) ?_)
  intro v' w1 hown hgrow hne
  obtain ⟨g, cap, rfl⟩ := od.own_form hown hne
  have HB := Lib.hid ((bl_al (Below.refl _ _) _).grown hgrow (by simp) (fun j hj => by simp [Value.ownBlock] at hj; omega) : Below X.heap.size X w1)
  have HO := Lib.hid hown
  clear hgrow hown hne ho HNs
  have HP : Hid (od.Own w.heap.size g n cap x w w1) := by
    have := HOf.out w1 g cap (by rw [HN.out]; simpa using HO.out) HB.out
    rw [HN.out] at this
    exact od_own_down this BA.out
  have hcap := HP.out.cap
  obtain ⟨c0, c1, c2, c3, c4, c5⟩ := HC0.out w1 HB.out
  have hne : b ≠ g := by have := HP.out.2.1; omega
  have HIx := Lib.hid (fun (W : World) (h : Below w.heap.size w W) j (hj : j < n) => (h.cell (p := ⟨b, o + j, none⟩) hb).trans (HI.out j hj))
  have b1 : (0 : Int) ≤ (p : Int) := by omega
  have b2 : (p : Int) < (n : Int) := by omega
  have b3 : (0 : Int) ≤ (q : Int) := by omega
  have b4 : (q : Int) < (n : Int) := by omega
  have g6 : p ≠ q := by omega
  clear HOf HC0 HB HO q0 HQ HI
  by_cases h3 : K = 3
  · subst h3
    have HT := Lib.hid (HTk.out rfl)
    have H0 : Hid (od.Own w.heap.size g n cap (rvt x p q 0) w w1) := by show od.Own _ _ _ _ _ _ _; rw [HR0.out]; exact HP.out
    clear HP HCk HTk HR0
    go_wp2
    go_loopw [10] (fun i wr => ∃ t : Nat, p + t ≤ q + 1 ∧ i = .int .i64 ((p : Int) + (t : Int)) ∧ Hid (od.Own w.heap.size g n cap (rvt x p q t) w wr)) (fun i _ => q + 1 - (intOf i).toNat)
    case atStart => exact ⟨0, by omega, by simp, H0⟩
    case round =>
      clear H0 c0 c1 c2 c3 c4 c5
      obtain ⟨t, ht, rfl, HW⟩ := hrel
      by_cases hlt : p + t ≤ q
      · obtain ⟨s, hs⟩ : ∃ s : Nat, s = q - t := ⟨_, rfl⟩
        have hsi : (p : Int) + (q : Int) - ((p : Int) + (t : Int)) = (s : Int) := by omega
        have hsn : s < n := by omega
        have k1 := HIx.out wr HW.out.2.2.2 s hsn
        have fz := HW.out.frozen (p + t)
        have k2 := HW.out.cell (p + t) (by omega)
        have HN2 : Hid (od.Own w.heap.size g n cap (rvt x p q (t + 1)) w (wr.setCell ⟨g, p + t, none⟩ (.int .i64 (od.nth x s)))) := by
          show od.Own _ _ _ _ _ _ _
          rw [HRs.out t, ← hs]; exact HW.out.set (p + t) _
        have d1 : (p : Int) + (t : Int) ≤ (q : Int) := by omega
        have d2 : (0 : Int) ≤ (p : Int) + (t : Int) := by omega
        have d3 : (p : Int) + (t : Int) < (n : Int) := by omega
        have d4 : (0 : Int) ≤ (s : Int) := by omega
        have d5 : (s : Int) < (n : Int) := by omega
        have d6 : ((p : Int) + (t : Int)).toNat = p + t := by omega
        clear hs HW
        generalize od.nth x s = y at *
        generalize od.nth (rvt x p q t) (p + t) = z at *
        go_wp2
        go_roundw
        case rel => exact ⟨t + 1, by omega, by simp; omega, HN2⟩
        case measure => simp [intOf]; omega
      · have d1 : ¬ (p : Int) + (t : Int) ≤ (q : Int) := by omega
        have et : q + 1 - p = t := by omega
        have HF : Hid (od.Own w.heap.size g n cap (chg 3 x p q) w wr) := by show od.Own _ _ _ _ _ _ _; rw [← HT.out, et]; exact HW.out
        clear HW HT et
        go_wp2
        first
          | exact ⟨g, cap, rfl, HF.out⟩
          | (go_at_K; go_wp2; first | exact ⟨g, cap, rfl, HF.out⟩ | (go_ret; exact ⟨g, cap, rfl, HF.out⟩))
          | (go_ret; exact ⟨g, cap, rfl, HF.out⟩)
  · have h3' : (K != 3) = true := by simpa using h3
    have k1 := HIx.out w1 HP.out.2.2.2 p (by omega)
    have k2 := HIx.out w1 HP.out.2.2.2 q (by omega)
    have e1 := HP.out.cell p (by omega)
    have e2 := HP.out.cell q (by omega)
    have f1 := HP.out.frozen p
    have f2 := HP.out.frozen q
    have HF : Hid (od.Own w.heap.size g n cap (chg K x p q) w ((w1.setCell ⟨g, p, none⟩ (.int .i64 (od.nth x q))).setCell ⟨g, q, none⟩ (.int .i64 (od.nth x p)))) := by
      show od.Own _ _ _ _ _ _ _
      rw [← HCk.out h3]; exact HP.out.sw p q
    clear HP HCk HTk h3
    generalize od.nth x q = y at *
    generalize od.nth x p = z at *
    go_wp2
    go_region
    all_goals
      go_wp2
      first
        | exact ⟨g, cap, rfl, HF.out.keep (od.bl_drew _)⟩
        | (go_ret; exact ⟨g, cap, rfl, HF.out.keep (od.bl_drew _)⟩)
end Go.Proofs.Ytaobaiifbmhegaa
