/-
  What slices.Reverse and slices.Clone leave: no other block turns.
-/
import Derived.Test.YtaobaiifbmhegaaOdAll
namespace Go.Proofs.Ytaobaiifbmhegaa.od
open Go.RowKit
set_option linter.unusedVariables false
/-- no block but one has turned -/
structure Aside (g : Nat) (w w' : World) : Prop where
  os : w'.os = w.os
  tape : w'.tape = w.tape
  output : w'.output = w.output
  size : w.heap.size ≤ w'.heap.size
  block : ∀ k, k < w.heap.size → k ≠ g → w'.heap[k]? = w.heap[k]?
theorem Aside.refl (g : Nat) (w : World) : Aside g w w := ⟨rfl, rfl, rfl, Nat.le_refl _, fun _ _ _ => rfl⟩
theorem Aside.st {g : Nat} {w w1 : World} (h : Aside g w w1) (j : Nat) (v : Value) : Aside g w (w1.setCell ⟨g, j, none⟩ v) :=
  ⟨h.os, h.tape, h.output, by simpa [World.setCell] using h.size, fun k hk hn => (Below.heap_setCell w1 ⟨g, j, none⟩ v k hn).trans (h.block k hk hn)⟩
theorem Aside.trans {g : Nat} {w w1 w2 : World} (h : Aside g w w1) (k : Aside g w1 w2) : Aside g w w2 :=
  ⟨k.os.trans h.os, k.tape.trans h.tape, k.output.trans h.output, Nat.le_trans h.size k.size, fun i hi hn => (k.block i (Nat.lt_of_lt_of_le hi h.size) hn).trans (h.block i hi hn)⟩
theorem Aside.dr {g : Nat} {w w1 : World} (h : Aside g w w1) : Aside g w w1.drew := ⟨h.os, h.tape, h.output, h.size, h.block⟩
theorem Own.aside {B g n cap : Nat} {l : List Int} {w0 wr : World} (h : Own B g n cap l w0 wr) (g2 j : Nat) (v : Value) (hne : g2 ≠ g) (hB : B ≤ g2) : Own B g n cap l w0 (wr.setCell ⟨g2, j, none⟩ v) := by
  obtain ⟨h1, h2, h3, h4⟩ := h
  refine ⟨h1, h2, ?_, h4.setCell (p := ⟨g2, j, none⟩) hB _⟩
  obtain ⟨a1, a2⟩ := h3
  refine ⟨a1, ?_⟩
  rcases a2 with hn | ⟨g', cap', cur', hv, hg', hh, r⟩
  · exact Or.inl hn
  · refine Or.inr ⟨g', cap', cur', hv, hg', ?_, r⟩
    injection hv with hv _ _
    injection hv with hv
    injection hv with hv
    subst hv
    exact (Below.heap_setCell wr ⟨g2, j, none⟩ v g (by simpa using fun h => hne h.symm)).trans hh
theorem Own.same {B g n cap : Nat} {l : List Int} {w0 wr w1 : World} (h : Own B g n cap l w0 wr) (hk : w1.heap[g]? = wr.heap[g]?) (hb : Below B w0 w1) : Own B g n cap l w0 w1 := by
  obtain ⟨h1, h2, h3, h4⟩ := h
  refine ⟨h1, h2, ?_, hb⟩
  obtain ⟨a1, a2⟩ := h3
  refine ⟨a1, ?_⟩
  rcases a2 with hn | ⟨g', cap', cur', hv, hg', hh, r⟩
  · exact Or.inl hn
  · refine Or.inr ⟨g', cap', cur', hv, hg', ?_, r⟩
    injection hv with hv _ _
    injection hv with hv
    injection hv with hv
    subst hv
    exact hk.trans hh
theorem Own.down {B0 g n cap : Nat} {l : List Int} {w0 w1 w2 : World} (h : Own w1.heap.size g n cap l w1 w2) (hb : Below B0 w0 w1) (hB : B0 ≤ w1.heap.size) : Own B0 g n cap l w0 w2 :=
  ⟨h.1, Nat.le_trans hB h.2.1, ⟨h.2.2.1.1, by
    rcases h.2.2.1.2 with hn | ⟨g', cap', cur', hv, hg', r⟩
    · exact Or.inl hn
    · exact Or.inr ⟨g', cap', cur', hv, Nat.le_trans hB hg', r⟩⟩, hb.trans (h.2.2.2.mono hB)⟩
theorem asd_drew {B g n cap : Nat} {l : List Int} {w0 w W : World} (h : Own B g n cap l w0 W ∧ Aside g w W) : Own B g n cap l w0 W.drew ∧ Aside g w W.drew := ⟨h.1.keep (bl_drew _), h.2.dr⟩
set_option maxHeartbeats 1000000 in
theorem clone_any (l : List Int) (b o c : Nat) (hl : l.length ≤ c) (hl2 : l.length ≤ 1000) (hc63 : c ≤ 9223372036854775807) (w : World) (hb : b < w.heap.size) (hI : ∀ j, j < l.length → w.cell? ⟨b, o + j, none⟩ = some (.int .i64 (nth l j))) :
    Calls Try.prog 38 #[.slice (some ⟨b, o, none⟩) l.length c] w fun e w' => ∃ g cap, e = .returned (.slice (some ⟨g, 0, none⟩) l.length cap) ∧ Own w.heap.size g l.length cap l w w' := by
  obtain ⟨i0, hi, hz0, hz1, hz2⟩ := info_parts info3
  have ho := own0 w
  have HNs := Lib.hid (app_src hb hI)
  have HOf := Lib.hid (fun (w1 : World) (g cap : Nat) h1 h2 => own_of (w := w) (w1 := w1) (g := g) (cap := cap) (l := l) h1 h2)
  clear hI
  generalize hn : l.length = n at *
  have HN := Lib.hid hn
  have hnil : ∀ W, (binOp .eql 22 (.slice (some ⟨b, o, none⟩) n c) (.slice none 0 0)).run Try.prog W = .ok (.bool false) W := fun W => Lib.run_eql_slice_nil W _ _ (some ⟨b, o, none⟩) n c 0 0 Try.underlying22
  clear hn
  go_enter Try.func38, Try.ntmps38
  go_wp2_with (at_builtin; refine wpList_append_own _ rfl _ _ 22 rfl w.heap.size 3 i0 (.int .i64 0) 1 8 Try.underlying22 hi hz0 hz1 hz2 rfl (by decide) _ _ _ rfl ho ⟨b, o, none⟩ _ c (l.map (Value.int .i64)) rfl (by simp [HN.out]) HNs.out (by simp [Value.oneCell']) (by unfold maxLen; omega) (by omega) (by simp) ?_)
  intro v' w1 hown hgrow hne
  obtain ⟨g, cap, rfl⟩ := own_form hown hne
  have HB := Lib.hid ((bl_al (Below.refl _ _) _).grown hgrow (by simp) (fun j hj => by simp [Value.ownBlock] at hj; omega) : Below w.heap.size w w1)
  have HO := Lib.hid hown
  clear hgrow hown hne ho HNs
  go_wp2
  go_ret
  exact ⟨g, _, rfl, HOf.out w1 g _ (by simpa using HO.out) HB.out⟩
set_option maxRecDepth 100000 in
set_option maxHeartbeats 4000000 in
theorem reverse_all (B g n cap : Nat) (l : List Int) (w0 : World) (k m c : Nat) (hm : k + m ≤ n) (hm1 : 1 ≤ m) (hn : n ≤ 1000) (hc : m ≤ c) (w : World) (ho : Own B g n cap l w0 w) :
    Calls Try.prog 99 #[.slice (some ⟨g, k, none⟩) m c] w fun e w' => e = .returned (.tuple #[]) ∧ (Own B g n cap (rv l k m (m / 2)) w0 w' ∧ Aside g w w') := by
  have HO := Lib.hid ho
  have H0 := Lib.hid (rv_zero l k m)
  have HS := Lib.hid (rv_succ l k m)
  clear ho
  have HO0 : Hid (Own B g n cap (rv l k m 0) w0 w ∧ Aside g w w) := by show Own _ _ _ _ _ _ _ ∧ _; rw [H0.out]; exact ⟨HO.out, Aside.refl g w⟩
  clear HO H0
  go_enter Try.func99, Try.ntmps99
  go_wp2
  go_loopw [2, 3] (fun i j wr => ∃ t : Nat, t ≤ m / 2 ∧ i = .int .i64 t ∧ j = .int .i64 ((m : Int) - 1 - t) ∧ Hid (Own B g n cap (rv l k m t) w0 wr ∧ Aside g w wr)) (fun i _ _ => m - (intOf i).toNat)
  case atStart => exact ⟨0, by omega, rfl, by simp, HO0⟩
  case round =>
    clear HO0
    obtain ⟨t, ht, rfl, rfl, HP⟩ := hrel
    by_cases hlt : t < m / 2
    · obtain ⟨s, hs⟩ : ∃ s : Nat, s = m - 1 - t := ⟨_, rfl⟩
      have hsi : (m : Int) - 1 - t = (s : Int) := by omega
      have hst : t < s := by omega
      have hsm : s < m := by omega
      rw [hsi]
      have e1 := HP.out.1.cell (k + t) (by omega)
      have e2 := HP.out.1.cell (k + s) (by omega)
      have f1 := HP.out.1.frozen (k + t)
      have f2 := HP.out.1.frozen (k + s)
      have HN : Hid (∀ W, (Own B g n cap (rv l k m t) w0 W ∧ Aside g w W) → (Own B g n cap (rv l k m (t + 1)) w0 ((W.setCell ⟨g, k + t, none⟩ (.int .i64 (nth (rv l k m t) (k + s)))).setCell ⟨g, k + s, none⟩ (.int .i64 (nth (rv l k m t) (k + t)))) ∧ Aside g w ((W.setCell ⟨g, k + t, none⟩ (.int .i64 (nth (rv l k m t) (k + s)))).setCell ⟨g, k + s, none⟩ (.int .i64 (nth (rv l k m t) (k + t)))))) := fun W h => by
        rw [HS.out t, ← hs]; exact ⟨h.1.sw (k + t) (k + s), (h.2.st _ _).st _ _⟩
      have hsn : (m : Int) - 1 - ((t + 1 : Nat) : Int) = (s : Int) - 1 := by omega
      have HSn := Lib.hid hsn
      have g1 : (0 : Int) ≤ (t : Int) := by omega
      have g2 : (t : Int) < (m : Int) := by omega
      have g3 : (0 : Int) ≤ (s : Int) := by omega
      have g4 : (s : Int) < (m : Int) := by omega
      have g5 : (t : Int) < (s : Int) := by omega
      have g6 : k + t ≠ k + s := by omega
      clear hs hsi hsn
      generalize nth (rv l k m t) (k + s) = y at *
      generalize nth (rv l k m t) (k + t) = x at *
      go_wp2
      go_region
      all_goals
        go_wp2
        go_roundw
        case rel => exact ⟨t + 1, by omega, by go_num, by rw [HSn.out], asd_drew (HN.out _ HP.out)⟩
        case measure => simp [intOf]; omega
    · have hte : t = m / 2 := by omega
      have h1 : ¬ (t : Int) < (m : Int) - 1 - t := by omega
      have HPe : Hid (Own B g n cap (rv l k m (m / 2)) w0 wr ∧ Aside g w wr) := by rw [← hte]; exact HP
      clear hte HP
      go_wp2
      go_end0
      exact ⟨rfl, HPe.out⟩
end Go.Proofs.Ytaobaiifbmhegaa.od
