/-
  knap: the law's cut.
-/
import Derived.Test.YteoionlnnjcggaaSt4
namespace Go.Proofs.Yteoionlnnjcggaa.kn
open Go.RowKit
set_option linter.unusedVariables false
theorem pcut_nil (w : World) :
    Calls Try.prog 18 #[.slice none 0 0] w fun e w' => ∃ g cap, e = .returned (.slice (some ⟨g, 0, none⟩) 0 cap) ∧ Below w.heap.size w w' ∧ w'.ownsRow w.heap.size 3 1 (.slice (some ⟨g, 0, none⟩) 0 cap) 0 [] := by
  go_enter Try.func18, Try.ntmps18
  go_wp2
  go_ret
  exact ⟨_, _, rfl, bl_al (Below.refl _ _) _, own0 w⟩
set_option maxHeartbeats 1000000 in
theorem pcut_zero (x : Addr) (c : Nat) (w : World) (hc63 : c ≤ 9223372036854775807) :
    Calls Try.prog 18 #[.slice (some x) 0 c] w fun e w' => ∃ g cap, e = .returned (.slice (some ⟨g, 0, none⟩) 0 cap) ∧ Below w.heap.size w w' ∧ w'.ownsRow w.heap.size 3 1 (.slice (some ⟨g, 0, none⟩) 0 cap) 0 [] := by
  obtain ⟨i0, hi, hz0, hz1, hz2⟩ := info_parts info3
  have ho := own0 w
  go_enter Try.func18, Try.ntmps18
  go_wp2_with (at_builtin; refine wpList_append_own _ rfl _ _ 22 rfl w.heap.size 3 i0 (.int .i64 0) 1 8 Try.underlying22 hi hz0 hz1 hz2 rfl (by decide) _ _ _ rfl ho x 0 c [] rfl rfl (fun j u h => by simp at h) (by simp) (by decide) (by decide) (by simp) ?_)
  intro v' w1 hown hgrow hne
  obtain ⟨g, cap, rfl⟩ := own_form hown (by simpa using hne)
  have hb : Below w.heap.size w w1 := (bl_al (Below.refl _ _) _).grown hgrow (by simp) (fun j hj => by simp [Value.ownBlock] at hj; omega)
  clear hgrow
  go_wp2
  go_ret
  exact ⟨g, cap, rfl, hb, hown⟩
set_option maxHeartbeats 1000000 in
theorem pcut_some (b o n c m : Nat) (l : List Int) (w : World) (hm : l.length = m) (hn : (n ≤ 70 ∧ m = n) ∨ (70 < n ∧ m = 70)) (hnc : n ≤ c) (hc63 : c ≤ 9223372036854775807) (hbw : b < w.heap.size) (hI : ∀ j, j < l.length → w.cell? ⟨b, o + j, none⟩ = some (.int .i64 (l[j]?.getD 0))) :
    Calls Try.prog 18 #[.slice (some ⟨b, o, none⟩) n c] w fun e w' => ∃ g cap, e = .returned (.slice (some ⟨g, 0, none⟩) m cap) ∧ Below w.heap.size w w' ∧ w'.ownsRow w.heap.size 3 1 (.slice (some ⟨g, 0, none⟩) m cap) m (l.map (Value.int .i64)) := by
  obtain ⟨i0, hi, hz0, hz1, hz2⟩ := info_parts info3
  have ho := own0 w
  have HN : ∀ j u, (l.map (Value.int .i64))[j]? = some u → (w.alloc (.cells #[] 3)).cell? ((⟨b, o, none⟩ : Addr).add j) = some u := fun j u hj => by
    rw [List.getElem?_map] at hj
    have hlt : j < l.length := by
      rcases Nat.lt_or_ge j l.length with h | h
      · exact h
      · rw [List.getElem?_eq_none h] at hj; cases hj
    have h := (((Below.refl _ w).alloc (Nat.le_refl _) (.cells #[] 3)).cell (p := ⟨b, o + j, none⟩) hbw).trans (hI j hlt)
    rw [List.getElem?_eq_getElem hlt] at hj h
    simp at hj
    rw [← hj]
    simp only [Option.getD_some] at h
    have e : (⟨b, o, none⟩ : Addr).add j = ⟨b, o + j, none⟩ := by
      unfold Addr.add
      split <;> simp_all
    rw [e]
    exact h
  have HNh := Lib.hid HN
  clear HN hI
  have hl70 : m ≤ 70 := by omega
  have hlc : m ≤ c := by omega
  rcases hn with ⟨h70, rfl⟩ | ⟨h70, rfl⟩
  all_goals
    go_enter Try.func18, Try.ntmps18
    go_wp2_with (at_builtin; refine wpList_append_own _ rfl _ _ 22 rfl w.heap.size 3 i0 (.int .i64 0) 1 8 Try.underlying22 hi hz0 hz1 hz2 rfl (by decide) _ _ _ rfl ho ⟨b, o, none⟩ _ c (l.map (Value.int .i64)) rfl (by simp [hm]) HNh.out (by simp [Value.oneCell']) (by unfold maxLen; omega) (by omega) (by simp) ?_)
  all_goals
    intro v' w1 hown hgrow hne
    obtain ⟨g, cap, rfl⟩ := own_form hown hne
    have hb : Below w.heap.size w w1 := (bl_al (Below.refl _ _) _).grown hgrow (by simp) (fun j hj => by simp [Value.ownBlock] at hj; omega)
    clear hgrow
    go_wp2
    go_ret
    exact ⟨g, cap, rfl, hb, hown⟩

theorem pcut_src {W : World} {a : Option Addr} {n c : Nat} {l : List Int} (h : Src W a n c l) :
    Calls Try.prog 18 #[.slice a n c] W fun e w' => ∃ g cap, e = .returned (.slice (some ⟨g, 0, none⟩) l.length cap) ∧ Below W.heap.size W w' ∧ w'.ownsRow W.heap.size 3 1 (.slice (some ⟨g, 0, none⟩) l.length cap) l.length (l.map (Value.int .i64)) := by
  obtain ⟨h1, h2, h3, h4⟩ := h
  rcases h4 with ⟨rfl, ha⟩ | ⟨b, o, rfl, hlt, hc⟩
  · have hl : l = [] := List.length_eq_zero_iff.mp (by rw [h1]; simp)
    subst hl
    cases a with
    | none => have := ha rfl; subst this; exact pcut_nil W
    | some x => exact pcut_zero x c W h3
  · exact pcut_some b o n c l.length l W rfl (by omega) h2 h3 hlt hc
/-- what is cut is a list that may be cut -/
theorem src_of {B g cap : Nat} {l : List Int} {w : World} (h : w.ownsRow B 3 1 (.slice (some ⟨g, 0, none⟩) l.length cap) l.length (l.map (Value.int .i64))) (hl : l.length ≤ 70) : Src w (some ⟨g, 0, none⟩) l.length cap l := by
  have q := Ol.ls (B := B) h
  have hc : l.length ≤ cap ∧ cap ≤ 9223372036854775807 ∧ g < w.heap.size := by
    rcases h.2 with ⟨h', _⟩ | ⟨g', cap', cur, h', _, hg, h1, h2, _⟩
    · cases h'
    · injection h' with h0 _ h'
      injection h0 with h0
      injection h0 with h0 _ _
      subst h' h0
      exact ⟨by omega, by unfold maxLen at *; omega, lt_hp hg⟩
  refine ⟨by omega, hc.1, hc.2.1, .inr ⟨g, 0, rfl, hc.2.2, fun j hj => ?_⟩⟩
  obtain ⟨g1, o1, e, m⟩ := q.at_ j hj
  injection e with e
  injection e with e1 e2
  subst e1 e2
  exact m
end Go.Proofs.Yteoionlnnjcggaa.kn
