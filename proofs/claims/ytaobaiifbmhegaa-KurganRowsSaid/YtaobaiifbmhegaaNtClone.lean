/-
  What slices.Clone and slices.Reverse leave.
-/
import Derived.Test.YtaobaiifbmhegaaNtIs2
import Derived.BigRegion
import Derived.Lib.SliceRun
namespace Go.Proofs.Ytaobaiifbmhegaa.nt
open Go.RowKit
set_option linter.unusedVariables false

theorem Own.cap {B g n cap : Nat} {l : List Int} {w0 wr : World} (h : Own B g n cap l w0 wr) : n ≤ cap ∧ cap ≤ 9223372036854775807 := by
  rcases h.2.2.1.2 with ⟨h', _⟩ | ⟨g', cap', cur, h', _, hg, h1, h2, _⟩
  · cases h'
  · injection h' with _ _ h'
    subst h'
    exact ⟨h1, by unfold maxLen at h2; exact h2⟩
theorem own_form {w : World} {base : Nat} {e : TypeId} {v : Value} {n : Nat} {xs : List Value} (h : w.ownsRow base e 1 v n xs) (hne : ¬ v = .slice none 0 0) : ∃ g cap, v = .slice (some ⟨g, 0, none⟩) n cap := by
  rcases h.2 with ⟨h', _⟩ | ⟨g, cap, cur, hv, _⟩
  · exact absurd h' hne
  · exact ⟨g, cap, hv⟩
theorem own0 (w : World) : (w.alloc (.cells #[] 3)).ownsRow w.heap.size 3 1 (.slice (some ⟨w.heap.size, 0, none⟩) 0 0) 0 [] := World.ownsRow_lit w #[] 0 (Nat.le_refl _) (by decide) (by decide)
theorem app_src {X : World} {b o : Nat} {l : List Int} (hb : b < X.heap.size) (hc : ∀ j, j < l.length → X.cell? ⟨b, o + j, none⟩ = some (.int .i64 (nth l j))) : ∀ j u, (l.map (Value.int .i64))[j]? = some u → (X.alloc (.cells #[] 3)).cell? ((⟨b, o, none⟩ : Addr).add j) = some u := fun j u hj => by
  rw [List.getElem?_map] at hj
  have hlt : j < l.length := by
    rcases Nat.lt_or_ge j l.length with h | h
    · exact h
    · rw [List.getElem?_eq_none h] at hj; cases hj
  have h := (((Below.refl _ X).alloc (Nat.le_refl _) (.cells #[] 3)).cell (p := ⟨b, o + j, none⟩) hb).trans (hc j hlt)
  rw [nth_at l j hlt] at h
  rw [List.getElem?_eq_getElem hlt] at hj
  simp at hj
  rw [← hj]
  have e : (⟨b, o, none⟩ : Addr).add j = ⟨b, o + j, none⟩ := by
    unfold Addr.add
    split <;> simp_all
  rw [e]
  exact h
theorem own_of {w w1 : World} {g cap : Nat} {l : List Int} (hown : w1.ownsRow w.heap.size 3 1 (.slice (some ⟨g, 0, none⟩) l.length cap) l.length (l.map (Value.int .i64))) (hb : Below w.heap.size w w1) : Own w.heap.size g l.length cap l w w1 :=
  ⟨rfl, (hown.lt g rfl).1, hown, hb⟩
set_option maxHeartbeats 1000000 in
theorem clone_any (l : List Int) (b o c : Nat) (hl : l.length ≤ c) (hl2 : l.length ≤ 1000) (hc63 : c ≤ 9223372036854775807) (w : World) (hb : b < w.heap.size) (hI : ∀ j, j < l.length → w.cell? ⟨b, o + j, none⟩ = some (.int .i64 (nth l j))) :
    Calls Try.prog 38 #[.slice (some ⟨b, o, none⟩) l.length c] w fun e w' => ∃ g cap, e = .returned (.slice (some ⟨g, 0, none⟩) l.length cap) ∧ Own w.heap.size g l.length cap l w w' := by
  obtain ⟨i0, hi, hz0, hz1, hz2⟩ := info_parts info3
  have ho := own0 w
  have HNs := Lib.hid (app_src hb hI)
  have HOf := Lib.hid (fun (w1 : World) (g cap : Nat) h1 h2 => own_of (w := w) (w1 := w1) (g := g) (cap := cap) (l := l) h1 h2)
  clear hI
  generalize hn : l.length = n at *
  have HN := Lib.hid hn
  have hnil : ∀ W, (binOp .eql 22 (.slice (some ⟨b, o, none⟩) n c) (.slice none 0 0)).run Try.prog W = .ok (.bool false) W := fun W => Lib.run_eql_slice_nil W _ _ (some ⟨b, o, none⟩) n c 0 0 Try.underlying22
  clear hn
  go_enter Try.func38, Try.ntmps38
  go_wp2_with (at_builtin; refine wpList_append_own _ rfl _ _ 22 rfl w.heap.size 3 i0 (.int .i64 0) 1 8 Try.underlying22 hi hz0 hz1 hz2 rfl (by decide) _ _ _ rfl ho ⟨b, o, none⟩ _ c (l.map (Value.int .i64)) rfl (by simp [HN.out]) HNs.out (by simp [Value.oneCell']) (by unfold maxLen; omega) (by omega) (by simp) ?_)
  intro v' w1 hown hgrow hne
  obtain ⟨g, cap, rfl⟩ := own_form hown hne
  have HB := Lib.hid ((bl_al (Below.refl _ _) _).grown hgrow (by simp) (fun j hj => by simp [Value.ownBlock] at hj; omega) : Below w.heap.size w w1)
  have HO := Lib.hid hown
  clear hgrow hown hne ho HNs
  go_wp2
  go_ret
  exact ⟨g, _, rfl, HOf.out w1 g _ (by simpa using HO.out) HB.out⟩
/-! Reverse -/
def sw (l : List Int) (i j : Nat) : List Int := (l.set i (nth l j)).set j (nth l i)
theorem sw_len (l : List Int) (i j : Nat) : (sw l i j).length = l.length := by unfold sw; simp
theorem Own.sw {B g n cap : Nat} {l : List Int} {w0 wr : World} (h : Own B g n cap l w0 wr) (i j : Nat) : Own B g n cap (sw l i j) w0 ((wr.setCell ⟨g, i, none⟩ (.int .i64 (nth l j))).setCell ⟨g, j, none⟩ (.int .i64 (nth l i))) :=
  (h.set i (nth l j)).set j (nth l i)
attribute [irreducible] sw
/-- the numbers from k on, m of them, turned round: t exchanges -/
def rv (l : List Int) (k m : Nat) : Nat → List Int
  | 0 => l
  | t + 1 => sw (rv l k m t) (k + t) (k + (m - 1 - t))
theorem rv_zero (l : List Int) (k m : Nat) : rv l k m 0 = l := rfl
theorem rv_succ (l : List Int) (k m t : Nat) : rv l k m (t + 1) = sw (rv l k m t) (k + t) (k + (m - 1 - t)) := rfl
theorem rv_len (l : List Int) (k m : Nat) : ∀ t, (rv l k m t).length = l.length
  | 0 => rfl
  | t + 1 => by rw [rv_succ, sw_len, rv_len l k m t]
attribute [irreducible] rv
set_option maxRecDepth 100000 in
set_option maxHeartbeats 4000000 in
theorem reverse_any (B g n cap : Nat) (l : List Int) (w0 : World) (k m c : Nat) (hm : k + m ≤ n) (hm1 : 1 ≤ m) (hn : n ≤ 1000) (hc : m ≤ c) (w : World) (ho : Own B g n cap l w0 w) :
    Calls Try.prog 99 #[.slice (some ⟨g, k, none⟩) m c] w fun e w' => e = .returned (.tuple #[]) ∧ Own B g n cap (rv l k m (m / 2)) w0 w' := by
  have HO := Lib.hid ho
  have H0 := Lib.hid (rv_zero l k m)
  have HS := Lib.hid (rv_succ l k m)
  clear ho
  have HO0 : Hid (Own B g n cap (rv l k m 0) w0 w) := by show Own _ _ _ _ _ _ _; rw [H0.out]; exact HO.out
  clear HO H0
  go_enter Try.func99, Try.ntmps99
  go_wp2
  go_loopw [2, 3] (fun i j wr => ∃ t : Nat, t ≤ m / 2 ∧ i = .int .i64 t ∧ j = .int .i64 ((m : Int) - 1 - t) ∧ Hid (Own B g n cap (rv l k m t) w0 wr)) (fun i _ _ => m - (intOf i).toNat)
  case atStart => exact ⟨0, by omega, rfl, by simp, HO0⟩
  case round =>
    clear HO0
    obtain ⟨t, ht, rfl, rfl, HP⟩ := hrel
    by_cases hlt : t < m / 2
    · obtain ⟨s, hs⟩ : ∃ s : Nat, s = m - 1 - t := ⟨_, rfl⟩
      have hsi : (m : Int) - 1 - t = (s : Int) := by omega
      have hst : t < s := by omega
      have hsm : s < m := by omega
      rw [hsi]
      have e1 := HP.out.cell (k + t) (by omega)
      have e2 := HP.out.cell (k + s) (by omega)
      have f1 := HP.out.frozen (k + t)
      have f2 := HP.out.frozen (k + s)
      have HN : Hid (∀ W, Own B g n cap (rv l k m t) w0 W → Own B g n cap (rv l k m (t + 1)) w0 ((W.setCell ⟨g, k + t, none⟩ (.int .i64 (nth (rv l k m t) (k + s)))).setCell ⟨g, k + s, none⟩ (.int .i64 (nth (rv l k m t) (k + t))))) := fun W h => by
        rw [HS.out t, ← hs]; exact h.sw (k + t) (k + s)
      have hsn : (m : Int) - 1 - ((t + 1 : Nat) : Int) = (s : Int) - 1 := by omega
      have HSn := Lib.hid hsn
      have g1 : (0 : Int) ≤ (t : Int) := by omega
      have g2 : (t : Int) < (m : Int) := by omega
      have g3 : (0 : Int) ≤ (s : Int) := by omega
      have g4 : (s : Int) < (m : Int) := by omega
      have g5 : (t : Int) < (s : Int) := by omega
      have g6 : k + t ≠ k + s := by omega
      clear hs hsi hsn
      generalize nth (rv l k m t) (k + s) = y at *
      generalize nth (rv l k m t) (k + t) = x at *
      go_wp2
      go_region
      all_goals
        go_wp2
        go_roundw
        case rel => exact ⟨t + 1, by omega, by go_num, by rw [HSn.out], (HN.out _ HP.out).keep (bl_drew _)⟩
        case measure => simp [intOf]; omega
    · have hte : t = m / 2 := by omega
      have h1 : ¬ (t : Int) < (m : Int) - 1 - t := by omega
      have HPe : Hid (Own B g n cap (rv l k m (m / 2)) w0 wr) := by rw [← hte]; exact HP
      clear hte HP
      go_wp2
      go_end0
      exact ⟨rfl, HPe.out⟩
end Go.Proofs.Ytaobaiifbmhegaa.nt
