/-
  greedy: rounds, and Better.
-/
import Derived.Test.YtaobaiifbmhegaaGt
namespace Go.Proofs.Ytaobaiifbmhegaa
open Go.RowKit
set_option linter.unusedVariables false
theorem round_any (f : List Int → Int × Int) (B gS gx n cap : Nat) (K N C : Int) (v3 v4 v5 : Value) (w0 : World) (hn : n ≤ 1000) (h1 : 1 ≤ n) (HT : TryP f B gS gx n cap K N C v3 v4 v5 w0) : RndP f B gS gx n cap K N C v3 v4 v5 w0 := fun W p hW => by
  refine round_core f B gS gx n cap K N C v3 v4 v5 w0 hn h1 (fro K) p W hW (Lib.hid HT) _ (K == 3) rfl (by unfold fro; by_cases h : K = 3 <;> simp [h]) (Lib.hid fun W' h => ?_)
  rw [rnd_def]
  exact ⟨rfl, h⟩
def RunP (f : List Int → Int × Int) (B gS gx n cap : Nat) (K N C : Int) (v3 v4 v5 : Value) (w0 : World) : Prop :=
  ∀ (W : World) (p : List Int × Int), Sr B gS gx n cap K N C v3 v4 v5 p.1 p.2 w0 W → Calls Try.prog 39 #[.pointer (some ⟨gS, 0, none⟩)] W
    fun e w' => e = .returned (.tuple #[]) ∧ Sr B gS gx n cap K N C v3 v4 v5 (runR f K n 50 p).1 (runR f K n 50 p).2 w0 w'
set_option maxRecDepth 100000 in
set_option maxHeartbeats 4000000 in
theorem run_any (f : List Int → Int × Int) (B gS gx n cap : Nat) (K N C : Int) (v3 v4 v5 : Value) (w0 : World) (hR : RndP f B gS gx n cap K N C v3 v4 v5 w0) : RunP f B gS gx n cap K N C v3 v4 v5 w0 := fun W p hW => by
  have HR := Lib.hid hR
  have H0 := Lib.hid hW
  clear hR hW
  have HZ := Lib.hid (run_zero f K n)
  have HOn := Lib.hid (fun q k (h : (rndR f K n q).2 < q.2) => run_on (f := f) (K := K) (n := n) (p := q) k h)
  have HEn := Lib.hid (fun q k (h : ¬ (rndR f K n q).2 < q.2) => run_end (f := f) (K := K) (n := n) (p := q) k h)
  go_enter Try.func39, Try.ntmps39
  go_wp2
  go_loopw [2] (fun i wr => ∃ (k : Nat) (q : List Int × Int), k ≤ 50 ∧ i = .int .i64 k ∧ Hid (runR f K n (50 - k) q = runR f K n 50 p) ∧ Hid (Sr B gS gx n cap K N C v3 v4 v5 q.1 q.2 w0 wr)) (fun i _ => 50 - (intOf i).toNat)
  case atStart => exact ⟨0, p, by omega, rfl, rfl, H0⟩
  case round =>
    clear H0
    obtain ⟨k, q, hk, rfl, HE, HP⟩ := hrel
    by_cases hlt : k < 50
    · have q1 : (k : Int) < 50 := by omega
      have RR := Lib.hid (HR.out wr q HP.out)
      obtain ⟨m, hm⟩ : ∃ m, m = 49 - k := ⟨_, rfl⟩
      have e50 : 50 - k = m + 1 := by omega
      have m1 : 50 - (k + 1) = m := by omega
      rw [e50] at HE
      have HM := Lib.hid m1
      clear HP e50 hm
      by_cases c : (rndR f K n q).2 < q.2
      · have HE2 : Hid (runR f K n m (rndR f K n q) = runR f K n 50 p) := by show _ = _; rw [← HOn.out q m c]; exact HE.out
        rw [decide_eq_true c] at RR
        clear HE c
        generalize rndR f K n q = q' at *
        go_wp2_with fail
        refine RR.out.mono ?_; rintro e w2 ⟨rfl, h2⟩
        have H2 := Lib.hid h2
        clear h2 RR
        go_wp2
        go_roundw
        case rel => exact ⟨k + 1, q', by omega, by go_num, by rw [HM.out]; exact HE2, H2⟩
        case measure => simp [intOf]; omega
      · have HE2 : Hid (rndR f K n q = runR f K n 50 p) := by show _ = _; rw [← HEn.out q m (by omega)]; exact HE.out
        rw [decide_eq_false c] at RR
        clear HE c
        go_wp2_with fail
        refine RR.out.mono ?_; rintro e w2 ⟨rfl, h2⟩
        rw [HE2.out] at h2
        have H2 := Lib.hid h2
        clear h2 RR
        go_wp2
        refine bodyPost_ret (results_none rfl _ _ _) rfl ?_
        exact ⟨rfl, H2.out⟩
    · obtain rfl : k = 50 := by omega
      have HE2 : Hid (q = runR f K n 50 p) := by have := HE.out; rw [Nat.sub_self, HZ.out q] at this; exact this
      have HF : Hid (Sr B gS gx n cap K N C v3 v4 v5 (runR f K n 50 p).1 (runR f K n 50 p).2 w0 wr) := by show Sr _ _ _ _ _ _ _ _ _ _ _ _ _ _ _; rw [← HE2.out]; exact HP.out
      clear HP HE HE2
      go_wp2
      go_end0
      exact ⟨rfl, HF.out⟩
/-- what Better leaves -/
def BtP (K N C : Int) (wl vl : List Int) (cl : List (List Int)) (x : List Int) (w : World) (e : Ending) (w' : World) : Prop :=
  ((costR K N C wl vl cl x).2 ≠ 0 ∧ e = .returned (.tuple #[.slice none 0 0, .int .i64 (costR K N C wl vl cl x).2]) ∧ Below w.heap.size w w') ∨
  ((costR K N C wl vl cl x).2 = 0 ∧ ∃ g cap, e = .returned (.tuple #[.slice (some ⟨g, 0, none⟩) x.length cap, .int .i64 0]) ∧ od.Own w.heap.size g x.length cap (runR (costR K N C wl vl cl) K x.length 50 (x, (costR K N C wl vl cl x).1)).1 w w')
/-- a search that begins, run -/
theorem run_prob (K N C : Int) (wl vl : List Int) (cl : List (List Int)) (wa va ca : Option Addr) (wc vc cc : Nat) (w : World) (h : Prob w wl vl cl wa va ca) (gS gx n cap : Nat) (hn : n ≤ 64) (h1 : 1 ≤ n) (W : World) (p : List Int × Int)
    (hS : Sr w.heap.size gS gx n cap K N C (.slice wa wl.length wc) (.slice va vl.length vc) (.slice ca cl.length cc) p.1 p.2 w W) :
    Calls Try.prog 39 #[.pointer (some ⟨gS, 0, none⟩)] W
      fun e w' => e = .returned (.tuple #[]) ∧ Sr w.heap.size gS gx n cap K N C (.slice wa wl.length wc) (.slice va vl.length vc) (.slice ca cl.length cc) (runR (costR K N C wl vl cl) K n 50 p).1 (runR (costR K N C wl vl cl) K n 50 p).2 w w' := by
  refine run_any (costR K N C wl vl cl) w.heap.size gS gx n cap K N C _ _ _ w (round_any _ _ _ _ _ _ _ _ _ _ _ _ _ (by omega) h1 (try_any _ _ _ _ _ _ _ _ _ _ _ _ _ (by omega) ?_)) W p hS
  intro W' y c hy
  have := cost_any K N C wl vl cl y wa va ca (some ⟨gx, 0, none⟩) wc vc cc cap W' (h.keep hy.bel) hy.ints (by rw [hy.own.1]; omega)
  rw [hy.own.1] at this
  exact this
end Go.Proofs.Ytaobaiifbmhegaa
