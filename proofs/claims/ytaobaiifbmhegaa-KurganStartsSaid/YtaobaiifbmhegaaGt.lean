/-
  greedy: one change tried, a round of them, rounds.
-/
import Derived.Test.YtaobaiifbmhegaaGs
namespace Go.Proofs.Ytaobaiifbmhegaa
open Go.RowKit
set_option linter.unusedVariables false
/-- what value.Cost answers of the search's answer -/
def CostP (f : List Int → Int × Int) (B gS gx n cap : Nat) (K N C : Int) (v3 v4 v5 : Value) (w0 : World) : Prop :=
  ∀ (W : World) (y : List Int) (c : Int), Sr B gS gx n cap K N C v3 v4 v5 y c w0 W → Calls Try.prog 25 #[.agg #[.int .i64 K, .int .i64 N, .int .i64 C, v3, v4, v5], .slice (some ⟨gx, 0, none⟩) n cap] W
    fun e w' => e = .returned (.tuple #[.int .i64 (f y).1, .int .i64 (f y).2]) ∧ Below W.heap.size W w'
def TryP (f : List Int → Int × Int) (B gS gx n cap : Nat) (K N C : Int) (v3 v4 v5 : Value) (w0 : World) : Prop :=
  ∀ (W : World) (p : List Int × Int) (a b : Nat), Sr B gS gx n cap K N C v3 v4 v5 p.1 p.2 w0 W → a < b → b < n → Calls Try.prog 75 #[.pointer (some ⟨gS, 0, none⟩), .int .i64 a, .int .i64 b] W
    fun e w' => e = .returned (.tuple #[]) ∧ Sr B gS gx n cap K N C v3 v4 v5 (tryR f K p a b).1 (tryR f K p a b).2 w0 w'
set_option maxRecDepth 100000 in
set_option maxHeartbeats 4000000 in
theorem try_any (f : List Int → Int × Int) (B gS gx n cap : Nat) (K N C : Int) (v3 v4 v5 : Value) (w0 : World) (hn : n ≤ 1000) (HC : CostP f B gS gx n cap K N C v3 v4 v5 w0) : TryP f B gS gx n cap K N C v3 v4 v5 w0 := by
  rintro w ⟨x, c⟩ a b h hab hb
  have h : Sr B gS gx n cap K N C v3 v4 v5 x c w0 w := h
  have HCh := Lib.hid (change_any B gS gx n cap K N C v3 v4 v5 x c w0 w h hn a b hab hb)
  have HCb : Hid (∀ W, Sr B gS gx n cap K N C v3 v4 v5 (chg K x a b) c w0 W → Calls Try.prog 88 #[.pointer (some ⟨gS, 0, none⟩), .int .i64 a, .int .i64 b] W fun e w' => e = .returned (.tuple #[]) ∧ Sr B gS gx n cap K N C v3 v4 v5 x c w0 w') := fun W hW => by
    have := change_any B gS gx n cap K N C v3 v4 v5 (chg K x a b) c w0 W hW hn a b hab hb
    rw [chg_back hab (by rw [h.own.1]; exact hb)] at this
    exact this
  have HCo := Lib.hid HC
  have HY : Hid ((f (chg K x a b)).2 = 0 → (f (chg K x a b)).1 < c → tryR f K (x, c) a b = (chg K x a b, (f (chg K x a b)).1)) := fun h1 h2 => try_yes (p := (x, c)) h1 h2
  have HNo : Hid ((f (chg K x a b)).2 ≠ 0 ∨ c ≤ (f (chg K x a b)).1 → tryR f K (x, c) a b = (x, c)) := fun h1 => try_no (p := (x, c)) h1
  have HF : Hid (∀ W, Sr B gS gx n cap K N C v3 v4 v5 (chg K x a b) c w0 W → Calls Try.prog 25 #[.agg #[.int .i64 K, .int .i64 N, .int .i64 C, v3, v4, v5], .slice (some ⟨gx, 0, none⟩) n cap] W
    fun e w' => e = .returned (.tuple #[.int .i64 (f (chg K x a b)).1, .int .i64 (f (chg K x a b)).2]) ∧ Below W.heap.size W w') := fun W hW => HC W _ c hW
  clear HC HCo h hn
  generalize tryR f K (x, c) a b = tr at *
  generalize (f (chg K x a b)) = fy at *
  obtain ⟨fc, fe⟩ := fy
  generalize chg K x a b = y at *
  simp only at HY HNo HF
  go_enter Try.func75, Try.ntmps75
  go_wp2_with fail
  refine HCh.out.mono ?_; rintro e w1 ⟨rfl, h1⟩
  have H1 := Lib.hid h1
  obtain ⟨c0, c1, c2, c3, c4, c5, c6, c7⟩ := h1.cells
  clear h1 HCh
  go_upto_region 1 with fail
  go_cut [6, 7] from 8 (fun v6 v7 wx => v6 = .int .i64 fc ∧ v7 = .int .i64 fe ∧ Hid (Sr B gS gx n cap K N C v3 v4 v5 y c w0 wx))
  case first =>
    go_region_with (go_at_call 25; refine (HF.out _ (H1.out.keep (od.bl_drew _))).mono ?_; rintro e w2 ⟨rfl, b2⟩)
    all_goals
      go_wp2_with fail
      go_meet
      exact ⟨rfl, rfl, (H1.out.keep (od.bl_drew _)).keep b2⟩
  case rest =>
  obtain ⟨rfl, rfl, H2⟩ := hcut
  clear c0 c1 c2 c3 c4 c5 c6 c7 H1 HF
  obtain ⟨c0, c1, c2, c3, c4, c5, c6, c7⟩ := H2.out.cells
  have fz := H2.out.froz 7
  by_cases q : fe = 0
  · subst q
    by_cases r : fc < c
    · have r' : ¬ c ≤ fc := by omega
      have e := HY.out rfl r
      have HE : Hid (Sr B gS gx n cap K N C v3 v4 v5 tr.1 tr.2 w0 (wc.setCell ⟨gS, 7, none⟩ (.int .i64 fc))) := by show Sr _ _ _ _ _ _ _ _ _ _ _ _ _ _ _; rw [e]; exact H2.out.cost fc
      clear HY HNo HCb e
      go_wp2
      go_end0
      exact ⟨rfl, HE.out⟩
    · have r' : c ≤ fc := by omega
      have e := HNo.out (.inr r')
      subst e
      clear HY HNo
      go_wp2_with fail
      refine (HCb.out wc H2.out).mono ?_; rintro e w3 ⟨rfl, h3⟩
      have H3 := Lib.hid h3
      clear c0 c1 c2 c3 c4 c5 c6 c7 h3
      go_wp2
      refine bodyPost_ret (results_none rfl _ _ _) rfl ?_
      exact ⟨rfl, H3.out⟩
  · have q' : (fe != 0) = true := by simpa using q
    have e := HNo.out (.inl q)
    subst e
    clear HY HNo q
    go_wp2_with fail
    refine (HCb.out wc H2.out).mono ?_; rintro e w3 ⟨rfl, h3⟩
    have H3 := Lib.hid h3
    clear c0 c1 c2 c3 c4 c5 c6 c7 h3
    go_wp2
    refine bodyPost_ret (results_none rfl _ _ _) rfl ?_
    exact ⟨rfl, H3.out⟩
def RndP (f : List Int → Int × Int) (B gS gx n cap : Nat) (K N C : Int) (v3 v4 v5 : Value) (w0 : World) : Prop :=
  ∀ (W : World) (p : List Int × Int), Sr B gS gx n cap K N C v3 v4 v5 p.1 p.2 w0 W → Calls Try.prog 60 #[.pointer (some ⟨gS, 0, none⟩)] W
    fun e w' => e = .returned (.bool (decide ((rndR f K n p).2 < p.2))) ∧ Sr B gS gx n cap K N C v3 v4 v5 (rndR f K n p).1 (rndR f K n p).2 w0 w'
set_option maxRecDepth 100000 in
set_option maxHeartbeats 4000000 in
theorem round_core (f : List Int → Int × Int) (B gS gx n cap : Nat) (K N C : Int) (v3 v4 v5 : Value) (w0 : World) (hn : n ≤ 1000) (h1 : 1 ≤ n) (d : Nat) (p : List Int × Int) (W : World) (hW : Sr B gS gx n cap K N C v3 v4 v5 p.1 p.2 w0 W) (HT : Hid (TryP f B gS gx n cap K N C v3 v4 v5 w0)) (G : Ending → World → Prop)
    (kb : Bool) (hKb : (K == 3) = kb) (hd : d = if kb = true then 1 else 0)
    (HG : Hid (∀ W', Sr B gS gx n cap K N C v3 v4 v5 (ouR f K n d p (n - d)).1 (ouR f K n d p (n - d)).2 w0 W' → G (.returned (.bool (decide ((ouR f K n d p (n - d)).2 < p.2)))) W')) :
    Calls Try.prog 60 #[.pointer (some ⟨gS, 0, none⟩)] W G := by
  have HO0 := Lib.hid (ou_zero f K n d p)
  have HOs := Lib.hid (fun k => ou_succ f K n d p k)
  have HI0 := Lib.hid (fun k q => in_zero f K (d + k) q)
  have HIs := Lib.hid (fun k q t => in_succ f K (d + k) q t)
  have HS := Lib.hid hW
  obtain ⟨c0, c1, c2, c3, c4, c5, c6, c7⟩ := hW.cells
  clear hW
  obtain ⟨O, hO⟩ : ∃ O : Nat → List Int × Int, ∀ k, ouR f K n d p k = O k := ⟨_, fun _ => rfl⟩
  simp only [hO] at HO0 HOs HG
  obtain ⟨I, hI⟩ : ∃ I : Nat → (List Int × Int) → Nat → List Int × Int, ∀ k q t, inR f K (d + k) q t = I k q t := ⟨_, fun _ _ _ => rfl⟩
  simp only [hI] at HI0 HIs HOs
  clear hO hI
  obtain ⟨p1, p2⟩ := p
  have HR : Hid (∀ (k t : Nat) (W : World), Sr B gS gx n cap K N C v3 v4 v5 (I k (O k) t).1 (I k (O k) t).2 w0 W → d + k + 1 + t < n → Calls Try.prog 75 #[.pointer (some ⟨gS, 0, none⟩), .int .i64 ((d : Int) + (k : Int)), .int .i64 ((d : Int) + (k : Int) + 1 + (t : Int))] W
      fun e w' => e = .returned (.tuple #[]) ∧ Sr B gS gx n cap K N C v3 v4 v5 (I k (O k) (t + 1)).1 (I k (O k) (t + 1)).2 w0 w') := fun k t W hW ht => by
    have := HT.out W (I k (O k) t) (d + k) (d + k + 1 + t) hW (by omega) ht
    rw [← HIs.out k (O k) t] at this
    rw [show ((d + k : Nat) : Int) = (d : Int) + (k : Int) by omega, show ((d + k + 1 + t : Nat) : Int) = (d : Int) + (k : Int) + 1 + (t : Int) by omega] at this
    exact this
  have H0 : Hid (Sr B gS gx n cap K N C v3 v4 v5 (O 0).1 (O 0).2 w0 W) := by show Sr _ _ _ _ _ _ _ _ _ _ _ _ _ _ _; rw [HO0.out]; exact HS.out
  have HD : Hid (d ≤ n) := by show d ≤ n; rw [hd]; split <;> omega
  have HDi : Hid ((if kb = true then (1 : Int) else 0) = (d : Int)) := by show _ = _; rw [hd]; split <;> rfl
  clear hd
  simp only at c7
  clear HT HS HO0
  go_enter Try.func60, Try.ntmps60
  cases kb
  all_goals
    go_wp2
    go_loopw [5] (fun i wr => ∃ k : Nat, k ≤ n - d ∧ i = .int .i64 ((d : Int) + (k : Int)) ∧ Hid (Sr B gS gx n cap K N C v3 v4 v5 (O k).1 (O k).2 w0 wr)) (fun i _ => n - (intOf i).toNat)
    case atStart => exact ⟨0, by omega, by have := HDi.out; simp at this ⊢; omega, H0⟩
    case round =>
      clear c0 c1 c2 c3 c4 c5 c6 c7 H0
      obtain ⟨k, hk, rfl, HP⟩ := hrel
      obtain ⟨c0, c1, c2, c3, c4, c5, c6, c7⟩ := HP.out.cells
      by_cases hlt : d + k < n
      · have q1 : (d : Int) + (k : Int) < (n : Int) := by omega
        have J0 : Hid (Sr B gS gx n cap K N C v3 v4 v5 (I k (O k) 0).1 (I k (O k) 0).2 w0 wr) := by show Sr _ _ _ _ _ _ _ _ _ _ _ _ _ _ _; rw [HI0.out]; exact HP.out
        have JE : Hid (O (k + 1) = I k (O k) (n - (d + k + 1))) := HOs.out k
        have RK := Lib.hid (fun t W h1 h2 => HR.out k t W h1 h2)
        clear HP
        go_wp2
        go_loopw [6] (fun i wr => ∃ t : Nat, d + k + 1 + t ≤ n ∧ i = .int .i64 ((d : Int) + (k : Int) + 1 + (t : Int)) ∧ Hid (Sr B gS gx n cap K N C v3 v4 v5 (I k (O k) t).1 (I k (O k) t).2 w0 wr)) (fun i _ => n - (intOf i).toNat)
        case atStart => exact ⟨0, by omega, by simp, J0⟩
        case round =>
          clear c0 c1 c2 c3 c4 c5 c6 c7 J0
          obtain ⟨t, ht, rfl, HQ⟩ := hrel
          obtain ⟨c0, c1, c2, c3, c4, c5, c6, c7⟩ := HQ.out.cells
          by_cases hlt2 : d + k + 1 + t < n
          · have q2 : (d : Int) + (k : Int) + 1 + (t : Int) < (n : Int) := by omega
            have RT := Lib.hid (RK.out t wr HQ.out hlt2)
            clear HQ
            go_wp2_with fail
            refine RT.out.mono ?_; rintro e w2 ⟨rfl, h2⟩
            have H2 := Lib.hid h2
            clear h2 RT c0 c1 c2 c3 c4 c5 c6 c7
            go_wp2
            go_roundw
            case rel => exact ⟨t + 1, by omega, by simp; omega, H2⟩
            case measure => simp [intOf]; omega
          · have q2 : ¬ (d : Int) + (k : Int) + 1 + (t : Int) < (n : Int) := by omega
            have et : n - (d + k + 1) = t := by omega
            have HE : Hid (Sr B gS gx n cap K N C v3 v4 v5 (O (k + 1)).1 (O (k + 1)).2 w0 wr) := by show Sr _ _ _ _ _ _ _ _ _ _ _ _ _ _ _; rw [JE.out, et]; exact HQ.out
            clear HQ et
            go_wp2
            go_roundw
            case rel => exact ⟨k + 1, by omega, by simp; omega, HE⟩
            case measure => simp [intOf]; omega
      · have q1 : ¬ (d : Int) + (k : Int) < (n : Int) := by omega
        have ek : n - d = k := by omega
        have HE : Hid (G (.returned (.bool (decide ((O k).2 < p2)))) wr) := by have := HG.out wr; rw [ek] at this; exact this HP.out
        clear HP ek
        generalize (O k).2 = z at *
        go_wp2
        go_at_K
        go_wp2
        exact HE.out
end Go.Proofs.Ytaobaiifbmhegaa
