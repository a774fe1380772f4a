/-
  The reference's Better of an answer.
-/
import Derived.Test.YtaobaiifbmhegaaRd
namespace Go.Proofs.Ytaobaiifbmhegaa
open Go.RowKit
set_option linter.unusedVariables false
set_option maxRecDepth 100000 in
set_option maxHeartbeats 8000000 in
theorem rbet_core (f : List Int → Int × Int) (K C : Int) (v3 v4 v5 : Value) (x : List Int) (c0 : Int) (n b o xc : Nat) (hn : x.length = n) (h1 : 1 ≤ n) (h64 : n ≤ 64) (hnc : n ≤ xc ∧ xc ≤ 9223372036854775807) (w : World) (hb : b < w.heap.size)
    (hI : ∀ j, j < n → w.cell? ⟨b, o + j, none⟩ = some (.int .i64 (od.nth x j))) (hg : Gd f n (x, c0)) (d : Nat) (kb : Bool) (hKb : (K == 3) = kb) (hd : d = if kb = true then 1 else 0) (hdK : d = fro K)
    (hC0 : Calls Try.prog 14 #[.agg #[.int .i64 K, .int .i64 n, .int .i64 C, v3, v4, v5], .slice (some ⟨b, o, none⟩) n xc] (w.alloc (ob K n C v3 v4 v5)) fun e w' => e = .returned (.tuple #[.int .i64 c0, .int .i64 0]) ∧ Below (w.alloc (ob K n C v3 v4 v5)).heap.size (w.alloc (ob K n C v3 v4 v5)) w')
    (hCh : ChP K n C v3 v4 v5 n (w.alloc (ob K n C v3 v4 v5))) (hRc : RcP f K n C v3 v4 v5 n (w.alloc (ob K n C v3 v4 v5))) (G : Ending → World → Prop)
    (hG : ∀ g cap W', od.Own w.heap.size g n cap (runR f K n 50 (x, c0)).1 w W' → G (.returned (.tuple #[.slice (some ⟨g, 0, none⟩) n cap, .int .i64 0])) W') :
    Calls Try.prog 17 #[.agg #[.int .i64 K, .int .i64 n, .int .i64 C, v3, v4, v5], .slice (some ⟨b, o, none⟩) n xc] w G := by
  obtain ⟨i0, hi, hz0, hz1, hz2⟩ := info_parts od.info3
  have bA : Below w.heap.size w (w.alloc (ob K n C v3 v4 v5)) := bl_al (Below.refl _ _) _
  have BA := Lib.hid bA
  have q0 := Lib.hid (heap_alloc_new w (ob K n C v3 v4 v5))
  have HN := Lib.hid hn
  have hbX : b < (w.alloc (ob K n C v3 v4 v5)).heap.size := Nat.lt_of_lt_of_le hb bA.size
  have HIx := Lib.hid (fun (W : World) (h : Below (w.alloc (ob K n C v3 v4 v5)).heap.size (w.alloc (ob K n C v3 v4 v5)) W) => od.app_src (X := W) (b := b) (o := o) (l := x) (Nat.lt_of_lt_of_le hbX h.size) (fun j hj => (h.cell (p := ⟨b, o + j, none⟩) hbX).trans ((bA.cell (p := ⟨b, o + j, none⟩) hb).trans (hI j (by omega)))))
  have HB6 := Lib.hid (fun (W : World) (h : Below (w.alloc (ob K n C v3 v4 v5)).heap.size (w.alloc (ob K n C v3 v4 v5)) W) => box6 ((h.block _ (lt_hp q0.out)).trans q0.out))
  have HOf := Lib.hid (fun (w0 w1 : World) (g cap : Nat) h1 h2 => od.own_of (w := w0) (w1 := w1) (g := g) (cap := cap) (l := x) h1 h2)
  have HC0 := Lib.hid hC0
  have HCh := Lib.hid hCh
  have HRc := Lib.hid hRc
  have HG := Lib.hid (fun g cap W' (h : od.Own (w.alloc (ob K n C v3 v4 v5)).heap.size g n cap (runR f K n 50 (x, c0)).1 (w.alloc (ob K n C v3 v4 v5)) W') => hG g cap W' (h.down bA bA.size))
  have HGd := Lib.hid hg
  have HR0 := Lib.hid (run_zero f K n)
  have HRon := Lib.hid (fun q k (h : (rndR f K n q).2 < q.2) => run_on (f := f) (K := K) (n := n) (p := q) k h)
  have HRen := Lib.hid (fun q k (h : ¬ (rndR f K n q).2 < q.2) => run_end (f := f) (K := K) (n := n) (p := q) k h)
  have HRnd : Hid (∀ q, ouR f K n d q (n - d) = rndR f K n q) := fun q => by rw [rnd_def, hdK]
  have HRg := Lib.hid (fun q (h : Gd f n q) => rnd_gd (K := K) h)
  have HD : Hid (d ≤ n) := by show d ≤ n; rw [hd]; split <;> omega
  have HDi : Hid ((if kb = true then (1 : Int) else 0) = (d : Int)) := by show _ = _; rw [hd]; split <;> rfl
  have HCh' : Hid (∀ (W : World) (g cap : Nat) (y : List Int) (t s : Nat), od.Own (w.alloc (ob K n C v3 v4 v5)).heap.size g n cap y (w.alloc (ob K n C v3 v4 v5)) W → d + t + 1 + s < n →
      Calls Try.prog 40 #[.agg #[.int .i64 K, .int .i64 n, .int .i64 C, v3, v4, v5], .slice (some ⟨g, 0, none⟩) n cap, .int .i64 ((d : Int) + (t : Int)), .int .i64 ((d : Int) + (t : Int) + 1 + (s : Int))] W
        fun e w' => ∃ g' cap', e = .returned (.slice (some ⟨g', 0, none⟩) n cap') ∧ od.Own (w.alloc (ob K n C v3 v4 v5)).heap.size g' n cap' (chg K y (d + t) (d + t + 1 + s)) (w.alloc (ob K n C v3 v4 v5)) w' ∧ od.Own (w.alloc (ob K n C v3 v4 v5)).heap.size g n cap y (w.alloc (ob K n C v3 v4 v5)) w') := fun W g cap y t s h hts => by
    have := hCh W g cap y (d + t) (d + t + 1 + s) h (by omega) hts
    rw [show ((d + t : Nat) : Int) = (d : Int) + (t : Int) by omega, show ((d + t + 1 + s : Nat) : Int) = (d : Int) + (t : Int) + 1 + (s : Int) by omega] at this
    exact this
  have HZ0 := Lib.hid (fun W => od.own0 W)
  unfold ob at *
  clear hI hn bA hC0 hCh hRc hG hg hd hdK HCh
  obtain ⟨FN, hFN⟩ : ∃ FN, FN = runR f K n 50 (x, c0) := ⟨_, rfl⟩
  rw [← hFN] at HG
  have HFN := Lib.hid hFN
  clear hFN
  go_enter Try.func17, Try.ntmps17
  go_upto_region 1 with fail
  generalize w.alloc (.cells #[.int .i64 K, .int .i64 n, .int .i64 C, v3, v4, v5] 25) = X at *
  obtain ⟨e0, e1, e2, e3, e4, e5⟩ := HB6.out X (Below.refl _ _)
  go_wp2_with fail
  refine HC0.out.mono ?_; rintro e w1 ⟨rfl, hb1⟩
  have B1 := Lib.hid hb1
  have ho := HZ0.out w1
  have HNs := Lib.hid (HIx.out w1 hb1)
  clear hb1 HC0 HIx HZ0 e0 e1 e2 e3 e4 e5
  go_wp2_with (at_builtin; refine wpList_append_own _ rfl _ _ 22 rfl w1.heap.size 3 i0 (.int .i64 0) 1 8 Try.underlying22 hi hz0 hz1 hz2 rfl (by decide) _ _ _ rfl ho ⟨b, o, none⟩ _ xc (x.map (Value.int .i64)) rfl (by simp [HN.out]) HNs.out (by simp [Value.oneCell']) (by unfold maxLen; omega) (by omega) (by simp) ?_)
  intro v' w2 hown hgrow hne
  obtain ⟨g, cap, rfl⟩ := od.own_form hown hne
  have HB := Lib.hid ((bl_al (Below.refl _ _) _).grown hgrow (by simp) (fun j hj => by simp [Value.ownBlock] at hj; omega) : Below w1.heap.size w1 w2)
  have HO := Lib.hid hown
  clear hgrow hown hne ho HNs
  have HP : Hid (od.Own X.heap.size g n cap x X w2) := by
    have := HOf.out w1 w2 g cap (by rw [HN.out]; simpa using HO.out) HB.out
    rw [HN.out] at this
    exact this.down B1.out B1.out.size
  obtain ⟨e0, e1, e2, e3, e4, e5⟩ := HB6.out w2 HP.out.2.2.2
  clear HOf HB HO q0 B1
  cases kb
  all_goals
    go_wp2
    go_loopw [1, 6, 9, 10] (fun v1 v6 v9 i wr => ∃ (k gg cc : Nat) (p : List Int × Int) (ag : Bool), k ≤ 50 ∧ i = .int .i64 k ∧ v1 = .slice (some ⟨gg, 0, none⟩) n cc ∧ v6 = .int .i64 p.2 ∧ v9 = .bool ag ∧ Hid ((ag = true → runR f K n (50 - k) p = FN) ∧ (ag = false → p = FN)) ∧ Hid (Gd f n p) ∧ Hid (od.Own X.heap.size gg n cc p.1 X wr)) (fun _ _ _ i _ => 50 - (intOf i).toNat)
    case atStart => exact ⟨0, g, cap, (x, c0), true, by omega, rfl, rfl, rfl, rfl, ⟨fun _ => HFN.out.symm, fun h => by cases h⟩, HGd, HP⟩
    case round =>
      clear HP HGd e0 e1 e2 e3 e4 e5
      obtain ⟨k, gg, cc, p, ag, hk, rfl, rfl, rfl, rfl, HE, HGp, HP⟩ := hrel
      by_cases hlt : k < 50 ∧ ag = true
      · obtain ⟨hlt, rfl⟩ := hlt
        have q1 : (k : Int) < 50 := by omega
        obtain ⟨m, hm⟩ : ∃ m, m = 49 - k := ⟨_, rfl⟩
        have e50 : 50 - k = m + 1 := by omega
        have m1 : 50 - (k + 1) = m := by omega
        have HE2 : Hid (runR f K n (m + 1) p = FN) := by show _ = _; rw [← e50]; exact HE.out.1 rfl
        have HM := Lib.hid m1
        clear HE e50 hm m1
        have HO0 := Lib.hid (ou_zero f K n d p)
        have HOs := Lib.hid (fun k => ou_succ f K n d p k)
        have HI0 := Lib.hid (fun k q => in_zero f K (d + k) q)
        have HIy : Hid (∀ (t s : Nat) (q : List Int × Int), (f (chg K (inR f K (d + t) q s).1 (d + t) (d + t + 1 + s))).2 = 0 → (f (chg K (inR f K (d + t) q s).1 (d + t) (d + t + 1 + s))).1 < (inR f K (d + t) q s).2 → inR f K (d + t) q (s + 1) = (chg K (inR f K (d + t) q s).1 (d + t) (d + t + 1 + s), (f (chg K (inR f K (d + t) q s).1 (d + t) (d + t + 1 + s))).1)) := fun t s q a1 a2 => by rw [in_succ]; exact try_yes a1 a2
        have HIn : Hid (∀ (t s : Nat) (q : List Int × Int), ((f (chg K (inR f K (d + t) q s).1 (d + t) (d + t + 1 + s))).2 ≠ 0 ∨ (inR f K (d + t) q s).2 ≤ (f (chg K (inR f K (d + t) q s).1 (d + t) (d + t + 1 + s))).1) → inR f K (d + t) q (s + 1) = inR f K (d + t) q s) := fun t s q a1 => by rw [in_succ]; exact try_no a1
        have HLe : Hid (∀ t s, (inR f K (d + t) (ouR f K n d p t) s).2 ≤ p.2) := fun t s => by
          have a := ou_gd (K := K) HGp.out d t
          have b := in_gd (K := K) a.1 (d + t) s
          omega
        have HRp := HRnd.out p
        have HGr := Lib.hid (HRg.out p HGp.out)
        have HRo := Lib.hid (HRon.out p m)
        have HRe := Lib.hid (HRen.out p m)
        obtain ⟨O, hO⟩ : ∃ O : Nat → List Int × Int, ∀ k, ouR f K n d p k = O k := ⟨_, fun _ => rfl⟩
        simp only [hO] at HO0 HOs HLe HRp
        obtain ⟨I, hI⟩ : ∃ I : Nat → (List Int × Int) → Nat → List Int × Int, ∀ k q t, inR f K (d + k) q t = I k q t := ⟨_, fun _ _ _ => rfl⟩
        simp only [hI] at HI0 HIy HIn HOs HLe
        clear hO hI HGp
        rw [← HRp] at HGr HRo HRe
        have HRq := Lib.hid HRp
        clear HRp
        have H0 : Hid (od.Own X.heap.size gg n cc (O 0).1 X wr) := by show od.Own _ _ _ _ _ _ _; rw [HO0.out]; exact HP.out
        have HO02 : Hid ((O 0).2 = p.2) := congrArg Prod.snd HO0.out
        clear HP
        obtain ⟨e0, e1, e2, e3, e4, e5⟩ := HB6.out wr H0.out.2.2.2
        go_wp2
        go_loopw [1, 6, 9, 11] (fun v1 v6 v9 i wr => ∃ (t gg cc : Nat), d + t ≤ n ∧ i = .int .i64 ((d : Int) + (t : Int)) ∧ v1 = .slice (some ⟨gg, 0, none⟩) n cc ∧ v6 = .int .i64 (O t).2 ∧ v9 = .bool (decide ((O t).2 < p.2)) ∧ Hid (od.Own X.heap.size gg n cc (O t).1 X wr)) (fun _ _ _ i _ => n - (intOf i).toNat)
        case atStart => exact ⟨0, gg, cc, by have := HD.out; omega, by have := HDi.out; simp at this ⊢; omega, rfl, by rw [HO02.out], by rw [HO02.out]; simp, H0⟩
        case round =>
          clear H0 e0 e1 e2 e3 e4 e5
          obtain ⟨t, gg, cc, ht, rfl, rfl, rfl, rfl, HP⟩ := hrel
          obtain ⟨e0, e1, e2, e3, e4, e5⟩ := HB6.out wr HP.out.2.2.2
          by_cases hlt2 : d + t < n
          · have q2 : (d : Int) + (t : Int) < (n : Int) := by omega
            have J0 : Hid (od.Own X.heap.size gg n cc (I t (O t) 0).1 X wr) := by show od.Own _ _ _ _ _ _ _; rw [HI0.out]; exact HP.out
            have J2 : Hid ((I t (O t) 0).2 = (O t).2) := congrArg Prod.snd (HI0.out t (O t))
            have JE : Hid (O (t + 1) = I t (O t) (n - (d + t + 1))) := HOs.out t
            have JL := Lib.hid (HLe.out t)
            have Jy := Lib.hid (fun s => HIy.out t s (O t))
            have Jn := Lib.hid (fun s => HIn.out t s (O t))
            have JC := Lib.hid (fun W g cap y s h1 h2 => HCh'.out W g cap y t s h1 h2)
            clear HP
            go_wp2
            go_loopw [1, 6, 9, 12] (fun v1 v6 v9 i wr => ∃ (s gg cc : Nat), d + t + 1 + s ≤ n ∧ i = .int .i64 ((d : Int) + (t : Int) + 1 + (s : Int)) ∧ v1 = .slice (some ⟨gg, 0, none⟩) n cc ∧ v6 = .int .i64 (I t (O t) s).2 ∧ v9 = .bool (decide ((I t (O t) s).2 < p.2)) ∧ Hid (od.Own X.heap.size gg n cc (I t (O t) s).1 X wr)) (fun _ _ _ i _ => n - (intOf i).toNat)
            case atStart => exact ⟨0, gg, cc, by omega, by simp, rfl, by rw [J2.out], by rw [J2.out], J0⟩
            case round =>
              clear J0 J2 e0 e1 e2 e3 e4 e5
              obtain ⟨s, gg, cc, hs, rfl, rfl, rfl, rfl, HP⟩ := hrel
              obtain ⟨e0, e1, e2, e3, e4, e5⟩ := HB6.out wr HP.out.2.2.2
              by_cases hlt3 : d + t + 1 + s < n
              · have q3 : (d : Int) + (t : Int) + 1 + (s : Int) < (n : Int) := by omega
                have CC := Lib.hid (JC.out wr gg cc _ s HP.out hlt3)
                have Ky := Lib.hid (Jy.out s)
                have Kn := Lib.hid (Jn.out s)
                have KL := Lib.hid (JL.out s)
                clear HP
                go_wp2_with fail
                refine CC.out.mono ?_; rintro e w3 ⟨g', cap', rfl, ho1, ho2⟩
                have O1 := Lib.hid ho1
                have O2 := Lib.hid ho2
                clear ho1 ho2 CC e0 e1 e2 e3 e4 e5
                obtain ⟨e0, e1, e2, e3, e4, e5⟩ := HB6.out w3 O1.out.2.2.2
                have RC := Lib.hid (HRc.out w3 g' cap' _ O1.out)
                generalize hz : f (chg K (I t (O t) s).1 (d + t) (d + t + 1 + s)) = z at *
                obtain ⟨zc, ze⟩ := z
                generalize chg K (I t (O t) s).1 (d + t) (d + t + 1 + s) = y at *
                clear hz
                simp only at Ky Kn RC
                go_wp2_with fail
                refine RC.out.mono ?_; rintro e w4 ⟨rfl, hb4⟩
                have P1 := Lib.hid (O1.out.keep hb4)
                have P2 := Lib.hid (O2.out.keep hb4)
                clear hb4 RC O1 O2 e0 e1 e2 e3 e4 e5
                by_cases r : ze = 0 ∧ zc < (I t (O t) s).2
                · obtain ⟨rfl, r2⟩ := r
                  have E := Ky.out rfl r2
                  have HE3 := Lib.hid E
                  have HA : Hid (decide ((I t (O t) (s + 1)).2 < p.2) = true) := by show _ = _; rw [E]; simp; have := KL.out; omega
                  clear E Ky Kn
                  generalize (I t (O t) s).2 = u at *
                  go_wp2
                  go_roundw
                  case rel => exact ⟨s + 1, g', cap', by omega, by simp; omega, rfl, by rw [HE3.out], by rw [HA.out], by rw [HE3.out]; exact P1⟩
                  case measure => simp [intOf]; omega
                · have E := Kn.out (by by_cases a : ze = 0; exact .inr (by omega); exact .inl a)
                  have HE3 := Lib.hid E
                  clear E Ky Kn KL
                  by_cases a : ze = 0
                  · subst a
                    have r2 : ¬ zc < (I t (O t) s).2 := fun h => r ⟨rfl, h⟩
                    clear r
                    generalize hu : (I t (O t) s).2 = u at *
                    have HU := Lib.hid hu
                    clear hu
                    go_wp2
                    go_roundw
                    case rel => exact ⟨s + 1, gg, cc, by omega, by simp; omega, rfl, by rw [HE3.out, HU.out], by rw [HE3.out, HU.out], by rw [HE3.out]; exact P2⟩
                    case measure => simp [intOf]; omega
                  · have a' : (ze == 0) = false := by simpa using a
                    clear r a
                    generalize hu : (I t (O t) s).2 = u at *
                    have HU := Lib.hid hu
                    clear hu
                    go_wp2
                    go_roundw
                    case rel => exact ⟨s + 1, gg, cc, by omega, by simp; omega, rfl, by rw [HE3.out, HU.out], by rw [HE3.out, HU.out], by rw [HE3.out]; exact P2⟩
                    case measure => simp [intOf]; omega
              · have q3 : ¬ (d : Int) + (t : Int) + 1 + (s : Int) < (n : Int) := by omega
                have es : n - (d + t + 1) = s := by omega
                have HE3 : Hid (O (t + 1) = I t (O t) s) := by show _ = _; rw [JE.out, es]
                clear es
                generalize hu : I t (O t) s = u at *
                have HU := Lib.hid hu
                clear hu
                obtain ⟨u1, u2⟩ := u
                go_wp2
                go_roundw
                case rel => exact ⟨t + 1, gg, cc, by omega, by simp; omega, rfl, by rw [HE3.out], by rw [HE3.out], by rw [HE3.out]; exact HP⟩
                case measure => simp [intOf]; omega
          · have q2 : ¬ (d : Int) + (t : Int) < (n : Int) := by omega
            have et : n - d = t := by omega
            rw [et] at HGr HRo HRe
            have ag1 : Hid ((decide ((O t).2 < p.2) = true → runR f K n (50 - (k + 1)) (O t) = FN) ∧ (decide ((O t).2 < p.2) = false → O t = FN)) := by
              refine ⟨fun h => ?_, fun h => ?_⟩
              · rw [HM.out, ← HE2.out]; exact (HRo.out (by simpa using h)).symm
              · rw [← HE2.out]; exact (HRe.out (by simpa using h)).symm
            clear HRo HRe et
            generalize hu : O t = u at *
            have HU := Lib.hid hu
            clear hu
            obtain ⟨u1, u2⟩ := u
            go_wp2
            go_roundw
            case rel => exact ⟨k + 1, gg, cc, (u1, u2), _, by omega, by go_num, rfl, rfl, rfl, ag1, HGr.out.1, HP⟩
            case measure => simp [intOf]; omega
      · have HE2 : Hid (p = FN) := by
          cases ag with
          | false => exact HE.out.2 rfl
          | true =>
            have h := HE.out.1 rfl
            have : k = 50 := by
              apply Classical.byContradiction
              intro q
              exact hlt ⟨by omega, rfl⟩
            rw [this, Nat.sub_self, HR0.out p] at h
            exact h
        have HF : Hid (G (.returned (.tuple #[.slice (some ⟨gg, 0, none⟩) n cc, .int .i64 0])) wr) := HG.out gg cc wr (by rw [← HE2.out]; exact HP.out)
        clear HP HE HE2 HG
        cases ag
        · by_cases k5 : (k : Int) < 50
          · go_wp2
            first | exact HF.out | (go_at_K; go_wp2; exact HF.out)
          · go_wp2
            first | exact HF.out | (go_at_K; go_wp2; exact HF.out)
        · have k5 : ¬ (k : Int) < 50 := fun q => hlt ⟨by omega, rfl⟩
          clear hlt
          go_wp2
          first | exact HF.out | (go_at_K; go_wp2; exact HF.out)
end Go.Proofs.Ytaobaiifbmhegaa
