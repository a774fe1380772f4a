/-
  What order.Nth answers.
-/
import Derived.Test.YtaobaiifbmhegaaNtDig
import Derived.Test.YtaobaiifbmhegaaNtDel
import Derived.Test.YtaobaiifbmhegaaNtInv
namespace Go.Proofs.Ytaobaiifbmhegaa.nt
open Go.RowKit
set_option linter.unusedVariables false
/-- the digits, the last j of them told -/
def lessL (n r j : Nat) : List Int := (List.range n).map fun i => if n - j ≤ i then (dg n r i : Int) else 0
theorem lessL_len (n r j : Nat) : (lessL n r j).length = n := by unfold lessL; simp
theorem lessL_nth (n r j i : Nat) (h : i < n) : nth (lessL n r j) i = if n - j ≤ i then (dg n r i : Int) else 0 := by
  rw [nth_at _ i (by rw [lessL_len]; exact h)]; simp [lessL]
theorem lessL_zero (n r : Nat) : List.replicate n 0 = lessL n r 0 := nth_ext _ _ (by rw [lessL_len]; simp) (fun i hi => by
  simp at hi
  rw [lessL_nth n r 0 i hi, if_neg (by omega), nth_at _ i (by simpa using hi)]; simp)
theorem lessL_set (n r j : Nat) (h : j < n) : (lessL n r j).set (n - (j + 1)) ((r / fN j % (j + 1) : Nat) : Int) = lessL n r (j + 1) := nth_ext _ _ (by rw [lessL_len]; simp [lessL_len]) (fun i hi => by
  simp [lessL_len] at hi
  rw [nth_set _ _ _ _ (by rw [lessL_len]; omega), lessL_nth n r (j + 1) i hi]
  by_cases h1 : n - (j + 1) = i
  · rw [if_pos h1, if_pos (by omega)]
    unfold dg
    rw [show n - (i + 1) = j by omega, show n - i = j + 1 by omega]
  · rw [if_neg h1, lessL_nth n r j i hi]
    by_cases h2 : n - j ≤ i
    · rw [if_pos h2, if_pos (by omega)]
    · rw [if_neg h2, if_neg (by omega)])
attribute [irreducible] lessL
/-- what is chosen ahead of step k -/
def pl (n : Nat) (D : Nat → Nat) (k : Nat) : List Int := (List.range n).map fun i => if i < k then tk n D i else 0
theorem pl_len (n : Nat) (D : Nat → Nat) (k : Nat) : (pl n D k).length = n := by unfold pl; simp
theorem pl_nth (n : Nat) (D : Nat → Nat) (k i : Nat) (h : i < n) : nth (pl n D k) i = if i < k then tk n D i else 0 := by
  rw [nth_at _ i (by rw [pl_len]; exact h)]; simp [pl]
theorem pl_zero (n : Nat) (D : Nat → Nat) : List.replicate n 0 = pl n D 0 := nth_ext _ _ (by rw [pl_len]; simp) (fun i hi => by
  simp at hi
  rw [pl_nth n D 0 i hi, if_neg (by omega), nth_at _ i (by simpa using hi)]; simp)
theorem pl_set (n : Nat) (D : Nat → Nat) (k : Nat) (h : k < n) : (pl n D k).set k (tk n D k) = pl n D (k + 1) := nth_ext _ _ (by rw [pl_len]; simp [pl_len]) (fun i hi => by
  simp [pl_len] at hi
  rw [nth_set _ _ _ _ (by rw [pl_len]; omega), pl_nth n D (k + 1) i hi]
  by_cases h1 : k = i
  · subst h1; rw [if_pos rfl, if_pos (by omega)]
  · rw [if_neg h1, pl_nth n D k i hi]
    by_cases h2 : i < k
    · rw [if_pos h2, if_pos (by omega)]
    · rw [if_neg h2, if_neg (by omega)])
theorem pl_ord (n : Nat) (D : Nat → Nat) : pl n D n = ord n D := nth_ext _ _ (by rw [pl_len, ord_len]) (fun i hi => by
  rw [pl_len] at hi
  rw [pl_nth n D n i hi, if_pos hi, ord_nth n D i hi])
attribute [irreducible] pl
theorem nth_arg (n r : Int) (h : n < 0 ∨ 20 < n) (w : World) :
    Calls Try.prog 29 #[.int .i64 n, .int .i64 r] w fun e w' => e = .returned (.tuple #[.slice none 0 0, .int .i64 1]) ∧ Below w.heap.size w w' := by
  by_cases h1 : n < 0
  · go_enter Try.func29, Try.ntmps29
    go_wp2
    go_ret2
    exact ⟨rfl, Below.refl _ _⟩
  · have h2 : 20 < n := by omega
    go_enter Try.func29, Try.ntmps29
    go_wp2
    go_ret2
    exact ⟨rfl, Below.refl _ _⟩
theorem nth_neg (n r : Int) (h : 0 ≤ n) (h2 : n ≤ 20) (hr : r < 0) (w : World) :
    Calls Try.prog 29 #[.int .i64 n, .int .i64 r] w fun e w' => e = .returned (.tuple #[.slice none 0 0, .int .i64 11]) ∧ Below w.heap.size w w' := by
  have g1 : ¬ n < 0 := by omega
  have g2 : ¬ 20 < n := by omega
  go_enter Try.func29, Try.ntmps29
  go_wp2
  go_ret2
  exact ⟨rfl, Below.refl _ _⟩
set_option maxRecDepth 100000 in
set_option maxHeartbeats 4000000 in
theorem nth_ok (n r : Nat) (hn : n ≤ 20) (hr63 : r ≤ 9223372036854775807) (hr : r < fN n) (w : World) :
    Calls Try.prog 29 #[.int .i64 n, .int .i64 r] w fun e w' => ∃ g, e = .returned (.tuple #[.slice (some ⟨g, 0, none⟩) n n, .int .i64 0]) ∧ Own w.heap.size g n n (ord n (dg n r)) w w' := by
  obtain ⟨i0, hi, hz0, hz1, hz2⟩ := info_parts info3
  have g1 : ¬ (n : Int) < 0 := by omega
  have g2 : ¬ 20 < (n : Int) := by omega
  have g3 : ¬ (r : Int) < 0 := by omega
  have HB := Lib.hid (Below.refl w.heap.size w)
  go_enter Try.func29, Try.ntmps29
  go_wp2_with (at_make; refine wpList_make_full _ rfl _ _ 22 rfl w.heap.size 3 i0 (.int .i64 0) 1 Try.underlying22 hi hz0 hz1 .i64 .i64 _ _ n rfl rfl rfl rfl (by rw [hz2]; omega) (by unfold maxLen; omega) HB.out.size ?_)
  intro w2 hown hgrow
  have hb2 : Below w.heap.size w w2 := HB.out.grown hgrow HB.out.size (fun j hj => by cases hj)
  have A0 := Lib.hid (made_own' HB.out.size hown hb2)
  clear hown hgrow hb2
  generalize hgl : w.heap.size = gl at *
  rw [lessL_zero n r] at A0
  have HU := Lib.hid (up_div r)
  have HS := Lib.hid (lessL_set n r)
  have H1 := Lib.hid (show r / fN 0 = r from by rw [show fN 0 = 1 from by unfold fN; rfl, Nat.div_one])
  have HE := Lib.hid (show r / fN n = 0 from Nat.div_eq_of_lt hr)
  have HLe := Lib.hid (fun j => Nat.div_le_self r (fN j))
  clear hr
  go_wp2
  go_loopw [1, 7] (fun x i wr => ∃ j : Nat, j ≤ n ∧ x = .int .i64 ((r / fN j : Nat) : Int) ∧ i = .int .i64 ((j : Int) + 1) ∧ Hid (Own gl gl n n (lessL n r j) w wr)) (fun _ i _ => n + 1 - (intOf i).toNat)
  case atStart => exact ⟨0, by omega, by rw [H1.out], rfl, A0⟩
  case round =>
    clear A0
    obtain ⟨j, hj, rfl, rfl, HO⟩ := hrel
    by_cases hlt : j < n
    · have hle := HLe.out j
      have hu := Lib.hid (HU.out j)
      have hs := Lib.hid (HS.out j hlt)
      generalize hX : r / fN j = X at *
      have q1 : ((X : Int)).tdiv ((j : Int) + 1) = ((X / (j + 1) : Nat) : Int) := rfl
      have q2 : ((X : Int)).tmod ((j : Int) + 1) = ((X % (j + 1) : Nat) : Int) := rfl
      have q3 := Nat.div_le_self X (j + 1)
      have q4 := Nat.mod_le X (j + 1)
      have c1 := HO.out.cell (n - (j + 1)) (by omega)
      have c2 := HO.out.frozen (n - (j + 1))
      have HN : Hid (Own gl gl n n (lessL n r (j + 1)) w (wr.setCell ⟨gl, n - (j + 1), none⟩ (.int .i64 ((X % (j + 1) : Nat) : Int)))) := by
        show Own _ _ _ _ _ _ _
        rw [← hs.out]
        exact HO.out.set (n - (j + 1)) ((X % (j + 1) : Nat) : Int)
      have e1 : (n : Int) - ((j : Int) + 1) = ((n - (j + 1) : Nat) : Int) := by omega
      have g5 : (j : Int) + 1 ≤ (n : Int) := by omega
      generalize X % (j + 1) = M at *
      generalize hD : X / (j + 1) = D at *
      generalize nth (lessL n r j) (n - (j + 1)) = old at *
      generalize hI : n - (j + 1) = I at *
      have g6 : I < n := by omega
      clear hI hD hX
      go_wp2
      go_roundw
      case rel => exact ⟨j + 1, by omega, by rw [hu.out], by go_num, HN⟩
      case measure => simp [intOf]; omega
    · obtain rfl : n = j := by omega
      obtain ⟨wo, hwo⟩ : ∃ x, x = wr := ⟨_, rfl⟩
      subst hwo
      rw [HE.out]
      have g5 : ¬ (n : Int) + 1 ≤ (n : Int) := by omega
      go_wp2
      have hRi := Lib.hid (rising_any n (by omega))
      have hgl2 : gl ≤ wo.heap.size := by rw [← hgl]; exact HO.out.2.2.2.size
      refine wp_region_held_drew (S := fun w' => Below wo.heap.size wo w') (by kernel_rfl) (Below.refl _ _).drew (fun hHeld => ?_)
      refine wpAnyH_take (i := 0) (v := ?vu1) (by rw [List.getElem?_toArray]; rfl) (by kernel_rfl) (by kernel_rfl) (by kernel_rfl) ?qu1 (Or.inl ⟨by rfl, ?yu1⟩) (by assumption) ?ru1
      case qu1 => exact fun _ _ _ h => h
      case yu1 => (intro wz hSw; go_simp; try (with_reducible rfl))
      simp only [Act.put, List.setIfInBounds_toArray, List.set_cons_zero, List.set_cons_succ]
      refine wpAnyH_take (i := 2) (v := ?vu2) (by rw [List.getElem?_toArray]; rfl) (by kernel_rfl) (by kernel_rfl) (by kernel_rfl) ?qu2 (Or.inl ⟨by rfl, ?yu2⟩) (by assumption) ?ru2
      case qu2 => exact fun _ _ _ h => h
      case yu2 => (intro wz hSw; go_simp; try (with_reducible rfl))
      simp only [Act.put, List.setIfInBounds_toArray, List.set_cons_zero, List.set_cons_succ]
      have B0 := Lib.hid hHeld
      clear hHeld
      generalize wo.drew = wd at *
      refine wpAnyH_ready (rs := [1, 3]) (by kernel_rfl) (by simp) ?_
      refine AllReadyH.cons (by rw [List.getElem?_toArray]; rfl) (fun K hK => ?_) (AllReadyH.cons (by rw [List.getElem?_toArray]; rfl) (fun K hK => ?_) AllReadyH.nil)
      · obtain ⟨x1, hrun, r1, r2⟩ := run_make_full (P := Try.prog) wd wo.heap.size 22 3 i0 (.int .i64 0) 1 Try.underlying22 hi hz0 hz1 .i64 .i64 n (by rw [hz2]; omega) (by unfold maxLen; omega) B0.out.size
        have hbA := Lib.hid (B0.out.grown r2 B0.out.size (fun j hj => by cases hj))
        have PA := Lib.hid (made_own' (n := n) B0.out.size (by rw [Nat.mul_one] at r1; exact r1) hbA.out)
        have hgp := Lib.hid (show wd.heap.size < x1.heap.size from by obtain ⟨cur, hc⟩ := PA.out.blk; exact lt_hp hc)
        go_simp
        clear hrun r1 r2
        generalize hgpe : wd.heap.size = gp at *
        clear hgpe
        refine hK.out _ _ hbA.out (fun hHeld => ?_)
        clear hK K hHeld
        refine wpAnyH_ready (rs := [3]) (by kernel_rfl) (by simp) ?_
        refine AllReadyH.cons (by rw [List.getElem?_toArray]; rfl) (fun K hK => ?_) AllReadyH.nil
        go_simp
        go_at_call 52; refine (hRi.out x1).mono ?_; rintro e x2 ⟨gu, rfl, ho⟩
        have PU := Lib.hid (Own.down ho hbA.out hbA.out.size)
        have PP := Lib.hid (PA.out.keep ho.2.2.2)
        have hne : Hid (gp ≠ gu) := by have := ho.2.1; have := hgp.out; show gp ≠ gu; omega
        clear ho PA hbA hgp hRi B0
        go_wp2_with fail
        refine hK.out _ _ PU.out.2.2.2 (fun hHeld => ?_)
        clear hK K
        refine wpAnyH_take (i := 4) (v := ?vu3a) (by rw [List.getElem?_toArray]; rfl) (by kernel_rfl) (by kernel_rfl) (by kernel_rfl) ?qu3a (Or.inl ⟨by rfl, ?yu3a⟩) (by assumption) ?ru3a
        case qu3a => exact fun _ _ _ h => h
        case yu3a => (intro wz hSw; go_simp; try (with_reducible rfl))
        simp only [Act.put, List.setIfInBounds_toArray, List.set_cons_zero, List.set_cons_succ]
        refine wpAnyH_take (i := 5) (v := ?vu4a) (by rw [List.getElem?_toArray]; rfl) (by kernel_rfl) (by kernel_rfl) (by kernel_rfl) ?qu4a (Or.inl ⟨by rfl, ?yu4a⟩) (by assumption) ?ru4a
        case qu4a => exact fun _ _ _ h => h
        case yu4a => (intro wz hSw; go_simp; try (with_reducible rfl))
        simp only [Act.put, List.setIfInBounds_toArray, List.set_cons_zero, List.set_cons_succ]
        clear hHeld
        refine wpAnyH_done (by kernel_rfl) ?_ _
        have PP0 := Lib.hid (show Own wo.heap.size gp n n (pl n (dg n r) 0) wo x2 from by rw [← pl_zero]; exact PP.out)
        have PU0 := Lib.hid (show Own wo.heap.size gu (n - 0) n (un n (dg n r) 0) wo x2 from PU.out)
        clear PP PU
        have HLs := Lib.hid (fun k (hk : k < n) => (show nth (lessL n r n) k = (dg n r k : Int) from by rw [lessL_nth n r n k hk, if_pos (by omega)]))
        have HDl := Lib.hid (dg_lt n r)
        have HTk := Lib.hid (show ∀ k, tk n (dg n r) k = nth (un n (dg n r) k) (dg n r k) from fun k => rfl)
        have HUn := Lib.hid (un_succ n (dg n r))
        have HPs := Lib.hid (pl_set n (dg n r))
        have HPo := Lib.hid (pl_ord n (dg n r))
        clear HU HS H1 HE HLe hlt g5
        go_wp2
        go_loopw [9, 48] (fun s i wr => ∃ k : Nat, k ≤ n ∧ s = .slice (some ⟨gu, 0, none⟩) (n - k) n ∧ i = .int .i64 k ∧ Hid (Own wo.heap.size gu (n - k) n (un n (dg n r) k) wo wr) ∧ Hid (Own wo.heap.size gp n n (pl n (dg n r) k) wo wr)) (fun _ i _ => n - (intOf i).toNat)
        case atStart => exact ⟨0, by omega, rfl, rfl, PU0, PP0⟩
        case round =>
          clear PU0 PP0
          obtain ⟨k, hk, rfl, rfl, HQU, HQP⟩ := hrel
          by_cases hlt : k < n
          · have c1 := (HO.out.keep HQP.out.2.2.2).cell k hlt
            rw [HLs.out k hlt] at c1
            have hd := HDl.out k hlt
            have c2 := HQU.out.cell (dg n r k) hd
            rw [← HTk.out k] at c2
            have c3 := HQP.out.cell k hlt
            have f3 := HQP.out.frozen k
            have HU2 := Lib.hid (HQU.out.aside gp k (.int .i64 (tk n (dg n r) k)) hne.out HQP.out.2.1)
            have HP2 : Hid (Own wo.heap.size gp n n (pl n (dg n r) (k + 1)) wo (wr.setCell ⟨gp, k, none⟩ (.int .i64 (tk n (dg n r) k)))) := by
              show Own _ _ _ _ _ _ _
              rw [← HPs.out k hlt]
              exact HQP.out.set k _
            have hun := Lib.hid (HUn.out k)
            have hdi : (dg n r k : Int) < ((n - k : Nat) : Int) := by omega
            generalize dg n r k = d at *
            generalize tk n (dg n r) k = T at *
            generalize nth (pl n (dg n r) k) k = old at *
            go_wp2_with fail
            refine (del_any wo.heap.size gu (n - k) n _ wo _ d HU2.out hd).mono ?_
            rintro e w3 ⟨rfl, hu3, hk3⟩
            rw [← hun.out, show n - k - 1 = n - (k + 1) by omega] at hu3
            have HU3 := Lib.hid hu3
            have HP3 := Lib.hid (HP2.out.same (hk3 gp hne.out) hu3.2.2.2)
            have e5 : n - k - 1 = n - (k + 1) := by omega
            clear hu3 hk3 HU2 HP2
            rw [e5]
            go_wp2
            go_roundw
            case rel => exact ⟨k + 1, by omega, rfl, by go_num, HU3, HP3⟩
            case measure => simp [intOf]; omega
          · obtain rfl : n = k := by omega
            rw [HPo.out] at HQP
            go_wp2
            go_ret2
            exact ⟨gp, rfl, by rw [hgl]; exact HQP.out.down HO.out.2.2.2 hgl2⟩
      · go_simp
        go_at_call 52; refine (hRi.out wd).mono ?_; rintro e x1 ⟨gu, rfl, ho⟩
        have PA := Lib.hid (Own.down ho B0.out B0.out.size)
        have hgu := Lib.hid (show gu < x1.heap.size from by obtain ⟨cur, hc⟩ := PA.out.blk; exact lt_hp hc)
        clear ho hRi B0
        go_wp2_with fail
        refine hK.out _ _ PA.out.2.2.2 (fun hHeld => ?_)
        clear hK K hHeld
        refine wpAnyH_ready (rs := [1]) (by kernel_rfl) (by simp) ?_
        refine AllReadyH.cons (by rw [List.getElem?_toArray]; rfl) (fun K hK => ?_) AllReadyH.nil
        obtain ⟨x2, hrun, r1, r2⟩ := run_make_full (P := Try.prog) x1 wo.heap.size 22 3 i0 (.int .i64 0) 1 Try.underlying22 hi hz0 hz1 .i64 .i64 n (by rw [hz2]; omega) (by unfold maxLen; omega) PA.out.2.2.2.size
        have hbA := Lib.hid (PA.out.2.2.2.grown r2 PA.out.2.2.2.size (fun j hj => by cases hj))
        have PP := Lib.hid (made_own' (n := n) PA.out.2.2.2.size (by rw [Nat.mul_one] at r1; exact r1) hbA.out)
        have PU := Lib.hid (PA.out.keep ((Below.refl _ _).grown r2 (Nat.le_refl _) (fun j hj => by cases hj)))
        have hne : Hid (x1.heap.size ≠ gu) := by have := hgu.out; show x1.heap.size ≠ gu; omega
        clear PA hgu
        go_simp
        clear hrun r1 r2
        generalize hgpe : x1.heap.size = gp at *
        clear hgpe
        refine hK.out _ _ hbA.out (fun hHeld => ?_)
        clear hK K hbA
        refine wpAnyH_take (i := 4) (v := ?vu3b) (by rw [List.getElem?_toArray]; rfl) (by kernel_rfl) (by kernel_rfl) (by kernel_rfl) ?qu3b (Or.inl ⟨by rfl, ?yu3b⟩) (by assumption) ?ru3b
        case qu3b => exact fun _ _ _ h => h
        case yu3b => (intro wz hSw; go_simp; try (with_reducible rfl))
        simp only [Act.put, List.setIfInBounds_toArray, List.set_cons_zero, List.set_cons_succ]
        refine wpAnyH_take (i := 5) (v := ?vu4b) (by rw [List.getElem?_toArray]; rfl) (by kernel_rfl) (by kernel_rfl) (by kernel_rfl) ?qu4b (Or.inl ⟨by rfl, ?yu4b⟩) (by assumption) ?ru4b
        case qu4b => exact fun _ _ _ h => h
        case yu4b => (intro wz hSw; go_simp; try (with_reducible rfl))
        simp only [Act.put, List.setIfInBounds_toArray, List.set_cons_zero, List.set_cons_succ]
        clear hHeld
        refine wpAnyH_done (by kernel_rfl) ?_ _
        have PP0 := Lib.hid (show Own wo.heap.size gp n n (pl n (dg n r) 0) wo x2 from by rw [← pl_zero]; exact PP.out)
        have PU0 := Lib.hid (show Own wo.heap.size gu (n - 0) n (un n (dg n r) 0) wo x2 from PU.out)
        clear PP PU
        have HLs := Lib.hid (fun k (hk : k < n) => (show nth (lessL n r n) k = (dg n r k : Int) from by rw [lessL_nth n r n k hk, if_pos (by omega)]))
        have HDl := Lib.hid (dg_lt n r)
        have HTk := Lib.hid (show ∀ k, tk n (dg n r) k = nth (un n (dg n r) k) (dg n r k) from fun k => rfl)
        have HUn := Lib.hid (un_succ n (dg n r))
        have HPs := Lib.hid (pl_set n (dg n r))
        have HPo := Lib.hid (pl_ord n (dg n r))
        clear HU HS H1 HE HLe hlt g5
        go_wp2
        go_loopw [9, 48] (fun s i wr => ∃ k : Nat, k ≤ n ∧ s = .slice (some ⟨gu, 0, none⟩) (n - k) n ∧ i = .int .i64 k ∧ Hid (Own wo.heap.size gu (n - k) n (un n (dg n r) k) wo wr) ∧ Hid (Own wo.heap.size gp n n (pl n (dg n r) k) wo wr)) (fun _ i _ => n - (intOf i).toNat)
        case atStart => exact ⟨0, by omega, rfl, rfl, PU0, PP0⟩
        case round =>
          clear PU0 PP0
          obtain ⟨k, hk, rfl, rfl, HQU, HQP⟩ := hrel
          by_cases hlt : k < n
          · have c1 := (HO.out.keep HQP.out.2.2.2).cell k hlt
            rw [HLs.out k hlt] at c1
            have hd := HDl.out k hlt
            have c2 := HQU.out.cell (dg n r k) hd
            rw [← HTk.out k] at c2
            have c3 := HQP.out.cell k hlt
            have f3 := HQP.out.frozen k
            have HU2 := Lib.hid (HQU.out.aside gp k (.int .i64 (tk n (dg n r) k)) hne.out HQP.out.2.1)
            have HP2 : Hid (Own wo.heap.size gp n n (pl n (dg n r) (k + 1)) wo (wr.setCell ⟨gp, k, none⟩ (.int .i64 (tk n (dg n r) k)))) := by
              show Own _ _ _ _ _ _ _
              rw [← HPs.out k hlt]
              exact HQP.out.set k _
            have hun := Lib.hid (HUn.out k)
            have hdi : (dg n r k : Int) < ((n - k : Nat) : Int) := by omega
            generalize dg n r k = d at *
            generalize tk n (dg n r) k = T at *
            generalize nth (pl n (dg n r) k) k = old at *
            go_wp2_with fail
            refine (del_any wo.heap.size gu (n - k) n _ wo _ d HU2.out hd).mono ?_
            rintro e w3 ⟨rfl, hu3, hk3⟩
            rw [← hun.out, show n - k - 1 = n - (k + 1) by omega] at hu3
            have HU3 := Lib.hid hu3
            have HP3 := Lib.hid (HP2.out.same (hk3 gp hne.out) hu3.2.2.2)
            have e5 : n - k - 1 = n - (k + 1) := by omega
            clear hu3 hk3 HU2 HP2
            rw [e5]
            go_wp2
            go_roundw
            case rel => exact ⟨k + 1, by omega, rfl, by go_num, HU3, HP3⟩
            case measure => simp [intOf]; omega
          · obtain rfl : n = k := by omega
            rw [HPo.out] at HQP
            go_wp2
            go_ret2
            exact ⟨gp, rfl, by rw [hgl]; exact HQP.out.down HO.out.2.2.2 hgl2⟩
end Go.Proofs.Ytaobaiifbmhegaa.nt
