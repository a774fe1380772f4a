/-
  What gen.Draw, the reference's Draw and Numbers, and both Mixed answer.
-/
import Derived.Test.YtdeflnnbnabbgaaRFav
import Derived.Laws.Bits64
namespace Go.Proofs.Ytdeflnnbnabbgaa
open Go.RowKit
set_option linter.unusedVariables false
def enc (l : List Int) : List Value := l.map (Value.int .i64)
theorem enc_app (l : List Int) (x : Int) : enc (l ++ [x]) = enc l ++ [.int .i64 x] := by simp [enc]
theorem entry_yes (n : Int) (h0 : 0 ≤ n) (h1 : n ≤ 2147483647) (w : World) : Calls Try.prog 26 #[.int .i64 n] w fun e w' => e = .returned (.bool true) ∧ w = w' := by
  go_enter Try.func26, Try.ntmps26
  go_wp2
  go_ret
  exact ⟨rfl, rfl⟩
theorem entry_no (n : Int) (h : n < 0 ∨ 2147483647 < n) (w : World) : Calls Try.prog 26 #[.int .i64 n] w fun e w' => e = .returned (.bool false) ∧ w = w' := by
  by_cases h0 : n < 0
  · clear h
    go_enter Try.func26, Try.ntmps26
    go_wp2
    go_ret
    exact ⟨rfl, rfl⟩
  · have h1 : 2147483647 < n := by omega
    clear h
    have h2 : decide (n ≤ 2147483647) = false := decide_eq_false (by omega)
    go_enter Try.func26, Try.ntmps26
    go_wp2
    go_ret
    exact ⟨rfl, rfl⟩
theorem draw_no (s n : Int) (h : n < 0 ∨ 2147483647 < n) (w : World) : Calls Try.prog 24 #[.int .u64 s, .int .i64 n] w fun e w' => e = .returned (.tuple #[.int .i64 0, .int .u64 s]) ∧ w = w' := by
  have H := Lib.hid (fun W => entry_no n h W)
  clear h
  go_enter Try.func24, Try.ntmps24
  go_wp2_with fail
  refine (H.out _).mono ?_; rintro e w1 ⟨rfl, rfl⟩
  go_wp2
  go_ret2
  exact ⟨rfl, rfl⟩
theorem refdraw_no (s n : Int) (h : n < 0 ∨ 2147483647 < n) (w : World) : Calls Try.prog 27 #[.int .u64 s, .int .i64 n] w fun e w' => e = .returned (.tuple #[.int .i64 0, .int .u64 s]) ∧ w = w' := by
  by_cases h0 : n < 0
  · clear h
    go_enter Try.func27, Try.ntmps27
    go_wp2
    go_ret2
    exact ⟨rfl, rfl⟩
  · have h1 : 2147483647 < n := by omega
    clear h
    go_enter Try.func27, Try.ntmps27
    go_wp2
    go_ret2
    exact ⟨rfl, rfl⟩
set_option maxRecDepth 100000 in
theorem draw_yes (s n t q r : Int) (h0 : 0 ≤ n) (h1 : n ≤ 2147483647)
    (ht : IntKind.u64.wrap (IntKind.u64.wrap (s * 6364136223846793005) + 1442695040888963407) = t) (t0 : 0 ≤ t) (t1 : t ≤ 18446744073709551615) (hq : t / 8589934592 = q) (q0 : 0 ≤ q) (q1 : q ≤ 2147483647) (hr : q % (n + 1) = r)
    (w : World) : Calls Try.prog 24 #[.int .u64 s, .int .i64 n] w fun e w' => e = .returned (.tuple #[.int .i64 r, .int .u64 t]) ∧ w = w' := by
  have H := Lib.hid (fun W => entry_yes n h0 h1 W)
  go_enter Try.func24, Try.ntmps24
  go_wp2_with fail
  refine (H.out _).mono ?_; rintro e w1 ⟨rfl, rfl⟩
  go_wp2
  go_ret2
  exact ⟨congrArg (fun b => Ending.returned (.tuple #[.int .i64 b, .int .u64 t])) hr, rfl⟩
set_option maxRecDepth 100000 in
theorem refdraw_yes (s n t q r : Int) (h0 : 0 ≤ n) (h1 : n ≤ 2147483647)
    (ht : IntKind.u64.wrap (IntKind.u64.wrap (s * 6364136223846793005) + 1442695040888963407) = t) (t0 : 0 ≤ t) (t1 : t ≤ 18446744073709551615) (hq : t / 8589934592 = q) (q0 : 0 ≤ q) (q1 : q ≤ 2147483647) (hr : q % (n + 1) = r)
    (w : World) : Calls Try.prog 27 #[.int .u64 s, .int .i64 n] w fun e w' => e = .returned (.tuple #[.int .i64 r, .int .u64 t]) ∧ w = w' := by
  go_enter Try.func27, Try.ntmps27
  go_wp2
  go_ret2
  exact ⟨congrArg (fun b => Ending.returned (.tuple #[.int .i64 b, .int .u64 t])) hr, rfl⟩
/-- the next seed -/
def nxt (s : Int) : Int := IntKind.u64.wrap (IntKind.u64.wrap (s * 6364136223846793005) + 1442695040888963407)
theorem nxt_bd (s : Int) : 0 ≤ nxt s ∧ nxt s ≤ 18446744073709551615 := by unfold nxt; rw [IntKind.wrap_u64]; omega
/-- the seed behind k draws -/
def sd (s : Int) : Nat → Int
  | 0 => s
  | k + 1 => nxt (sd s k)
theorem sd_zero (s : Int) : sd s 0 = s := rfl
theorem sd_succ (s : Int) (k : Nat) : sd s (k + 1) = nxt (sd s k) := rfl
/-- the number of draw k -/
def dr (m s : Int) (k : Nat) : Int := (sd s (k + 1) / 8589934592) % (m + 1)
theorem dr_bd (m s : Int) (k : Nat) (h0 : 0 ≤ m) : 0 ≤ dr m s k ∧ dr m s k ≤ m := by
  unfold dr
  have h1 := Int.emod_nonneg (sd s (k + 1) / 8589934592) (show m + 1 ≠ 0 by omega)
  have h2 := Int.emod_lt_of_pos (sd s (k + 1) / 8589934592) (show 0 < m + 1 by omega)
  omega
theorem gdraw_any (m s : Int) (h0 : 0 ≤ m) (h1 : m ≤ 2147483647) (k : Nat) (w : World) : Calls Try.prog 24 #[.int .u64 (sd s k), .int .i64 m] w fun e w' => e = .returned (.tuple #[.int .i64 (dr m s k), .int .u64 (sd s (k + 1))]) ∧ w' = w := by
  have hb := nxt_bd (sd s k)
  refine (draw_yes (sd s k) m (sd s (k + 1)) (sd s (k + 1) / 8589934592) (dr m s k) h0 h1 rfl hb.1 hb.2 rfl ?_ ?_ rfl w).mono fun e w' h => ⟨h.1, h.2.symm⟩
  · rw [sd_succ]; omega
  · rw [sd_succ]; omega
theorem refdraw_any (m s : Int) (h0 : 0 ≤ m) (h1 : m ≤ 2147483647) (k : Nat) (w : World) : Calls Try.prog 27 #[.int .u64 (sd s k), .int .i64 m] w fun e w' => e = .returned (.tuple #[.int .i64 (dr m s k), .int .u64 (sd s (k + 1))]) ∧ w' = w := by
  have hb := nxt_bd (sd s k)
  refine (refdraw_yes (sd s k) m (sd s (k + 1)) (sd s (k + 1) / 8589934592) (dr m s k) h0 h1 rfl hb.1 hb.2 rfl ?_ ?_ rfl w).mono fun e w' h => ⟨h.1, h.2.symm⟩
  · rw [sd_succ]; omega
  · rw [sd_succ]; omega
attribute [irreducible] nxt sd dr
/-- the first k numbers that are drawn -/
def DL (m s : Int) (k : Nat) : List Int := (List.range k).map fun j => dr m s j
theorem DL_len (m s : Int) (k : Nat) : (DL m s k).length = k := by simp [DL]
theorem DL_succ (m s : Int) (k : Nat) : DL m s (k + 1) = DL m s k ++ [dr m s k] := by simp [DL, List.range_succ]
theorem DL_zero (m s : Int) : DL m s 0 = [] := rfl
theorem DL_at (m s : Int) (n j : Nat) (h : j < n) : (enc (DL m s n))[j]? = some (.int .i64 (dr m s j)) := by unfold enc DL; simp [h]
attribute [irreducible] DL
set_option maxRecDepth 100000 in
set_option maxHeartbeats 2000000 in
theorem numbers_any (m s : Int) (h0 : 0 ≤ m) (h1 : m ≤ 2147483647) (n : Nat) (n2 : n ≤ 2500) (w : World) :
    Calls Try.prog 25 #[.int .i64 n, .int .i64 m, .int .u64 s] w fun e w' => ∃ v, e = .returned (.tuple #[v, .int .u64 (sd s n)]) ∧ w'.ownsRow w.heap.size 3 1 v n (enc (DL m s n)) ∧ Below w.heap.size w w' := by
  obtain ⟨i0, hi, hz0, hz1, hz2⟩ := info_parts info3
  have HD := Lib.hid (fun k W => refdraw_any m s h0 h1 k W)
  have hs0 : Hid (s = sd s 0) := (sd_zero s).symm
  go_enter Try.func25, Try.ntmps25
  go_wp2
  go_loopw [2, 8, 9] (fun q v i wr => ∃ k : Nat, k ≤ n ∧ i = .int .i64 k ∧ q = .int .u64 (sd s k) ∧ Hid (wr.ownsRow w.heap.size 3 1 v k (enc (DL m s k))) ∧ Hid (Below w.heap.size w wr)) (fun _ _ i _ => n - (intOf i).toNat)
  case atStart => exact ⟨0, by omega, rfl, by rw [sd_zero], by rw [DL_zero]; exact World.ownsRow_nil _ _ _ _, Below.refl _ _⟩
  case round =>
    obtain ⟨k, hk, rfl, rfl, HO, HB⟩ := hrel
    by_cases hlt : k < n
    · have g1 : (k : Int) < (n : Int) := by omega
      have hbs : w.heap.size ≤ (wr.alloc (.cells #[.int .i64 (dr m s k)] 3)).heap.size := by have := HB.out.size; simp; omega
      have HN : Hid (∀ (v' : Value) (w1 : World), w1.ownsRow w.heap.size 3 1 v' (k + 1) (enc (DL m s k) ++ [.int .i64 (dr m s k)]) → w1.ownsRow w.heap.size 3 1 v' (k + 1) (enc (DL m s (k + 1)))) := fun v' w1 h => by
        rw [DL_succ, enc_app]; exact h
      go_wp2_with fail
      refine (HD.out k _).mono ?_; rintro e w1 ⟨rfl, rfl⟩
      generalize dr m s k = x at *
      go_wp2_with (at_builtin; refine wpList_append_own _ rfl _ _ 22 rfl w.heap.size 3 i0 (.int .i64 0) 1 8 Try.underlying22 hi hz0 hz1 hz2 rfl (by decide) _ k _ rfl (HO.out.alloc _) ⟨World.heap _ |>.size, 0, none⟩ 1 1 [.int .i64 x] rfl rfl (cell_one_new _ _ _) (by simp [Value.oneCell']) (by unfold maxLen; omega) (by omega) hbs ?_)
      intro v' w5 ho' hg' _
      have hrow := HO.out.lt
      have HO2 := Lib.hid (HN.out v' w5 ho')
      have HB2 := Lib.hid ((HB.out.alloc HB.out.size (.cells #[.int .i64 x] 3)).grown hg' hbs (fun kk hkk => (hrow kk hkk).1))
      clear ho' hg' HN HO HB hrow
      go_wp2
      go_roundw
      case rel => exact ⟨k + 1, by omega, by go_num, rfl, HO2, HB2⟩
      case measure => simp [intOf]; omega
    · obtain rfl : k = n := by omega
      go_wp2
      go_ret2
      exact ⟨_, rfl, HO.out, HB.out⟩

/-- the first k of them, then noughts -/
def DM (m s : Int) (count k : Nat) : List Int := (List.range count).map fun j => if j < k then dr m s j else 0
theorem DM_len (m s : Int) (count k : Nat) : (DM m s count k).length = count := by simp [DM]
theorem DM_nth (m s : Int) (count k j : Nat) (h : j < count) : nth (DM m s count k) j = if j < k then dr m s j else 0 := by
  rw [nth_at _ j (by rw [DM_len]; exact h)]; simp [DM]
theorem DL_nth (m s : Int) (k j : Nat) (h : j < k) : nth (DL m s k) j = dr m s j := by
  rw [nth_at _ j (by rw [DL_len]; exact h)]; simp [DL]
theorem DM_zero (m s : Int) (count : Nat) : List.replicate count 0 = DM m s count 0 := nth_ext _ _ (by rw [DM_len]; simp) (fun i hi => by
  simp at hi
  rw [DM_nth _ _ _ _ i hi, if_neg (by omega), nth_at _ i (by simpa using hi)]; simp)
theorem DM_all (m s : Int) (count : Nat) : DM m s count count = DL m s count := nth_ext _ _ (by rw [DM_len, DL_len]) (fun i hi => by
  rw [DM_len] at hi
  rw [DM_nth _ _ _ _ i hi, if_pos hi, DL_nth _ _ _ i hi])
theorem DM_set (m s : Int) (count k : Nat) (h : k < count) : (DM m s count k).set k (dr m s k) = DM m s count (k + 1) := nth_ext _ _ (by simp [DM_len]) (fun i hi => by
  simp [DM_len] at hi
  rw [nth_set _ _ _ _ (by rw [DM_len]; omega), DM_nth m s count (k + 1) i hi]
  by_cases h1 : k = i
  · subst h1; rw [if_pos rfl, if_pos (by omega)]
  · rw [if_neg h1, DM_nth m s count k i hi]
    by_cases h2 : i < k
    · rw [if_pos h2, if_pos (by omega)]
    · rw [if_neg h2, if_neg (by omega)])
attribute [irreducible] DM
set_option maxRecDepth 100000 in
set_option maxHeartbeats 4000000 in
theorem mixed_ok (n count : Nat) (s : Int) (hn1 : 1 ≤ n) (hn : n ≤ 16) (hc : count ≤ 2500) (w : World) :
    Calls Try.prog 18 #[.int .i64 n, .int .i64 count, .int .u64 s] w (LCall (DL ((n : Int) - 1) s count) w) := by
  obtain ⟨i0, hi, hz0, hz1, hz2⟩ := info_parts info3
  have HM := Lib.hid (fun W => may_yes n count ⟨by omega, by omega, by omega, by omega⟩ W)
  have HD := Lib.hid (fun k W => gdraw_any ((n : Int) - 1) s (by omega) (by omega) k W)
  have HB := Lib.hid (Below.refl w.heap.size w)
  have hs0 : Hid (s = sd s 0) := (sd_zero s).symm
  go_enter Try.func18, Try.ntmps18
  go_wp2_with fail
  refine (HM.out _).mono ?_; rintro E w1 ⟨rfl, rfl⟩
  go_wp2_with (at_make; refine wpList_make_full _ rfl _ _ 22 rfl w.heap.size 3 i0 (.int .i64 0) 1 Try.underlying22 hi hz0 hz1 .i64 .i64 _ _ count rfl rfl rfl rfl (by rw [hz2]; omega) (by unfold maxLen; omega) HB.out.size ?_)
  intro w2 hown hgrow
  have hb2 : Below w.heap.size w w2 := HB.out.grown hgrow HB.out.size (fun j hj => by cases hj)
  have A0 := Lib.hid (made_own' HB.out.size hown hb2)
  clear hown hgrow hb2
  generalize hgl : w.heap.size = gl at *
  rw [DM_zero ((n : Int) - 1) s count] at A0
  have HS := Lib.hid (DM_set ((n : Int) - 1) s count)
  have HA := Lib.hid (DM_all ((n : Int) - 1) s count)
  have HL := Lib.hid (DL_len ((n : Int) - 1) s count)
  go_wp2
  go_loopw [2, 8, 17] (fun q _ i wr => ∃ k : Nat, k ≤ count ∧ i = .int .i64 k ∧ q = .int .u64 (sd s k) ∧ Hid (Own gl gl count count (DM ((n : Int) - 1) s count k) w wr)) (fun _ _ i _ => count - (intOf i).toNat)
  case atStart => exact ⟨0, by omega, rfl, by rw [← hs0.out], A0⟩
  case round =>
    clear A0
    obtain ⟨k, hk, rfl, rfl, HO⟩ := hrel
    by_cases hlt : k < count
    · have c1 := HO.out.cell k hlt
      have c2 := HO.out.frozen k
      have HN : Hid (Own gl gl count count (DM ((n : Int) - 1) s count (k + 1)) w (wr.setCell ⟨gl, k, none⟩ (.int .i64 (dr ((n : Int) - 1) s k)))) := by
        show Own _ _ _ _ _ _ _
        rw [← HS.out k hlt]
        exact HO.out.set k _
      generalize nth (DM ((n : Int) - 1) s count k) k = old at *
      go_wp2_with fail
      refine (HD.out k _).mono ?_; rintro e w5 ⟨rfl, rfl⟩
      generalize dr ((n : Int) - 1) s k = x at *
      go_wp2
      go_roundw
      case rel => exact ⟨k + 1, by omega, by go_num, rfl, HN⟩
      case measure => simp [intOf]; omega
    · obtain rfl : k = count := by omega
      rw [HA.out] at HO
      have HQ : Hid (LCall (DL ((n : Int) - 1) s k) w (.returned (.slice (some ⟨gl, 0, none⟩) k k)) wr) := own_lcall (by rw [hgl]; exact HO.out)
      go_wp2
      go_ret
      exact HQ.out
set_option maxRecDepth 100000 in
set_option maxHeartbeats 4000000 in
theorem rmixed_ok (n count : Nat) (s : Int) (hn1 : 1 ≤ n) (hn : n ≤ 16) (hc : count ≤ 2500) (w : World) :
    Calls Try.prog 19 #[.int .i64 n, .int .i64 count, .int .u64 s] w (LCall (DL ((n : Int) - 1) s count) w) := by
  have HM := Lib.hid (fun W => fine_yes n count ⟨by omega, by omega, by omega, by omega⟩ W)
  have HN := Lib.hid (fun W => numbers_any ((n : Int) - 1) s (by omega) (by omega) count hc W)
  have HL := Lib.hid (DL_len ((n : Int) - 1) s count)
  go_enter Try.func19, Try.ntmps19
  go_wp2_with fail
  refine (HM.out _).mono ?_; rintro E w1 ⟨rfl, rfl⟩
  go_wp2_with fail
  refine (HN.out _).mono ?_; rintro E w1 ⟨v, rfl, ho, hb⟩
  obtain ⟨a, c, rfl, hI⟩ := owns_ints HL.out ho
  have HQ : Hid (LCall (DL ((n : Int) - 1) s count) w (.returned (.slice a count c)) w1) := ⟨_, rfl, a, c, by rw [HL.out], hI, hb⟩
  clear hI hb ho
  go_wp2
  go_ret
  exact HQ.out
theorem mixed_no (n c s : Int) (h : ¬ okN n c) (w : World) : Calls Try.prog 18 #[.int .i64 n, .int .i64 c, .int .u64 s] w (LCall [] w) := by
  have HM := Lib.hid (fun W => may_no n c h W)
  clear h
  go_enter Try.func18, Try.ntmps18
  go_wp2_with fail
  refine (HM.out _).mono ?_; rintro e w1 ⟨rfl, rfl⟩
  go_wp2
  go_ret
  exact ⟨_, rfl, _, _, rfl, ints_nil _ _, Below.refl _ _⟩
theorem rmixed_no (n c s : Int) (h : ¬ okN n c) (w : World) : Calls Try.prog 19 #[.int .i64 n, .int .i64 c, .int .u64 s] w (LCall [] w) := by
  have HM := Lib.hid (fun W => fine_no n c h W)
  clear h
  go_enter Try.func19, Try.ntmps19
  go_wp2_with fail
  refine (HM.out _).mono ?_; rintro e w1 ⟨rfl, rfl⟩
  go_wp2
  go_ret
  exact ⟨_, rfl, _, _, rfl, ints_nil _ _, Below.refl _ _⟩
open Classical in
noncomputable def MIX (n c s : Int) : List Int := if okN n c then DL (n - 1) s c.toNat else []
theorem MIX_no (n c s : Int) (h : ¬ okN n c) : MIX n c s = [] := if_neg h
theorem MIX_yes (n c : Nat) (s : Int) (h : okN n c) : MIX n c s = DL ((n : Int) - 1) s c := if_pos h
theorem MIX_len (n c s : Int) (hc : c ≤ 2500 ∨ 1000000 < c) : (MIX n c s).length ≤ 2500 := by
  by_cases h : okN n c
  · obtain ⟨h1, h2, h3, h4⟩ := h
    obtain ⟨n', rfl⟩ := nat_of n (by omega)
    obtain ⟨c', rfl⟩ := nat_of c (by omega)
    rw [MIX_yes n' c' s ⟨h1, h2, h3, h4⟩, DL_len]; omega
  · rw [MIX_no n c s h]; simp
attribute [irreducible] MIX
theorem FAV_len (n who e c : Int) (hc : c ≤ 2500 ∨ 1000000 < c) : (FAV n who e c).length ≤ 2500 := by
  by_cases h : okF n who e c
  · have h' := h
    obtain ⟨⟨h1, h2, h3, h4⟩, h5, h6, h7⟩ := h'
    obtain ⟨n', rfl⟩ := nat_of n (by omega)
    obtain ⟨who', rfl⟩ := nat_of who (by omega)
    obtain ⟨e', rfl⟩ := nat_of e (by omega)
    obtain ⟨c', rfl⟩ := nat_of c (by omega)
    rw [FAV_yes n' who' e' c' h, FV_len]; omega
  · rw [FAV_no n who e c h]; simp
theorem mixed_any (n c s : Int) (hc : c ≤ 2500 ∨ 1000000 < c) (w : World) : Calls Try.prog 18 #[.int .i64 n, .int .i64 c, .int .u64 s] w (LCall (MIX n c s) w) := by
  by_cases h : okN n c
  · obtain ⟨h1, h2, h3, h4⟩ := h
    obtain ⟨n', rfl⟩ := nat_of n (by omega)
    obtain ⟨c', rfl⟩ := nat_of c (by omega)
    rw [MIX_yes n' c' s ⟨h1, h2, h3, h4⟩]
    exact mixed_ok n' c' s (by omega) (by omega) (by omega) w
  · rw [MIX_no n c s h]; exact mixed_no n c s h w
theorem rmixed_any (n c s : Int) (hc : c ≤ 2500 ∨ 1000000 < c) (w : World) : Calls Try.prog 19 #[.int .i64 n, .int .i64 c, .int .u64 s] w (LCall (MIX n c s) w) := by
  by_cases h : okN n c
  · obtain ⟨h1, h2, h3, h4⟩ := h
    obtain ⟨n', rfl⟩ := nat_of n (by omega)
    obtain ⟨c', rfl⟩ := nat_of c (by omega)
    rw [MIX_yes n' c' s ⟨h1, h2, h3, h4⟩]
    exact rmixed_ok n' c' s (by omega) (by omega) (by omega) w
  · rw [MIX_no n c s h]; exact rmixed_no n c s h w
end Go.Proofs.Ytdeflnnbnabbgaa
