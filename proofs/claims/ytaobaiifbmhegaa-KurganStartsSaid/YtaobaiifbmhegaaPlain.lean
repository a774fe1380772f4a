/-
  What value.Value and value.Plain answer.
-/
import Derived.Test.YtaobaiifbmhegaaTotal
namespace Go.Proofs.Ytaobaiifbmhegaa
open Go.RowKit
set_option linter.unusedVariables false

theorem cost_bd (K N C : Int) (wl vl : List Int) (cl : List (List Int)) (x : List Int) : 0 ≤ (costR K N C wl vl cl x).1 ∧ (costR K N C wl vl cl x).1 ≤ 137438953408 := by
  by_cases hc : chk K N C wl vl cl = 0
  · by_cases ho : okx K N x
    · rcases (show K = 1 ∨ K = 2 ∨ K = 3 by rcases (chk_zero hc).2 with z | z <;> omega) with rfl | rfl | rfl
      · rw [cost_items hc ho]
        unfold itemsR
        split
        · simp
        · obtain ⟨z0, z⟩ := chk_zero hc
          rcases z with ⟨_, z1, z2, z3, z4, z5, z6⟩ | ⟨z1, _⟩
          · have hl := ho.1
            have := ps_bd (lft x vl) x.length (fun j hj => by
              have := items_ok wl vl (by omega) z6 j (by omega)
              unfold lft; split <;> omega) x.length (Nat.le_refl _)
            have := mul_le x.length (by omega)
            exact ⟨by simp only; omega, by simp only; omega⟩
          · omega
      · obtain ⟨c1, c2, c3, c4, c5, c6⟩ := chk_rows (by decide) hc ho
        rw [cost_rows hc ho]
        have := ps_bd (rowc cl x) x.length (fun j hj => ent_ok c4 c6 _ _ (by omega) (by have := c5 j hj; omega)) x.length (Nat.le_refl _)
        have := mul_le x.length c3
        exact ⟨by simp only; omega, by simp only; omega⟩
      · obtain ⟨c1, c2, c3, c4, c5, c6⟩ := chk_rows (by decide) hc ho
        rw [cost_ways hc ho]
        have := ps_bd (wayc cl x) x.length (fun j hj => ent_ok c4 c6 _ _ (by have : 0 ≤ hereAt x j ∧ hereAt x j < x.length := (by unfold hereAt; split; exact c5 _ (by omega); exact c5 _ (by omega)); omega) (by have := c5 j hj; omega)) x.length (Nat.le_refl _)
        have := mul_le x.length c3
        exact ⟨by simp only; omega, by simp only; omega⟩
    · rw [cost_arg hc ho]; simp
  · rw [cost_bad hc]; simp
open Classical in
noncomputable def valueR (K N C : Int) (wl vl : List Int) (cl : List (List Int)) (x : List Int) : Int × Int :=
  if (costR K N C wl vl cl x).2 = 0 then (ofR K N C wl vl cl (costR K N C wl vl cl x).1, 0) else (0, (costR K N C wl vl cl x).2)
theorem value_ok {K N C : Int} {wl vl : List Int} {cl : List (List Int)} {x : List Int} (h : (costR K N C wl vl cl x).2 = 0) : valueR K N C wl vl cl x = (ofR K N C wl vl cl (costR K N C wl vl cl x).1, 0) := by unfold valueR; rw [if_pos h]
theorem value_bad {K N C : Int} {wl vl : List Int} {cl : List (List Int)} {x : List Int} (h : (costR K N C wl vl cl x).2 ≠ 0) : valueR K N C wl vl cl x = (0, (costR K N C wl vl cl x).2) := by unfold valueR; rw [if_neg h]
attribute [irreducible] valueR
set_option maxHeartbeats 2000000 in
theorem value_any (K N C : Int) (wl vl : List Int) (cl : List (List Int)) (x : List Int) (wa va ca xa : Option Addr) (wc vc cc xc : Nat) (w : World) (h : Prob w wl vl cl wa va ca) (hI : Ints w xa x) (hl : x.length ≤ 1000) :
    Calls Try.prog 26 #[.agg #[.int .i64 K, .int .i64 N, .int .i64 C, .slice wa wl.length wc, .slice va vl.length vc, .slice ca cl.length cc], .slice xa x.length xc] w
      fun e w' => e = .returned (.tuple #[.int .i64 (valueR K N C wl vl cl x).1, .int .i64 (valueR K N C wl vl cl x).2]) ∧ Below w.heap.size w w' := by
  have bA : Below w.heap.size w (w.alloc (.cells #[.int .i64 K, .int .i64 N, .int .i64 C, .slice wa wl.length wc, .slice va vl.length vc, .slice ca cl.length cc] 25)) := bl_al (Below.refl _ _) _
  have HK := Lib.hid (cost_any K N C wl vl cl x wa va ca xa wc vc cc xc _ (h.keep bA) (hI.keep bA) hl)
  have Q := Lib.hid (heap_alloc_new w (.cells #[.int .i64 K, .int .i64 N, .int .i64 C, .slice wa wl.length wc, .slice va vl.length vc, .slice ca cl.length cc] 25))
  have BA := Lib.hid bA
  by_cases he : (costR K N C wl vl cl x).2 = 0
  · have HO := Lib.hid (fun W (hb : Below w.heap.size w W) => of_any' K N C (costR K N C wl vl cl x).1 (by have := cost_bd K N C wl vl cl x; omega) wl vl cl wa va ca wc vc cc W (h.keep hb))
    rw [value_ok he]
    rw [he] at HK
    clear h hI hl bA he
    generalize (costR K N C wl vl cl x).1 = c at *
    generalize ofR K N C wl vl cl c = v at *
    generalize wl.length = wn at *
    generalize vl.length = vn at *
    generalize cl.length = cn at *
    generalize x.length = xn at *
    go_enter Try.func26, Try.ntmps26
    go_wp2_with fail
    refine HK.out.mono ?_; rintro e w1 ⟨rfl, hb1⟩
    obtain ⟨c0, c1, c2, c3, c4, c5⟩ := box6_keep hb1 Q.out
    have B1 := Lib.hid (bl_tr BA.out hb1)
    clear hb1
    go_wp2_with fail
    refine (HO.out _ B1.out).mono ?_; rintro e w2 ⟨rfl, hb2⟩
    go_wp2
    go_ret2
    exact ⟨rfl, bl_tr B1.out hb2⟩
  · rw [value_bad he]
    generalize (costR K N C wl vl cl x).2 = ck at *
    have he' : (ck == 0) = false := by simp [he]
    clear h hI hl bA he
    generalize (costR K N C wl vl cl x).1 = c at *
    generalize wl.length = wn at *
    generalize vl.length = vn at *
    generalize cl.length = cn at *
    generalize x.length = xn at *
    go_enter Try.func26, Try.ntmps26
    go_wp2_with fail
    refine HK.out.mono ?_; rintro e w1 ⟨rfl, hb1⟩
    obtain ⟨c0, c1, c2, c3, c4, c5⟩ := box6_keep hb1 Q.out
    have B1 := Lib.hid (bl_tr BA.out hb1)
    clear hb1
    go_wp2
    go_ret2
    exact ⟨rfl, B1.out⟩
open Classical in
/-- the plain answer -/
noncomputable def plainR (K N C : Int) (wl vl : List Int) (cl : List (List Int)) : List Int := if chk K N C wl vl cl ≠ 0 then [] else if K = 1 then List.replicate N.toNat 0 else (List.range N.toNat).map fun (n : Nat) => (n : Int)
theorem plain_bad {K N C : Int} {wl vl : List Int} {cl : List (List Int)} (h : chk K N C wl vl cl ≠ 0) : plainR K N C wl vl cl = [] := by unfold plainR; rw [if_pos h]
theorem plain_items {N C : Int} {wl vl : List Int} {cl : List (List Int)} (h : chk 1 N C wl vl cl = 0) : plainR 1 N C wl vl cl = List.replicate N.toNat 0 := by unfold plainR; rw [if_neg (by simp [h]), if_pos rfl]
theorem plain_rows {K N C : Int} {wl vl : List Int} {cl : List (List Int)} (h : chk K N C wl vl cl = 0) (hK : K ≠ 1) : plainR K N C wl vl cl = (List.range N.toNat).map fun (n : Nat) => (n : Int) := by unfold plainR; rw [if_neg (by simp [h]), if_neg hK]
attribute [irreducible] plainR
def pre (n k : Nat) : List Int := (List.range n).map fun j => if j < k then (j : Int) else 0
theorem pre_zero (n : Nat) : pre n 0 = List.replicate n 0 := by
  unfold pre
  apply List.ext_getElem?
  intro j
  by_cases h : j < n
  · simp [h]
  · simp [h]
theorem pre_next (n k : Nat) (hk : k < n) : (pre n k).set k (k : Int) = pre n (k + 1) := by
  unfold pre
  apply List.ext_getElem?
  intro j
  rw [List.getElem?_set]
  by_cases h : k = j
  · subst h
    simp [hk]
  · simp only [if_neg h]
    by_cases hj : j < n
    · simp [hj]
      have : j < k ↔ j < k + 1 := by omega
      simp [this]
    · simp [hj]
theorem pre_all (n : Nat) : pre n n = (List.range n).map fun (j : Nat) => (j : Int) := by
  unfold pre
  apply List.map_congr_left
  intro j hj
  have := List.mem_range.1 hj
  rw [if_pos this]
def PlainP (l : List Int) (w : World) (e : Ending) (w' : World) : Prop := ∃ g cap : Nat, e = .returned (.slice (some ⟨g, 0, none⟩) l.length cap) ∧ Below w.heap.size w w' ∧ IntsO w' g l
theorem pre_map (n k : Nat) (hk : k < n) : ((pre n k).map (Value.int .i64)).set k (.int .i64 k) = (pre n (k + 1)).map (Value.int .i64) := by
  rw [← pre_next n k hk, List.map_set]
def PlAt (w : World) (g n k : Nat) (wr : World) : Prop := wr.ownsRow w.heap.size 3 1 (.slice (some ⟨g, 0, none⟩) n n) n ((pre n k).map (Value.int .i64)) ∧ Below w.heap.size w wr
theorem pl_next {w wr : World} {g n k : Nat} (hk : k < n) (hg : w.heap.size ≤ g) (h : PlAt w g n k wr) : PlAt w g n (k + 1) (wr.setCell ⟨g, k, none⟩ (.int .i64 k)) := by
  obtain ⟨h1, h2⟩ := h
  refine ⟨?_, h2.setCell (p := ⟨g, k, none⟩) hg _⟩
  rw [← pre_map n k hk]
  exact (h1.stored k _).1
theorem pre_len (n k : Nat) : (pre n k).length = n := by unfold pre; simp
theorem pl_old {w wr : World} {g n k : Nat} (hk : k < n) (h : PlAt w g n k wr) : wr.cell? ⟨g, k, none⟩ = some (.int .i64 (nth (pre n k) k)) ∧ wr.frozen? ⟨g, k, none⟩ = false := by
  obtain ⟨h1, h2⟩ := h
  refine ⟨?_, h1.frozenAt k⟩
  rw [h1.cellAt k (by omega), List.getElem?_map, List.getElem?_eq_getElem (by rw [pre_len]; omega)]
  unfold nth
  rw [List.getElem?_eq_getElem (by rw [pre_len]; omega)]
  rfl
attribute [irreducible] pre
set_option maxRecDepth 1000000 in
set_option maxHeartbeats 2000000 in
theorem plain_ok (K N C : Int) (wl vl : List Int) (cl : List (List Int)) (hc : chk K N C wl vl cl = 0) (wa va ca : Option Addr) (wc vc cc : Nat) (w : World) (h : Prob w wl vl cl wa va ca) :
    Calls Try.prog 24 #[.agg #[.int .i64 K, .int .i64 N, .int .i64 C, .slice wa wl.length wc, .slice va vl.length vc, .slice ca cl.length cc]] w (PlainP (plainR K N C wl vl cl) w) := by
  obtain ⟨i0, hi, hz0, hz1, hz2⟩ := info_parts info3
  have bA : Below w.heap.size w (w.alloc (.cells #[.int .i64 K, .int .i64 N, .int .i64 C, .slice wa wl.length wc, .slice va vl.length vc, .slice ca cl.length cc] 25)) := bl_al (Below.refl _ _) _
  have HK := Lib.hid (check_prob K N C (wc := wc) (vc := vc) (cc := cc) (h.keep bA))
  have Q := Lib.hid (heap_alloc_new w (.cells #[.int .i64 K, .int .i64 N, .int .i64 C, .slice wa wl.length wc, .slice va vl.length vc, .slice ca cl.length cc] 25))
  have BA := Lib.hid bA
  obtain ⟨z0, z⟩ := chk_zero hc
  rw [hc] at HK
  obtain ⟨n, rfl⟩ : ∃ n : Nat, N = n := ⟨N.toNat, by omega⟩
  have hn : n ≤ 64 := by rcases z with z | z <;> omega
  have hn1 : 1 ≤ n := by omega
  have HR : Hid ((K = 1 ∧ plainR K n C wl vl cl = pre n 0) ∨ (K ≠ 1 ∧ plainR K n C wl vl cl = pre n n)) := by
    by_cases hK : K = 1
    · subst hK; exact Or.inl ⟨rfl, by rw [plain_items hc, pre_zero]; simp⟩
    · exact Or.inr ⟨hK, by rw [plain_rows hc hK, pre_all]; simp⟩
  have HL := Lib.hid (pre_len n)
  clear bA h hc z
  generalize plainR K n C wl vl cl = R at *
  generalize wl.length = wn at *
  generalize vl.length = vn at *
  generalize cl.length = cn at *
  go_enter Try.func24, Try.ntmps24
  go_wp2_with fail
  refine HK.out.mono ?_; rintro e w1 ⟨rfl, hb1⟩
  obtain ⟨c0, c1, c2, c3, c4, c5⟩ := box6_keep hb1 Q.out
  have B1 := Lib.hid (bl_tr BA.out hb1)
  have HB1 := Lib.hid hb1
  clear hb1
  go_wp2_with (at_make; refine wpList_make_full _ rfl _ _ 22 rfl w.heap.size 3 i0 (.int .i64 0) 1 Try.underlying22 hi hz0 hz1 .i64 .i64 _ _ n rfl rfl rfl rfl (by rw [hz2]; omega) (by unfold maxLen; omega) B1.out.size ?_)
  intro w2 hown hgrow
  have hb2 : Below w1.heap.size w1 w2 := (Below.refl w1.heap.size w1).grown hgrow (Nat.le_refl _) (fun j hj => by cases hj)
  clear c0 c1 c2 c3 c4 c5
  obtain ⟨c0, c1, c2, c3, c4, c5⟩ := box6_keep (bl_tr HB1.out hb2) Q.out
  have A0 : Hid (PlAt w w1.heap.size n 0 w2) := ⟨by rw [pre_zero, List.map_replicate, ← toList_madeCells_one]; exact hown, bl_tr B1.out hb2⟩
  have hg : w.heap.size ≤ w1.heap.size := B1.out.size
  clear hown hgrow hb2
  generalize w1.heap.size = g at *
  rcases Classical.em (K = 1) with hK | hK
  · have hr : R = pre n 0 := by rcases HR.out with h | h <;> first | exact h.2 | exact absurd hK h.1
    subst hK
    have hl := HL.out 0
    clear HR
    go_wp2
    go_ret
    exact ⟨g, n, by rw [hr, hl]; rfl, A0.out.2, by rw [hr]; exact ints_own hl A0.out.1⟩
  · have hr : R = pre n n := by rcases HR.out with h | h <;> first | exact h.2 | exact absurd h.1 hK
    have hl := HL.out n
    have HRr := Lib.hid hr
    have HLl := Lib.hid hl
    have hK' : (K == 1) = false := by simp [hK]
    clear HR hr hl hK
    go_wp2
    clear c0 c1 c2 c3 c4 c5
    go_loopw [16] (fun i wr => ∃ k : Nat, k ≤ n ∧ i = .int .i64 k ∧ Hid (PlAt w g n k wr)) (fun i _ => n - (intOf i).toNat)
    case atStart => exact ⟨0, by omega, rfl, A0⟩
    case round =>
      clear A0
      obtain ⟨k, hk, rfl, HP⟩ := hrel
      by_cases hlt : k < n
      · obtain ⟨o1, o2⟩ := pl_old hlt HP.out
        go_wp2
        go_roundw
        case rel => exact ⟨k + 1, by omega, by go_num, pl_next hlt hg HP.out⟩
        case measure => simp [intOf]; omega
      · obtain rfl : n = k := by omega
        go_wp2
        go_ret
        exact ⟨g, n, by rw [HRr.out, HLl.out]; rfl, HP.out.2, by rw [HRr.out]; exact ints_own HLl.out HP.out.1⟩
theorem plain_none (K N C : Int) (wl vl : List Int) (cl : List (List Int)) (hc : chk K N C wl vl cl ≠ 0) (wa va ca : Option Addr) (wc vc cc : Nat) (w : World) (h : Prob w wl vl cl wa va ca) :
    Calls Try.prog 24 #[.agg #[.int .i64 K, .int .i64 N, .int .i64 C, .slice wa wl.length wc, .slice va vl.length vc, .slice ca cl.length cc]] w fun e w' => e = .returned (.slice none 0 0) ∧ Below w.heap.size w w' := by
  have bA : Below w.heap.size w (w.alloc (.cells #[.int .i64 K, .int .i64 N, .int .i64 C, .slice wa wl.length wc, .slice va vl.length vc, .slice ca cl.length cc] 25)) := bl_al (Below.refl _ _) _
  have HK := Lib.hid (check_prob K N C (wc := wc) (vc := vc) (cc := cc) (h.keep bA))
  have BA := Lib.hid bA
  clear h bA
  generalize chk K N C wl vl cl = ck at *
  have hc' : (ck == 0) = false := by simp [hc]
  generalize wl.length = wn at *
  generalize vl.length = vn at *
  generalize cl.length = cn at *
  go_enter Try.func24, Try.ntmps24
  go_wp2_with fail
  refine HK.out.mono ?_; rintro e w1 ⟨rfl, hb1⟩
  go_wp2
  go_ret
  exact ⟨rfl, bl_tr BA.out hb1⟩
end Go.Proofs.Ytaobaiifbmhegaa
