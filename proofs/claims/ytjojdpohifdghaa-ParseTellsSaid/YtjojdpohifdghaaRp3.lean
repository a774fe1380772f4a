/-
  What the tokens tell, case by case, as the reference finds it.
-/
import Derived.Test.YtjojdpohifdghaaRp2
namespace Go.Proofs.Ytjojdpohifdghaa
open Go.RowKit
set_option linter.unusedVariables false
theorem nf3 {t : Tok} {m : Int} (h : t.kind = 3) : nf t.kind t.num m = 6 := by unfold nf; rw [if_pos h]
theorem nf1 {t : Tok} {m : Int} (h : t.kind = 1) : nf t.kind t.num m = 4 := by unfold nf; rw [if_neg (by omega), if_pos h]
theorem nf5 {t : Tok} {m : Int} (h : t.kind = 2) (h2 : m < t.num) : nf t.kind t.num m = 5 := by unfold nf; rw [if_neg (by omega), if_neg (by omega), if_pos h2]
theorem nf0 {t : Tok} {m : Int} (h : t.kind = 2) (h2 : ¬ m < t.num) : nf t.kind t.num m = 0 := by unfold nf; rw [if_neg (by omega), if_neg (by omega), if_neg h2]
theorem eE3 {t : Tok} (h : t.kind = 3) : eE t = 6 := nf3 h
theorem eE1 {t : Tok} (h : t.kind = 1) : eE t = 4 := nf1 h
theorem eE5 {t : Tok} (h : t.kind = 2) (h2 : 2147483647 < t.num) : eE t = 5 := nf5 h h2
theorem eE0 {t : Tok} (h : t.kind = 2) (h2 : ¬ 2147483647 < t.num) : eE t = 0 := nf0 h h2
theorem zf3 {t : Tok} (h : t.kind = 3) : zf t = 6 := by unfold zf; rw [nf3 h]; rfl
theorem zf1 {t : Tok} (h : t.kind = 1) : zf t = 4 := by unfold zf; rw [nf1 h]; rfl
theorem zf5 {t : Tok} (h : t.kind = 2) (h2 : 2147483647 < t.num) : zf t = 5 := by unfold zf; rw [nf5 h h2]; rfl
theorem zf8 {t : Tok} (h : t.kind = 2) (h2 : ¬ 2147483647 < t.num) (h3 : t.num ≠ 0) : zf t = 8 := by unfold zf; rw [nf0 h h2, if_pos rfl, if_neg h3]
theorem zf0 {t : Tok} (h : t.kind = 2) (h2 : ¬ 2147483647 < t.num) (h3 : t.num = 0) : zf t = 0 := by unfold zf; rw [nf0 h h2, if_pos rfl, if_pos h3]
theorem fE3 {t : Tok} {n k : Nat} (h : t.kind = 3) : fE n k t = 6 := by unfold fE; split; exact zf3 h; exact eE3 h
theorem fE1 {t : Tok} {n k : Nat} (h : t.kind = 1) : fE n k t = 4 := by unfold fE; split; exact zf1 h; exact eE1 h
theorem fE5 {t : Tok} {n k : Nat} (h : t.kind = 2) (h2 : 2147483647 < t.num) : fE n k t = 5 := by unfold fE; split; exact zf5 h h2; exact eE5 h h2
theorem fE8 {t : Tok} {n k : Nat} (h : t.kind = 2) (h2 : ¬ 2147483647 < t.num) (hk : k % (n + 1) = 0) (h3 : t.num ≠ 0) : fE n k t = 8 := by unfold fE; rw [if_pos hk]; exact zf8 h h2 h3
theorem fE0a {t : Tok} {n k : Nat} (h : t.kind = 2) (h2 : ¬ 2147483647 < t.num) (hk : ¬ k % (n + 1) = 0) : fE n k t = 0 := by unfold fE; rw [if_neg hk]; exact eE0 h h2
theorem fE0b {t : Tok} {n k : Nat} (h : t.kind = 2) (h2 : ¬ 2147483647 < t.num) (h3 : t.num = 0) : fE n k t = 0 := by unfold fE; split; exact zf0 h h2 h3; exact eE0 h h2
theorem pr_of_bad {T : List Tok} {s : St} (h : PS T = s) (hf : s.f ≠ 0) : PR T = .bad (tk T s.p).at_ s.f := by
  have e : fin T (PS T) = s := by rw [h]; exact fin_bad hf
  unfold PR
  rw [e, if_pos hf]
theorem pr_err {E : Nat → Tok → Int} {T : List Tok} {p0 cnt j : Nat} (hPS : PS T = steps E T ⟨p0, 0⟩ cnt) (hj : j < cnt) (ok : ∀ i, i < j → E i (tk T (p0 + i)) = 0) {e : Int} (he : E j (tk T (p0 + j)) = e) (h0 : e ≠ 0) : PR T = .bad (tk T (p0 + j)).at_ e := by
  subst he
  exact pr_of_bad (hPS.trans (steps_err E T p0 j cnt ok h0 hj)) h0
theorem pr_tail {E : Nat → Tok → Int} {T : List Tok} {p0 cnt : Nat} (hPS : PS T = steps E T ⟨p0, 0⟩ cnt) (ok : ∀ i, i < cnt → E i (tk T (p0 + i)) = 0) (hk : ¬ (tk T (p0 + cnt)).kind = 3) : PR T = .bad (tk T (p0 + cnt)).at_ 7 := by
  have h1 := hPS.trans (steps_ok E T p0 cnt ok)
  have e : fin T (PS T) = ⟨p0 + cnt, 7⟩ := by
    rw [h1]; unfold fin
    rw [if_neg hk]; exact adv_err rfl (by decide)
  unfold PR
  rw [e, if_pos (by show (7 : Int) ≠ 0; decide)]
theorem pr_good {E : Nat → Tok → Int} {T : List Tok} {p0 cnt : Nat} (hPS : PS T = steps E T ⟨p0, 0⟩ cnt) (ok : ∀ i, i < cnt → E i (tk T (p0 + i)) = 0) (hk : (tk T (p0 + cnt)).kind = 3) : (fin T (PS T)).f = 0 := by
  have h1 := hPS.trans (steps_ok E T p0 cnt ok)
  rw [h1]; unfold fin
  rw [if_pos hk]
/-- ahead of the numbers -/
theorem idx_1 : idx3 nm1 = 0 := by unfold idx3; rw [if_pos rfl]
theorem idx_2 : idx3 nm2 = 1 := by unfold idx3; rw [if_neg (by unfold nm1 nm2; simp), if_pos rfl]
theorem idx_3 : idx3 nm3 = 2 := by unfold idx3; rw [if_neg (by unfold nm1 nm3; simp), if_neg (by unfold nm2 nm3; simp), if_pos rfl]
theorem idx_none {x : ByteArray} (h1 : ¬ x = nm1) (h2 : ¬ x = nm2) (h3 : ¬ x = nm3) : idx3 x = -1 := by unfold idx3; rw [if_neg h1, if_neg h2, if_neg h3]
theorem idx_noText : idx3 noText = -1 := idx_none (by unfold noText nm1; simp) (by unfold noText nm2; simp) (by unfold noText nm3; simp)
theorem idx2_f : idx2 wFull = 0 := by unfold idx2; rw [if_pos rfl]
theorem idx2_u : idx2 wUpper = 1 := by unfold idx2; rw [if_neg (by unfold wFull wUpper; simp), if_pos rfl]
theorem idx2_none {x : ByteArray} (h1 : ¬ x = wFull) (h2 : ¬ x = wUpper) : idx2 x = -1 := by unfold idx2; rw [if_neg h1, if_neg h2]
theorem sz_bad {T : List Tok} {s : St} (h : s.f ≠ 0) (most : Int) : sz T s most = s := adv_bad h _
theorem ps_stuck {T : List Tok} (h : (s1 T).f ≠ 0) : PS T = s1 T := by
  unfold PS
  split
  · unfold aSt; rw [sz_bad h, steps_bad _ _ h]
  · split
    · unfold tSt
      have h3 : s3 T (sz T (s1 T) 24) = s1 T := by rw [sz_bad h]; exact adv_bad h _
      rw [h3, steps_bad _ _ h, steps_bad _ _ h]
      split <;> rfl
    · unfold kSt; rw [sz_bad h, steps_bad _ _ h]
theorem pr_w3 {T : List Tok} (h : (tk T 0).kind = 3) : PR T = .bad (tk T 0).at_ 6 := by
  have e : s1 T = ⟨0, 6⟩ := by unfold s1 wf; rw [if_pos h]; exact adv_err rfl (by decide)
  have := pr_of_bad (ps_stuck (T := T) (by rw [e]; show (6 : Int) ≠ 0; decide)) (by rw [e]; show (6 : Int) ≠ 0; decide)
  rw [e] at this; exact this
theorem pr_wn {T : List Tok} (h : ¬ (tk T 0).kind = 3) (hi : idx3 (tk T 0).text = -1) : PR T = .bad (tk T 0).at_ 3 := by
  have e : s1 T = ⟨0, 3⟩ := by unfold s1 wf; rw [if_neg h, hi, if_pos (by decide)]; exact adv_err rfl (by decide)
  have := pr_of_bad (ps_stuck (T := T) (by rw [e]; show (3 : Int) ≠ 0; decide)) (by rw [e]; show (3 : Int) ≠ 0; decide)
  rw [e] at this; exact this
theorem s1_go {T : List Tok} (h : (tk T 0).kind = 1) (hi : 0 ≤ idx3 (tk T 0).text) : s1 T = ⟨1, 0⟩ := by
  unfold s1 wf; rw [if_neg (by omega), if_neg (by omega)]; exact adv_ok rfl
/-- how many rows or items there may be -/
def mostOf (i : Int) : Int := if i = 1 then 24 else if i = 2 then 24 else 64
theorem pr_n {T : List Tok} (h : (tk T 0).kind = 1) (hi : 0 ≤ idx3 (tk T 0).text) {e : Int} (he : sf (tk T 1) (mostOf (idx3 (tk T 0).text)) = e) (h0 : e ≠ 0) : PR T = .bad (tk T 1).at_ e := by
  have e1 := s1_go h hi
  have hz : ∀ m, sf (tk T 1) m = e → sz T (s1 T) m = ⟨1, e⟩ := fun m hm => by
    rw [e1]; unfold sz
    show adv ⟨1, 0⟩ (sf (tk T 1) m) = _
    rw [hm]; exact adv_err rfl h0
  have hP : PS T = ⟨1, e⟩ := by
    unfold mostOf at he
    unfold PS
    by_cases q1 : idx3 (tk T 0).text = 1
    · rw [if_pos q1] at he ⊢
      unfold aSt
      rw [hz _ he, steps_bad _ _ (show (⟨1, e⟩ : St).f ≠ 0 from h0)]
    · rw [if_neg q1] at he ⊢
      by_cases q2 : idx3 (tk T 0).text = 2
      · rw [if_pos q2] at he ⊢
        unfold tSt
        have h3 : s3 T (sz T (s1 T) 24) = ⟨1, e⟩ := by rw [hz _ he]; exact adv_bad (show (⟨1, e⟩ : St).f ≠ 0 from h0) _
        rw [h3, steps_bad _ _ (show (⟨1, e⟩ : St).f ≠ 0 from h0), steps_bad _ _ (show (⟨1, e⟩ : St).f ≠ 0 from h0)]
        split <;> rfl
      · rw [if_neg q2] at he ⊢
        unfold kSt
        rw [hz _ he, steps_bad _ _ (show (⟨1, e⟩ : St).f ≠ 0 from h0)]
  exact pr_of_bad hP h0
theorem sf3 {t : Tok} {m : Int} (h : t.kind = 3) : sf t m = 6 := by unfold sf; rw [nf3 h]; rfl
theorem sf1 {t : Tok} {m : Int} (h : t.kind = 1) : sf t m = 4 := by unfold sf; rw [nf1 h]; rfl
theorem sf5 {t : Tok} {m : Int} (h : t.kind = 2) (h2 : m < t.num) : sf t m = 5 := by unfold sf; rw [nf5 h h2]; rfl
theorem sfz {t : Tok} {m : Int} (h : t.kind = 2) (h2 : ¬ m < t.num) (h3 : t.num = 0) : sf t m = 1 := by unfold sf; rw [nf0 h h2, if_pos rfl, if_pos h3]
theorem sf0 {t : Tok} {m : Int} (h : t.kind = 2) (h2 : ¬ m < t.num) (h3 : ¬ t.num = 0) : sf t m = 0 := by unfold sf; rw [nf0 h h2, if_pos rfl, if_neg h3]
theorem sz_go {T : List Tok} {most : Int} {n : Nat} (h : (tk T 1).kind = 2) (hn : (tk T 1).num = n) (h1 : 1 ≤ n) (h2 : (n : Int) ≤ most) : sz T ⟨1, 0⟩ most = ⟨2, 0⟩ ∧ nOf T ⟨1, 0⟩ most = n := by
  have hs : sf (tk T 1) most = 0 := sf0 h (by omega) (by omega)
  unfold sz nOf
  constructor
  · show adv ⟨1, 0⟩ (sf (tk T 1) most) = _
    rw [hs]; exact adv_ok rfl
  · show (if (0 : Int) = 0 ∧ sf (tk T 1) most = 0 then (tk T 1).num.toNat else 0) = n
    rw [if_pos ⟨rfl, hs⟩, hn]; omega
theorem ps_knap {T : List Tok} {n : Nat} (h0 : (tk T 0).kind = 1) (hw : (tk T 0).text = nm1) (h : (tk T 1).kind = 2) (hn : (tk T 1).num = n) (h1 : 1 ≤ n) (h2 : n ≤ 64) : PS T = steps eK T ⟨2, 0⟩ (1 + 2 * n) := by
  have e0 : idx3 (tk T 0).text = 0 := by rw [hw]; exact idx_1
  have e1 := s1_go h0 (by rw [e0]; decide)
  obtain ⟨a, b⟩ := sz_go (most := 64) h hn h1 (by omega)
  unfold PS
  rw [e0, if_neg (by decide), if_neg (by decide)]
  unfold kSt
  rw [e1, a, b]
theorem ps_asg {T : List Tok} {n : Nat} (h0 : (tk T 0).kind = 1) (hw : (tk T 0).text = nm2) (h : (tk T 1).kind = 2) (hn : (tk T 1).num = n) (h1 : 1 ≤ n) (h2 : n ≤ 24) : PS T = steps eK T ⟨2, 0⟩ (n * n) := by
  have e0 : idx3 (tk T 0).text = 1 := by rw [hw]; exact idx_2
  have e1 := s1_go h0 (by rw [e0]; decide)
  obtain ⟨a, b⟩ := sz_go (most := 24) h hn h1 (by omega)
  unfold PS
  rw [e0, if_pos (by decide)]
  unfold aSt
  rw [e1, a, b]
theorem s3_go {T : List Tok} (h : ¬ (tk T 2).kind = 3) (hi : 0 ≤ idx2 (tk T 2).text) : s3 T ⟨2, 0⟩ = ⟨3, 0⟩ := by
  unfold s3 wf
  show adv ⟨2, 0⟩ (if (tk T 2).kind = 3 then 6 else if idx2 (tk T 2).text < 0 then 3 else 0) = _
  rw [if_neg h, if_neg (by omega)]; exact adv_ok rfl
theorem ps_tour {T : List Tok} {n : Nat} (h0 : (tk T 0).kind = 1) (hw : (tk T 0).text = nm3) (h : (tk T 1).kind = 2) (hn : (tk T 1).num = n) (h1 : 1 ≤ n) (h2 : n ≤ 24) : PS T = if idx2 (tk T 2).text = 0 then steps (fE n) T (s3 T ⟨2, 0⟩) (n * n) else steps eK T (s3 T ⟨2, 0⟩) (rs n n) := by
  have e0 : idx3 (tk T 0).text = 2 := by rw [hw]; exact idx_3
  have e1 := s1_go h0 (by rw [e0]; decide)
  obtain ⟨a, b⟩ := sz_go (most := 24) h hn h1 (by omega)
  unfold PS
  rw [e0, if_neg (by decide), if_pos (by decide)]
  unfold tSt
  rw [e1, a, b]
theorem ps_full {T : List Tok} {n : Nat} (h0 : (tk T 0).kind = 1) (hw : (tk T 0).text = nm3) (h : (tk T 1).kind = 2) (hn : (tk T 1).num = n) (h1 : 1 ≤ n) (h2 : n ≤ 24) (h3 : ¬ (tk T 2).kind = 3) (h4 : (tk T 2).text = wFull) : PS T = steps (fE n) T ⟨3, 0⟩ (n * n) := by
  have e : idx2 (tk T 2).text = 0 := by rw [h4]; exact idx2_f
  rw [ps_tour h0 hw h hn h1 h2, if_pos e, s3_go h3 (by rw [e]; decide)]
theorem ps_upper {T : List Tok} {n : Nat} (h0 : (tk T 0).kind = 1) (hw : (tk T 0).text = nm3) (h : (tk T 1).kind = 2) (hn : (tk T 1).num = n) (h1 : 1 ≤ n) (h2 : n ≤ 24) (h3 : ¬ (tk T 2).kind = 3) (h4 : (tk T 2).text = wUpper) : PS T = steps eK T ⟨3, 0⟩ (rs n n) := by
  have e : idx2 (tk T 2).text = 1 := by rw [h4]; exact idx2_u
  rw [ps_tour h0 hw h hn h1 h2, if_neg (by rw [e]; decide), s3_go h3 (by rw [e]; decide)]
theorem pr_t2 {T : List Tok} {n : Nat} (h0 : (tk T 0).kind = 1) (hw : (tk T 0).text = nm3) (h : (tk T 1).kind = 2) (hn : (tk T 1).num = n) (h1 : 1 ≤ n) (h2 : n ≤ 24) {e : Int} (he : wf (tk T 2) (idx2 (tk T 2).text) = e) (h0e : e ≠ 0) : PR T = .bad (tk T 2).at_ e := by
  have h3 : s3 T ⟨2, 0⟩ = ⟨2, e⟩ := by
    unfold s3
    show adv ⟨2, 0⟩ (wf (tk T 2) (idx2 (tk T 2).text)) = _
    rw [he]; exact adv_err rfl h0e
  have hP : PS T = ⟨2, e⟩ := by
    rw [ps_tour h0 hw h hn h1 h2, h3, steps_bad _ _ (show (⟨2, e⟩ : St).f ≠ 0 from h0e), steps_bad _ _ (show (⟨2, e⟩ : St).f ≠ 0 from h0e)]
    split <;> rfl
  exact pr_of_bad hP h0e
/-- the numbers that were read -/
def nmL (T : List Tok) (p0 j : Nat) : List Int := (List.range j).map fun i => (tk T (p0 + i)).num
theorem nmL_len (T : List Tok) (p0 j : Nat) : (nmL T p0 j).length = j := by simp [nmL]
theorem nmL_succ (T : List Tok) (p0 j : Nat) : nmL T p0 (j + 1) = nmL T p0 j ++ [(tk T (p0 + j)).num] := by simp [nmL, List.range_succ]
theorem nmL_at (T : List Tok) (p0 n j : Nat) (h : j < n) : (enc (nmL T p0 n))[j]? = some (.int .i64 (tk T (p0 + j)).num) := by unfold enc nmL; simp [h]
theorem idx_lt {E : Nat → Tok → Int} {T : List Tok} (hT : Toks T) (hE : ∀ j t, E j t = 0 → t.kind ≠ 3) {p0 : Nat} (h0 : p0 < T.length) : ∀ j, (∀ i, i < j → E i (tk T (p0 + i)) = 0) → p0 + j < T.length
  | 0, _ => h0
  | j + 1, ok => hT.more (idx_lt hT hE h0 j (fun i hi => ok i (by omega))) (hE j _ (ok j (by omega)))
theorem eK_go : ∀ j t, eK j t = 0 → t.kind ≠ 3 := fun j t h => eE_go h
theorem fE_go (n : Nat) : ∀ j t, fE n j t = 0 → t.kind ≠ 3 := fun j t h => by
  unfold fE at h
  split at h
  · exact zf_go h
  · exact eE_go h
/-- what the reference's Parse answers -/
def PaR (w : World) (r : PRes) (e : Ending) (w' : World) : Prop := match r with
  | .ok K N C wl vl cl => ∃ (wa va ca : Option Addr) (wc vc cc : Nat), e = .returned (.tuple #[.agg #[.int .i64 K, .int .i64 N, .int .i64 C, .slice wa wl.length wc, .slice va vl.length vc, .slice ca cl.length cc], .int .i64 0, .int .i64 0]) ∧ ip.Ints w' wa wl ∧ ip.Ints w' va vl ∧ ip.Rws w' ca cl ∧ Below w.heap.size w w'
  | .bad p er => e = .returned (.tuple #[.agg #[.int .i64 0, .int .i64 0, .int .i64 0, .slice none 0 0, .slice none 0 0, .slice none 0 0], .int .i64 p, .int .i64 er]) ∧ Below w.heap.size w w'
end Go.Proofs.Ytjojdpohifdghaa
