/-
  What the reference's Parse answers, of every text; what parses answers.
-/
import Derived.Test.YtjojdpohifdghaaRtab
import Derived.Test.YtjojdpohifdghaaRkn
import Derived.Test.YtjojdpohifdghaaRp15
import Derived.Test.YtjojdpohifdghaaPb
import Derived.Test.YtjojdpohifdghaaInSame2
namespace Go.Proofs.Ytjojdpohifdghaa
open Go.RowKit
set_option linter.unusedVariables false
theorem ref_n1 (s : ByteArray) (T : List Tok) (hT : Toks T) (w : World) (h0 : (tk T 0).kind = 1) (hw : (tk T 0).text = nm1) (HS : Hid (∀ W, Calls Try.prog 17 #[.string s] W fun e w' => ∃ v, e = .returned (.tuple #[v, .int .i64 0, .int .i64 0]) ∧ w'.ownsRow W.heap.size 51 4 v T.length (encL T) ∧ Below W.heap.size W w'))
    (HG : ∀ nn : Nat, (tk T 1).kind = 2 → (tk T 1).num = nn → 1 ≤ nn → nn ≤ 64 → Calls Try.prog 8 #[.string s] w (PaR w (PR T))) : Calls Try.prog 8 #[.string s] w (PaR w (PR T)) := by
  have l1 : 1 < T.length := hT.more hT.pos (show ¬ (tk T 0).kind = 3 by omega)
  have ei : idx3 (tk T 0).text = 0 := by rw [hw]; exact idx_1
  have em : mostOf (idx3 (tk T 0).text) = 64 := by rw [ei]; rfl
  rcases hT.kinds 1 with h1 | ⟨h1, _⟩ | ⟨h1, _⟩
  · have hP : PR T = .bad (tk T 1).at_ 4 := pr_n h0 (by rw [ei]; decide) (sf1 h1) (by decide)
    rw [hP]
    exact rp_n1b s T w h0 hw h1 l1 HS
  · have hn := hT.num 1
    by_cases h2 : (tk T 1).num = 0
    · have hP : PR T = .bad (tk T 1).at_ 1 := pr_n h0 (by rw [ei]; decide) (sfz h1 (by rw [em]; omega) h2) (by decide)
      rw [hP]
      exact rp_n1c s T w h0 hw h1 h2 l1 HS
    · by_cases h3 : 64 < (tk T 1).num
      · have hP : PR T = .bad (tk T 1).at_ 5 := pr_n h0 (by rw [ei]; decide) (sf5 h1 (by rw [em]; exact h3)) (by decide)
        rw [hP]
        exact rp_n1d s T w h0 hw h1 h3 l1 HS
      · exact HG (tk T 1).num.toNat h1 (by omega) (by omega) (by omega)
  · have hP : PR T = .bad (tk T 1).at_ 6 := pr_n h0 (by rw [ei]; decide) (sf3 h1) (by decide)
    rw [hP]
    exact rp_n1a s T w h0 hw h1 l1 HS
theorem ref_n2 (s : ByteArray) (T : List Tok) (hT : Toks T) (w : World) (h0 : (tk T 0).kind = 1) (hw : (tk T 0).text = nm2) (HS : Hid (∀ W, Calls Try.prog 17 #[.string s] W fun e w' => ∃ v, e = .returned (.tuple #[v, .int .i64 0, .int .i64 0]) ∧ w'.ownsRow W.heap.size 51 4 v T.length (encL T) ∧ Below W.heap.size W w'))
    (HG : ∀ nn : Nat, (tk T 1).kind = 2 → (tk T 1).num = nn → 1 ≤ nn → nn ≤ 24 → Calls Try.prog 8 #[.string s] w (PaR w (PR T))) : Calls Try.prog 8 #[.string s] w (PaR w (PR T)) := by
  have l1 : 1 < T.length := hT.more hT.pos (show ¬ (tk T 0).kind = 3 by omega)
  have ei : idx3 (tk T 0).text = 1 := by rw [hw]; exact idx_2
  have em : mostOf (idx3 (tk T 0).text) = 24 := by rw [ei]; rfl
  rcases hT.kinds 1 with h1 | ⟨h1, _⟩ | ⟨h1, _⟩
  · have hP : PR T = .bad (tk T 1).at_ 4 := pr_n h0 (by rw [ei]; decide) (sf1 h1) (by decide)
    rw [hP]
    exact rp_n2b s T w h0 hw h1 l1 HS
  · have hn := hT.num 1
    by_cases h2 : (tk T 1).num = 0
    · have hP : PR T = .bad (tk T 1).at_ 1 := pr_n h0 (by rw [ei]; decide) (sfz h1 (by rw [em]; omega) h2) (by decide)
      rw [hP]
      exact rp_n2c s T w h0 hw h1 h2 l1 HS
    · by_cases h3 : 24 < (tk T 1).num
      · have hP : PR T = .bad (tk T 1).at_ 5 := pr_n h0 (by rw [ei]; decide) (sf5 h1 (by rw [em]; exact h3)) (by decide)
        rw [hP]
        exact rp_n2d s T w h0 hw h1 h3 l1 HS
      · exact HG (tk T 1).num.toNat h1 (by omega) (by omega) (by omega)
  · have hP : PR T = .bad (tk T 1).at_ 6 := pr_n h0 (by rw [ei]; decide) (sf3 h1) (by decide)
    rw [hP]
    exact rp_n2a s T w h0 hw h1 l1 HS
theorem ref_n3 (s : ByteArray) (T : List Tok) (hT : Toks T) (w : World) (h0 : (tk T 0).kind = 1) (hw : (tk T 0).text = nm3) (HS : Hid (∀ W, Calls Try.prog 17 #[.string s] W fun e w' => ∃ v, e = .returned (.tuple #[v, .int .i64 0, .int .i64 0]) ∧ w'.ownsRow W.heap.size 51 4 v T.length (encL T) ∧ Below W.heap.size W w'))
    (HG : ∀ nn : Nat, (tk T 1).kind = 2 → (tk T 1).num = nn → 1 ≤ nn → nn ≤ 24 → Calls Try.prog 8 #[.string s] w (PaR w (PR T))) : Calls Try.prog 8 #[.string s] w (PaR w (PR T)) := by
  have l1 : 1 < T.length := hT.more hT.pos (show ¬ (tk T 0).kind = 3 by omega)
  have ei : idx3 (tk T 0).text = 2 := by rw [hw]; exact idx_3
  have em : mostOf (idx3 (tk T 0).text) = 24 := by rw [ei]; rfl
  rcases hT.kinds 1 with h1 | ⟨h1, _⟩ | ⟨h1, _⟩
  · have hP : PR T = .bad (tk T 1).at_ 4 := pr_n h0 (by rw [ei]; decide) (sf1 h1) (by decide)
    rw [hP]
    exact rp_n3b s T w h0 hw h1 l1 HS
  · have hn := hT.num 1
    by_cases h2 : (tk T 1).num = 0
    · have hP : PR T = .bad (tk T 1).at_ 1 := pr_n h0 (by rw [ei]; decide) (sfz h1 (by rw [em]; omega) h2) (by decide)
      rw [hP]
      exact rp_n3c s T w h0 hw h1 h2 l1 HS
    · by_cases h3 : 24 < (tk T 1).num
      · have hP : PR T = .bad (tk T 1).at_ 5 := pr_n h0 (by rw [ei]; decide) (sf5 h1 (by rw [em]; exact h3)) (by decide)
        rw [hP]
        exact rp_n3d s T w h0 hw h1 h3 l1 HS
      · exact HG (tk T 1).num.toNat h1 (by omega) (by omega) (by omega)
  · have hP : PR T = .bad (tk T 1).at_ 6 := pr_n h0 (by rw [ei]; decide) (sf3 h1) (by decide)
    rw [hP]
    exact rp_n3a s T w h0 hw h1 l1 HS
theorem ref_toks (s : ByteArray) (T : List Tok) (hT : Toks T) (w : World) (HS : Hid (∀ W, Calls Try.prog 17 #[.string s] W fun e w' => ∃ v, e = .returned (.tuple #[v, .int .i64 0, .int .i64 0]) ∧ w'.ownsRow W.heap.size 51 4 v T.length (encL T) ∧ Below W.heap.size W w')) : Calls Try.prog 8 #[.string s] w (PaR w (PR T)) := by
  rcases hT.kinds 0 with h0 | ⟨h0, ht⟩ | ⟨h0, ht⟩
  · by_cases w1 : (tk T 0).text = nm1
    · exact ref_n1 s T hT w h0 w1 HS (fun nn a b c d => rp_knap s T hT nn w h0 w1 a b c d HS)
    · by_cases w2 : (tk T 0).text = nm2
      · exact ref_n2 s T hT w h0 w2 HS (fun nn a b c d => rp_asg s T hT nn w h0 w2 a b c d HS)
      · by_cases w3 : (tk T 0).text = nm3
        · refine ref_n3 s T hT w h0 w3 HS (fun nn a b c d => ?_)
          have l1 : 1 < T.length := hT.more hT.pos (show ¬ (tk T 0).kind = 3 by omega)
          have l2 : 2 < T.length := hT.more l1 (show ¬ (tk T 1).kind = 3 by omega)
          by_cases k2 : (tk T 2).kind = 3
          · have hP : PR T = .bad (tk T 2).at_ 6 := pr_t2 h0 w3 a b c d (by unfold wf; rw [if_pos k2]) (by decide)
            rw [hP]
            exact rp_t2a s T w h0 w3 a (by omega) (by omega) k2 l2 HS
          · by_cases w4 : (tk T 2).text = wFull
            · exact rp_full s T hT nn w h0 w3 a b c d k2 w4 HS
            · by_cases w5 : (tk T 2).text = wUpper
              · exact rp_upp s T hT nn w h0 w3 a b c d k2 w5 HS
              · have hP : PR T = .bad (tk T 2).at_ 3 := pr_t2 h0 w3 a b c d (by unfold wf; rw [if_neg k2, idx2_none w4 w5]; rfl) (by decide)
                rw [hP]
                exact rp_t2b s T w h0 w3 a (by omega) (by omega) k2 w4 w5 l2 HS
        · have hP : PR T = .bad (tk T 0).at_ 3 := pr_wn (by omega) (idx_none w1 w2 w3)
          rw [hP]
          exact rp_e1w s T w h0 w1 w2 w3 hT.pos HS
  · have hP : PR T = .bad (tk T 0).at_ 3 := pr_wn (by omega) (by rw [ht]; exact idx_noText)
    rw [hP]
    exact rp_e1n s T w h0 hT.pos HS
  · have hP : PR T = .bad (tk T 0).at_ 6 := pr_w3 h0
    rw [hP]
    exact rp_e0 s T w h0 hT.pos HS
set_option maxRecDepth 100000 in
set_option maxHeartbeats 8000000 in
/-- where the scan tells an error -/
theorem rp_scan (s : ByteArray) (p er : Int) (he : er ≠ 0) (w : World) (HS : Hid (∀ W, Calls Try.prog 17 #[.string s] W fun e w' => e = .returned (.tuple #[.slice none 0 0, .int .i64 p, .int .i64 er]) ∧ Below W.heap.size W w')) :
    Calls Try.prog 8 #[.string s] w fun e w' => e = .returned (.tuple #[.agg #[.int .i64 0, .int .i64 0, .int .i64 0, .slice none 0 0, .slice none 0 0, .slice none 0 0], .int .i64 p, .int .i64 er]) ∧ Below w.heap.size w w' := by
  have d0 : (er != 0) = true := by simpa using he
  have B0 : Hid (Below w.heap.size w ((w.alloc zo).alloc zo)) := bl_al (bl_al (Below.refl _ _) _) _
  have H0 : Hid (((w.alloc zo).alloc zo).heap[w.heap.size]? = some zo ∧ ((w.alloc zo).alloc zo).heap[w.heap.size + 1]? = some zo ∧ w.heap.size + 1 < ((w.alloc zo).alloc zo).heap.size) := ⟨heap_alloc2_old w zo zo, heap_alloc2_new w zo zo, by simp⟩
  unfold zo at B0 H0
  go_enter Try.func8, Try.ntmps8
  go_wp2_with fail
  refine (HS.out _).mono ?_
  rintro e w2 ⟨rfl, hB⟩
  have B2 := Lib.hid (bl_tr B0.out hB)
  have hq := (hB.block _ (by have := H0.out.2.2; omega)).trans H0.out.1
  have hy := (hB.block _ H0.out.2.2).trans H0.out.2.1
  obtain ⟨y0, y1, y2, y3, y4, y5⟩ := ip.box6 hy
  obtain ⟨z0, z1, z2, z3, z4, z5⟩ := ip.box6 hq
  have zf := ip.fr6 hq
  have f0 := zf 0; have f1 := zf 1; have f2 := zf 2; have f3 := zf 3; have f4 := zf 4; have f5 := zf 5
  have R6 := Lib.hid (ip.box6 (ip.six hq (.int .i64 0) (.int .i64 0) (.int .i64 0) (.slice none 0 0) (.slice none 0 0) (.slice none 0 0)))
  have BF := Lib.hid (ip.six_below B2.out (Nat.le_refl _) (.int .i64 0) (.int .i64 0) (.int .i64 0) (.slice none 0 0) (.slice none 0 0) (.slice none 0 0))
  clear HS hB B0 H0 hq hy zf
  go_wp2
  obtain ⟨r0, r1, r2, r3, r4, r5⟩ := R6.out
  exact bodyPost_ret (v := .tuple #[.agg #[.int .i64 0, .int .i64 0, .int .i64 0, .slice none 0 0, .slice none 0 0, .slice none 0 0], .int .i64 p, .int .i64 er]) (by simp [results, Try.results8, go_sem, r0, r1, r2, r3, r4, r5]) rfl ⟨rfl, BF.out⟩
theorem refparse_any (s : ByteArray) (w : World) : Calls Try.prog 8 #[.string s] w (PaR w (PXX s)) := by
  unfold PXX
  by_cases hs : 65536 < s.size
  · rw [if_pos hs]
    exact rp_scan s 0 5 (by decide) w (Lib.hid fun W => (refscan_long s hs W).mono fun e w' h => ⟨h.1, by rw [← h.2]; exact Below.refl _ _⟩)
  · rw [if_neg hs]
    unfold PX
    have H := fun W => refscan_any s (by omega) W
    cases hsp : SP s 0 [] with
    | ok T =>
      rw [hsp] at H
      exact ref_toks s T (SP_toks (by omega) hsp) w (Lib.hid H)
    | bad p e =>
      rw [hsp] at H
      exact rp_scan s p e (SP_bad hsp) w (Lib.hid H)
theorem ok_n {T : List Tok} (hT : Toks T) (hf : (fin T (PS T)).f = 0) : (tk T 1).num.toNat ≤ 64 := by
  have hp := fin_zero hf
  have key : ∀ most : Nat, most ≤ 64 → (sz T (s1 T) most).f = 0 → (tk T 1).num.toNat ≤ 64 := fun most hm h => by
    obtain ⟨b1, b2, b3⟩ := n_ok hT h
    have c1 := s1_ok b1
    rw [c1] at b2
    have := nOf_le T ⟨1, 0⟩ most
    have e : nOf T ⟨1, 0⟩ most = (tk T 1).num.toNat := b2
    omega
  unfold PS at hp
  split at hp
  · exact key 24 (by omega) (steps_zero eK T _ _ hp).1
  · split at hp
    · unfold tSt at hp
      split at hp
      · exact key 24 (by omega) (s3_ok (steps_zero _ T _ _ hp).1).1
      · exact key 24 (by omega) (s3_ok (steps_zero _ T _ _ hp).1).1
    · exact key 64 (by omega) (steps_zero eK T _ _ hp).1
theorem pr_len {T : List Tok} (hT : Toks T) {K : Int} {N : Nat} {C : Int} {wl vl : List Int} {cl : List (List Int)} (h : PR T = .ok K N C wl vl cl) : wl.length ≤ 64 ∧ vl.length ≤ 64 ∧ cl.length ≤ 64 := by
  have hf : (fin T (PS T)).f = 0 := by
    rcases Decidable.em ((fin T (PS T)).f = 0) with q | q
    · exact q
    · unfold PR at h; rw [if_pos q] at h; cases h
  have hn := ok_n hT hf
  unfold PR at h
  rw [if_neg (by rw [hf]; simp)] at h
  split at h
  · injection h with _ _ _ h1 h2 h3; subst h1 h2 h3; rw [tab_len]; exact ⟨by simp, by simp, hn⟩
  · split at h
    · split at h
      · injection h with _ _ _ h1 h2 h3; subst h1 h2 h3; rw [tab_len]; exact ⟨by simp, by simp, hn⟩
      · injection h with _ _ _ h1 h2 h3; subst h1 h2 h3; rw [tab_len]; exact ⟨by simp, by simp, hn⟩
    · injection h with _ _ _ h1 h2 h3; subst h1 h2 h3; exact ⟨by simp [kWl]; omega, by simp [kVl]; omega, by simp⟩
theorem pxx_len {s : ByteArray} {K : Int} {N : Nat} {C : Int} {wl vl : List Int} {cl : List (List Int)} (h : PXX s = .ok K N C wl vl cl) : wl.length ≤ 64 ∧ vl.length ≤ 64 ∧ cl.length ≤ 64 := by
  unfold PXX at h
  by_cases hs : 65536 < s.size
  · rw [if_pos hs] at h; cases h
  · rw [if_neg hs] at h
    unfold PX at h
    cases hsp : SP s 0 [] with
    | ok T => rw [hsp] at h; exact pr_len (SP_toks (by omega) hsp) h
    | bad p e => rw [hsp] at h; cases h
theorem ints_any {W : World} {B n c : Nat} {a : Option Addr} {l : List Int} (hl : l.length = n) (h : W.ownsRow B 3 1 (.slice a n c) n (enc l)) : ip.Ints W a l := fun j hj => by
  obtain ⟨g, cap, e, h1, h2⟩ := h.form (by omega)
  injection e with e1 e2 e3
  subst e1 e3
  refine ⟨g, 0, rfl, h2, ?_⟩
  rw [Nat.zero_add, h.cellAt j (by omega)]
  unfold enc
  rw [List.getElem?_map, List.getElem?_eq_getElem hj]
  rfl
theorem rws_tbl {W : World} {B g n : Nat} {gs : Nat → Nat} {M : Nat → Nat → Int} (hn : n ≤ 1000) (h : TBL B g n gs M W) : ip.Rws W (some ⟨g, 0, none⟩) (tab n M) := fun j hj => by
  rw [tab_len] at hj
  have e : (tab n M)[j]?.getD [] = (List.range n).map fun b => M j b := by unfold tab; simp [hj]
  rw [e]
  have l : ((List.range n).map fun b => M j b).length = n := by simp
  rw [l]
  refine ⟨g, 0, some ⟨gs j, 0, none⟩, n, rfl, (h.top.lt g rfl).2, ?_, fun b hb => ?_, hn⟩
  · rw [Nat.zero_add]; exact h.rowAt hj
  · rw [l] at hb
    refine ⟨gs j, 0, rfl, ((h.rows j hj).lt (gs j) rfl).2, ?_⟩
    rw [Nat.zero_add, h.cellAt hj hb]
    simp [hb]
theorem IV.lists {v : Value} {K : Int} {N : Nat} {C : Int} {wl vl : List Int} {cl : List (List Int)} {B : Nat} {w : World} (h : IV v K N C wl vl cl B w) (hn : cl.length ≤ 64) :
    ∃ (wa va ca : Option Addr) (wc vc cc : Nat), v = .agg #[.int .i64 K, .int .i64 N, .int .i64 C, .slice wa wl.length wc, .slice va vl.length vc, .slice ca cl.length cc] ∧ ip.Ints w wa wl ∧ ip.Ints w va vl ∧ ip.Rws w ca cl := by
  obtain ⟨wa, va, ca, wc, vc, cc, hv, hW, hV, hC⟩ := h.ex
  refine ⟨wa, va, ca, wc, vc, cc, hv, ints_any rfl hW, ints_any rfl hV, ?_⟩
  rcases hC with ⟨rfl, _⟩ | ⟨gc, gs, M, rfl, _, e3, hT⟩
  · exact fun j hj => absurd hj (by simp)
  · have := rws_tbl (by omega) hT
    rw [← e3] at this
    exact this
def txA : ByteArray := ⟨#[84, 83, 80, 32, 50, 32, 85, 80, 80, 69, 82, 32, 55]⟩
def txB : ByteArray := ⟨#[75, 78, 65, 80, 83, 65, 67, 75, 32, 48]⟩
theorem pxA : PXX txA = .ok 3 2 0 [] [] [[0, 7], [7, 0]] := by kernel_rfl
theorem pxB : PXX txB = .bad 9 1 := by kernel_rfl
set_option maxRecDepth 100000 in
set_option maxHeartbeats 4000000 in
theorem parses_any (w : World) : Calls Try.prog 6 #[] w fun e w' => e = .returned (.bool true) ∧ Below w.heap.size w w' := by
  have HA := Lib.hid (fun W => parse_any txA W)
  have HB := Lib.hid (fun W => parse_any txB W)
  rw [pxA] at HA
  rw [pxB] at HB
  unfold txA at HA
  unfold txB at HB
  go_enter Try.func6, Try.ntmps6
  go_wp2_with fail
  refine (HA.out _).mono ?_
  rintro e w1 ⟨v, rfl, hV, hB1⟩
  obtain ⟨wa, va, ca, wc, vc, cc, rfl, i1, i2, i3⟩ := hV.lists (by decide)
  obtain ⟨b3, o3, aj, cj, h1, h2, h3, h4, _⟩ := i3 1 (by decide)
  obtain ⟨b4, o4, h5, h6, h7⟩ := h4 0 (by decide)
  subst h1 h5
  have B1 := Lib.hid hB1
  have F1 : Hid (∀ W, Below (w1.alloc (.cells #[.int .i64 3, .int .i64 2, .int .i64 0, .slice wa 0 wc, .slice va 0 vc, .slice (some ⟨b3, o3, none⟩) 2 cc] 26)).heap.size (w1.alloc (.cells #[.int .i64 3, .int .i64 2, .int .i64 0, .slice wa 0 wc, .slice va 0 vc, .slice (some ⟨b3, o3, none⟩) 2 cc] 26)) W →
      W.heap[w1.heap.size]? = some (.cells #[.int .i64 3, .int .i64 2, .int .i64 0, .slice wa 0 wc, .slice va 0 vc, .slice (some ⟨b3, o3, none⟩) 2 cc] 26 (0, 0)) ∧ W.cell? ⟨b3, o3 + 1, none⟩ = some (.slice (some ⟨b4, o4, none⟩) 2 cj) ∧ W.cell? ⟨b4, o4, none⟩ = some (.int .i64 7)) := fun W hW => by
    have e1 : (w1.alloc (.cells #[.int .i64 3, .int .i64 2, .int .i64 0, .slice wa 0 wc, .slice va 0 vc, .slice (some ⟨b3, o3, none⟩) 2 cc] 26)).heap.size = w1.heap.size + 1 := by simp
    have hb : Below w1.heap.size w1 W := ⟨hW.os, hW.tape, hW.output, by have := hW.size; omega, fun k hk => (hW.block k (by omega)).trans (Below.heap_alloc w1 _ k hk)⟩
    exact ⟨(hW.block _ (by omega)).trans (heap_alloc_new w1 _), (hb.cell (p := ⟨b3, o3 + 1, none⟩) h2).trans h3, (hb.cell (p := ⟨b4, o4, none⟩) h6).trans (by have := h7; rw [Nat.add_zero] at this; exact this)⟩
  clear HA hV hB1 i1 i2 i3 h2 h3 h4 h6 h7
  go_wp2_with fail
  refine (HB.out _).mono ?_
  rintro e w2 ⟨rfl, hB2⟩
  obtain ⟨k1, k2, k3⟩ := F1.out (w2.alloc zero6) (bl_al hB2 zero6)
  obtain ⟨y0, y1, y2, y3, y4, y5⟩ := ip.box6 k1
  have B2 : Hid (Below w.heap.size w (w2.alloc zero6)) := by
    have a := bl_tr (bl_al B1.out (.cells #[.int .i64 3, .int .i64 2, .int .i64 0, .slice wa 0 wc, .slice va 0 vc, .slice (some ⟨b3, o3, none⟩) 2 cc] 26)) hB2
    exact bl_al a zero6
  unfold zero6 at y0 y1 y2 y3 y4 y5 k2 k3 B2
  clear HB hB2 F1 B1 k1 y2 y3 y4
  go_wp2
  go_ret
  exact ⟨rfl, B2.out⟩
end Go.Proofs.Ytjojdpohifdghaa
