/-
  What a row of tokens tells is in form. Plain mathematics.
-/
import Derived.Test.YtjlaankgfpjeeaaTxA
import Derived.Test.YtjlaankgfpjeeaaInZero
import Derived.Test.YtjlaankgfpjeeaaPs
namespace Go.Proofs.Ytjlaankgfpjeeaa
open Go.RowKit
open ip (nameOf chk chk_zero nth rowsP costE itemsE rowE formP num)
set_option linter.unusedVariables false
structure Fm (K : Int) (n : Nat) (C : Int) (wl vl : List Int) (cl : List (List Int)) : Prop where
  n1 : 1 ≤ n
  k : K = 1 ∨ K = 2 ∨ K = 3
  cap : 0 ≤ C ∧ C ≤ 2147483647
  ks : K = 1 → n ≤ 64 ∧ wl.length = n ∧ vl.length = n ∧ cl = [] ∧ ∀ j, j < n → (0 ≤ wl[j]?.getD 0 ∧ wl[j]?.getD 0 ≤ 2147483647) ∧ (0 ≤ vl[j]?.getD 0 ∧ vl[j]?.getD 0 ≤ 2147483647)
  rs : K ≠ 1 → n ≤ 24 ∧ C = 0 ∧ wl = [] ∧ vl = [] ∧ cl.length = n ∧ ∀ a, a < n → (cl[a]?.getD []).length = n ∧ ∀ b, b < n → (0 ≤ (cl[a]?.getD [])[b]?.getD 0 ∧ (cl[a]?.getD [])[b]?.getD 0 ≤ 2147483647) ∧ (K = 3 → a = b → (cl[a]?.getD [])[b]?.getD 0 = 0)
theorem fm_of {K N C : Int} {wl vl : List Int} {cl : List (List Int)} (h : chk K N C wl vl cl = 0) : N = (N.toNat : Nat) ∧ Fm K N.toNat C wl vl cl := by
  obtain ⟨h1, h2⟩ := chk_zero h
  refine ⟨by omega, ?_⟩
  rcases h2 with ⟨rfl, a1, a2, a3, a4, a5, a6⟩ | ⟨hk, a1, a2, a3, a4, a5, a6, a7⟩
  · refine ⟨by omega, .inl rfl, a5, fun _ => ⟨by omega, by omega, by omega, List.length_eq_zero_iff.1 a4, fun j hj => ?_⟩, fun c => absurd rfl c⟩
    exact ip.items_ok wl vl (by omega) a6 j (by omega)
  · refine ⟨by omega, .inr hk, by omega, fun c => by rcases hk with rfl | rfl <;> exact absurd c (by decide), fun _ => ⟨by omega, a3, List.length_eq_zero_iff.1 a4, List.length_eq_zero_iff.1 a5, by omega, fun a ha => ?_⟩⟩
    have e := a6 a (by omega)
    refine ⟨by omega, fun b hb => ?_⟩
    have := ip.row_ok K _ _ 0 (ip.cost_ok K cl 0 a7 a (by omega)) b (by omega)
    refine ⟨this.1, fun hk hab => this.2 hk (by omega)⟩
theorem Fit.nu {T : List Tok} {P : List Pc} {e i m : Nat} (h : Fit T P e) (hi : P[i]? = some (.nu m)) : (tk T i).kind = 2 ∧ (tk T i).num = m ∧ (tk T i).text = noText := by
  obtain ⟨q, hq⟩ := h.get i _ hi
  rw [hq]; exact ⟨rfl, rfl, rfl⟩
theorem Fit.wd {T : List Tok} {P : List Pc} {e i : Nat} {w : List UInt8} (h : Fit T P e) (hi : P[i]? = some (.wd w)) : (tk T i).kind = 1 ∧ (tk T i).text = ⟨w.toArray⟩ := by
  obtain ⟨q, hq⟩ := h.get i _ hi
  rw [hq]; exact ⟨rfl, rfl⟩
theorem nf_fine {t : Tok} {most : Int} (h : t.kind = 2) (hn : t.num ≤ most) : nf t.kind t.num most = 0 := by
  unfold nf; rw [h, if_neg (by decide), if_neg (by decide), if_neg (by omega)]
theorem eE_fine {t : Tok} (h : t.kind = 2) (hn : t.num ≤ 2147483647) : eE t = 0 := nf_fine h hn
theorem sf_fine {t : Tok} {most : Int} (h : t.kind = 2) (hn : t.num ≤ most) (h0 : t.num ≠ 0) : sf t most = 0 := by
  unfold sf; rw [if_pos (nf_fine h hn), if_neg h0]
theorem zf_fine {t : Tok} (h : t.kind = 2) (h0 : t.num = 0) : zf t = 0 := by
  unfold zf; rw [if_pos (nf_fine h (by omega)), if_pos h0]
theorem range_ext {n : Nat} {l : List Int} {f : Nat → Int} (hl : l.length = n) (h : ∀ j, j < n → f j = l[j]?.getD 0) : (List.range n).map f = l := by
  refine List.ext_getElem (by simp [hl]) fun j h1 h2 => ?_
  rw [List.getElem_map, List.getElem_range, h j (by omega), List.getElem?_eq_getElem h2]; rfl
theorem tab_ext {n : Nat} {cl : List (List Int)} {M : Nat → Nat → Int} (hl : cl.length = n) (hr : ∀ a, a < n → (cl[a]?.getD []).length = n) (h : ∀ a b, a < n → b < n → M a b = (cl[a]?.getD [])[b]?.getD 0) : tab n M = cl := by
  unfold tab
  refine List.ext_getElem (by simp [hl]) fun a h1 h2 => ?_
  have e : cl[a]?.getD [] = cl[a] := by rw [List.getElem?_eq_getElem h2]; rfl
  have ha : a < n := by omega
  have := hr a ha
  rw [List.getElem_map, List.getElem_range]
  refine range_ext (by rw [← e]; exact this) fun b hb => ?_
  rw [h a b ha hb, e]
theorem steps_all {E : Nat → Tok → Int} {T : List Tok} {p k : Nat} {s : St} (hs : s = ⟨p, 0⟩) (h : ∀ j, j < k → E j (tk T (p + j)) = 0) : steps E T s k = ⟨p + k, 0⟩ := by subst hs; exact steps_ok E T p k h
theorem head2 {T : List Tok} {P : List Pc} {e n : Nat} {w : List UInt8} {i most : Int} (h : Fit T P e) (h0 : P[0]? = some (.wd w)) (h1 : P[1]? = some (.nu n)) (hi : idx3 ⟨w.toArray⟩ = i) (h2 : 0 ≤ i) (hn : 1 ≤ n ∧ (n : Int) ≤ most) :
    idx3 (tk T 0).text = i ∧ s1 T = ⟨1, 0⟩ ∧ sz T (s1 T) most = ⟨2, 0⟩ ∧ nOf T (s1 T) most = n ∧ (tk T 1).num.toNat = n := by
  obtain ⟨a1, a2⟩ := h.wd h0
  obtain ⟨b1, b2, b3⟩ := h.nu h1
  have e1 : s1 T = ⟨1, 0⟩ := by
    unfold s1 wf
    rw [a2, hi, a1, if_neg (by decide), if_neg (by omega)]
    exact adv_ok rfl
  have e2 : sf (tk T 1) most = 0 := sf_fine b1 (by omega) (by omega)
  refine ⟨by rw [a2, hi], e1, ?_, ?_, by omega⟩
  · rw [e1]; unfold sz
    show adv ⟨1, 0⟩ (sf (tk T 1) most) = _
    rw [e2]; exact adv_ok rfl
  · rw [e1]; unfold nOf
    rw [if_pos ⟨rfl, e2⟩]
    show (tk T 1).num.toNat = n
    omega
theorem fin_end {T : List Tok} {P : List Pc} {e : Nat} (h : Fit T P e) : fin T ⟨P.length, 0⟩ = ⟨P.length, 0⟩ := by
  unfold fin
  rw [if_pos]
  rw [h.end_]
theorem map_range_get {α : Type} (f : Nat → α) (n i : Nat) (h : i < n) : ((List.range n).map f)[i]? = some (f i) := by
  rw [List.getElem?_map, List.getElem?_range h]; rfl
theorem nf_zero {k n most : Int} (h : nf k n most = 0) : n ≤ most := by
  unfold nf at h
  split at h
  · exact absurd h (by decide)
  · split at h
    · exact absurd h (by decide)
    · split at h
      · exact absurd h (by decide)
      · omega
theorem eE_bd {T : List Tok} (hT : Toks T) {i : Nat} (h : eE (tk T i) = 0) : 0 ≤ (tk T i).num ∧ (tk T i).num ≤ 2147483647 := ⟨hT.num i, nf_zero h⟩
theorem items_in : ∀ (wl vl : List Int), (∀ j, j < wl.length → (0 ≤ wl[j]?.getD 0 ∧ wl[j]?.getD 0 ≤ 2147483647) ∧ (0 ≤ vl[j]?.getD 0 ∧ vl[j]?.getD 0 ≤ 2147483647)) → itemsE wl vl = 0
  | [], vl, _ => by simp [itemsE]
  | a :: wl, [], h => by simp [itemsE]
  | a :: wl, b :: vl, h => by
    have h0 := h 0 (by simp)
    simp at h0
    unfold itemsE
    rw [if_pos (ip.num_zero.2 h0.1), if_pos (ip.num_zero.2 h0.2)]
    exact items_in wl vl fun j hj => by simpa using h (j + 1) (by simp; omega)
theorem row_in (K : Int) (a : Nat) : ∀ (r : List Int) (b : Nat), (∀ j, j < r.length → (0 ≤ r[j]?.getD 0 ∧ r[j]?.getD 0 ≤ 2147483647) ∧ (K = 3 → a = b + j → r[j]?.getD 0 = 0)) → rowE K a b r = 0
  | [], b, _ => by unfold rowE; rfl
  | x :: r, b, h => by
    have h0 := h 0 (by simp)
    simp at h0
    unfold rowE
    rw [if_pos (ip.num_zero.2 h0.1), if_neg (fun c => c.2.2 (h0.2 c.1 c.2.1))]
    exact row_in K a r (b + 1) fun j hj => by
      have := h (j + 1) (by simp; omega)
      refine ⟨by simpa using this.1, fun hk ha => by simpa using this.2 hk (by omega)⟩
theorem cost_in (K : Int) : ∀ (cl : List (List Int)) (a : Nat), (∀ j, j < cl.length → rowE K (a + j) 0 (cl[j]?.getD []) = 0) → costE K a cl = 0
  | [], a, _ => by unfold costE; rfl
  | r :: cl, a, h => by
    unfold costE
    rw [if_pos (by simpa using h 0 (by simp))]
    exact cost_in K cl (a + 1) fun j hj => by
      have := h (j + 1) (by simp; omega)
      rw [show a + 1 + j = a + (j + 1) by omega]
      simpa using this
theorem Fm.chk {K : Int} {n : Nat} {C : Int} {wl vl : List Int} {cl : List (List Int)} (h : Fm K n C wl vl cl) : ip.chk K n C wl vl cl = 0 := by
  have h1 := h.n1
  rcases Decidable.em (K = 1) with rfl | hK
  · obtain ⟨a1, a2, a3, a4, a5⟩ := h.ks rfl
    have hF : ip.formP 1 (n : Int) C wl.length vl.length cl := by
      unfold ip.formP; exact Or.inl ⟨rfl, by omega, by omega, by rw [a4]; rfl⟩
    rw [ip.chk_items (by omega) (by omega) (by omega) hF rfl, if_pos (ip.num_zero.2 h.cap)]
    exact items_in wl vl (by rw [a2]; exact a5)
  · obtain ⟨a1, a2, a3, a4, a5, a6⟩ := h.rs hK
    have hk := h.k
    have hF : ip.formP K (n : Int) C wl.length vl.length cl := by
      unfold ip.formP; exact Or.inr ⟨hK, by omega, a2, by rw [a3]; rfl, by rw [a4]; rfl, fun j hj => by rw [(a6 j (by omega)).1]; omega⟩
    rw [ip.chk_costs (by omega) (by omega) (by omega) hF hK]
    exact cost_in K cl 0 fun j hj => row_in K _ _ 0 fun b hb => by
      have hb' : b < n := by rw [(a6 j (by omega)).1] at hb; exact hb
      have := (a6 j (by omega)).2 b hb'
      exact ⟨this.1, fun hk ha => this.2 hk (by omega)⟩
theorem tab_row {n : Nat} {M : Nat → Nat → Int} {a : Nat} (ha : a < n) : (tab n M)[a]?.getD [] = (List.range n).map fun b => M a b := by
  unfold tab; rw [map_range_get _ _ _ ha]; rfl
theorem map_get0 {f : Nat → Int} {n j : Nat} (h : j < n) : ((List.range n).map f)[j]?.getD 0 = f j := by rw [map_range_get _ _ _ h]; rfl
theorem tab_fm {K : Int} {n : Nat} {M : Nat → Nat → Int} (hK : K = 2 ∨ K = 3) (h1 : 1 ≤ n) (h24 : n ≤ 24) (hM : ∀ a b, a < n → b < n → (0 ≤ M a b ∧ M a b ≤ 2147483647) ∧ (K = 3 → a = b → M a b = 0)) : Fm K n 0 [] [] (tab n M) := by
  refine ⟨h1, by omega, by omega, fun c => by omega, fun _ => ⟨h24, rfl, rfl, rfl, tab_len n M, fun a ha => ?_⟩⟩
  rw [tab_row ha]
  refine ⟨by simp, fun b hb => ?_⟩
  rw [map_get0 hb]
  exact hM a b ha hb
theorem sf_zero {t : Tok} {most : Int} (h : sf t most = 0) : t.num ≤ most ∧ t.num ≠ 0 := ⟨nf_zero (sf_ok h).1, (sf_ok h).2⟩
theorem nn_ok {T : List Tok} (hT : Toks T) {most : Nat} (h : (sz T (s1 T) most).f = 0) : s1 T = ⟨1, 0⟩ ∧ sz T ⟨1, 0⟩ most = ⟨2, 0⟩ ∧ nOf T ⟨1, 0⟩ most = (tk T 1).num.toNat ∧ 1 ≤ (tk T 1).num.toNat ∧ (tk T 1).num.toNat ≤ most := by
  obtain ⟨b1, b2, b3⟩ := n_ok hT h
  have c1 := s1_ok b1
  rw [c1] at b2 b3 h
  unfold sz at h
  obtain ⟨_, h2⟩ := adv_zero h
  have h2 : sf (tk T 1) most = 0 := h2
  have := sf_zero h2
  have := hT.num 1
  exact ⟨c1, b3, b2, by omega, by omega⟩
theorem wh_ok {T : List Tok} {i : Int} (h : (adv ⟨0, 0⟩ (wf (tk T 0) i)).f = 0) : 0 ≤ i := by
  obtain ⟨_, h2⟩ := adv_zero h
  unfold wf at h2
  split at h2
  · exact absurd h2 (by decide)
  · split at h2
    · exact absurd h2 (by decide)
    · omega
theorem pr_fm {T : List Tok} (hT : Toks T) {K : Int} {N : Nat} {C : Int} {wl vl : List Int} {cl : List (List Int)} (h : PR T = .ok K N C wl vl cl) : Fm K N C wl vl cl := by
  have hf : (fin T (PS T)).f = 0 := by
    rcases Decidable.em ((fin T (PS T)).f = 0) with q | q
    · exact q
    · unfold PR at h; rw [if_pos q] at h; cases h
  have hp := fin_zero hf
  unfold PR at h
  rw [if_neg (by rw [hf]; simp)] at h
  split at h
  · rename_i h1
    injection h with e1 e2 e3 e4 e5 e6; subst e1 e2 e3 e4 e5 e6
    have hS : PS T = aSt T (s1 T) := by unfold PS; rw [if_pos h1]
    rw [hS] at hp
    obtain ⟨a1, a2, a3⟩ := steps_zero eK T _ _ hp
    obtain ⟨b1, b2, b3, b4, b5⟩ := nn_ok hT (most := 24) a1
    rw [b1] at a3
    have e1 : nOf T ⟨1, 0⟩ 24 = (tk T 1).num.toNat := b3
    have e2 : sz T ⟨1, 0⟩ 24 = ⟨2, 0⟩ := b2
    rw [e1, e2] at a3
    refine tab_fm (.inl rfl) b4 b5 fun a b ha hb => ⟨?_, fun c => absurd c (by decide)⟩
    have hk : a * (tk T 1).num.toNat + b < (tk T 1).num.toNat * (tk T 1).num.toNat := by
      have : (a + 1) * (tk T 1).num.toNat ≤ (tk T 1).num.toNat * (tk T 1).num.toNat := Nat.mul_le_mul_right _ ha
      rw [Nat.succ_mul] at this; omega
    exact eE_bd hT (a3 _ hk).1
  · rename_i h1
    split at h
    · rename_i h2
      have hS : PS T = tSt T (s1 T) := by unfold PS; rw [if_neg h1, if_pos h2]
      rw [hS] at hp
      unfold tSt at hp
      split at h
      · rename_i h3
        injection h with e1 e2 e3 e4 e5 e6; subst e1 e2 e3 e4 e5 e6
        have key : ∀ (q : St), q = sz T (s1 T) 24 → (q.f = 0 → q.p = 2) := fun q hq hz => by
          subst hq
          obtain ⟨b1, b2, b3, b4, b5⟩ := nn_ok hT (most := 24) hz
          rw [b1]
          have e2 : sz T ⟨1, 0⟩ 24 = ⟨2, 0⟩ := b2
          rw [e2]
        by_cases hc : idx2 (tk T (sz T (s1 T) 24).p).text = 0
        · rw [if_pos hc] at hp
          obtain ⟨a1, a2, a3⟩ := steps_zero _ T _ _ hp
          obtain ⟨c1, c2⟩ := s3_ok a1
          obtain ⟨b1, b2, b3, b4, b5⟩ := nn_ok hT (most := 24) c1
          rw [b1] at a3 c2
          have e1 : nOf T ⟨1, 0⟩ 24 = (tk T 1).num.toNat := b3
          have e2 : sz T ⟨1, 0⟩ 24 = ⟨2, 0⟩ := b2
          rw [e2] at c2
          rw [e1, e2, c2] at a3
          refine tab_fm (.inr rfl) b4 b5 fun a b ha hb => ?_
          have hk : a * (tk T 1).num.toNat + b < (tk T 1).num.toNat * (tk T 1).num.toNat := by
            have : (a + 1) * (tk T 1).num.toNat ≤ (tk T 1).num.toNat * (tk T 1).num.toNat := Nat.mul_le_mul_right _ ha
            rw [Nat.succ_mul] at this; omega
          have hz := (a3 _ hk).1
          unfold MA
          unfold fE at hz
          have hz' : (if (a * (tk T 1).num.toNat + b) % ((tk T 1).num.toNat + 1) = 0 then zf (tk T (3 + (a * (tk T 1).num.toNat + b))) else eE (tk T (3 + (a * (tk T 1).num.toNat + b)))) = 0 := hz
          split at hz'
          · have := zf_ok hz'
            exact ⟨⟨by omega, by omega⟩, fun _ _ => this.2⟩
          · rename_i hm
            refine ⟨eE_bd hT hz', fun _ e => ?_⟩
            subst e
            exact absurd (by rw [show a * (tk T 1).num.toNat + a = a * ((tk T 1).num.toNat + 1) by rw [Nat.mul_succ]]; exact Nat.mul_mod_left _ _) hm
        · exfalso
          rw [if_neg hc] at hp
          obtain ⟨a1, a2, a3⟩ := steps_zero _ T _ _ hp
          obtain ⟨c1, c2⟩ := s3_ok a1
          rw [key _ rfl c1] at hc
          exact hc h3
      · rename_i h3
        injection h with e1 e2 e3 e4 e5 e6; subst e1 e2 e3 e4 e5 e6
        by_cases hc : idx2 (tk T (sz T (s1 T) 24).p).text = 0
        · exfalso
          rw [if_pos hc] at hp
          obtain ⟨a1, a2, a3⟩ := steps_zero _ T _ _ hp
          obtain ⟨c1, c2⟩ := s3_ok a1
          obtain ⟨b1, b2, b3, b4, b5⟩ := nn_ok hT (most := 24) c1
          rw [b1] at hc
          have e2 : sz T ⟨1, 0⟩ 24 = ⟨2, 0⟩ := b2
          rw [e2] at hc
          exact h3 hc
        · rw [if_neg hc] at hp
          obtain ⟨a1, a2, a3⟩ := steps_zero _ T _ _ hp
          obtain ⟨c1, c2⟩ := s3_ok a1
          obtain ⟨b1, b2, b3, b4, b5⟩ := nn_ok hT (most := 24) c1
          rw [b1] at a3 c2
          have e1 : nOf T ⟨1, 0⟩ 24 = (tk T 1).num.toNat := b3
          have e2 : sz T ⟨1, 0⟩ 24 = ⟨2, 0⟩ := b2
          rw [e2] at c2
          rw [e1, e2, c2] at a3
          refine tab_fm (.inr rfl) b4 b5 fun a b ha hb => ?_
          unfold MU
          rcases Nat.lt_trichotomy a b with q | q | q
          · rw [if_neg (by omega), if_pos q]
            exact ⟨eE_bd hT (a3 _ (rs_lt _ a b q hb)).1, fun _ e => by omega⟩
          · rw [if_pos q]; exact ⟨by omega, fun _ _ => rfl⟩
          · rw [if_neg (by omega), if_neg (by omega)]
            exact ⟨eE_bd hT (a3 _ (rs_lt _ b a q ha)).1, fun _ e => by omega⟩
    · rename_i h2
      injection h with e1 e2 e3 e4 e5 e6; subst e1 e2 e3 e4 e5 e6
      have hS : PS T = kSt T (s1 T) := by unfold PS; rw [if_neg h1, if_neg h2]
      rw [hS] at hp
      obtain ⟨a1, a2, a3⟩ := steps_zero eK T _ _ hp
      obtain ⟨b1, b2, b3, b4, b5⟩ := nn_ok hT (most := 64) a1
      rw [b1] at a3
      have e1 : nOf T ⟨1, 0⟩ 64 = (tk T 1).num.toNat := b3
      have e2 : sz T ⟨1, 0⟩ 64 = ⟨2, 0⟩ := b2
      rw [e1, e2] at a3
      have g : ∀ j, j < 1 + 2 * (tk T 1).num.toNat → 0 ≤ (tk T (2 + j)).num ∧ (tk T (2 + j)).num ≤ 2147483647 := fun j hj => eE_bd hT (a3 j hj).1
      refine ⟨b4, .inl rfl, g 0 (by omega), fun _ => ⟨b5, by simp [kWl], by simp [kVl], rfl, fun j hj => ?_⟩, fun c => absurd rfl c⟩
      unfold kWl kVl
      rw [map_get0 hj, map_get0 hj]
      exact ⟨g _ (by omega), g _ (by omega)⟩
theorem px_fm {s : ByteArray} (hs : s.size ≤ 65536) {K : Int} {N : Nat} {C : Int} {wl vl : List Int} {cl : List (List Int)} (h : PX s = .ok K N C wl vl cl) : Fm K N C wl vl cl := by
  unfold PX at h
  cases hsp : SP s 0 [] with
  | ok T => rw [hsp] at h; exact pr_fm (SP_toks hs hsp) h
  | bad p e => rw [hsp] at h; cases h
theorem pxx_fm {s : ByteArray} {K : Int} {N : Nat} {C : Int} {wl vl : List Int} {cl : List (List Int)} (h : PXX s = .ok K N C wl vl cl) : Fm K N C wl vl cl := by
  unfold PXX at h
  split at h
  · cases h
  · exact px_fm (by omega) h
end Go.Proofs.Ytjlaankgfpjeeaa
