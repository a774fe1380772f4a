/-
  A problem's text that lacks its last numbers; one with a number more. Plain mathematics.
-/
import Derived.Test.YtjlaankgfpjeeaaDoorTxE
namespace Go.Proofs.YtjlaankgfpjeeaaDoor
open Go.RowKit
open ip (wtx nameOf)
set_option linter.unusedVariables false
/-- tokens whose first j are those pieces -/
def Has (T : List Tok) (P : List Pc) (j : Nat) : Prop := ∀ i x, i < j → P[i]? = some x → ∃ q, tk T i = x.tok q
theorem Has.nu {T : List Tok} {P : List Pc} {j i m : Nat} (h : Has T P j) (hj : i < j) (hi : P[i]? = some (.nu m)) : (tk T i).kind = 2 ∧ (tk T i).num = m ∧ (tk T i).text = noText := by
  obtain ⟨q, hq⟩ := h i _ hj hi
  rw [hq]; exact ⟨rfl, rfl, rfl⟩
theorem Has.wd {T : List Tok} {P : List Pc} {j i : Nat} {w : List UInt8} (h : Has T P j) (hj : i < j) (hi : P[i]? = some (.wd w)) : (tk T i).kind = 1 ∧ (tk T i).text = ⟨w.toArray⟩ := by
  obtain ⟨q, hq⟩ := h i _ hj hi
  rw [hq]; exact ⟨rfl, rfl⟩
theorem hhead2 {T : List Tok} {P : List Pc} {j n : Nat} {w : List UInt8} {i most : Int} (h : Has T P j) (hj : 2 ≤ j) (h0 : P[0]? = some (.wd w)) (h1 : P[1]? = some (.nu n)) (hi : idx3 ⟨w.toArray⟩ = i) (h2 : 0 ≤ i) (hn : 1 ≤ n ∧ (n : Int) ≤ most) :
    idx3 (tk T 0).text = i ∧ sz T (s1 T) most = ⟨2, 0⟩ ∧ nOf T (s1 T) most = n := by
  obtain ⟨a1, a2⟩ := h.wd (by omega) h0
  obtain ⟨b1, b2, b3⟩ := h.nu (by omega) h1
  have e1 : s1 T = ⟨1, 0⟩ := by
    unfold s1 wf
    rw [a2, hi, a1, if_neg (by decide), if_neg (by omega)]
    exact adv_ok rfl
  have e2 : sf (tk T 1) most = 0 := sf_fine b1 (by omega) (by omega)
  refine ⟨by rw [a2, hi], ?_, ?_⟩
  · rw [e1]; unfold sz
    show adv ⟨1, 0⟩ (sf (tk T 1) most) = _
    rw [e2]; exact adv_ok rfl
  · rw [e1]; unfold nOf
    rw [if_pos ⟨rfl, e2⟩]
    show (tk T 1).num.toNat = n
    omega
theorem eE_end {t : Tok} (h : t.kind = 3) : eE t = 6 := by unfold eE nf; rw [if_pos h]
theorem zf_end {t : Tok} (h : t.kind = 3) : zf t = 6 := by
  have e : nf t.kind t.num 2147483647 = 6 := by unfold nf; rw [if_pos h]
  unfold zf; rw [e, if_neg (by decide)]
theorem kp_get {wl vl : List Int} {m k : Nat} (hk : k < m) : ((kp wl vl m).map (·.1))[k]? = some (.nu (if k % 2 = 0 then wl[k / 2]?.getD 0 else vl[k / 2]?.getD 0).toNat) := by
  rw [List.getElem?_map]
  unfold kp
  rw [map_range_get _ _ _ hk]
  simp only [Option.map_some]
  split <;> rfl
theorem rp_get {cl : List (List Int)} {n m k : Nat} (hk : k < m) : ((rp cl n m).map (·.1))[k]? = some (.nu ((cl[k / n]?.getD [])[k % n]?.getD 0).toNat) := by
  rw [List.getElem?_map]
  unfold rp
  rw [map_range_get _ _ _ hk]; rfl
/-- where the reader is, behind so many pieces -/
theorem Fm.steps {K : Int} {n : Nat} {C : Int} {wl vl : List Int} {cl : List (List Int)} (h : Fm K n C wl vl cl) {T : List Tok} {j : Nat} (H : Has T ((pcs K n C wl vl cl).map (·.1)) j) (hj : (hdp K n C).length ≤ j) :
    ∃ (E : Nat → Tok → Int) (p k : Nat), p ≤ j ∧ (pcs K n C wl vl cl).length = p + k ∧ PS T = steps E T ⟨p, 0⟩ k ∧ (∀ i, i < k → p + i < j → E i (tk T (p + i)) = 0) ∧ ∀ i t, t.kind = 3 → E i t = 6 := by
  have hn := h.n1
  rcases h.k with rfl | rfl | rfl
  · obtain ⟨a1, a2, a3, a4, a5⟩ := h.ks rfl
    obtain ⟨P, hP⟩ : ∃ P, P = (pcs 1 n C wl vl cl).map (·.1) := ⟨_, rfl⟩
    have hj3 : 3 ≤ j := hj
    rw [← hP] at H
    have hP' : P = [.wd (nameOf 1), .nu n, .nu C.toNat] ++ (kp wl vl (2 * n)).map (·.1) := by
      rw [hP]; unfold pcs hdp; rw [if_pos rfl, if_pos rfl, List.map_append]; rfl
    have hl : (pcs 1 n C wl vl cl).length = 2 + (1 + 2 * n) := by
      have : P.length = 3 + 2 * n := by rw [hP']; simp [kp]; omega
      rw [hP, List.length_map] at this; omega
    have g : ∀ k, k < 2 * n → P[3 + k]? = some (.nu (if k % 2 = 0 then wl[k / 2]?.getD 0 else vl[k / 2]?.getD 0).toNat) := fun k hk => by
      rw [hP', List.getElem?_append_right (by simp), show 3 + k - [Pc.wd (nameOf 1), .nu n, .nu C.toNat].length = k by simp, kp_get hk]
    obtain ⟨q1, q3, q4⟩ := hhead2 (most := 64) H (by omega) (by rw [hP']; rfl) (by rw [hP']; rfl) (show idx3 ⟨(nameOf 1).toArray⟩ = 0 by decide +kernel) (by decide) ⟨hn, by omega⟩
    have gC := H.nu (i := 2) (m := C.toNat) (by omega) (by rw [hP']; rfl)
    refine ⟨eK, 2, 1 + 2 * n, by omega, hl, ?_, fun i hi hij => ?_, fun i t ht => eE_end ht⟩
    · unfold PS
      rw [q1, if_neg (by decide), if_neg (by decide)]
      unfold kSt
      rw [q4, q3]
    · show eE (tk T (2 + i)) = 0
      cases i with
      | zero => exact eE_fine gC.1 (by rw [gC.2.1]; have := h.cap; omega)
      | succ i =>
        have := H.nu (i := 3 + i) (by omega) (g i (by omega))
        rw [show 2 + (i + 1) = 3 + i by omega]
        refine eE_fine this.1 ?_
        rw [this.2.1]
        have := a5 (i / 2) (by omega)
        split <;> omega
  · obtain ⟨a1, a2, a3, a4, a5, a6⟩ := h.rs (by decide)
    obtain ⟨P, hP⟩ : ∃ P, P = (pcs 2 n C wl vl cl).map (·.1) := ⟨_, rfl⟩
    have hj2 : 2 ≤ j := hj
    rw [← hP] at H
    have hP' : P = [.wd (nameOf 2), .nu n] ++ (rp cl n (n * n)).map (·.1) := by
      rw [hP]; unfold pcs hdp; rw [if_neg (by decide), if_pos rfl, if_neg (by decide), List.map_append]; rfl
    have hl : (pcs 2 n C wl vl cl).length = 2 + n * n := by
      have : P.length = 2 + n * n := by rw [hP']; simp [rp]; omega
      rw [hP, List.length_map] at this; exact this
    have g : ∀ k, k < n * n → P[2 + k]? = some (.nu ((cl[k / n]?.getD [])[k % n]?.getD 0).toNat) := fun k hk => by
      rw [hP', List.getElem?_append_right (by simp), show 2 + k - [Pc.wd (nameOf 2), .nu n].length = k by simp, rp_get hk]
    obtain ⟨q1, q3, q4⟩ := hhead2 (most := 24) H (by omega) (by rw [hP']; rfl) (by rw [hP']; rfl) (show idx3 ⟨(nameOf 2).toArray⟩ = 1 by decide +kernel) (by decide) ⟨hn, by omega⟩
    refine ⟨eK, 2, n * n, by omega, hl, ?_, fun i hi hij => ?_, fun i t ht => eE_end ht⟩
    · unfold PS
      rw [q1, if_pos rfl]
      unfold aSt
      rw [q4, q3]
    · show eE (tk T (2 + i)) = 0
      have t := H.nu (i := 2 + i) (by omega) (g i hi)
      refine eE_fine t.1 ?_
      rw [t.2.1]
      have := ((a6 (i / n) (Nat.div_lt_of_lt_mul hi)).2 (i % n) (Nat.mod_lt _ (by omega))).1
      omega
  · obtain ⟨a1, a2, a3, a4, a5, a6⟩ := h.rs (by decide)
    obtain ⟨P, hP⟩ : ∃ P, P = (pcs 3 n C wl vl cl).map (·.1) := ⟨_, rfl⟩
    have hj3 : 3 ≤ j := hj
    rw [← hP] at H
    have hP' : P = [.wd (nameOf 3), .nu n, .wd [70, 85, 76, 76]] ++ (rp cl n (n * n)).map (·.1) := by
      rw [hP]; unfold pcs hdp; rw [if_neg (by decide), if_neg (by decide), if_neg (by decide), List.map_append]; rfl
    have hl : (pcs 3 n C wl vl cl).length = 3 + n * n := by
      have : P.length = 3 + n * n := by rw [hP']; simp [rp]; omega
      rw [hP, List.length_map] at this; exact this
    have g : ∀ k, k < n * n → P[3 + k]? = some (.nu ((cl[k / n]?.getD [])[k % n]?.getD 0).toNat) := fun k hk => by
      rw [hP', List.getElem?_append_right (by simp), show 3 + k - [Pc.wd (nameOf 3), .nu n, .wd [70, 85, 76, 76]].length = k by simp, rp_get hk]
    obtain ⟨q1, q3, q4⟩ := hhead2 (most := 24) H (by omega) (by rw [hP']; rfl) (by rw [hP']; rfl) (show idx3 ⟨(nameOf 3).toArray⟩ = 2 by decide +kernel) (by decide) ⟨hn, by omega⟩
    obtain ⟨w1, w2⟩ := H.wd (i := 2) (w := [70, 85, 76, 76]) (by omega) (by rw [hP']; rfl)
    have w3 : idx2 (tk T 2).text = 0 := by rw [w2]; decide +kernel
    have e3 : s3 T ⟨2, 0⟩ = ⟨3, 0⟩ := by
      unfold s3 wf
      show adv ⟨2, 0⟩ (if (tk T 2).kind = 3 then 6 else if idx2 (tk T 2).text < 0 then 3 else 0) = _
      rw [w1, w3, if_neg (by decide), if_neg (by decide)]; exact adv_ok rfl
    refine ⟨fE n, 3, n * n, by omega, hl, ?_, fun i hi hij => ?_, fun i t ht => ?_⟩
    · unfold PS
      rw [q1, if_neg (by decide), if_pos rfl]
      unfold tSt
      rw [q3]
      show (if idx2 (tk T 2).text = 0 then _ else _) = _
      rw [w3, if_pos rfl, q4, e3]
    · have d1 : i / n < n := Nat.div_lt_of_lt_mul hi
      have d2 : i % n < n := Nat.mod_lt _ (by omega)
      have u := (a6 _ d1).2 _ d2
      have t := H.nu (i := 3 + i) (by omega) (g i hi)
      unfold fE
      split
      · rename_i hm
        refine zf_fine t.1 ?_
        rw [t.2.1]
        have : (cl[i / n]?.getD [])[i % n]?.getD 0 = 0 := by
          refine u.2 rfl ?_
          obtain ⟨c, hc⟩ := Nat.dvd_of_mod_eq_zero hm
          have e0 : i = c * n + c := by rw [hc, Nat.succ_mul, Nat.mul_comm]
          have hcn : c < n := by
            rcases Nat.lt_or_ge c n with q | q
            · exact q
            · exfalso
              have := Nat.mul_le_mul_right n q
              omega
          rw [e0, Nat.mul_comm c n, Nat.mul_add_div hn, Nat.div_eq_of_lt hcn, Nat.mul_add_mod, Nat.mod_eq_of_lt hcn, Nat.add_zero]
        omega
      · refine eE_fine t.1 ?_
        rw [t.2.1]; have := u.1; omega
    · unfold fE
      split
      · exact zf_end ht
      · exact eE_end ht
/-- a number more: it stands behind -/
theorem Fm.tail {K : Int} {n : Nat} {C : Int} {wl vl : List Int} {cl : List (List Int)} (h : Fm K n C wl vl cl) : PXX ⟨(wtx K n C wl vl cl ++ [53]).toArray⟩ = .bad (wtx K n C wl vl cl).length 7 := by
  have hl := wtx_len h
  have h5 : (Pc.nu 5).by_ = [53] := by show Lib.decDigits 5 = [53]; rw [Lib.decDigits_one (by decide)]; rfl
  unfold PXX
  rw [if_neg (by rw [mk_size]; simp; omega), ← h.text, ← h5]
  unfold PX
  rw [sp_more _ (.nu 5) h.pieces (by show 5 < 10 ^ 17; decide)]
  show PR _ = _
  obtain ⟨ps, hps⟩ : ∃ ps, ps = pcs K n C wl vl cl := ⟨_, rfl⟩
  rw [← hps]
  obtain ⟨T, hT⟩ : ∃ T, T = tks 0 ps ++ [(Pc.nu 5).tok (txt ps).length] ++ [⟨3, noText, 0, (txt ps).length + (Pc.nu 5).by_.length⟩] := ⟨_, rfl⟩
  rw [← hT]
  have lT : (tks 0 ps).length = ps.length := tks_len ps 0
  have H : Has T (ps.map (·.1)) ps.length := fun i x hi hx => by
    rw [List.getElem?_map] at hx
    cases hy : ps[i]? with
    | none => rw [hy] at hx; cases hx
    | some y =>
      rw [hy] at hx
      obtain ⟨q, hq⟩ := tks_get ps 0 i y hy
      refine ⟨q, ?_⟩
      unfold tk
      rw [hT, List.getElem?_append_left (by simp [lT]; omega), List.getElem?_append_left (by omega), hq]
      cases hx; rfl
  have hh : (hdp K n C).length ≤ ps.length := by rw [hps]; unfold pcs; rw [List.length_append]; omega
  rw [hps] at H hh
  obtain ⟨E, p, k, e1, e2, e3, e4, e5⟩ := h.steps H hh
  rw [← hps] at e2 H hh e1 e4
  have hS : PS T = ⟨ps.length, 0⟩ := by rw [e3, steps_ok E T p k (fun i hi => e4 i hi (by omega)), e2]
  have hk : tk T ps.length = (Pc.nu 5).tok (txt ps).length := by
    unfold tk
    rw [hT, List.getElem?_append_left (by simp [lT]), List.getElem?_append_right (by omega), lT, Nat.sub_self]; rfl
  have hf : fin T (PS T) = ⟨ps.length, 7⟩ := by
    rw [hS]; unfold fin
    show (if (tk T ps.length).kind = 3 then _ else _) = _
    rw [hk, if_neg (show ¬ ((Pc.nu 5).tok (txt ps).length).kind = 3 from (by decide : ¬ (2 : Int) = 3))]
    exact adv_err rfl (by decide)
  unfold PR
  rw [hf, if_pos (by simp)]
  show PRes.bad (tk T ps.length).at_ 7 = _
  rw [hk]; rfl
/-- where piece j begins -/
def pos (ps : List (Pc × UInt8)) (j : Nat) : Nat := (txt (ps.take j)).length
theorem take_one {ps : List (Pc × UInt8)} {j : Nat} {x : Pc × UInt8} (h : ps[j]? = some x) : ps.take (j + 1) = ps.take j ++ [x] := by
  rw [List.take_add_one, h]; rfl
theorem pos_succ {ps : List (Pc × UInt8)} {j : Nat} {x : Pc × UInt8} (h : ps[j]? = some x) : pos ps (j + 1) = pos ps j + x.1.by_.length + 1 := by
  unfold pos
  rw [take_one h, txt_app, List.length_append]
  show _ + (x.1.by_ ++ [x.2]).length = _
  simp; omega
theorem txt_split {ps : List (Pc × UInt8)} {j : Nat} {x : Pc × UInt8} (h : ps[j]? = some x) : txt ps = txt (ps.take j) ++ (x.1.by_ ++ x.2 :: txt (ps.drop (j + 1))) := by
  have hj := (List.getElem?_eq_some_iff.1 h).1
  have e : ps = ps.take j ++ x :: ps.drop (j + 1) := by
    have h2 : ps[j] = x := by rw [List.getElem?_eq_getElem hj] at h; injection h
    rw [← h2, List.getElem_cons_drop, List.take_append_drop]
  conv => lhs; rw [e]
  rw [txt_app]; rfl
theorem txt_by {ps : List (Pc × UInt8)} {j : Nat} {x : Pc × UInt8} (h : ps[j]? = some x) {i : Nat} (hi : i < x.1.by_.length) : (txt ps)[pos ps j + i]?.getD 0 = x.1.by_[i] := by
  unfold pos
  rw [txt_split h, List.getElem?_append_right (by omega), Nat.add_sub_cancel_left, List.getElem?_append_left hi, List.getElem?_eq_getElem hi]; rfl
theorem txt_bl {ps : List (Pc × UInt8)} {j : Nat} {x : Pc × UInt8} (h : ps[j]? = some x) : (txt ps)[pos ps j + x.1.by_.length]?.getD 0 = x.2 := by
  unfold pos
  rw [txt_split h, List.getElem?_append_right (by omega), Nat.add_sub_cancel_left, List.getElem?_append_right (Nat.le_refl _), Nat.sub_self]; rfl
/-- the last number of a text that ends at b begins at a -/
structure CutP (t : List UInt8) (a b : Nat) : Prop where
  a2 : 2 ≤ a
  ab : a < b
  bl : b < t.length
  dg : ∀ x, a ≤ x → x < b → 48 ≤ (t[x]?.getD 0).toNat ∧ (t[x]?.getD 0).toNat ≤ 57
  sp : t[a - 1]?.getD 0 = 32 ∨ t[a - 1]?.getD 0 = 10
  no : t[a - 2]?.getD 0 ≠ 32 ∧ t[a - 2]?.getD 0 ≠ 10
theorem pcs_bl (K : Int) (n : Nat) (C : Int) (wl vl : List Int) (cl : List (List Int)) : ∀ x ∈ pcs K n C wl vl cl, x.2 = 32 ∨ x.2 = 10 := by
  intro x hx
  unfold pcs at hx
  rcases List.mem_append.1 hx with hx | hx
  · unfold hdp at hx
    split at hx
    · simp at hx; rcases hx with rfl | rfl | rfl <;> simp
    · split at hx
      · simp at hx; rcases hx with rfl | rfl <;> simp
      · simp at hx; rcases hx with rfl | rfl | rfl <;> simp
  · split at hx
    · unfold kp at hx
      obtain ⟨k, hk, rfl⟩ := List.mem_map.1 hx
      split <;> simp
    · unfold rp at hx
      obtain ⟨k, hk, rfl⟩ := List.mem_map.1 hx
      show (if _ then (10 : UInt8) else 32) = 32 ∨ _
      split <;> simp
/-- the last pieces are numbers -/
theorem Fm.lasts {K : Int} {n : Nat} {C : Int} {wl vl : List Int} {cl : List (List Int)} (h : Fm K n C wl vl cl) : (hdp K n C).length + n ≤ (pcs K n C wl vl cl).length ∧ 2 ≤ (hdp K n C).length ∧ ∀ i, (hdp K n C).length ≤ i → i < (pcs K n C wl vl cl).length → ∃ m b, (pcs K n C wl vl cl)[i]? = some (.nu m, b) := by
  have h1 := h.n1
  have hq : n ≤ n * n := Nat.le_mul_of_pos_left n h1
  refine ⟨?_, ?_, fun i hi hi2 => ?_⟩
  · unfold pcs
    rw [List.length_append]
    split
    · simp [kp]; omega
    · simp [rp]; omega
  · unfold hdp
    split
    · simp
    · split <;> simp
  · unfold pcs at hi2 ⊢
    rw [List.getElem?_append_right hi]
    rw [List.length_append] at hi2
    split at hi2
    · rename_i hK
      rw [if_pos hK]
      unfold kp at hi2 ⊢
      rw [List.length_map, List.length_range] at hi2
      rw [map_range_get _ _ _ (by omega)]
      split <;> exact ⟨_, _, rfl⟩
    · rename_i hK
      rw [if_neg hK]
      unfold rp at hi2 ⊢
      rw [List.length_map, List.length_range] at hi2
      rw [map_range_get _ _ _ (by omega)]
      exact ⟨_, _, rfl⟩
theorem Fm.cut1 {K : Int} {n : Nat} {C : Int} {wl vl : List Int} {cl : List (List Int)} (h : Fm K n C wl vl cl) {j : Nat} (hj : (hdp K n C).length ≤ j) (hj2 : j < (pcs K n C wl vl cl).length) :
    CutP (wtx K n C wl vl cl) (pos (pcs K n C wl vl cl) j) (pos (pcs K n C wl vl cl) (j + 1) - 1) := by
  obtain ⟨l1, l2, l3⟩ := h.lasts
  obtain ⟨m, b, hm⟩ := l3 j hj hj2
  have P := h.pieces
  have pb := pcs_bl K n C wl vl cl
  rw [← h.text]
  obtain ⟨ps, hps⟩ : ∃ ps, ps = pcs K n C wl vl cl := ⟨_, rfl⟩
  rw [← hps] at hj2 hm P pb ⊢
  have hj1 : ps[j - 1]? = some (ps[j - 1]'(by omega)) := List.getElem?_eq_getElem (by omega)
  obtain ⟨y, hy⟩ : ∃ y, y = ps[j - 1]'(by omega) := ⟨_, rfl⟩
  rw [← hy] at hj1
  have hmem : y ∈ ps := by rw [hy]; exact List.getElem_mem _
  have e1 := pos_succ hm
  have e2 := pos_succ hj1
  rw [show j - 1 + 1 = j by omega] at e2
  have y1 := Pc.len (x := y.1) (P y hmem).1
  have m1 := dec_len m
  have bN : (Pc.nu m).by_ = Lib.decDigits m := rfl
  have t1 := txt_bl hj1
  have t2 := txt_by hj1 (i := y.1.by_.length - 1) (by omega)
  have len : (txt ps).length = pos ps j + (Lib.decDigits m).length + 1 + (txt (ps.drop (j + 1))).length := by
    rw [txt_split hm]; unfold pos; simp [bN]; omega
  have e1' : pos ps (j + 1) = pos ps j + (Lib.decDigits m).length + 1 := e1
  refine ⟨by omega, by omega, by omega, fun x hx hx2 => ?_, ?_, ?_⟩
  · obtain ⟨i, rfl⟩ : ∃ i, x = pos ps j + i := ⟨x - pos ps j, by omega⟩
    have hi : i < (Lib.decDigits m).length := by omega
    have := txt_by hm (i := i) hi
    rw [this]
    exact dec_digits m i hi
  · rw [show pos ps j - 1 = pos ps (j - 1) + y.1.by_.length by omega, t1]
    exact pb y hmem
  · rw [show pos ps j - 2 = pos ps (j - 1) + (y.1.by_.length - 1) by omega, t2]
    exact pc_bytes (P y hmem).1 _ _
theorem take_pre {ps : List (Pc × UInt8)} {j : Nat} {x : Pc × UInt8} (h : ps[j]? = some x) : (txt ps).take (pos ps (j + 1) - 1) = txt (ps.take j) ++ x.1.by_ := by
  rw [pos_succ h, txt_split h, ← List.append_assoc]
  have : pos ps j + x.1.by_.length + 1 - 1 = (txt (ps.take j) ++ x.1.by_).length := by unfold pos; rw [List.length_append]; omega
  rw [this, List.take_left']
  rfl
/-- a text that lacks its last numbers ends too soon -/
theorem Fm.short {K : Int} {n : Nat} {C : Int} {wl vl : List Int} {cl : List (List Int)} (h : Fm K n C wl vl cl) {j : Nat} (hj : (hdp K n C).length ≤ j) (hj2 : j < (pcs K n C wl vl cl).length) :
    PXX ⟨((wtx K n C wl vl cl).take (pos (pcs K n C wl vl cl) j - 1)).toArray⟩ = .bad (pos (pcs K n C wl vl cl) j - 1) 6 := by
  have hl := wtx_len h
  obtain ⟨l1, l2, l3⟩ := h.lasts
  have P := h.pieces
  unfold PXX
  rw [if_neg (by rw [mk_size]; simp; omega), ← h.text]
  have HS := fun (T : List Tok) => h.steps (T := T) (j := j)
  obtain ⟨ps, hps⟩ : ∃ ps, ps = pcs K n C wl vl cl := ⟨_, rfl⟩
  rw [← hps] at hj2 P HS ⊢
  have hj1 : ps[j - 1]? = some (ps[j - 1]'(by omega)) := List.getElem?_eq_getElem (by omega)
  obtain ⟨y, hy⟩ : ∃ y, y = ps[j - 1]'(by omega) := ⟨_, rfl⟩
  rw [← hy] at hj1
  have hmem : y ∈ ps := by rw [hy]; exact List.getElem_mem _
  have tp := take_pre hj1
  have e2 := pos_succ hj1
  rw [show j - 1 + 1 = j by omega] at tp e2
  unfold PX
  rw [tp, sp_more _ y.1 (fun x hx => P x (List.mem_of_mem_take hx)) (P y hmem).1]
  show PR _ = _
  obtain ⟨T, hT⟩ : ∃ T, T = tks 0 (ps.take (j - 1)) ++ [y.1.tok (txt (ps.take (j - 1))).length] ++ [⟨3, noText, 0, (txt (ps.take (j - 1))).length + y.1.by_.length⟩] := ⟨_, rfl⟩
  rw [← hT]
  have lT : (tks 0 (ps.take (j - 1))).length = j - 1 := by rw [tks_len, List.length_take]; omega
  have H : Has T (ps.map (·.1)) j := fun i x hi hx => by
    rw [List.getElem?_map] at hx
    by_cases c : i = j - 1
    · subst c
      rw [hj1] at hx
      refine ⟨(txt (ps.take (j - 1))).length, ?_⟩
      unfold tk
      rw [hT, List.getElem?_append_left (by simp [lT]), List.getElem?_append_right (by omega), lT, Nat.sub_self]
      cases hx; rfl
    · cases hz : ps[i]? with
      | none => rw [hz] at hx; cases hx
      | some z =>
        rw [hz] at hx
        obtain ⟨q, hq⟩ := tks_get (ps.take (j - 1)) 0 i z (by rw [List.getElem?_take, if_pos (by omega)]; exact hz)
        refine ⟨q, ?_⟩
        unfold tk
        rw [hT, List.getElem?_append_left (by simp [lT]; omega), List.getElem?_append_left (by omega), hq]
        cases hx; rfl
  obtain ⟨E, p, k, e1, e2', e3, e4, e5⟩ := HS T H hj
  have hk : tk T j = ⟨3, noText, 0, (txt (ps.take (j - 1))).length + y.1.by_.length⟩ := by
    unfold tk
    rw [hT, List.getElem?_append_right (by simp [lT]; omega), show j - (tks 0 (ps.take (j - 1)) ++ [y.1.tok (txt (ps.take (j - 1))).length]).length = 0 by simp [lT]; omega]; rfl
  have h6 : E (j - p) (tk T j) = 6 := e5 _ _ (by rw [hk])
  have hpj : p + (j - p) = j := by omega
  have hS : PS T = ⟨j, 6⟩ := by
    rw [e3, steps_err E T p (j - p) k (fun i hi => e4 i (by omega) (by omega)) (by rw [hpj, h6]; decide) (by omega), hpj, h6]
  unfold PR
  rw [hS, fin_bad (by show (6 : Int) ≠ 0; decide), if_pos (by show (6 : Int) ≠ 0; decide)]
  show PRes.bad (tk T j).at_ 6 = _
  rw [hk]
  congr 1
  show (txt (ps.take (j - 1))).length + y.1.by_.length = pos ps j - 1
  rw [e2]; unfold pos; omega
end Go.Proofs.YtjlaankgfpjeeaaDoor
