/-
  assign: what the reference's Reduce tells of the rows and columns left is what rest tells: plain mathematics.
-/
import Derived.Test.YtlhpiikpmmlpeaaDoorAv
namespace Go.Proofs.YtlhpiikpmmlpeaaDoor
set_option linter.unusedVariables false
/-- one step of a search for the least number that is at least 0 -/
def stp (l v u : Int) : Int := if 0 ≤ v ∧ (l < 0 ∨ u < l) then u else l
/-- a row's least behind k columns -/
def rlr (row : List Int) : Nat → Int
  | 0 => -1
  | k + 1 => stp (rlr row k) (od.nth row k) (od.nth row k)
/-- what Reduce takes from a row -/
def les (row : List Int) : Int := max (rlr row row.length) 0
def sm1 (M : List (List Int)) : Nat → Int
  | 0 => 0
  | k + 1 => sm1 M k + les (M[k]?.getD [])
/-- a column's least behind k rows -/
def clr (M : List (List Int)) (c : Nat) : Nat → Int
  | 0 => -1
  | k + 1 => stp (clr M c k) (od.nth (M[k]?.getD []) c) (od.nth (M[k]?.getD []) c - les (M[k]?.getD []))
def sm2 (M : List (List Int)) : Nat → Int
  | 0 => sm1 M M.length
  | k + 1 => sm2 M k + max (clr M k M.length) 0
def redR (M : List (List Int)) : Int := sm2 M (if 0 < M.length then (M[0]?.getD []).length else 0)
/-- the rows from one on at the columns of F -/
def rowF (cl : List (List Int)) (F : List Int) (r : Nat) : List Int := F.map (fun c => od.nth (cl[r]?.getD []) c.toNat)
def mat (n : Nat) (cl : List (List Int)) (F : List Int) (fr : Nat) : List (List Int) := (List.range (n - fr)).map (fun j => rowF cl F (fr + j))
theorem rowF_nth (cl : List (List Int)) (F : List Int) (r k : Nat) (hk : k < F.length) : od.nth (rowF cl F r) k = od.nth (cl[r]?.getD []) (od.nth F k).toNat := by
  unfold rowF
  rw [od.nth_at _ k (by simpa using hk), od.nth_at F k hk]
  simp
theorem mat_at (n : Nat) (cl : List (List Int)) (F : List Int) (fr j : Nat) (hj : j < n - fr) : (mat n cl F fr)[j]?.getD [] = rowF cl F (fr + j) := by
  unfold mat
  rw [List.getElem?_map, List.getElem?_range hj]
  rfl
theorem mat_len (n : Nat) (cl : List (List Int)) (F : List Int) (fr : Nat) : (mat n cl F fr).length = n - fr := by unfold mat; simp
/-- a row's least -/
theorem rlr_lea {cl : List (List Int)} {F : List Int} {r : Nat} (h : ∀ c ∈ F, 0 ≤ od.nth (cl[r]?.getD []) c.toNat ∧ od.nth (cl[r]?.getD []) c.toNat ≤ 2147483647) :
    ∀ k, k ≤ F.length → rlr (rowF cl F r) k = if k = 0 then -1 else lea (cl[r]?.getD []) (F.take k)
  | 0, _ => rfl
  | k + 1, hk => by
    have ih := rlr_lea h k (by omega)
    have hm : F.take (k + 1) = F.take k ++ [od.nth F k] := by
      rw [List.take_succ_eq_append_getElem (by omega), od.nth_at F k (by omega)]
    have hin : od.nth F k ∈ F := by rw [od.nth_at F k (by omega)]; exact List.getElem_mem _
    obtain ⟨b0, b1⟩ := h _ hin
    show stp (rlr (rowF cl F r) k) _ _ = _
    rw [rowF_nth cl F r k (by omega), ih, hm, if_neg (show ¬ k + 1 = 0 by omega), lea_snoc]
    unfold stp
    by_cases hk0 : k = 0
    · subst hk0
      rw [if_pos rfl, if_pos ⟨b0, .inl (by decide)⟩]
      show _ = min (lea (cl[r]?.getD []) []) _
      show _ = min (9223372036854775807 : Int) _
      omega
    · rw [if_neg hk0]
      obtain ⟨l1, l2, l3⟩ := lea_bd (row := cl[r]?.getD []) (pre := F.take k) (fun c hc => (h c (List.mem_of_mem_take hc)).1)
      generalize od.nth (cl[r]?.getD []) (od.nth F k).toNat = v at *
      generalize lea (cl[r]?.getD []) (F.take k) = l at *
      by_cases q : v < l
      · rw [if_pos ⟨b0, .inr q⟩]; omega
      · rw [if_neg (by omega)]; omega
theorem les_lea {cl : List (List Int)} {F : List Int} {r : Nat} (hF : F ≠ []) (h : ∀ c ∈ F, 0 ≤ od.nth (cl[r]?.getD []) c.toNat ∧ od.nth (cl[r]?.getD []) c.toNat ≤ 2147483647) : les (rowF cl F r) = lea (cl[r]?.getD []) F := by
  have hl : (rowF cl F r).length = F.length := by unfold rowF; simp
  unfold les
  have h0 : F.length ≠ 0 := fun e => hF (List.eq_nil_of_length_eq_zero e)
  rw [hl, rlr_lea h F.length (Nat.le_refl _), if_neg h0, List.take_length]
  have := (lea_bd (row := cl[r]?.getD []) (pre := F) (fun c hc => (h c hc).1)).1
  omega
/-- what is above, at one column -/
theorem abv_at {n : Nat} (row : List Int) (t : Int) : ∀ (F al : List Int), al.length = n → (∀ v ∈ F, 0 ≤ v ∧ v < n) → F.Nodup → ∀ c ∈ F, od.nth (abv row t F al) c.toNat = min (od.nth al c.toNat) (od.nth row c.toNat - t)
  | [], _, _, _, _, c, hc => by simp at hc
  | a :: F, al, hl, hF, hnd, c, hc => by
    have ha := hF a (List.mem_cons_self ..)
    rw [List.nodup_cons] at hnd
    show od.nth (abv row t F (al.set a.toNat _)) c.toNat = _
    have hl2 : (al.set a.toNat (min (od.nth al a.toNat) (od.nth row a.toNat - t))).length = n := by simp [hl]
    rcases List.mem_cons.1 hc with rfl | q
    · -- behind it c is not turned again
      have keep : ∀ (G bl : List Int), bl.length = n → (∀ v ∈ G, 0 ≤ v ∧ v < n) → ¬ c ∈ G → od.nth (abv row t G bl) c.toNat = od.nth bl c.toNat := by
        intro G
        induction G with
        | nil => intro bl _ _ _; rfl
        | cons d G ih =>
          intro bl hb hG hn
          have hd := hG d (List.mem_cons_self ..)
          show od.nth (abv row t G (bl.set d.toNat _)) c.toNat = _
          rw [ih _ (by simp [hb]) (fun v hv => hG v (List.mem_cons_of_mem _ hv)) (fun q => hn (List.mem_cons_of_mem _ q)), od.nth_set _ _ _ _ (by omega), if_neg (fun e => hn (by
            have : d = c := by omega
            rw [this]; exact List.mem_cons_self ..))]
      rw [keep F _ hl2 (fun v hv => hF v (List.mem_cons_of_mem _ hv)) hnd.1, od.nth_set _ _ _ _ (by omega), if_pos rfl]
    · have hca : c ≠ a := fun e => hnd.1 (by rw [← e]; exact q)
      have hcb := hF c hc
      rw [abv_at row t F _ hl2 (fun v hv => hF v (List.mem_cons_of_mem _ hv)) hnd.2 c q, od.nth_set _ _ _ _ (by omega), if_neg (fun e => hca (by omega))]
theorem sm1_rst {n fr : Nat} {cl : List (List Int)} {F : List Int} (hne : F ≠ []) (hF : ∀ v ∈ F, 0 ≤ v ∧ v < n) (hE : EntB n cl) : ∀ k, k ≤ n - fr → sm1 (mat n cl F fr) k = (rst n cl F fr k).1
  | 0, _ => rfl
  | k + 1, hk => by
    show sm1 (mat n cl F fr) k + les ((mat n cl F fr)[k]?.getD []) = (rst n cl F fr k).1 + lea (cl[fr + k]?.getD []) F
    rw [sm1_rst (fr := fr) hne hF hE k (by omega), mat_at n cl F fr k (by omega), les_lea hne (fun c hc => by have := hF c hc; exact hE _ _ (by omega) (by omega))]
theorem clr_rst {n fr : Nat} {cl : List (List Int)} {F : List Int} (hne : F ≠ []) (hF : ∀ v ∈ F, 0 ≤ v ∧ v < n) (hnd : F.Nodup) (hE : EntB n cl) (j : Nat) (hj : j < F.length) :
    ∀ k, k ≤ n - fr → clr (mat n cl F fr) j k = if k = 0 then -1 else od.nth (rst n cl F fr k).2 (od.nth F j).toNat
  | 0, _ => rfl
  | k + 1, hk => by
    have ih := clr_rst (fr := fr) hne hF hnd hE j hj k (by omega)
    have hin : od.nth F j ∈ F := by rw [od.nth_at F j hj]; exact List.getElem_mem _
    have hc := hF _ hin
    have hrow : ∀ c ∈ F, 0 ≤ od.nth (cl[fr + k]?.getD []) c.toNat ∧ od.nth (cl[fr + k]?.getD []) c.toNat ≤ 2147483647 := fun c hc => by have := hF c hc; exact hE _ _ (by omega) (by omega)
    obtain ⟨s1, s2, s3, s4⟩ := rst_bd (fr := fr) hF (fun _ => hne) hE k (by omega)
    obtain ⟨l1, l2, l3⟩ := lea_bd (row := cl[fr + k]?.getD []) (pre := F) (fun c hc => (hrow c hc).1)
    have b := hrow _ hin
    have l4 := l3 _ hin
    have s5 := s3 (od.nth F j).toNat (by omega)
    have ea := abv_at (cl[fr + k]?.getD []) (lea (cl[fr + k]?.getD []) F) F (rst n cl F fr k).2 s2 hF hnd _ hin
    show stp (clr (mat n cl F fr) j k) (od.nth ((mat n cl F fr)[k]?.getD []) j) (od.nth ((mat n cl F fr)[k]?.getD []) j - les ((mat n cl F fr)[k]?.getD [])) = _
    rw [if_neg (show ¬ k + 1 = 0 by omega)]
    show _ = od.nth (abv (cl[fr + k]?.getD []) (lea (cl[fr + k]?.getD []) F) F (rst n cl F fr k).2) (od.nth F j).toNat
    rw [ea, mat_at n cl F fr k (by omega), rowF_nth cl F _ j hj, les_lea hne hrow, ih]
    unfold stp
    by_cases hk0 : k = 0
    · subst hk0
      have e0 : od.nth (rst n cl F fr 0).2 (od.nth F j).toNat = 9223372036854775807 := by
        show od.nth (List.replicate n (9223372036854775807 : Int)) _ = _
        rw [od.nth_at _ _ (by rw [List.length_replicate]; omega)]
        simp
      rw [if_pos rfl, if_pos ⟨b.1, .inl (by decide)⟩, e0]
      omega
    · rw [if_neg hk0]
      generalize od.nth (cl[fr + k]?.getD []) (od.nth F j).toNat = v at *
      generalize lea (cl[fr + k]?.getD []) F = t at *
      generalize od.nth (rst n cl F fr k).2 (od.nth F j).toNat = z at *
      by_cases q : v - t < z
      · rw [if_pos ⟨b.1, .inr q⟩]; omega
      · rw [if_neg (by omega)]; omega
theorem redR_rest {n fr : Nat} {cl : List (List Int)} {F : List Int} (hfr : fr ≤ n) (hFl : F.length = n - fr) (hF : ∀ v ∈ F, 0 ≤ v ∧ v < n) (hnd : F.Nodup) (hE : EntB n cl) : redR (mat n cl F fr) = restR n cl F fr := by
  by_cases h0 : n - fr = 0
  · have e : F = [] := List.eq_nil_of_length_eq_zero (by omega)
    subst e
    unfold redR restR
    rw [mat_len, h0, if_neg (by omega)]
    show sm1 (mat n cl [] fr) (mat n cl [] fr).length = _
    rw [mat_len, h0]
    rfl
  · have hne : F ≠ [] := fun e => by rw [e] at hFl; simp at hFl; omega
    have hlen : ((mat n cl F fr)[0]?.getD []).length = F.length := by rw [mat_at n cl F fr 0 (by omega)]; unfold rowF; simp
    obtain ⟨s1, s2, s3, s4⟩ := rst_bd (fr := fr) hF (fun _ => hne) hE (n - fr) (by omega)
    have key : ∀ k, k ≤ F.length → sm2 (mat n cl F fr) k = smv (rst n cl F fr (n - fr)).2 (F.take k) (rst n cl F fr (n - fr)).1 := by
      intro k
      induction k with
      | zero =>
        intro _
        show sm1 (mat n cl F fr) (mat n cl F fr).length = _
        rw [mat_len, sm1_rst hne hF hE (n - fr) (Nat.le_refl _)]
        rfl
      | succ k ih =>
        intro hk
        have hin : od.nth F k ∈ F := by rw [od.nth_at F k (by omega)]; exact List.getElem_mem _
        have hc := hF _ hin
        have hm : F.take (k + 1) = F.take k ++ [od.nth F k] := by
          rw [List.take_succ_eq_append_getElem (by omega), od.nth_at F k (by omega)]
        show sm2 (mat n cl F fr) k + max (clr (mat n cl F fr) k (mat n cl F fr).length) 0 = _
        rw [ih (by omega), hm, smv_snoc, mat_len, clr_rst hne hF hnd hE k (by omega) (n - fr) (Nat.le_refl _), if_neg h0]
        have := (s3 (od.nth F k).toNat (by omega)).1
        omega
    unfold redR restR
    rw [mat_len, if_pos (by omega), hlen, key F.length (Nat.le_refl _), List.take_length]
end Go.Proofs.YtlhpiikpmmlpeaaDoor
