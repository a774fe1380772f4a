/-
  The reference's Sorted.
-/
import Derived.Test.YtgldgilhegdpjaaSoP
import Derived.Deep.QuietTactic
import Derived.BigQuiet
namespace Go.Proofs.Ytgldgilhegdpjaa.so
open Go.RowKit
set_option linter.unusedVariables false
def Rwn (TB : Tb) (B g n cap : Nat) (l : List Int) (w0 wr : World) : Prop := l.length = n ∧ B ≤ g ∧ wr.ownsRow B 45 2 (.slice (some ⟨g, 0, none⟩) n cap) n (enc (l.map TB.e)) ∧ Below B w0 wr
section
variable {TB : Tb} {B g n cap : Nat} {l : List Int} {w0 wr w1 : World}
theorem Rwn.cell (h : Rwn TB B g n cap l w0 wr) (j : Nat) (hj : j < n) : wr.cell? ⟨g, j * 2, none⟩ = some (.int .i64 (TB.k (nth l j))) ∧ wr.cell? ⟨g, j * 2 + 1, none⟩ = some (.slice (TB.a (nth l j)) (TB.n (nth l j)) (TB.c (nth l j))) := by
  obtain ⟨h1, h2, h3, h4⟩ := h
  have e : (l.map TB.e)[j]? = some (TB.e (nth l j)) := by
    rw [List.getElem?_map, List.getElem?_eq_getElem (by omega), nth_at l j (by omega)]
    rfl
  obtain ⟨a1, a2⟩ := enc_get _ _ _ e
  exact ⟨by rw [h3.cellAt (j * 2) (by omega)]; exact a1, by rw [h3.cellAt (j * 2 + 1) (by omega)]; exact a2⟩
theorem Rwn.frozen (h : Rwn TB B g n cap l w0 wr) (j : Nat) : wr.frozen? ⟨g, j, none⟩ = false := h.2.2.1.frozenAt j
theorem Rwn.set (h : Rwn TB B g n cap l w0 wr) (j : Nat) (x : Int) : Rwn TB B g n cap (l.set j x) w0 ((wr.setCell ⟨g, j * 2, none⟩ (.int .i64 (TB.k x))).setCell ⟨g, j * 2 + 1, none⟩ (.slice (TB.a x) (TB.n x) (TB.c x))) := by
  obtain ⟨h1, h2, h3, h4⟩ := h
  refine ⟨by simpa using h1, h2, ?_, (h4.setCell (p := ⟨g, j * 2, none⟩) h2 _).setCell (p := ⟨g, j * 2 + 1, none⟩) h2 _⟩
  rw [List.map_set]
  show World.ownsRow _ _ _ _ _ _ (enc ((l.map TB.e).set j (TB.k x, .slice (TB.a x) (TB.n x) (TB.c x))))
  rw [enc_set]
  exact ((h3.stored (j * 2) _).1.stored (j * 2 + 1) _).1
theorem Rwn.blk (h : Rwn TB B g n cap l w0 wr) : ∃ cur, wr.heap[g]? = some (.cells cur 45 (0, 0)) := by
  rcases h.2.2.1.2 with ⟨h', _⟩ | ⟨g', cap', cur, h', _, hg, _⟩
  · cases h'
  · cases h'
    exact ⟨cur, hg⟩
theorem Rwn.keep (h : Rwn TB B g n cap l w0 wr) (hb : Below wr.heap.size wr w1) : Rwn TB B g n cap l w0 w1 := by
  obtain ⟨cur, hg⟩ := h.blk
  have hl := lt_hp hg
  obtain ⟨h1, h2, h3, h4⟩ := h
  exact ⟨h1, h2, (Fr.of (B := 0) (P := fun _ => False) hb).row h3 (fun h => h), h4.trans (hb.mono (by omega))⟩
end
/-- the first k records in order -/
structure SrtU (rs : List Rec) (k : Nat) (U : List Int) : Prop where
  len : U.length = k
  lo : ∀ j, j < k → 0 ≤ nth U j ∧ nth U j < k
  on : ∀ a : Nat, a < k → ∃ j, j < k ∧ nth U j = (a : Int)
  up : ∀ i j, i < j → j < k → ltj rs (nth U i).toNat (nth U j).toNat = true
theorem srt_nil (rs : List Rec) : SrtU rs 0 [] := ⟨rfl, fun j h => by omega, fun a h => by omega, fun i j h1 h2 => by omega⟩
/-- one put in at place p -/
theorem srt_put {rs : List Rec} {k p : Nat} {U V : List Int} (h : SrtU rs k U) (hp : p ≤ k) (h1 : ∀ j, p ≤ j → j < k → cj rs k (nth U j) < 0) (h2 : p = 0 ∨ ¬ cj rs k (nth U (p - 1)) < 0) (hl : V.length = k + 1) (hv : ∀ x, x < k + 1 → nth V x = if x < p then nth U x else if x = p then (k : Int) else nth U (x - 1)) : SrtU rs (k + 1) V := by
  have O := ltj_ord rs (k + 1)
  have nat : ∀ j, j < k → ((nth U j).toNat : Int) = nth U j ∧ (nth U j).toNat < k := fun j hj => by have := h.lo j hj; omega
  -- those ahead of p stand ahead of the new one
  have hlo : ∀ x, x < p → ltj rs (nth U x).toNat k = true := fun x hx => by
    have hlast : ltj rs (nth U (p - 1)).toNat k = true := by
      rw [ltj_iff]
      obtain ⟨a1, a2⟩ := nat (p - 1) (by omega)
      rw [a1]
      have e := lexc_neg (pth rs k) (pth rs (nth U (p - 1)))
      have h3 : ¬ cj rs k (nth U (p - 1)) < 0 := by rcases h2 with h2 | h2; omega; exact h2
      unfold cj at h3 ⊢
      omega
    rcases Nat.lt_or_ge x (p - 1) with hlt | hge
    · exact O.tr _ _ _ (by have := (nat x (by omega)).2; omega) (by have := (nat (p - 1) (by omega)).2; omega) (by omega) (h.up x (p - 1) hlt (by omega)) hlast
    · rw [show x = p - 1 by omega]; exact hlast
  have hhi : ∀ x, p ≤ x → x < k → ltj rs k (nth U x).toNat = true := fun x h3 h4 => by
    rw [ltj_iff]
    rw [(nat x h4).1]
    exact .inl (h1 x h3 h4)
  refine ⟨hl, fun j hj => ?_, fun a ha => ?_, fun i j hij hj => ?_⟩
  · rw [hv j hj]
    split
    · have := h.lo j (by omega); omega
    · split
      · omega
      · have := h.lo (j - 1) (by omega); omega
  · by_cases e : a = k
    · subst e
      exact ⟨p, by omega, by rw [hv p (by omega), if_neg (by omega), if_pos rfl]⟩
    · obtain ⟨j, hj, ej⟩ := h.on a (by omega)
      by_cases hjp : j < p
      · exact ⟨j, by omega, by rw [hv j (by omega), if_pos hjp]; exact ej⟩
      · exact ⟨j + 1, by omega, by rw [hv (j + 1) (by omega), if_neg (by omega), if_neg (by omega)]; exact ej⟩
  · rw [hv i (by omega), hv j hj]
    by_cases c1 : i < p
    · rw [if_pos c1]
      by_cases c2 : j < p
      · rw [if_pos c2]; exact h.up i j hij (by omega)
      · rw [if_neg c2]
        by_cases c3 : j = p
        · rw [if_pos c3, Int.toNat_natCast]; exact hlo i c1
        · rw [if_neg c3]; exact h.up i (j - 1) (by omega) (by omega)
    · rw [if_neg c1, if_neg (show ¬ j < p by omega)]
      by_cases c2 : i = p
      · rw [if_pos c2, if_neg (show ¬ j = p by omega), Int.toNat_natCast]; exact hhi (j - 1) (by omega) (by omega)
      · rw [if_neg c2, if_neg (show ¬ j = p by omega)]; exact h.up (i - 1) (j - 1) (by omega) (by omega)
theorem srt_rk {rs : List Rec} {n : Nat} {U : List Int} (h : SrtU rs n U) : IsRk (ltj rs) n U := by
  refine (rk_of_up (ltj_ord rs n) h.len (upTo_len n) (upTo_nth n) ⟨fun x hx => ?_, fun x h1 h2 => ?_, fun y h1 h2 => ?_⟩ (fun x y h1 h2 h3 => ?_)).1
  · have a : n ≤ x := by omega
    unfold nth
    rw [List.getElem?_eq_none (by rw [h.len]; exact a), List.getElem?_eq_none (by rw [upTo_len]; exact a)]
  · obtain ⟨a1, a2⟩ := h.lo x h2
    exact ⟨(nth U x).toNat, by omega, by omega, by rw [upTo_nth n _ (by omega)]; omega⟩
  · obtain ⟨j, hj, ej⟩ := h.on y h2
    exact ⟨j, by omega, hj, by rw [ej, upTo_nth n y h2]⟩
  · have a := h.lo x (by omega)
    have b := h.lo y h3
    have e := rko_lt (ltj_ord rs n) (a := (nth U x).toNat) (b := (nth U y).toNat) (by omega) (by omega) (h.up x y h2 h3)
    show ((rko (ltj rs) n (nth U x).toNat : Nat) : Int) < ((rko (ltj rs) n (nth U y).toNat : Nat) : Int)
    exact_mod_cast e
end Go.Proofs.Ytgldgilhegdpjaa.so
