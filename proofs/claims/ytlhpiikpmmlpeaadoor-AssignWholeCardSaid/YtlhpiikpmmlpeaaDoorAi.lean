/-
  assign: Kids.
-/
import Derived.Test.YtlhpiikpmmlpeaaDoorAsOne
import Derived.Test.YtlhpiikpmmlpeaaDoorAo
import Derived.Test.YtlhpiikpmmlpeaaDoorSeTwo
import Derived.Test.YtlhpiikpmmlpeaaDoorOdStabA
import Derived.Deep.RegionHeld3
namespace Go.Proofs.YtlhpiikpmmlpeaaDoor
open Go.RowKit
set_option linter.unusedVariables false
theorem lst_pw (f : Nat → Bool) : ∀ n k, (st.lst f k n).Pairwise (· < ·) ∧ (∀ v, v ∈ st.lst f k n ↔ (k ≤ v ∧ v < k + n) ∧ f v = true)
  | 0, k => by
    simp only [st.lst]
    refine ⟨List.Pairwise.nil, fun v => ⟨fun h => by simp at h, fun h => by omega⟩⟩
  | n + 1, k => by
    obtain ⟨h1, h2⟩ := lst_pw f n (k + 1)
    by_cases q : f k = true
    · rw [st.lst_yes q]
      refine ⟨List.pairwise_cons.2 ⟨fun v hv => by have := (h2 v).1 hv; omega, h1⟩, fun v => ?_⟩
      rw [List.mem_cons, h2 v]
      constructor
      · rintro (rfl | ⟨a, b⟩)
        · exact ⟨by omega, q⟩
        · exact ⟨by omega, b⟩
      · rintro ⟨a, b⟩
        by_cases e : v = k
        · exact .inl e
        · exact .inr ⟨by omega, b⟩
    · rw [st.lst_no q]
      refine ⟨h1, fun v => ?_⟩
      rw [h2 v]
      constructor
      · rintro ⟨a, b⟩; exact ⟨by omega, b⟩
      · rintro ⟨a, b⟩
        refine ⟨?_, b⟩
        by_cases e : v = k
        · subst e; exact absurd b q
        · omega
/-- what is left, as a list -/
def frl (n : Nat) (p : List Int) : List Int := (st.nums (fre n p)).map (fun (i : Nat) => (i : Int))
theorem both_frl {n : Nat} {p : List Int} {a b : Nat} (h : ∀ j, j < 128 → st.mem a b j = fre n p j) : st.both a b = frl n p := by
  rw [st.both_nums]
  unfold frl
  congr 1
  unfold st.nums
  exact st.lst_congr 128 0 (fun i _ hi => h i (by omega))
theorem frl_mem {n : Nat} (hn : n ≤ 128) (p : List Int) (v : Int) : v ∈ frl n p ↔ (0 ≤ v ∧ v < n) ∧ ¬ v ∈ p := by
  unfold frl st.nums
  rw [List.mem_map]
  constructor
  · rintro ⟨i, hi, rfl⟩
    have := ((lst_pw (fre n p) 128 0).2 i).1 hi
    have k := this.2
    simp [fre, inP] at k
    exact ⟨by omega, k.2⟩
  · rintro ⟨h1, h2⟩
    obtain ⟨i, rfl⟩ : ∃ i : Nat, v = i := ⟨v.toNat, by omega⟩
    refine ⟨i, ((lst_pw (fre n p) 128 0).2 i).2 ⟨by omega, ?_⟩, rfl⟩
    simp [fre, inP]
    exact ⟨by omega, h2⟩
theorem frl_pw (n : Nat) (p : List Int) : (frl n p).Pairwise (· < ·) := by
  unfold frl st.nums
  rw [List.pairwise_map]
  exact (lst_pw (fre n p) 128 0).1.imp (fun h => by omega)
theorem frl_up (n : Nat) (p : List Int) : ∀ x y, x < y → y < (frl n p).length → od.nth (frl n p) x < od.nth (frl n p) y := fun x y hxy hy => by
  have := List.pairwise_iff_getElem.1 (frl_pw n p) x y (by omega) hy hxy
  rw [od.nth_at _ x (by omega), od.nth_at _ y hy]
  exact this
theorem frl_in {n : Nat} (hn : n ≤ 128) (p : List Int) : ∀ j, j < (frl n p).length → 0 ≤ od.nth (frl n p) j ∧ od.nth (frl n p) j < n := fun j hj => by
  rw [od.nth_at _ j hj]
  exact ((frl_mem hn p _).1 (List.getElem_mem hj)).1
theorem frl_len {n : Nat} (hn : n ≤ 128) (p : List Int) : (frl n p).length ≤ n := by
  refine od.nodup_len n _ ?_ (fun v hv => ((frl_mem hn p v).1 hv).1)
  rw [List.nodup_iff_pairwise_ne]
  exact (frl_pw n p).imp (fun h => by omega)
theorem pre_len {n : Nat} {p : List Int} (h : Pre n p) : p.length ≤ n := od.nodup_len n p h.1 h.2
theorem frl_some {n : Nat} (hn : n ≤ 128) {p : List Int} (h : p.length < n) : 1 ≤ (frl n p).length := by
  rcases Nat.eq_zero_or_pos (frl n p).length with q | q
  · have e := List.eq_nil_of_length_eq_zero q
    have := (od.perm_pig n p (fun j hj => by
      by_cases c : (j : Int) ∈ p
      · exact c
      · have := (frl_mem hn p j).2 ⟨by omega, c⟩
        rw [e] at this
        simp at this)).1
    omega
  · exact q
/-- what SortStableFunc leaves of a rising list -/
theorem sort_any {N : Nat} (row : List Int) (hrow : row.length = N) (B g n cap : Nat) (p1 : Value) (w0 : World) (hc : od.Cmp126A (od.ckey row) N p1 B w0) (hn : n ≤ 1000) (l : List Int) (hl : l.length = n) (hr : ∀ j, j < n → 0 ≤ od.nth l j ∧ od.nth l j < N) (hu : ∀ x y, x < y → y < n → od.nth l x < od.nth l y) (w : World) (ho : od.OwS B g n cap l w0 w) :
    Calls Tryd.prog 51 #[.slice (some ⟨g, 0, none⟩) n cap, .func (.func 52) #[] #[p1]] w fun e w' => e = .returned (.tuple #[]) ∧ ∃ T, KidT row l T ∧ od.OwS B g n cap T w0 w' := by
  have hcap := ho.own.cap
  have HS := Lib.hid (od.stable_anyA (N := N) (od.ckey row) (od.ckey_bd row) (fun z => (od.rko (od.ltK row) N z.toNat : Int)) B g n cap (od.cmpt_of (od.ltK_ord N row) (fun x y h _ => od.ckey_lt row x y h)) p1 w0 hc hn hcap.1 hcap.2 l hr hu w ho)
  have HK : Hid (∀ T, od.Sm T l 0 n → od.Up (fun z => (od.rko (od.ltK row) N z.toNat : Int)) T 0 n → T.length = n → KidT row l T) := fun T h1 h2 h3 => kidT_of (n := N) (by rw [hl]; exact hr) (by rw [hl]; exact hu) (by rw [hl]; exact h3) (by rw [hl]; exact h1) (by rw [hl]; exact h2)
  unfold od.MrgP at HS
  clear hc hr hu ho hcap
  go_enter Tryd.func51, Tryd.ntmps51
  go_wp2_with fail
  refine HS.out.mono ?_; rintro e w2 ⟨rfl, T, h1, h2, ho2⟩
  have HO2 := Lib.hid ho2
  have H1 := Lib.hid (HK.out T h1 h2 ho2.1)
  clear ho2 h1 h2 HS HK
  go_wp2
  go_end0
  exact ⟨rfl, T, H1.out, HO2.out⟩
end Go.Proofs.YtlhpiikpmmlpeaaDoor
