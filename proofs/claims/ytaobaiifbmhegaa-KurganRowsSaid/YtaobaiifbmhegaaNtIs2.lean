/-
  What order.Is answers.
-/
import Derived.Test.YtaobaiifbmhegaaNtIs
namespace Go.Proofs.Ytaobaiifbmhegaa.nt
open Go.RowKit
set_option linter.unusedVariables false

theorem info4 : (Try.prog.info? 4).map (fun i => (i.zero, i.size, i.bytes)) = some (some (.bool false), 1, 1) := by kernel_rfl
/-- which numbers were met -/
def MetAt (B g n : Nat) (p : List Int) (k : Nat) (w wr : World) : Prop :=
  ∃ mt : List Bool, mt.length = n ∧ B ≤ g ∧ wr.ownsRow B 4 1 (.slice (some ⟨g, 0, none⟩) n n) n (mt.map Value.bool) ∧ (∀ v, v < n → (mt[v]?.getD false = true ↔ ∃ j, j < k ∧ nth p j = (v : Int))) ∧ okTo p k ∧ Below B w wr
theorem met_cell {B g n : Nat} {p : List Int} {k : Nat} {w wr : World} (h : MetAt B g n p k w wr) (v : Nat) (hv : v < n) :
    ∃ b : Bool, wr.cell? ⟨g, v, none⟩ = some (.bool b) ∧ wr.frozen? ⟨g, v, none⟩ = false ∧ (b = true ↔ ∃ j, j < k ∧ nth p j = (v : Int)) := by
  obtain ⟨mt, h1, h2, h3, h4, h5, h6⟩ := h
  refine ⟨mt[v]?.getD false, ?_, h3.frozenAt v, h4 v hv⟩
  rw [h3.cellAt v (by omega), List.getElem?_map, List.getElem?_eq_getElem (by omega)]
  rfl
theorem met_next {B g : Nat} {p : List Int} {k : Nat} {w wr : World} (h : MetAt B g p.length p k w wr) (hk : k < p.length) (v : Nat) (hv : v < p.length) (ht : nth p k = (v : Int)) (hn : ¬ ∃ j, j < k ∧ nth p j = (v : Int)) :
    MetAt B g p.length p (k + 1) w (wr.setCell ⟨g, v, none⟩ (.bool true)) := by
  obtain ⟨mt, h1, h2, h3, h4, h5, h6⟩ := h
  refine ⟨mt.set v true, by simpa using h1, h2, ?_, fun u hu => ?_, ⟨fun j hj => ?_, fun i j hij hj => ?_⟩, h6.setCell (p := ⟨g, v, none⟩) h2 _⟩
  · rw [List.map_set]; exact (h3.stored v _).1
  · rw [List.getElem?_set]
    by_cases huv : v = u
    · subst huv
      rw [if_pos rfl, if_pos (by omega)]
      simp only [Option.getD_some, true_iff]
      exact ⟨k, by omega, ht⟩
    · rw [if_neg huv, h4 u hu]
      constructor
      · rintro ⟨j, hj, e⟩; exact ⟨j, by omega, e⟩
      · rintro ⟨j, hj, e⟩
        refine ⟨j, ?_, e⟩
        rcases Nat.lt_or_ge j k with q | q
        · exact q
        · obtain rfl : j = k := by omega
          omega
  · rcases Nat.lt_or_ge j k with q | q
    · exact h5.1 j q
    · obtain rfl : j = k := by omega
      omega
  · rcases Nat.lt_or_ge j k with q | q
    · exact h5.2 i j hij q
    · obtain rfl : j = k := by omega
      intro e
      exact hn ⟨i, hij, by omega⟩
theorem ok_mono {p : List Int} {k m : Nat} (h : okTo p m) (hk : k ≤ m) : okTo p k := ⟨fun j hj => h.1 j (by omega), fun i j hij hj => h.2 i j hij (by omega)⟩
attribute [local irreducible] okTo
set_option maxRecDepth 100000 in
set_option maxHeartbeats 2000000 in
theorem is_core (p : List Int) (b : Bool) (hb : b = true ↔ okTo p p.length) (hn : p.length ≤ 1000) (a : Option Addr) (c : Nat) (w : World) (hI : Ints w a p) :
    Calls Try.prog 54 #[.slice a p.length c] w fun e w' => e = .returned (.bool b) ∧ Below w.heap.size w w' := by
  obtain ⟨i0, hi, hz0, hz1, hz2⟩ := info_parts info4
  have HB := Lib.hid hb
  have HI := Lib.hid (fun (W : World) (h : Below w.heap.size w W) j (hj : j < p.length) => hI.keep h j hj)
  have HM := Lib.hid (fun (B g k : Nat) (wr : World) (h : MetAt B g p.length p k w wr) (hk : k < p.length) v hv ht hh => met_next h hk v hv ht hh)
  have HO := Lib.hid (fun (k : Nat) (hk : k < p.length) (h : okTo p p.length) => (show (0 ≤ nth p k ∧ nth p k < p.length) ∧ ∀ j, j < k → nth p j ≠ nth p k from by unfold okTo at h; exact ⟨h.1 k hk, fun j hj => h.2 j k hj hk⟩))
  have HZ := Lib.hid (show okTo p 0 from by unfold okTo; exact ⟨fun j hj => absurd hj (by omega), fun i j hij hj => absurd hj (by omega)⟩)
  clear hb hI
  generalize hpn : p.length = n at *
  clear hpn
  go_enter Try.func54, Try.ntmps54
  go_wp2_with (at_make; refine wpList_make_full _ rfl _ _ 61 rfl w.heap.size 4 i0 (.bool false) 1 Try.underlying61 hi hz0 hz1 .i64 .i64 _ _ n rfl rfl rfl rfl (by rw [hz2]; omega) (by unfold maxLen; omega) (Nat.le_refl _) ?_)
  intro w2 hown hgrow
  have A0 : Hid (MetAt w.heap.size w.heap.size n p 0 w w2) := ⟨List.replicate n false, by simp, Nat.le_refl _, by rw [List.map_replicate, ← toList_madeCells_one]; exact hown, fun v hv => by
    constructor
    · intro h; simp [hv] at h
    · rintro ⟨j, hj, _⟩; omega, HZ.out, (Below.refl _ _).grown hgrow (Nat.le_refl _) (fun j hj => by cases hj)⟩
  clear hown hgrow
  obtain ⟨g, hg⟩ : ∃ g, g = w.heap.size := ⟨_, rfl⟩
  rw [← hg] at A0
  go_wp2
  rw [← hg]
  have HG := Lib.hid hg
  clear hg
  go_loopw [11] (fun i wr => ∃ k : Nat, k ≤ n ∧ i = .int .i64 k ∧ Hid (MetAt g g n p k w wr)) (fun i _ => n - (intOf i).toNat)
  case atStart => exact ⟨0, by omega, rfl, A0⟩
  case round =>
    clear A0
    obtain ⟨k, hk, rfl, HP⟩ := hrel
    have hbel : Below w.heap.size w wr := by obtain ⟨mt, h1, h2, h3, h4, h5, h6⟩ := HP.out; rw [← HG.out]; exact h6
    have HBel := Lib.hid hbel
    clear hbel
    by_cases hlt : k < n
    · obtain ⟨b1, o1, rfl, l1, c1⟩ := HI.out wr HBel.out k hlt
      by_cases h0 : nth p k < 0
      · have hbf : b = false := by
          cases b
          · rfl
          · have := (HO.out k hlt (HB.out.1 rfl)).1; omega
        subst hbf
        generalize nth p k = t at *
        go_wp2
        go_ret
        exact ⟨rfl, HBel.out⟩
      · by_cases h1 : nth p k < n
        · obtain ⟨v, hv⟩ : ∃ v : Nat, nth p k = v := ⟨(nth p k).toNat, by omega⟩
          have hvn : v < n := by omega
          obtain ⟨bb, e1, e2, e3⟩ := met_cell HP.out v hvn
          rw [hv] at c1
          cases bb
          · have hno : ¬ ∃ j, j < k ∧ nth p j = (v : Int) := fun h => by have := e3.2 h; cases this
            have HN := Lib.hid (HM.out g g k wr HP.out hlt v hvn hv hno)
            clear e3 hno hv h0 h1
            go_wp2
            go_roundw
            case rel => exact ⟨k + 1, by omega, by go_num, HN⟩
            case measure => simp [intOf]; omega
          · have hbf : b = false := by
              cases b
              · rfl
              · obtain ⟨j, hj, he⟩ := e3.1 rfl
                exact absurd (he.trans hv.symm) ((HO.out k hlt (HB.out.1 rfl)).2 j hj)
            subst hbf
            clear e3 hv h0 h1
            go_wp2
            go_ret
            exact ⟨rfl, HBel.out⟩
        · have hbf : b = false := by
            cases b
            · rfl
            · have := (HO.out k hlt (HB.out.1 rfl)).1; omega
          subst hbf
          generalize nth p k = t at *
          have h1' : (n : Int) ≤ t := by omega
          go_wp2
          go_ret
          exact ⟨rfl, HBel.out⟩
    · obtain rfl : n = k := by omega
      have hbt : b = true := HB.out.2 (by obtain ⟨mt, h1, h2, h3, h4, h5, h6⟩ := HP.out; exact h5)
      subst hbt
      go_wp2
      go_ret
      exact ⟨rfl, HBel.out⟩
open Classical in
theorem is_any (p : List Int) (hn : p.length ≤ 1000) (a : Option Addr) (c : Nat) (w : World) (hI : Ints w a p) :
    Calls Try.prog 54 #[.slice a p.length c] w fun e w' => e = .returned (.bool (decide (isP p))) ∧ Below w.heap.size w w' :=
  is_core p _ (by simp only [decide_eq_true_eq]; exact isP_iff p) hn a c w hI
end Go.Proofs.Ytaobaiifbmhegaa.nt
