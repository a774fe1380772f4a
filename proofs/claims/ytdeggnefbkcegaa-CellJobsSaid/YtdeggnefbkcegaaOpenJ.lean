/-
  A list of jobs that came in, opened.
-/
import Derived.Test.YtdeggnefbkcegaaJobsL
import Derived.OpenShut
import Derived.Deep.Slices
import Derived.Deep.Fields
import Derived.ChangeSame
namespace Go.Proofs.Ytdeggnefbkcegaa
open Go.ChangeShapes Go.WideShapes Go.Deep Go.RowKit
set_option linter.unusedVariables false
section
variable {H : Type} {enc : TypeId × Value → H} {P : Program} {w : World} {base : Nat} {spare : Nat → Bool} {held : Bool}
theorem open_slice_fields {t e : TypeId} {fs : Array Field} {fuel : Nat} {cs : List Value} {x : DataW H × List MemPlace} (ht : P.underlying t = some (.slice e)) (he : P.underlying e = some (.struct fs))
    (hone : oneCellFields P fs = true) (hC : P.cellsOf e = fs.size) (h : DataW.trod enc P w base spare held fuel t cs = some x) :
    (cs = [.slice none 0 0] ∧ x = (.nil, [])) ∨
    ∃ (a : Addr) (len cap m : Nat) (D : Nat → DataW H) (Pl : Nat → List MemPlace), cs = [.slice (some a) len cap] ∧ base ≤ a.block ∧ len ≤ cap ∧ cap ≤ maxLen ∧ m = (if spare a.block then cap else len) ∧
      x = (.slice ((List.range len).map D) ((List.range (m - len)).map fun j => D (len + j)), MemPlace.row a (m * fs.size) ++ (List.range m).flatMap Pl) ∧
      ∀ i, i < m → ∃ (ys : List (DataW H × List MemPlace)) (n : Nat), D i = .agg (ys.map (·.1)) ∧ Pl i = ys.flatMap (·.2) ∧ ys.length = fs.size ∧
        ∀ (j : Nat) (f : Field), fs[j]? = some f → ∃ (v : Value) (y : DataW H × List MemPlace), w.cell? (a.add (i * fs.size + j)) = some v ∧ ys[j]? = some y ∧ DataW.trod enc P w base spare held n f.type [v] = some y := by
  rcases open_slice ht h with h0 | ⟨a, len, cap, m, n, D, Pl, hcs, hb, hl, hm, hmm, hx, hi⟩
  · exact .inl h0
  · refine .inr ⟨a, len, cap, m, D, Pl, hcs, hb, hl, hm, hmm, by rw [hC] at hx; exact hx, fun i him => ?_⟩
    obtain ⟨cs', hc, ht'⟩ := hi i him
    rw [hC] at hc
    obtain ⟨ys, n', hn', hy, hlen, hyl, hf⟩ := DataW.trod_struct he ht'
    obtain ⟨_, hcl, hat⟩ := World.cells?_some hc
    simp only [Prod.mk.injEq] at hy
    refine ⟨ys, n', hy.1, hy.2, hyl, fun j f hj => ?_⟩
    obtain ⟨ho, hk⟩ := hone_of hone j f hj
    have hjl : j < fs.size := (Array.getElem?_eq_some_iff.1 hj).1
    have hcell := hat j hjl
    have hv : cs'[j]? = some (cs'[j]'(by omega)) := List.getElem?_eq_getElem (by omega)
    have h1 := hf j f hj
    rw [ho, hk] at h1
    have hone' : (cs'.drop j).take 1 = [cs'[j]'(by omega)] := by
      rw [List.drop_eq_getElem_cons (by omega)]
      rfl
    rw [hone'] at h1
    have hys : ys[j]? = some (ys[j]'(by omega)) := List.getElem?_eq_getElem (by omega)
    refine ⟨_, _, ?_, hys, h1.trans hys⟩
    rw [← Go.Deep.add_add, hcell, hv]
end

theorem ja_nil (W : World) (a : Option Addr) : JA W a 0 (fun _ => 0) (fun _ => 0) (fun _ => 0) (fun _ => 0) :=
  ⟨fun j => by simp [I64], fun j h => absurd h (by omega)⟩
theorem open_jobs {H : Type} {enc : TypeId × Value → H} {W : World} {fuel : Nat} {a : Option Addr} {m c : Nat} {y : DataW H × List MemPlace} (h : DataW.trod enc Try.prog W 0 (fun _ => true) true fuel 22 [.slice a m c] = some y) :
    m ≤ 9223372036854775807 ∧ ∃ jw jc ja jb, JA W a m jw jc ja jb := by
  rcases open_slice_fields Try.underlying22 Try.underlying48 (by kernel_rfl) (by kernel_rfl) h with ⟨hcs, _⟩ | ⟨x, len, cap, q, D, Pl, hcs, _, hl, hm, hq, _, hf⟩
  · have e : Value.slice a m c = .slice none 0 0 := by simpa using hcs
    injection e with e1 e2 e3
    subst e1 e2 e3
    exact ⟨by omega, _, _, _, _, ja_nil W _⟩
  · have e : Value.slice a m c = .slice (some x) len cap := by simpa using hcs
    injection e with e1 e2 e3
    subst e1 e2 e3
    simp only [if_true] at hq
    have hqc : q = c := hq
    clear hq
    refine ⟨by unfold maxLen at hm; omega, ?_⟩
    by_cases h0 : m = 0
    · subst h0; exact ⟨_, _, _, _, ja_nil W _⟩
    have key : ∀ k, ∃ z : Int, k < 4 * c → (W.cell? (x.add k) = some (.int .i64 z) ∧ I64 z) := fun k => by
      by_cases hk : k < 4 * c
      · obtain ⟨ys, n, _, _, hyl, hff⟩ := hf (k / 4) (by omega)
        have hone : ∀ j, j < 4 → ∃ z : Int, W.cell? (x.add (k / 4 * 4 + j)) = some (.int .i64 z) ∧ I64 z := fun j hj => by
          rcases (show j = 0 ∨ j = 1 ∨ j = 2 ∨ j = 3 by omega) with rfl | rfl | rfl | rfl
          · obtain ⟨v, y', hc, _, ht⟩ := hff 0 _ rfl
            obtain ⟨z, hz, _, hw⟩ := DataW.trod_int Try.underlying3 ht
            simp at hz
            subst hz
            exact ⟨z, hc, bounds_i64 hw⟩
          · obtain ⟨v, y', hc, _, ht⟩ := hff 1 _ rfl
            obtain ⟨z, hz, _, hw⟩ := DataW.trod_int Try.underlying3 ht
            simp at hz
            subst hz
            exact ⟨z, hc, bounds_i64 hw⟩
          · obtain ⟨v, y', hc, _, ht⟩ := hff 2 _ rfl
            obtain ⟨z, hz, _, hw⟩ := DataW.trod_int Try.underlying3 ht
            simp at hz
            subst hz
            exact ⟨z, hc, bounds_i64 hw⟩
          · obtain ⟨v, y', hc, _, ht⟩ := hff 3 _ rfl
            obtain ⟨z, hz, _, hw⟩ := DataW.trod_int Try.underlying3 ht
            simp at hz
            subst hz
            exact ⟨z, hc, bounds_i64 hw⟩
        obtain ⟨z, hz, hw⟩ := hone (k % 4) (by omega)
        rw [show k / 4 * 4 + k % 4 = k by omega] at hz
        exact ⟨z, fun _ => ⟨hz, hw⟩⟩
      · exact ⟨0, fun h => absurd h hk⟩
    obtain ⟨f, hF⟩ := Classical.axiomOfChoice key
    obtain ⟨b, off, rfl, hb⟩ := ints_at (zs := (List.range (4 * c)).map f) (w := W) (a := x) (k := .i64) (fun i hi => by
      simp at hi
      have := (hF i hi).1
      simpa [hi] using this) (by simp; omega)
    have hb' : ∀ k, k < 4 * c → W.cell? ⟨b, off + k, none⟩ = some (.int .i64 (f k)) := fun k hk => by
      have := hb k (by simpa using hk)
      simpa [hk] using this
    refine ⟨fun j => if j < c then f (j * 4) else 0, fun j => if j < c then f (j * 4 + 1) else 0, fun j => if j < c then f (j * 4 + 2) else 0, fun j => if j < c then f (j * 4 + 3) else 0, fun j => ?_, fun j h1 h2 => ⟨b, off, rfl, block_lt_of_cell (hb' 0 (by omega)), ?_, ?_, ?_, ?_⟩⟩
    · by_cases hj : j < c
      · simp only [hj, if_true]
        exact ⟨(hF _ (by omega)).2, (hF _ (by omega)).2, (hF _ (by omega)).2, (hF _ (by omega)).2⟩
      · simp [hj, I64]
    · have hj : j < c := by omega
      simp only [hj, if_true]; exact hb' _ (by omega)
    · have hj : j < c := by omega
      simp only [hj, if_true]; exact hb' (j * 4 + 1) (by omega)
    · have hj : j < c := by omega
      simp only [hj, if_true]; exact hb' (j * 4 + 2) (by omega)
    · have hj : j < c := by omega
      simp only [hj, if_true]; exact hb' (j * 4 + 3) (by omega)
theorem cellJobs_walk (n : Int) (ra : Option Addr) (rn rc : Nat) (W : World) (jw jc ja jb : Nat → Int) (hJ : JA W ra rn jw jc ja jb) (hr : rn ≤ 9223372036854775807) :
    Calls Try.prog 3 #[.int .i64 n, .slice ra rn rc] W fun e w' => e = .returned (.bool true) ∧ Below W.heap.size W w' := by
  have h1 := u64_bd n
  exact jobs_core n _ (IntKind.u64.wrap n % 20).toNat rfl h1 (by omega) ra rn rc jw jc ja jb W hJ hr
end Go.Proofs.Ytdeggnefbkcegaa
