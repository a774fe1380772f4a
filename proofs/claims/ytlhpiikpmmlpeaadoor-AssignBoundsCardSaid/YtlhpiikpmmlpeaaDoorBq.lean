/-
  assign: the reference's Bound (under way: the sum of the beginning is walked; the matrix is left).
-/
import Derived.Test.YtlhpiikpmmlpeaaDoorBx
import Derived.Test.YtlhpiikpmmlpeaaDoorBk
namespace Go.Proofs.YtlhpiikpmmlpeaaDoor.kn
open Go.RowKit
set_option linter.unusedVariables false
set_option linter.unusedSimpArgs false
theorem MX.rws {B : Nat} {a : Option Addr} {c : Nat} {M : List (List Int)} {W : World} (h : MX B (.slice a M.length c) M W) (hl : ∀ j, j < M.length → (M[j]?.getD []).length ≤ 1000) : Rws W a M := fun j hj => by
  obtain ⟨ws, ⟨a1, a2⟩, h2, h3⟩ := h
  obtain ⟨r, e1, e2⟩ := h3 j hj
  rcases a2 with ⟨hn, hw⟩ | ⟨g', cap', cur', hv, hg', hh, r1, r2, r3, r4⟩
  · injection hn with _ h0 _
    omega
  · injection hv with hv _ _
    subst hv
    obtain ⟨ra, rc, rfl⟩ := e2.form
    refine ⟨g', 0, ra, rc, rfl, lt_hp hh, ?_, fun i hi => ?_, hl j hj⟩
    · rw [Nat.zero_add]
      exact cell_take hh r4 e1
    · obtain ⟨b, o, e, l1, m1⟩ := ol_od e2 i hi
      exact ⟨b, o, e, l1, by rw [m1]; unfold od.nth; rfl⟩
/-- what is built of the matrix -/
def matk (cl : List (List Int)) (F : List Int) (fr t : Nat) : List (List Int) := (List.range t).map (fun j => rowF cl F (fr + j))
theorem matk_len (cl : List (List Int)) (F : List Int) (fr t : Nat) : (matk cl F fr t).length = t := by unfold matk; simp
theorem matk_next (cl : List (List Int)) (F : List Int) (fr t : Nat) : matk cl F fr (t + 1) = matk cl F fr t ++ [rowF cl F (fr + t)] := by unfold matk; rw [List.range_succ, List.map_append]; rfl
theorem matk_mat (n : Nat) (cl : List (List Int)) (F : List Int) (fr : Nat) : matk cl F fr (n - fr) = mat n cl F fr := rfl
theorem row_take (cl : List (List Int)) (F : List Int) (r k : Nat) (hk : k < F.length) : (rowF cl F r).take (k + 1) = (rowF cl F r).take k ++ [od.nth (cl[r]?.getD []) (od.nth F k).toNat] := by
  have hl : (rowF cl F r).length = F.length := by unfold rowF; simp
  rw [List.take_succ_eq_append_getElem (by rw [hl]; exact hk), ← od.nth_at _ k (by rw [hl]; exact hk), rowF_nth cl F r k hk]
theorem mat_ent {n fr : Nat} {cl : List (List Int)} {F : List Int} (hF : ∀ v ∈ F, 0 ≤ v ∧ v < n) (hE : EntB n cl) : EntM (mat n cl F fr) F.length := fun r c hr hc => by
  rw [mat_len] at hr
  rw [mat_at n cl F fr r hr, rowF_nth cl F _ c hc]
  have hin : od.nth F c ∈ F := by rw [od.nth_at F c hc]; exact List.getElem_mem _
  have := hF _ hin
  exact hE _ _ (by omega) (by omega)
theorem mat_wid (n : Nat) (cl : List (List Int)) (F : List Int) (fr r : Nat) (hr : r < (mat n cl F fr).length) : ((mat n cl F fr)[r]?.getD []).length = F.length := by
  rw [mat_len] at hr
  rw [mat_at n cl F fr r hr]
  unfold rowF
  simp
/-- Reduce of the matrix of what is left tells what rest tells -/
theorem reduce_rest {n fr : Nat} {cl : List (List Int)} {F : List Int} (hn : n ≤ 24) (hfr : fr ≤ n) (hFl : F.length = n - fr) (hF : ∀ v ∈ F, 0 ≤ v ∧ v < n) (hnd : F.Nodup) (hE : EntB n cl) {B : Nat} {a : Option Addr} {c : Nat} {w : World} (h : MX B (.slice a (n - fr) c) (mat n cl F fr) w) :
    Calls Tryd.prog 58 #[.slice a (n - fr) c] w fun e w' => e = .returned (.int .i64 (restR n cl F fr)) ∧ Below w.heap.size w w' := by
  have h2 := h
  rw [show n - fr = (mat n cl F fr).length from (mat_len n cl F fr).symm] at h2 ⊢
  refine (reduce_any (mat n cl F fr) F.length (by rw [mat_len]; omega) (by omega) (mat_wid n cl F fr) (mat_ent hF hE) a c w (h2.rws (fun j hj => by rw [mat_wid n cl F fr j hj]; omega))).mono fun e w' q => ⟨?_, q.2⟩
  rw [q.1, redR_rest hfr hFl hF hnd hE]
end Go.Proofs.YtlhpiikpmmlpeaaDoor.kn
