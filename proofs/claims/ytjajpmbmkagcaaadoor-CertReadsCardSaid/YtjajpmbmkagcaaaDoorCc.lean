/-
  cert: the reader reads a number.
-/
import Derived.Test.YtjajpmbmkagcaaaDoorCb
namespace Go.Proofs.YtjajpmbmkagcaaaDoor
open Go.RowKit
set_option linter.unusedVariables false
/-- what is left of a text -/
def rest (s : ByteArray) (a : Nat) : ByteArray := s.extract a s.size
/-- a number at a place: its value, where it ends, the error -/
def nmv (s : ByteArray) (a : Nat) : Int := (rdv (rest s a) a).1
def nmn (s : ByteArray) (a : Nat) : Nat := a + nd (rest s a)
def nme (s : ByteArray) (a : Nat) (most : Int) : Int := if s.size ≤ a then 6 else if (rdv (rest s a) a).2.2 ≠ 0 then (rdv (rest s a) a).2.2 else if most < (rdv (rest s a) a).1 then 5 else 0
theorem rdv_err (t : ByteArray) (a : Int) (h : (rdv t a).2.2 ≠ 0) : (rdv t a).1 = 0 := by
  unfold rdv at *
  split
  · rfl
  · split
    · rfl
    · rename_i h1 h2
      rw [if_neg h1, if_neg h2] at h
      exact absurd rfl h
theorem rdv_next (t : ByteArray) (a : Int) (h : (rdv t a).2.2 = 0) : (rdv t a).2.1 = a + nd t := by
  unfold rdv at *
  split
  · rename_i h1
    rw [if_pos h1] at h
    exact absurd h (by decide)
  · split
    · rename_i h1 h2
      rw [if_neg h1, if_pos h2] at h
      exact absurd h (by decide)
    · rfl
theorem rdv_lo (t : ByteArray) (a : Int) (h : (rdv t a).2.2 = 0) : 0 < nd t ∧ nd t ≤ 18 := by
  unfold rdv at h
  split at h
  · exact absurd h (by decide)
  · split at h
    · exact absurd h (by decide)
    · omega
theorem number_err {p : Nat} {s : ByteArray} {a : Nat} {e most : Int} {w : World} (h : RB p s a e w) (he : e ≠ 0) : Calls Tryd.prog 30 #[.pointer (some ⟨p, 0, none⟩), .int .i64 most] w fun x w' => x = .returned (.int .i64 0) ∧ w = w' := by
  obtain ⟨c0, c1, c2, cf⟩ := h.cells
  have b1 : (e != 0) = true := by simpa using he
  clear h he cf
  go_enter Tryd.func30, Tryd.ntmps30
  go_wp2
  go_ret
  exact ⟨rfl, rfl⟩
/-- behind a number -/
def NmP (p : Nat) (s : ByteArray) (a : Nat) (most : Int) (w : World) (x : Ending) (w' : World) : Prop := ∃ v : Int, x = .returned (.int .i64 v) ∧ (nme s a most = 0 → v = nmv s a) ∧ RB p s (if nme s a most = 0 then nmn s a else a) (nme s a most) w' ∧ Tw [p] w w'
set_option maxHeartbeats 4000000 in
theorem number_any {p : Nat} {s : ByteArray} {a : Nat} {most : Int} {w : World} (h : RB p s a 0 w) (ha : a ≤ s.size) (hs : s.size ≤ 2000000) : Calls Tryd.prog 30 #[.pointer (some ⟨p, 0, none⟩), .int .i64 most] w (NmP p s a most w) := by
  have BX := Lib.hid h
  have RD := Lib.hid (fun W => read_in s (rest s a) a ha rfl hs W)
  obtain ⟨c0, c1, c2, cf⟩ := h.cells
  clear h
  by_cases hl : a = s.size
  · have E := Lib.hid (show nme s a most = 6 from by unfold nme; rw [if_pos (by omega)])
    have b1 : ((a : Int) == (s.size : Int)) = true := by simp [hl]
    clear RD cf
    go_enter Tryd.func30, Tryd.ntmps30
    go_upto_region 3 with fail
    go_quiet (fail)
    have BY := BX.out.up (bl_dn (Below.refl _ w) nq)
    have YT := Lib.hid (((Tw.refl [p] w).dn nq).st p (.inl (by simp)) 2 (.int .i64 6))
    obtain ⟨k0, k1, k2, kf⟩ := BY.cells
    have k3 := kf 2
    have YB := Lib.hid (BY.er 6)
    clear BY kf BX
    generalize w.drewN nq = X at *
    go_wp2
    go_ret
    exact ⟨0, rfl, fun h => absurd (E.out.symm.trans h) (by decide), by rw [E.out, if_neg (by decide)]; exact YB.out, YT.out⟩
  · have hl2 : a < s.size := by omega
    have b1 : ((a : Int) == (s.size : Int)) = false := beq_eq_false_iff_ne.mpr (by omega)
    have AL := Lib.hid (fun X (hX : Below w.heap.size w X) => show RB p s a 0 X from BX.out.up hX)
    clear cf c0 c1 c2
    have UN := Lib.hid (show nme s a most = (if (rdv (rest s a) a).2.2 ≠ 0 then (rdv (rest s a) a).2.2 else if most < (rdv (rest s a) a).1 then 5 else 0) from by unfold nme; rw [if_neg (by omega)])
    have V0 := Lib.hid (rdv_err (rest s a) a)
    have N0 := Lib.hid (rdv_next (rest s a) a)
    have VM := Lib.hid (show nmv s a = (rdv (rest s a) a).1 from rfl)
    have NM := Lib.hid (show nmn s a = a + nd (rest s a) from rfl)
    generalize (rdv (rest s a) a).2.2 = er at *
    generalize (rdv (rest s a) a).2.1 = nx at *
    generalize (rdv (rest s a) a).1 = vl at *
    obtain ⟨c0, c1, c2, cf⟩ := BX.out.cells
    clear cf
    go_enter Tryd.func30, Tryd.ntmps30
    go_upto_region 3 with fail
    go_quiet (fail)
    go_upto_region 6 with fail
    have B1 := AL.out _ (bl_dn (Below.refl _ w) nq)
    have W1 := Lib.hid (bl_dn (Below.refl w.heap.size w) nq)
    clear c0 c1 c2
    generalize w.drewN nq = X at *
    obtain ⟨c0, c1, c2, _⟩ := B1.cells
    go_region_held3 (fun wz => wz.cell? ⟨p, 0, none⟩ = some (.string s) ∧ wz.cell? ⟨p, 1, none⟩ = some (.int .i64 (a : Int))) (first | exact ⟨c0, c1⟩ | exact ⟨d0, d1⟩) (first | (go_at_call 37; refine (RD.out _).mono ?_; rintro e w3 ⟨rfl, hb3⟩; have B3 := (B1.up (bl_drew X)).up hb3; obtain ⟨d0, d1, d2, df⟩ := B3.cells))
    have T3 := Lib.hid (show Tw [p] w w3 from Tw.of (W1.out.trans (((bl_drew X).trans hb3).mono W1.out.size)))
    have B3 := Lib.hid B3
    have k1 := df 1
    have k2 := df 2
    clear hb3 c0 c1 c2 AL RD BX df
    by_cases he : er = 0
    · have b2 : (er != 0) = false := by simp [he]
      have hn := N0.out he
      by_cases hm : most < vl
      · have E := Lib.hid (show nme s a most = 5 from by rw [UN.out, if_neg (by omega), if_pos hm])
        have YB := Lib.hid (B3.out.er 5)
        have YT := Lib.hid (T3.out.st p (.inl (by simp)) 2 (.int .i64 5))
        clear B3 T3 UN V0 N0
        go_wp2
        go_ret
        exact ⟨vl, rfl, fun h => absurd (E.out.symm.trans h) (by decide), by rw [E.out, if_neg (by decide)]; exact YB.out, YT.out⟩
      · have E := Lib.hid (show nme s a most = 0 from by rw [UN.out, if_neg (by omega), if_neg hm])
        have YB := Lib.hid (B3.out.at_ (nmn s a))
        have YT := Lib.hid (T3.out.st p (.inl (by simp)) 1 (.int .i64 (nmn s a : Int)))
        have e2 : ((nmn s a : Nat) : Int) = nx := by rw [NM.out, hn]; omega
        rw [e2] at YB YT
        have d3 : decide (most < vl) = false := decide_eq_false hm
        clear B3 T3 UN V0 N0 e2 hn
        go_wp2
        go_ret
        exact ⟨vl, rfl, fun _ => VM.out.symm, by rw [E.out, if_pos rfl]; exact YB.out, YT.out⟩
    · have b2 : (er != 0) = true := by simpa using he
      have E := Lib.hid (show nme s a most = er from by rw [UN.out, if_pos he])
      have YB := Lib.hid (B3.out.er er)
      have YT := Lib.hid (T3.out.st p (.inl (by simp)) 2 (.int .i64 er))
      have HE := Lib.hid he
      clear B3 T3 UN N0 he
      go_wp2
      go_ret
      exact ⟨vl, rfl, fun h => absurd (E.out.symm.trans h) HE.out, by rw [E.out, if_neg HE.out]; exact YB.out, YT.out⟩
end Go.Proofs.YtjajpmbmkagcaaaDoor
