/-
  cert: the reference's number; the reader's count of elements.
-/
import Derived.Test.YtjajpmbmkagcaaaDoorCc
namespace Go.Proofs.YtjajpmbmkagcaaaDoor
open Go.RowKit
set_option linter.unusedVariables false
theorem ret3i {a b c x y z : Int} (h : a = x) (g : b = y) (f : c = z) : Ending.returned (.tuple #[.int .i64 a, .int .i64 b, .int .i64 c]) = .returned (.tuple #[.int .i64 x, .int .i64 y, .int .i64 z]) := by rw [h, g, f]
/-- what the reference's number answers -/
def NrP (s : ByteArray) (a : Nat) (most : Int) (e : Ending) : Prop := e = .returned (.tuple #[.int .i64 (if nme s a most = 0 then nmv s a else 0), .int .i64 ((if nme s a most = 0 then nmn s a else a : Nat) : Int), .int .i64 (nme s a most)])
set_option maxHeartbeats 4000000 in
theorem refnumber_any (s : ByteArray) (a : Nat) (most : Int) (ha : a ≤ s.size) (hs : s.size ≤ 2000000) (w : World) : Calls Tryd.prog 23 #[.string s, .int .i64 (a : Int), .int .i64 most] w fun e w' => NrP s a most e ∧ Below w.heap.size w w' := by
  have RD := Lib.hid (fun W => refread_in s (rest s a) a ha rfl hs W)
  by_cases hl : a = s.size
  · have E := Lib.hid (show nme s a most = 6 from by unfold nme; rw [if_pos (by omega)])
    have d1 : decide ((s.size : Int) ≤ (a : Int)) = true := decide_eq_true (by omega)
    have d2 : decide (s.size ≤ a) = true := decide_eq_true (by omega)
    clear RD
    go_enter Tryd.func23, Tryd.ntmps23
    go_wp2
    go_ret3
    exact ⟨ret3i (by rw [E.out, if_neg (by decide)]) (by rw [E.out, if_neg (by decide)]) E.out.symm, Below.refl _ _⟩
  · have d1 : decide ((s.size : Int) ≤ (a : Int)) = false := decide_eq_false (by omega)
    have d2 : decide (s.size ≤ a) = false := decide_eq_false (by omega)
    have UN := Lib.hid (show nme s a most = (if (rdv (rest s a) a).2.2 ≠ 0 then (rdv (rest s a) a).2.2 else if most < (rdv (rest s a) a).1 then 5 else 0) from by unfold nme; rw [if_neg (by omega)])
    have N0 := Lib.hid (rdv_next (rest s a) a)
    have VM := Lib.hid (show nmv s a = (rdv (rest s a) a).1 from rfl)
    have NM := Lib.hid (show nmn s a = a + nd (rest s a) from rfl)
    generalize (rdv (rest s a) a).2.2 = er at *
    generalize (rdv (rest s a) a).2.1 = nx at *
    generalize (rdv (rest s a) a).1 = vl at *
    go_enter Tryd.func23, Tryd.ntmps23
    go_wp2_with fail
    refine (RD.out _).mono ?_; rintro e w3 ⟨rfl, hb3⟩
    have B3 := Lib.hid hb3
    clear hb3 RD d1 d2
    by_cases he : er = 0
    · have b2 : (er != 0) = false := by simp [he]
      have hn := N0.out he
      by_cases hm : most < vl
      · have E := Lib.hid (show nme s a most = 5 from by rw [UN.out, if_neg (by omega), if_pos hm])
        clear UN N0
        go_wp2
        go_ret3
        exact ⟨ret3i (by rw [E.out, if_neg (by decide)]) (by rw [E.out, if_neg (by decide)]) E.out.symm, B3.out⟩
      · have E := Lib.hid (show nme s a most = 0 from by rw [UN.out, if_neg (by omega), if_neg hm])
        have e2 := Lib.hid (show ((nmn s a : Nat) : Int) = nx by rw [NM.out, hn]; omega)
        have d3 : decide (most < vl) = false := decide_eq_false hm
        clear UN N0 hn
        go_wp2
        go_ret3
        exact ⟨ret3i (by rw [E.out, if_pos rfl]; exact VM.out.symm) (by rw [E.out, if_pos rfl]; exact e2.out.symm) E.out.symm, B3.out⟩
    · have b2 : (er != 0) = true := by simpa using he
      have E := Lib.hid (show nme s a most = er from by rw [UN.out, if_pos he])
      have HE := Lib.hid he
      clear UN N0 he
      go_wp2
      go_ret3
      exact ⟨ret3i (by rw [E.out, if_neg HE.out]) (by rw [E.out, if_neg HE.out]) E.out.symm, B3.out⟩
theorem count_err {p : Nat} {s : ByteArray} {a : Nat} {e : Int} {w : World} (h : RB p s a e w) (he : e ≠ 0) : Calls Tryd.prog 31 #[.pointer (some ⟨p, 0, none⟩)] w fun x w' => x = .returned (.int .i64 0) ∧ w = w' := by
  obtain ⟨c0, c1, c2, cf⟩ := h.cells
  have NE := Lib.hid (number_err (most := 64) h he)
  have b1 : (e != 0) = true := by simpa using he
  clear h he cf c0
  go_enter Tryd.func31, Tryd.ntmps31
  go_wp2_with fail
  refine NE.out.mono ?_; rintro x w3 ⟨rfl, rfl⟩
  clear NE
  go_wp2
  go_ret
  exact ⟨rfl, rfl⟩
/-- the number of elements: the error, what it is -/
def cte (s : ByteArray) (a : Nat) : Int := if nme s a 64 ≠ 0 then nme s a 64 else if nmv s a = 0 then 1 else 0
def CtP (p : Nat) (s : ByteArray) (a : Nat) (w : World) (x : Ending) (w' : World) : Prop := x = .returned (.int .i64 (if cte s a = 0 then nmv s a else 0)) ∧ RB p s (if cte s a = 0 then nmn s a else a) (cte s a) w' ∧ Tw [p] w w'
set_option maxHeartbeats 4000000 in
theorem count_any {p : Nat} {s : ByteArray} {a : Nat} {w : World} (h : RB p s a 0 w) (ha : a ≤ s.size) (hs : s.size ≤ 2000000) : Calls Tryd.prog 31 #[.pointer (some ⟨p, 0, none⟩)] w (CtP p s a w) := by
  obtain ⟨c0, c1, c2, cf⟩ := h.cells
  have NA := Lib.hid (number_any (most := 64) h ha hs)
  have UC := Lib.hid (show cte s a = (if nme s a 64 ≠ 0 then nme s a 64 else if nmv s a = 0 then 1 else 0) from rfl)
  clear h cf c0
  go_enter Tryd.func31, Tryd.ntmps31
  go_wp2_with fail
  refine NA.out.mono ?_; rintro x w3 ⟨v, rfl, hv, hb, ht⟩
  clear NA c1 c2
  generalize nme s a 64 = er at *
  have T3 := Lib.hid ht
  clear ht
  by_cases he : er = 0
  · have e1 := hv he
    rw [he, if_pos rfl] at hb
    have b2 : (er != 0) = false := by simp [he]
    obtain ⟨d0, d1, d2, df⟩ := hb.cells
    have B3 := Lib.hid hb
    have k1 := df 1
    have k2 := df 2
    clear hv hb df
    by_cases hz : v = 0
    · have E := Lib.hid (show cte s a = 1 from by rw [UC.out, if_neg (by omega), if_pos (by omega)])
      have b3 : (v == 0) = true := by simp [hz]
      have YB := Lib.hid ((B3.out.at_ a).er 1)
      have YT := Lib.hid ((T3.out.st p (.inl (by simp)) 1 (.int .i64 (a : Int))).st p (.inl (by simp)) 2 (.int .i64 1))
      have B4 := B3.out.at_ a
      obtain ⟨f0, f1, f2, ff⟩ := B4.cells
      have ff2 := ff 2
      clear B3 T3 UC B4 ff
      go_wp2
      go_ret
      exact ⟨congrArg (fun z => Ending.returned (.int .i64 z)) (by rw [E.out, if_neg (by decide)]; omega), by rw [E.out, if_neg (by decide)]; exact YB.out, YT.out⟩
    · have E := Lib.hid (show cte s a = 0 from by rw [UC.out, if_neg (by omega), if_neg (by omega)])
      have b3 : (v == 0) = false := by simpa using hz
      have EV := Lib.hid e1
      clear UC e1 k1 k2
      go_wp2
      go_ret
      exact ⟨congrArg (fun z => Ending.returned (.int .i64 z)) (by rw [E.out, if_pos rfl]; exact EV.out), by rw [E.out, if_pos rfl]; exact B3.out, T3.out⟩
  · have b2 : (er != 0) = true := by simpa using he
    rw [if_neg he] at hb
    have E := Lib.hid (show cte s a = er from by rw [UC.out, if_pos he])
    obtain ⟨d0, d1, d2, df⟩ := hb.cells
    have B3 := Lib.hid hb
    have HE := Lib.hid he
    clear hv hb df UC he
    go_wp2
    go_ret
    exact ⟨congrArg (fun z => Ending.returned (.int .i64 z)) (by rw [E.out, if_neg HE.out]), by rw [E.out, if_neg HE.out]; exact B3.out, T3.out⟩
end Go.Proofs.YtjajpmbmkagcaaaDoor
