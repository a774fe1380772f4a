/-
  cert: the reader goes over what is required.
-/
import Derived.Test.YtjajpmbmkagcaaaDoorCa
namespace Go.Proofs.YtjajpmbmkagcaaaDoor
open Go.RowKit
set_option linter.unusedVariables false
/-- how many bytes of q stand at a place -/
def pff (s q : ByteArray) (a : Nat) : Nat → Nat → Nat
  | 0, k => k
  | b + 1, k => if k < q.size ∧ a + k < s.size ∧ s.get! (a + k) = q.get! k then pff s q a b (k + 1) else k
def pf (s q : ByteArray) (a : Nat) : Nat := pff s q a q.size 0
theorem pff_stop (s q : ByteArray) (a b k : Nat) (h : ¬ (k < q.size ∧ a + k < s.size ∧ s.get! (a + k) = q.get! k)) : pff s q a b k = k := by
  cases b with
  | zero => rfl
  | succ b => simp only [pff]; rw [if_neg h]
theorem pff_step (s q : ByteArray) (a b k : Nat) (h : k < q.size ∧ a + k < s.size ∧ s.get! (a + k) = q.get! k) : pff s q a (b + 1) k = pff s q a b (k + 1) := by simp only [pff]; rw [if_pos h]
attribute [irreducible] pff
/-- the error -/
def pfe (s q : ByteArray) (a : Nat) : Int := if pf s q a = q.size then 0 else if a + pf s q a < s.size then 2 else 6
theorem pass_err {p : Nat} {s : ByteArray} {a : Nat} {e : Int} {w : World} (q : ByteArray) (h : RB p s a e w) (he : e ≠ 0) : Calls Tryd.prog 29 #[.pointer (some ⟨p, 0, none⟩), .string q] w fun x w' => x = .returned (.tuple #[]) ∧ w = w' := by
  obtain ⟨c0, c1, c2, cf⟩ := h.cells
  have b1 : (e != 0) = true := by simpa using he
  clear h he cf
  go_enter Tryd.func29, Tryd.ntmps29
  go_wp2
  refine bodyPost_ret (results_none rfl _ _ _) rfl ?_
  exact ⟨rfl, rfl⟩
theorem blk_oth2 {w : World} {g q : Nat} {o : Obj} (h : w.heap[g]? = some o) (hne : g ≠ q) (j : Nat) (v : Value) : (w.setCell ⟨q, j, none⟩ v).heap[g]? = some o := (Below.heap_setCell w ⟨q, j, none⟩ v g hne).trans h
theorem iterPos_of {w : World} {k pos : Nat} {s : ByteArray} (h : w.heap[k]? = some (.stringIter s pos)) : w.iterPos k = pos := by simp [World.iterPos, h]
theorem tw_iterAt {S : List Nat} {w wr : World} {k : Nat} (h : Tw S w wr) (hk : w.heap.size ≤ k) (s : ByteArray) (pos : Nat) : Tw S w (wr.iterAt k s pos) :=
  ⟨h.os, h.tape, h.output, by rw [Lib.iterAt_size]; exact h.size, fun i hi hn => (Lib.iterAt_other wr k i s pos (by omega)).trans (h.block i hi hn)⟩
set_option maxRecDepth 100000 in
set_option maxHeartbeats 4000000 in
theorem pass_any {p : Nat} {s t : ByteArray} {a : Nat} {w : World} (q : ByteArray) (hq : q.size ≤ 8) (hq2 : ∀ j, j < q.size → (q.get! j).toNat < 128) (h : RB p s a 0 w) (ha : a ≤ s.size) (ht : s.extract a s.size = t) (hs : s.size ≤ 2000000) :
    Calls Tryd.prog 29 #[.pointer (some ⟨p, 0, none⟩), .string q] w fun x w' => x = .returned (.tuple #[]) ∧ RB p s (a + pf s q a) (pfe s q a) w' ∧ Tw [p] w w' := by
  obtain ⟨c0, c1, c2, cf⟩ := h.cells
  have B0 := Lib.hid (h.up (bl_it w t 0))
  have T0 := Lib.hid (tw_it [p] w t 0)
  have I0 := Lib.hid (show (w.iter t 0).heap[w.heap.size]? = some (.stringIter t 0) from by unfold World.iter; exact heap_alloc_new _ _)
  have PL := Lib.hid (lt_hp h)
  have TS := Lib.hid (show t.size = s.size - a by rw [← ht]; exact size_sub s a ha)
  have TG := Lib.hid (fun k (hk : a + k < s.size) => show t.get! k = s.get! (a + k) from by rw [← ht]; exact get_subk s a k hk)
  have HT := Lib.hid ht
  have Q2 := Lib.hid hq2
  have i1 : (a : Int) ≤ (s.size : Int) := by omega
  clear h ht cf hq2
  go_enter Tryd.func29, Tryd.ntmps29
  go_wp2_with fail
  rw [HT.out]
  go_loopw [5] (fun _ wr => ∃ k b : Nat, Hid (wr.heap[w.heap.size]? = some (.stringIter t k)) ∧ Hid (RB p s (a + k) 0 wr) ∧ Hid (Tw [p] w wr) ∧ Hid (pff s q a b k = pf s q a) ∧ q.size ≤ k + b ∧ k ≤ q.size ∧ k ≤ t.size) (fun _ wr => t.size - wr.iterPos w.heap.size)
  case atStart => exact ⟨0, q.size, I0, B0, T0, Lib.hid rfl, by omega, by omega, by omega⟩
  case round =>
    clear I0 B0 T0 c0 c1 c2
    obtain ⟨k, b, HI, HB, HW, HP, hb, hkq, hkt⟩ := hrel
    have ts := TS.out
    by_cases hlt : k < t.size
    · have has : a + k < s.size := by omega
      have hnx : ∀ ty, (Instr.next (.pointer (some ⟨w.heap.size, 0, none⟩)) true ty).run Tryd.prog wr = _ := fun ty => Lib.run_next_any_at wr w.heap.size t k ty HI.out hlt
      by_cases hq3 : k = q.size
      · have E := Lib.hid (show pf s q a = k from by rw [← HP.out]; exact pff_stop s q a b k (by omega))
        have b1 : ((k : Int) == (q.size : Int)) = true := by simp [hq3]
        have FB := Lib.hid (show RB p s (a + pf s q a) (pfe s q a) (wr.iterAt w.heap.size t (k + (Utf8.decode t k).2)) from by
          have e0 : pfe s q a = 0 := by unfold pfe; rw [if_pos (by rw [E.out]; exact hq3)]
          rw [e0, E.out]
          exact (Lib.iterAt_other wr w.heap.size p t _ (by have := PL.out; omega)).trans HB.out)
        have FT := Lib.hid (tw_iterAt HW.out (Nat.le_refl _) t (k + (Utf8.decode t k).2))
        clear HB HW HP TG Q2 HI E
        generalize wr.iterAt w.heap.size t (k + (Utf8.decode t k).2) = X at *
        generalize (Utf8.decode t k).1 = rn at *
        go_wp2
        refine bodyPost_ret (results_none rfl _ _ _) rfl ?_
        exact ⟨rfl, FB.out, FT.out⟩
      · have hkq2 : k < q.size := by omega
        have g1 := TG.out k has
        have gq := Q2.out k hkq2
        have gq2 := get_of q k hkq2
        have gt2 := get_of t k hlt
        have i2 : (k : Int) < (q.size : Int) := by omega
        have b1 : ((k : Int) == (q.size : Int)) = false := beq_eq_false_iff_ne.mpr (by omega)
        have w1 : IntKind.i32.wrap ((q[k]'hkq2).toNat : Int) = ((q[k]'hkq2).toNat : Int) := by rw [IntKind.wrap_i32]; rw [gq2] at gq; omega
        by_cases he : s.get! (a + k) = q.get! k
        · have dec : Utf8.decode t k = ((q[k]'hkq2).toNat, 1) := by
            rw [decode_ascii t k hlt (by rw [← gt2, g1, he]; exact gq), ← gt2, g1, he, gq2]
          have hnx2 : ∀ ty, (Instr.next (.pointer (some ⟨w.heap.size, 0, none⟩)) true ty).run Tryd.prog wr = .ok (.tuple #[.bool true, .int .i64 k, .int .i32 ((q[k]'hkq2).toNat : Int)]) (wr.iterAt w.heap.size t (k + 1)) := fun ty => by rw [hnx ty, dec]
          obtain ⟨b, rfl⟩ : ∃ b', b = b' + 1 := ⟨b - 1, by omega⟩
          have HP2 := Lib.hid ((pff_step s q a b k ⟨hkq2, has, he⟩).symm.trans HP.out)
          have XB := Lib.hid (show RB p s (a + k) 0 (wr.iterAt w.heap.size t (k + 1)) from (Lib.iterAt_other wr w.heap.size p t _ (by have := PL.out; omega)).trans HB.out)
          have XT := Lib.hid (tw_iterAt HW.out (Nat.le_refl _) t (k + 1))
          have XI := Lib.hid (Lib.iterAt_heap wr w.heap.size t k (k + 1) HI.out)
          have IP := Lib.hid (iterPos_of HI.out)
          have gq5 : (q[k]'hkq2).toNat < 128 := by rw [gq2] at gq; exact gq
          clear hnx HB HW HP TG Q2 HI dec g1 gq gt2 gq2 he
          generalize wr.iterAt w.heap.size t (k + 1) = X at *
          have b2 : (((q[k]'hkq2).toNat : Int) != ((q[k]'hkq2).toNat : Int)) = false := by simp
          have w2 : wrap32 ((q[k]'hkq2).toNat : Int) = ((q[k]'hkq2).toNat : Int) := by unfold wrap32; omega
          obtain ⟨c0, c1, c2, cf⟩ := XB.out.cells
          have cf1 := cf 1
          have hw : IntKind.i64.wrap ((a : Int) + (k : Int) + 1) = (a : Int) + (k : Int) + 1 := IntWalk.i64_in _ (by omega)
          have YB := Lib.hid (XB.out.at_ (a + (k + 1)))
          have YT := Lib.hid (XT.out.st p (.inl (by simp)) 1 (.int .i64 ((a + (k + 1) : Nat) : Int)))
          have YI := Lib.hid (blk_oth2 XI.out (show w.heap.size ≠ p by have := PL.out; omega) 1 (.int .i64 ((a + (k + 1) : Nat) : Int)))
          rw [show ((a + (k + 1) : Nat) : Int) = (a : Int) + (k : Int) + 1 by omega] at YB YT YI
          clear XB XT XI cf
          go_wp2
          go_roundw
          case rel => exact ⟨k + 1, b, YI, YB, YT, HP2, by omega, by omega, by omega⟩
          case measure => rw [iterPos_of YI.out, IP.out]; omega
        · have E := Lib.hid (show pf s q a = k from by rw [← HP.out]; exact pff_stop s q a b k (fun h => he h.2.2))
          have E2 := Lib.hid (show pfe s q a = 2 from by unfold pfe; rw [E.out, if_neg hq3, if_pos has])
          have b2 : (((Utf8.decode t k).1 : Int) != ((q[k]'hkq2).toNat : Int)) = true := by
            have hne : (Utf8.decode t k).1 ≠ (q[k]'hkq2).toNat := by
              by_cases h8 : (t[k]'hlt).toNat < 128
              · rw [decode_ascii t k hlt h8]
                intro h9
                apply he
                rw [← g1, gt2, gq2]
                exact UInt8.toNat_inj.mp h9
              · have := (decode_high t k hlt (by omega)).1
                rw [gq2] at gq
                omega
            simp
            omega
          have w2 : wrap32 ((q[k]'hkq2).toNat : Int) = ((q[k]'hkq2).toNat : Int) := by
            rw [gq2] at gq
            unfold wrap32; omega
          have XB := Lib.hid (show RB p s (a + k) 0 (wr.iterAt w.heap.size t (k + (Utf8.decode t k).2)) from (Lib.iterAt_other wr w.heap.size p t _ (by have := PL.out; omega)).trans HB.out)
          have XT := Lib.hid (tw_iterAt HW.out (Nat.le_refl _) t (k + (Utf8.decode t k).2))
          clear HB HW HP TG Q2 HI g1 gq gt2 gq2 he
          generalize wr.iterAt w.heap.size t (k + (Utf8.decode t k).2) = X at *
          generalize (Utf8.decode t k).1 = rn at *
          obtain ⟨c0, c1, c2, cf⟩ := XB.out.cells
          have cf1 := cf 2
          have YB := Lib.hid (XB.out.er 2)
          have YT := Lib.hid (XT.out.st p (.inl (by simp)) 2 (.int .i64 2))
          clear XB XT cf
          go_wp2
          refine bodyPost_ret (results_none rfl _ _ _) rfl ?_
          exact ⟨rfl, by rw [E.out, E2.out]; exact YB.out, YT.out⟩
    · have hk : k = t.size := by omega
      have E := Lib.hid (show pf s q a = k from by rw [← HP.out]; exact pff_stop s q a b k (fun h => by omega))
      have hnx : ∀ ty, (Instr.next (.pointer (some ⟨w.heap.size, 0, none⟩)) true ty).run Tryd.prog wr = _ := fun ty => Lib.run_next_end_at wr w.heap.size t k ty HI.out hlt
      obtain ⟨c0, c1, c2, cf⟩ := HB.out.cells
      have cf1 := cf 2
      have hw : IntKind.i64.wrap ((a : Int) + (q.size : Int)) = (a : Int) + (q.size : Int) := IntWalk.i64_in _ (by omega)
      have YB := Lib.hid (HB.out.er 6)
      have YT := Lib.hid (HW.out.st p (.inl (by simp)) 2 (.int .i64 6))
      by_cases hq3 : k = q.size
      · have E2 := Lib.hid (show pfe s q a = 0 from by unfold pfe; rw [E.out, if_pos hq3])
        have d1 : decide ((a : Int) + (k : Int) < (a : Int) + (q.size : Int)) = false := decide_eq_false (by omega)
        have d2 : decide (a + k < a + q.size) = false := decide_eq_false (by omega)
        have d3 : ¬ (a : Int) + (k : Int) < (a : Int) + (q.size : Int) := by omega
        clear cf TG Q2 HP
        go_wp2
        refine bodyPost_end (results_none rfl _ _ _) rfl ?_
        exact ⟨rfl, by rw [E.out, E2.out]; exact HB.out, HW.out⟩
      · have E2 := Lib.hid (show pfe s q a = 6 from by unfold pfe; rw [E.out, if_neg hq3, if_neg (by omega)])
        have d3 : (a : Int) + (k : Int) < (a : Int) + (q.size : Int) := by omega
        clear cf TG Q2 HP
        go_wp2
        refine bodyPost_end (results_none rfl _ _ _) rfl ?_
        exact ⟨rfl, by rw [E.out, E2.out]; exact YB.out, YT.out⟩
end Go.Proofs.YtjajpmbmkagcaaaDoor
