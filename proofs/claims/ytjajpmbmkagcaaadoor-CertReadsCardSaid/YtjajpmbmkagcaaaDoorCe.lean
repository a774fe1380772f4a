/-
  cert: the reader reads the letters of a tree.
-/
import Derived.Test.YtjajpmbmkagcaaaDoorCd
namespace Go.Proofs.YtjajpmbmkagcaaaDoor
open Go.RowKit
set_option linter.unusedVariables false
/-- how many letters stand at a place -/
def ltf (s : ByteArray) (a : Nat) : Nat → Nat → Nat
  | 0, k => k
  | b + 1, k => if a + k < s.size ∧ ltr ((s.get! (a + k)).toNat : Int) = true then ltf s a b (k + 1) else k
def lt (s : ByteArray) (a : Nat) : Nat := ltf s a (s.size - a) 0
theorem ltf_stop (s : ByteArray) (a b k : Nat) (h : ¬ (a + k < s.size ∧ ltr ((s.get! (a + k)).toNat : Int) = true)) : ltf s a b k = k := by
  cases b with
  | zero => rfl
  | succ b => simp only [ltf]; rw [if_neg h]
theorem ltf_step (s : ByteArray) (a b k : Nat) (h : a + k < s.size ∧ ltr ((s.get! (a + k)).toNat : Int) = true) : ltf s a (b + 1) k = ltf s a b (k + 1) := by simp only [ltf]; rw [if_pos h]
theorem ltf_ge (s : ByteArray) (a : Nat) : ∀ b k, k ≤ ltf s a b k
  | 0, k => Nat.le_refl _
  | b + 1, k => by
    simp only [ltf]
    split
    · exact Nat.le_trans (Nat.le_succ k) (ltf_ge s a b (k + 1))
    · exact Nat.le_refl _
attribute [irreducible] ltf
/-- its place, its error -/
def trk (s : ByteArray) (a : Nat) : Nat := if 1048576 < lt s a then 1048576 else lt s a
def tre (s : ByteArray) (a : Nat) : Int := if 1048576 < lt s a then 5 else if s.size ≤ a + lt s a then 6 else if lt s a = 0 ∨ (s.get! (a + lt s a)).toNat ≠ 10 then 2 else 0
def TrP (p : Nat) (s : ByteArray) (a : Nat) (w : World) (x : Ending) (w' : World) : Prop := x = .returned (.string (if tre s a = 0 then s.extract a (a + lt s a) else ⟨#[]⟩)) ∧ RB p s (a + trk s a) (tre s a) w' ∧ Tw [p] w w'
theorem ltr_high (c : Int) (h : 128 ≤ c) : ltr c = false := by
  unfold ltr
  rw [show (c == 112) = false from beq_eq_false_iff_ne.mpr (by omega), show (c == 98) = false from beq_eq_false_iff_ne.mpr (by omega), show (c == 108) = false from beq_eq_false_iff_ne.mpr (by omega)]
  rfl
theorem ltr_lo (c : Int) (h : ltr c = true) : 0 ≤ c ∧ c < 128 := by
  unfold ltr at h
  simp at h
  omega
theorem tree_err {p : Nat} {s : ByteArray} {a : Nat} {e : Int} {w : World} (h : RB p s a e w) (he : e ≠ 0) : Calls Tryd.prog 32 #[.pointer (some ⟨p, 0, none⟩)] w fun x w' => x = .returned (.string ⟨#[]⟩) ∧ w = w' := by
  obtain ⟨c0, c1, c2, cf⟩ := h.cells
  have b1 : (e != 0) = true := by simpa using he
  clear h he cf c0
  go_enter Tryd.func32, Tryd.ntmps32
  go_wp2
  go_ret
  exact ⟨rfl, rfl⟩
set_option maxRecDepth 100000 in
set_option maxHeartbeats 8000000 in
theorem tree_any (CL : ∀ (t : ByteArray) (W : World), t.size ≤ 2000000 → Calls Tryd.prog 38 #[.string t] W fun e w' => e = .returned (.string t) ∧ Below W.heap.size W w') {p : Nat} {s t : ByteArray} {a : Nat} {w : World} (h : RB p s a 0 w) (ha : a ≤ s.size) (ht : s.extract a s.size = t) (hs : s.size ≤ 2000000) :
    Calls Tryd.prog 32 #[.pointer (some ⟨p, 0, none⟩)] w (TrP p s a w) := by
  obtain ⟨c0, c1, c2, cf⟩ := h.cells
  have CC := Lib.hid CL
  have B0 := Lib.hid (h.up (bl_it w t 0))
  have T0 := Lib.hid (tw_it [p] w t 0)
  have I0 := Lib.hid (show (w.iter t 0).heap[w.heap.size]? = some (.stringIter t 0) from by unfold World.iter; exact heap_alloc_new _ _)
  have PL := Lib.hid (lt_hp h)
  have TS := Lib.hid (show t.size = s.size - a by rw [← ht]; exact size_sub s a ha)
  have TG := Lib.hid (fun k (hk : a + k < s.size) => show t.get! k = s.get! (a + k) from by rw [← ht]; exact get_subk s a k hk)
  have HT := Lib.hid ht
  have i1 : (a : Int) ≤ (s.size : Int) := by omega
  clear h ht cf CL
  go_enter Tryd.func32, Tryd.ntmps32
  go_wp2_with fail
  rw [HT.out]
  go_loopw [4] (fun _ wr => ∃ k b : Nat, Hid (wr.heap[w.heap.size]? = some (.stringIter t k)) ∧ Hid (RB p s (a + k) 0 wr) ∧ Hid (Tw [p] w wr) ∧ Hid (ltf s a b k = lt s a) ∧ t.size ≤ k + b ∧ k ≤ t.size ∧ k ≤ 1048576) (fun _ wr => t.size - wr.iterPos w.heap.size)
  case atStart => exact ⟨0, s.size - a, I0, B0, T0, Lib.hid rfl, by have := TS.out; omega, by omega, by omega⟩
  case round =>
    clear I0 B0 T0 c0 c1 c2
    obtain ⟨k, b, HI, HB, HW, HP, hb, hkt, hkm⟩ := hrel
    have ts := TS.out
    by_cases hlt : k < t.size
    · have has : a + k < s.size := by omega
      have hnx : ∀ ty, (Instr.next (.pointer (some ⟨w.heap.size, 0, none⟩)) true ty).run Tryd.prog wr = _ := fun ty => Lib.run_next_any_at wr w.heap.size t k ty HI.out hlt
      have g1 := TG.out k has
      have gt2 := get_of t k hlt
      by_cases hl : ltr ((s.get! (a + k)).toNat : Int) = true
      · have h8 := (ltr_lo _ hl).2
        have dec : Utf8.decode t k = ((s.get! (a + k)).toNat, 1) := by
          rw [decode_ascii t k hlt (by rw [← gt2, g1]; omega), ← gt2, g1]
        have hnx2 : ∀ ty, (Instr.next (.pointer (some ⟨w.heap.size, 0, none⟩)) true ty).run Tryd.prog wr = .ok (.tuple #[.bool true, .int .i64 k, .int .i32 ((s.get! (a + k)).toNat : Int)]) (wr.iterAt w.heap.size t (k + 1)) := fun ty => by rw [hnx ty, dec]
        obtain ⟨b, rfl⟩ : ∃ b', b = b' + 1 := ⟨b - 1, by omega⟩
        have HP2 := Lib.hid ((ltf_step s a b k ⟨has, hl⟩).symm.trans HP.out)
        have XB := Lib.hid (show RB p s (a + k) 0 (wr.iterAt w.heap.size t (k + 1)) from (Lib.iterAt_other wr w.heap.size p t _ (by have := PL.out; omega)).trans HB.out)
        have XT := Lib.hid (tw_iterAt HW.out (Nat.le_refl _) t (k + 1))
        have XI := Lib.hid (Lib.iterAt_heap wr w.heap.size t k (k + 1) HI.out)
        have IP := Lib.hid (iterPos_of HI.out)
        have LT := Lib.hid (fun W => isletter_any ((s.get! (a + k)).toNat : Int) W)
        rw [hl] at LT
        have LT := Lib.hid LT.out
        clear hnx HB HW HP TG HI dec g1 gt2 hl h8 CC
        generalize wr.iterAt w.heap.size t (k + 1) = X at *
        generalize (s.get! (a + k)).toNat = cq at *
        obtain ⟨c0, c1, c2, cf⟩ := XB.out.cells
        have cf1 := cf 1
        have cf2 := cf 2
        by_cases hm : k < 1048576
        · have i2 : (k : Int) < 1048576 := by omega
          have hw : IntKind.i64.wrap ((a : Int) + (k : Int) + 1) = (a : Int) + (k : Int) + 1 := IntWalk.i64_in _ (by omega)
          have YB := Lib.hid (XB.out.at_ (a + (k + 1)))
          have YT := Lib.hid (XT.out.st p (.inl (by simp)) 1 (.int .i64 ((a + (k + 1) : Nat) : Int)))
          have YI := Lib.hid (blk_oth2 XI.out (show w.heap.size ≠ p by have := PL.out; omega) 1 (.int .i64 ((a + (k + 1) : Nat) : Int)))
          rw [show ((a + (k + 1) : Nat) : Int) = (a : Int) + (k : Int) + 1 by omega] at YB YT YI
          clear XB XT XI cf
          go_wp2_with fail
          refine (LT.out _).mono ?_; rintro x w3 ⟨rfl, rfl⟩
          clear LT
          go_wp2
          go_roundw
          case rel => exact ⟨k + 1, b, YI, YB, YT, HP2, by omega, by omega, by omega⟩
          case measure => rw [iterPos_of YI.out, IP.out]; omega
        · have hge := ltf_ge s a b (k + 1)
          rw [HP2.out] at hge
          have E := Lib.hid (show tre s a = 5 from by unfold tre; rw [if_pos (by omega)])
          have E3 := Lib.hid (show trk s a = k from by unfold trk; rw [if_pos (by omega)]; omega)
          have d1 : decide ((k : Int) < 1048576) = false := decide_eq_false (by omega)
          have d2 : decide (k < 1048576) = false := decide_eq_false hm
          have YB := Lib.hid (XB.out.er 5)
          have YT := Lib.hid (XT.out.st p (.inl (by simp)) 2 (.int .i64 5))
          clear XB XT XI cf hge HP2 hm IP hkm TS
          go_wp2_with fail
          refine (LT.out _).mono ?_; rintro x w3 ⟨rfl, rfl⟩
          go_wp2_with fail
          refine (LT.out _).mono ?_; rintro x w3 ⟨rfl, rfl⟩
          clear LT
          go_wp2
          go_ret
          exact ⟨congrArg (fun z => Ending.returned (.string z)) (by rw [E.out, if_neg (by decide)]), by rw [E.out, E3.out]; exact YB.out, YT.out⟩
      · have EL := Lib.hid (show lt s a = k from by rw [← HP.out]; exact ltf_stop s a b k (fun h => hl h.2))
        have E3 := Lib.hid (show trk s a = k from by unfold trk; rw [EL.out, if_neg (by omega)])
        have UT := Lib.hid (show tre s a = (if k = 0 ∨ (s.get! (a + k)).toNat ≠ 10 then 2 else 0) from by unfold tre; rw [EL.out, if_neg (by omega), if_neg (by omega)])
        have hrn : ltr ((Utf8.decode t k).1 : Int) = false ∧ (((Utf8.decode t k).1 : Int) = 10 ↔ (s.get! (a + k)).toNat = 10) := by
          by_cases h8 : (t[k]'hlt).toNat < 128
          · rw [decode_ascii t k hlt h8, ← gt2, g1]
            exact ⟨by simpa using hl, by omega⟩
          · have h9 := (decode_high t k hlt (by omega)).1
            refine ⟨ltr_high _ (by omega), ?_⟩
            rw [← g1, gt2]
            omega
        obtain ⟨hr1, hr2⟩ := hrn
        have HR := Lib.hid hr2
        have LT := Lib.hid (fun W => isletter_any ((Utf8.decode t k).1 : Int) W)
        rw [hr1] at LT
        have XB := Lib.hid (show RB p s (a + k) 0 (wr.iterAt w.heap.size t (k + (Utf8.decode t k).2)) from (Lib.iterAt_other wr w.heap.size p t _ (by have := PL.out; omega)).trans HB.out)
        have XT := Lib.hid (tw_iterAt HW.out (Nat.le_refl _) t (k + (Utf8.decode t k).2))
        clear HB HW HP TG HI g1 gt2 hl hr1 hr2
        generalize wr.iterAt w.heap.size t (k + (Utf8.decode t k).2) = X at *
        generalize (Utf8.decode t k).1 = rn at *
        obtain ⟨c0, c1, c2, cf⟩ := XB.out.cells
        have cf2 := cf 2
        by_cases hbad : k = 0 ∨ (s.get! (a + k)).toNat ≠ 10
        · have E := Lib.hid (show tre s a = 2 from by rw [UT.out, if_pos hbad])
          have YB := Lib.hid (XB.out.er 2)
          have YT := Lib.hid (XT.out.st p (.inl (by simp)) 2 (.int .i64 2))
          have HD : ((rn : Int) != 10) = true ∨ ((rn : Int) != 10) = false ∧ ((k : Int) == 0) = true := by
            by_cases h10 : (rn : Int) = 10
            · rcases hbad with h0 | h0
              · exact .inr ⟨by simp [h10], by simp [h0]⟩
              · exact absurd (HR.out.mp h10) h0
            · exact .inl (by simpa using h10)
          clear XB XT cf UT hbad HR CC
          rcases HD with hd | ⟨hd, hd2⟩
          all_goals
            go_wp2_with fail
            refine (LT.out _).mono ?_; rintro x w3 ⟨rfl, rfl⟩
            go_wp2_with fail
            refine (LT.out _).mono ?_; rintro x w3 ⟨rfl, rfl⟩
            go_wp2
            go_ret
            exact ⟨congrArg (fun z => Ending.returned (.string z)) (by rw [E.out, if_neg (by decide)]), by rw [E.out, E3.out]; exact YB.out, YT.out⟩
        · have E := Lib.hid (show tre s a = 0 from by rw [UT.out, if_neg hbad])
          have h10 : (rn : Int) = 10 := HR.out.mpr (by omega)
          have hd : ((rn : Int) != 10) = false := by simp [h10]
          have hd2 : ((k : Int) == 0) = false := beq_eq_false_iff_ne.mpr (by omega)
          have i2 : (a : Int) ≤ (a : Int) + (k : Int) := by omega
          have i3 : (a : Int) + (k : Int) ≤ (s.size : Int) := by omega
          have CQ := Lib.hid (CC.out (s.extract a (a + k)) · (by rw [ByteArray.size_extract]; omega))
          clear cf UT hbad HR CC h10
          go_wp2_with fail
          refine (LT.out _).mono ?_; rintro x w3 ⟨rfl, rfl⟩
          go_wp2_with fail
          refine (LT.out _).mono ?_; rintro x w3 ⟨rfl, rfl⟩
          clear LT
          go_upto_region 7 with fail
          have i4 : (a : Int) ≤ ((a + k : Nat) : Int) := by omega
          have i5 : ((a + k : Nat) : Int) ≤ (s.size : Int) := by omega
          go_region_held3 (fun wz => wz.cell? ⟨p, 0, none⟩ = some (.string s) ∧ wz.cell? ⟨p, 1, none⟩ = some (.int .i64 ((a + k : Nat) : Int))) (first | exact ⟨c0, c1⟩ | exact ⟨d0, d1⟩) (first | (go_at_call 38; refine (CQ.out _).mono ?_; rintro e w3 ⟨rfl, hb3⟩; have B3 := (XB.out.up (bl_drew X)).up hb3; obtain ⟨d0, d1, d2, df⟩ := B3.cells))
          have FB := Lib.hid B3
          have FT := Lib.hid (show Tw [p] w w3 from XT.out.trans (Tw.of ((bl_drew X).trans hb3)))
          clear B3 hb3 d0 d1 d2 df XB XT CQ
          go_wp2
          go_ret
          exact ⟨congrArg (fun z => Ending.returned (.string z)) (by rw [E.out, if_pos rfl, EL.out]), by rw [E.out, E3.out]; exact FB.out, FT.out⟩
    · have hk : k = t.size := by omega
      have EL := Lib.hid (show lt s a = k from by rw [← HP.out]; exact ltf_stop s a b k (fun h => by omega))
      have E3 := Lib.hid (show trk s a = k from by unfold trk; rw [EL.out, if_neg (by omega)])
      have E := Lib.hid (show tre s a = 6 from by unfold tre; rw [EL.out, if_neg (by omega), if_pos (by omega)])
      have hnx : ∀ ty, (Instr.next (.pointer (some ⟨w.heap.size, 0, none⟩)) true ty).run Tryd.prog wr = _ := fun ty => Lib.run_next_end_at wr w.heap.size t k ty HI.out hlt
      obtain ⟨c0, c1, c2, cf⟩ := HB.out.cells
      have cf2 := cf 2
      have YB := Lib.hid (HB.out.er 6)
      have YT := Lib.hid (HW.out.st p (.inl (by simp)) 2 (.int .i64 6))
      clear cf TG HP CC
      go_wp2
      go_ret
      exact ⟨congrArg (fun z => Ending.returned (.string z)) (by rw [E.out, if_neg (by decide)]), by rw [E.out, E3.out]; exact YB.out, YT.out⟩
end Go.Proofs.YtjajpmbmkagcaaaDoor
