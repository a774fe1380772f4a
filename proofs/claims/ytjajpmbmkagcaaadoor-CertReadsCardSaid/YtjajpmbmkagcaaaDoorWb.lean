/-
  cert: valid.
-/
import Derived.Test.YtjajpmbmkagcaaaDoorWa
namespace Go.Proofs.YtjajpmbmkagcaaaDoor
open Go.RowKit
set_option linter.unusedVariables false
/-- what valid answers -/
def VP (V : Int) (L : List Int) (T : ByteArray) (w : World) (e : Ending) (w' : World) : Prop := ∃ b, e = .returned (.bool b) ∧ (b = true ↔ Frm V L T) ∧ Below w.heap.size w w'
theorem vp_no {V : Int} {L : List Int} {T : ByteArray} {w w' : World} (h : ¬ Frm V L T) (hb : Below w.heap.size w w') : VP V L T w (.returned (.bool false)) w' := ⟨false, rfl, ⟨(fun h => by cases h), fun h2 => absurd h2 h⟩, hb⟩
theorem vp_yes {V : Int} {L : List Int} {T : ByteArray} {w w' : World} (h : Frm V L T) (hb : Below w.heap.size w w') : VP V L T w (.returned (.bool true)) w' := ⟨true, rfl, ⟨fun _ => h, fun _ => rfl⟩, hb⟩
set_option maxRecDepth 100000 in
set_option maxHeartbeats 8000000 in
theorem valid_any {V : Int} {T : ByteArray} {L : List Int} {v : Value} {w : World} (h1 : Ls v L w) (hL : L.length ≤ 1000000) (hT : T.size ≤ 2000000) : Calls Tryd.prog 16 #[.agg #[.int .i64 V, v, .string T]] w (VP V L T w) := by
  obtain ⟨a1, c1, rfl⟩ := h1.form
  have b1 := bl_al (Below.refl _ w) (.cells #[.int .i64 V, .slice a1 L.length c1, .string T] 26)
  have e1 := heap_alloc_new w (.cells #[.int .i64 V, .slice a1 L.length c1, .string T] 26)
  have HB := Lib.hid b1
  have H1 := Lib.hid (h1.up b1)
  obtain ⟨k0, k1, k2⟩ := EB.cells e1
  clear h1 b1 e1
  by_cases v0 : V < 0
  · have U := Lib.hid (vp_no (L := L) (T := T) (fun (h : Frm V L T) => by have := h.v0; omega) HB.out)
    go_enter Tryd.func16, Tryd.ntmps16
    go_wp2
    go_ret
    exact U.out
  by_cases v1 : 1125899906842624 < V
  · have U := Lib.hid (vp_no (L := L) (T := T) (fun (h : Frm V L T) => by have := h.v1; omega) HB.out)
    go_enter Tryd.func16, Tryd.ntmps16
    go_wp2
    go_ret
    exact U.out
  by_cases l0 : L.length = 0
  · have U := Lib.hid (vp_no (V := V) (T := T) (fun (h : Frm V L T) => by have := h.l0; omega) HB.out)
    rw [l0] at U k0 k1 k2
    have HB := Lib.hid HB.out
    clear H1
    generalize hz : (w.alloc (.cells #[.int .i64 V, .slice a1 0 c1, .string T] 26)) = X at *
    obtain rfl := List.length_eq_zero_iff.mp l0
    clear l0
    subst hz
    simp only [List.length_nil]
    clear HB
    go_enter Tryd.func16, Tryd.ntmps16
    go_wp2
    go_ret
    exact U.out
  have n1 : ((L.length : Int) == 0) = false := beq_eq_false_iff_ne.mpr (by omega)
  by_cases l1 : 64 < L.length
  · have U := Lib.hid (vp_no (V := V) (T := T) (fun (h : Frm V L T) => by have := h.l1; omega) HB.out)
    have i1 : 64 < (L.length : Int) := by omega
    go_enter Tryd.func16, Tryd.ntmps16
    go_wp2
    go_ret
    exact U.out
  have i1 : ¬ 64 < (L.length : Int) := by omega
  have HC := Lib.hid (show 0 ≤ V ∧ V ≤ 1125899906842624 ∧ 1 ≤ L.length ∧ L.length ≤ 64 from ⟨by omega, by omega, by omega, by omega⟩)
  clear l0 l1
  go_enter Tryd.func16, Tryd.ntmps16
  go_wp2_with fail
  generalize (w.alloc (.cells #[.int .i64 V, .slice a1 L.length c1, .string T] 26)) = X at *
  have KX := Lib.hid (show X.cell? ⟨w.heap.size, 1, none⟩ = some (.slice a1 L.length c1) ∧ X.cell? ⟨w.heap.size, 2, none⟩ = some (.string T) from ⟨k1, k2⟩)
  go_loop [30] (fun i => ∃ k : Nat, i = .int .i64 (k : Int) ∧ k ≤ L.length ∧ Hid (∀ j, j < k → 0 ≤ nt L j ∧ nt L j ≤ 999)) (fun i => L.length - (intOf i).toNat)
  case atStart => exact ⟨0, rfl, Nat.zero_le _, Lib.hid (fun j hj => by omega)⟩
  case round =>
    clear n1 i1 v0 v1 k0 k1
    obtain ⟨k, rfl, hk, HA⟩ := hrel
    by_cases hlt : k < L.length
    · rcases H1.out with ⟨_, _, _, h0⟩ | ⟨g, o, c, hv, hc, hg, hcell⟩
      · subst h0; simp at hlt
      · injection hv with q1 q2 q3
        subst q1
        have m1 := hcell k hlt
        have NF := Lib.hid (fun (h : Frm V L T) => h.l2 _ (nt_mem L k hlt))
        have i2 : (k : Int) < (L.length : Int) := by omega
        clear hcell q2 q3 hc H1
        generalize hn : nt L k = n at *
        have hn := Lib.hid hn
        by_cases n0 : n < 0
        · have U := Lib.hid (vp_no (fun (h : Frm V L T) => by have := NF.out h; omega) HB.out)
          clear NF HA HC
          go_wp2
          go_ret
          exact U.out
        · by_cases n9 : 999 < n
          · have U := Lib.hid (vp_no (fun (h : Frm V L T) => by have := NF.out h; omega) HB.out)
            clear NF HA HC
            go_wp2
            go_ret
            exact U.out
          · have HA2 := Lib.hid (show ∀ j, j < k + 1 → 0 ≤ nt L j ∧ nt L j ≤ 999 from fun j hj => by
              by_cases e : j = k
              · subst e; rw [hn.out]; omega
              · exact HA.out j (by omega))
            clear hn NF HA HC
            go_wp2
            go_round
            case rel => exact ⟨k + 1, by go_num, by omega, HA2⟩
            case measure => simp [intOf]; omega
    · have hk2 : k = L.length := by omega
      have LA := Lib.hid (show ∀ x, x ∈ L → 0 ≤ x ∧ x ≤ 999 from fun x hx => by
        obtain ⟨j, hj, e⟩ := List.mem_iff_getElem.mp hx
        have := HA.out j (by omega)
        unfold nt at this
        rw [List.getElem?_eq_getElem hj, e] at this
        exact this)
      have i2 : ¬ (k : Int) < (L.length : Int) := by omega
      clear HA hk2
      obtain ⟨k1, k2⟩ := KX.out
      by_cases t0 : T.size = 0
      · have U := Lib.hid (vp_no (fun (h : Frm V L T) => by have := h.t0; omega) HB.out)
        have b1 : ((T.size : Int) == 0) = true := by simp [t0]
        clear t0 HC
        go_wp2
        go_ret
        exact U.out
      have b1 : ((T.size : Int) == 0) = false := beq_eq_false_iff_ne.mpr (by omega)
      by_cases t1 : 1048576 < T.size
      · have U := Lib.hid (vp_no (fun (h : Frm V L T) => by have := h.t1; omega) HB.out)
        have i3 : 1048576 < (T.size : Int) := by omega
        clear t0 t1 HC
        go_wp2
        go_ret
        exact U.out
      have i3 : ¬ 1048576 < (T.size : Int) := by omega
      have HT := Lib.hid (show 1 ≤ T.size ∧ T.size ≤ 1048576 from ⟨by omega, by omega⟩)
      have I0 := Lib.hid (show (X.iter T 0).heap[X.heap.size]? = some (.stringIter T 0) from by unfold World.iter; exact heap_alloc_new _ _)
      have B0 := Lib.hid (bl_tr HB.out (bl_it X T 0))
      clear t0 t1 KX H1
      go_wp2_with fail
      go_loopw [6] (fun _ wr => ∃ k : Nat, Hid (wr.heap[X.heap.size]? = some (.stringIter T k)) ∧ Hid (Below w.heap.size w wr) ∧ Hid (∀ j, j < k → ltr ((T.get! j).toNat : Int) = true) ∧ k ≤ T.size) (fun _ wr => T.size - wr.iterPos X.heap.size)
      case atStart => exact ⟨0, I0, B0, Lib.hid (fun j hj => by omega), Nat.zero_le _⟩
      case round =>
        clear I0 B0 i2 i3 b1 k1 k2
        obtain ⟨k, HI, HX, HA, hk⟩ := hrel
        by_cases hlt : k < T.size
        · have hnx : ∀ ty, (Instr.next (.pointer (some ⟨X.heap.size, 0, none⟩)) true ty).run Tryd.prog wr = _ := fun ty => Lib.run_next_any_at wr X.heap.size T k ty HI.out hlt
          have gt2 := get_of T k hlt
          have NF := Lib.hid (fun (h : Frm V L T) => h.t2 k hlt)
          have XX := Lib.hid (show ∀ p, Below w.heap.size w (wr.iterAt X.heap.size T p) from fun p => Lib.below_iterAt HX.out HB.out.size T p)
          have IP := Lib.hid (iterPos_of HI.out)
          by_cases hl : ltr ((T.get! k).toNat : Int) = true
          · have h8 := (ltr_lo _ hl).2
            have dec : Utf8.decode T k = ((T.get! k).toNat, 1) := by
              rw [decode_ascii T k hlt (by rw [← gt2]; omega), ← gt2]
            have hnx2 : ∀ ty, (Instr.next (.pointer (some ⟨X.heap.size, 0, none⟩)) true ty).run Tryd.prog wr = .ok (.tuple #[.bool true, .int .i64 k, .int .i32 ((T.get! k).toNat : Int)]) (wr.iterAt X.heap.size T (k + 1)) := fun ty => by rw [hnx ty, dec]
            have XI := Lib.hid (Lib.iterAt_heap wr X.heap.size T k (k + 1) HI.out)
            have X1 := Lib.hid (XX.out (k + 1))
            have HA2 := Lib.hid (show ∀ j, j < k + 1 → ltr ((T.get! j).toNat : Int) = true from fun j hj => by
              by_cases e : j = k
              · subst e; exact hl
              · exact HA.out j (by omega))
            have LT := Lib.hid (fun W => isletter_any ((T.get! k).toNat : Int) W)
            rw [hl] at LT
            clear hnx XX HX HI HA NF dec gt2 hl h8 HC LA HT
            generalize wr.iterAt X.heap.size T (k + 1) = Y at *
            generalize hcq : (T.get! k).toNat = cq at *
            clear hcq
            go_wp2_with fail
            refine (LT.out _).mono ?_; rintro x w3 ⟨rfl, rfl⟩
            clear LT
            go_wp2
            go_roundw
            case rel => exact ⟨k + 1, XI, X1, HA2, by omega⟩
            case measure => rw [iterPos_of XI.out, IP.out]; omega
          · have hr1 : ltr ((Utf8.decode T k).1 : Int) = false := by
              by_cases h8 : (T[k]'hlt).toNat < 128
              · rw [decode_ascii T k hlt h8, ← gt2]
                simpa using hl
              · have h9 := (decode_high T k hlt (by omega)).1
                exact ltr_high _ (by omega)
            have U := Lib.hid (vp_no (fun h => hl (NF.out h)) (XX.out (k + (Utf8.decode T k).2)))
            have LT := Lib.hid (fun W => isletter_any ((Utf8.decode T k).1 : Int) W)
            rw [hr1] at LT
            clear XX HX HI HA NF gt2 hl hr1 HC LA HT IP
            generalize wr.iterAt X.heap.size T (k + (Utf8.decode T k).2) = Y at *
            generalize (Utf8.decode T k).1 = rn at *
            go_wp2_with fail
            refine (LT.out _).mono ?_; rintro x w3 ⟨rfl, rfl⟩
            clear LT
            go_wp2
            go_ret
            exact U.out
        · have F : Frm V L T := ⟨HC.out.1, HC.out.2.1, HC.out.2.2.1, HC.out.2.2.2, LA.out, HT.out.1, HT.out.2, fun j hj => HA.out j (by omega)⟩
          have U := Lib.hid (vp_yes F HX.out)
          have hnx : ∀ ty, (Instr.next (.pointer (some ⟨X.heap.size, 0, none⟩)) true ty).run Tryd.prog wr = _ := fun ty => Lib.run_next_end_at wr X.heap.size T k ty HI.out hlt
          clear HC LA HT HA HX F
          go_wp2
          go_ret
          exact U.out
end Go.Proofs.YtjajpmbmkagcaaaDoor
