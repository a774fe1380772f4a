/-
  What the reference's Copy answers.
-/
import Derived.Test.YteoionlnnjcggaaLoop
import Derived.Deep.MidRow
import Derived.Deep.RegionHeld3
import Derived.Deep.AppendLies
import Derived.Maps.AppendAt
namespace Go.Proofs.Yteoionlnnjcggaa
open Go.RowKit
set_option linter.unusedVariables false

set_option maxRecDepth 1000000 in
set_option maxHeartbeats 4000000 in
theorem refcopy_any (kd N C : Int) (wl vl : List Int) (cl : List (List Int)) (wa va ca : Option Addr) (wn vn cn wc vc cc : Nat) (w : World) (h1 : Src w wa wn wc wl) (h2 : Src w va vn vc vl) (h3 : RSrc w ca cn cc cl) :
    Calls Try.prog 8 #[.agg #[.int .i64 kd, .int .i64 N, .int .i64 C, .slice wa wn wc, .slice va vn vc, .slice ca cn cc]] w (cpost kd N C wl vl cl w) := by
  obtain ⟨i0, hi, hz0, hz1, hz2⟩ := info_parts info22
  have bA : Below w.heap.size w ((w.alloc (.cells #[.int .i64 kd, .int .i64 N, .int .i64 C, .slice wa wn wc, .slice va vn vc, .slice ca cn cc] 25)).alloc (.cells #[.int .i64 0, .int .i64 0, .int .i64 0, .slice none 0 0, .slice none 0 0, .slice none 0 0] 25)) := bl_al (bl_al (Below.refl _ _) _) _
  have HS1 := Lib.hid (h1.keep bA)
  have HS2 := Lib.hid (h2.keep bA)
  have HS3 := Lib.hid (h3.keep bA)
  have BW := Lib.hid bA
  clear h1 h2 h3 bA
  go_enter Try.func8, Try.ntmps8
  go_wp2
  have S0 : ((w.alloc (.cells #[.int .i64 kd, .int .i64 N, .int .i64 C, .slice wa wn wc, .slice va vn vc, .slice ca cn cc] 25)).alloc (.cells #[.int .i64 0, .int .i64 0, .int .i64 0, .slice none 0 0, .slice none 0 0, .slice none 0 0] 25)).heap[w.heap.size]? = some (.cells #[.int .i64 kd, .int .i64 N, .int .i64 C, .slice wa wn wc, .slice va vn vc, .slice ca cn cc] 25 (0, 0)) ∧ ((w.alloc (.cells #[.int .i64 kd, .int .i64 N, .int .i64 C, .slice wa wn wc, .slice va vn vc, .slice ca cn cc] 25)).alloc (.cells #[.int .i64 0, .int .i64 0, .int .i64 0, .slice none 0 0, .slice none 0 0, .slice none 0 0] 25)).heap[(w.heap.size + 1)]? = some (.cells #[.int .i64 0, .int .i64 0, .int .i64 0, .slice none 0 0, .slice none 0 0, .slice none 0 0] 25 (0, 0)) ∧ Below ((w.alloc (.cells #[.int .i64 kd, .int .i64 N, .int .i64 C, .slice wa wn wc, .slice va vn vc, .slice ca cn cc] 25)).alloc (.cells #[.int .i64 0, .int .i64 0, .int .i64 0, .slice none 0 0, .slice none 0 0, .slice none 0 0] 25)).heap.size ((w.alloc (.cells #[.int .i64 kd, .int .i64 N, .int .i64 C, .slice wa wn wc, .slice va vn vc, .slice ca cn cc] 25)).alloc (.cells #[.int .i64 0, .int .i64 0, .int .i64 0, .slice none 0 0, .slice none 0 0, .slice none 0 0] 25)) ((w.alloc (.cells #[.int .i64 kd, .int .i64 N, .int .i64 C, .slice wa wn wc, .slice va vn vc, .slice ca cn cc] 25)).alloc (.cells #[.int .i64 0, .int .i64 0, .int .i64 0, .slice none 0 0, .slice none 0 0, .slice none 0 0] 25)) := ⟨heap_alloc2_old w _ _, heap_alloc2_new w _ _, Below.refl _ _⟩
  have hbx : w.heap.size < ((w.alloc (.cells #[.int .i64 kd, .int .i64 N, .int .i64 C, .slice wa wn wc, .slice va vn vc, .slice ca cn cc] 25)).alloc (.cells #[.int .i64 0, .int .i64 0, .int .i64 0, .slice none 0 0, .slice none 0 0, .slice none 0 0] 25)).heap.size := by simp; omega
  have hrb : w.heap.size + 1 < ((w.alloc (.cells #[.int .i64 kd, .int .i64 N, .int .i64 C, .slice wa wn wc, .slice va vn vc, .slice ca cn cc] 25)).alloc (.cells #[.int .i64 0, .int .i64 0, .int .i64 0, .slice none 0 0, .slice none 0 0, .slice none 0 0] 25)).heap.size := by simp
  generalize ((w.alloc (.cells #[.int .i64 kd, .int .i64 N, .int .i64 C, .slice wa wn wc, .slice va vn vc, .slice ca cn cc] 25)).alloc (.cells #[.int .i64 0, .int .i64 0, .int .i64 0, .slice none 0 0, .slice none 0 0, .slice none 0 0] 25)) = W0 at S0 HS1 HS2 HS3 BW hbx hrb ⊢
  generalize hb0 : w.heap.size = bx at S0 hbx hrb ⊢
  generalize hb1 : bx + 1 = rb at S0 hrb ⊢
  have hwrb : w.heap.size ≤ rb := by omega
  refine wp_region_held_drew (S := fun w' => w'.heap[bx]? = some (.cells #[.int .i64 kd, .int .i64 N, .int .i64 C, .slice wa wn wc, .slice va vn vc, .slice ca cn cc] 25 (0, 0)) ∧ w'.heap[rb]? = some (.cells #[.int .i64 0, .int .i64 0, .int .i64 0, .slice none 0 0, .slice none 0 0, .slice none 0 0] 25 (0, 0)) ∧ Below W0.heap.size W0 w') (by kernel_rfl) ⟨S0.1, S0.2.1, S0.2.2.drew⟩ (fun hHeld => ?_)
  clear S0
  refine wpAnyH_take (i := 0) (v := ?vu1) (by rw [List.getElem?_toArray]; rfl) (by kernel_rfl) (by kernel_rfl) (by kernel_rfl) ?qu1 (Or.inl ⟨by rfl, ?yu1⟩) (by assumption) ?ru1
  case qu1 => exact fun _ _ _ h => h
  case yu1 => (intro wz hSw; go_simp; try (with_reducible rfl))
  simp only [Act.put, List.setIfInBounds_toArray, List.set_cons_zero, List.set_cons_succ]
  refine wpAnyH_take (i := 1) (v := ?vu2) (by rw [List.getElem?_toArray]; rfl) (by kernel_rfl) (by kernel_rfl) (by kernel_rfl) ?qu2 (Or.inl ⟨by rfl, ?yu2⟩) (by assumption) ?ru2
  case qu2 => exact fun _ _ _ h => h
  case yu2 => (intro wz hSw; obtain ⟨q0, q1, q2, q3, q4, q5⟩ := box6 hSw.1; go_simp; try (with_reducible rfl))
  simp only [Act.put, List.setIfInBounds_toArray, List.set_cons_zero, List.set_cons_succ]
  refine wpAnyH_take (i := 2) (v := ?vu3) (by rw [List.getElem?_toArray]; rfl) (by kernel_rfl) (by kernel_rfl) (by kernel_rfl) ?qu3 (Or.inl ⟨by rfl, ?yu3⟩) (by assumption) ?ru3
  case qu3 => exact fun _ _ _ h => h
  case yu3 => (intro wz hSw; go_simp; try (with_reducible rfl))
  simp only [Act.put, List.setIfInBounds_toArray, List.set_cons_zero, List.set_cons_succ]
  refine wpAnyH_take (i := 3) (v := ?vu4) (by rw [List.getElem?_toArray]; rfl) (by kernel_rfl) (by kernel_rfl) (by kernel_rfl) ?qu4 (Or.inl ⟨by rfl, ?yu4⟩) (by assumption) ?ru4
  case qu4 => exact fun _ _ _ h => h
  case yu4 => (intro wz hSw; obtain ⟨q0, q1, q2, q3, q4, q5⟩ := box6 hSw.1; go_simp; try (with_reducible rfl))
  simp only [Act.put, List.setIfInBounds_toArray, List.set_cons_zero, List.set_cons_succ]
  refine wpAnyH_take (i := 4) (v := ?vu5) (by rw [List.getElem?_toArray]; rfl) (by kernel_rfl) (by kernel_rfl) (by kernel_rfl) ?qu5 (Or.inl ⟨by rfl, ?yu5⟩) (by assumption) ?ru5
  case qu5 => exact fun _ _ _ h => h
  case yu5 => (intro wz hSw; go_simp; try (with_reducible rfl))
  simp only [Act.put, List.setIfInBounds_toArray, List.set_cons_zero, List.set_cons_succ]
  refine wpAnyH_take (i := 5) (v := ?vu6) (by rw [List.getElem?_toArray]; rfl) (by kernel_rfl) (by kernel_rfl) (by kernel_rfl) ?qu6 (Or.inl ⟨by rfl, ?yu6⟩) (by assumption) ?ru6
  case qu6 => exact fun _ _ _ h => h
  case yu6 => (intro wz hSw; obtain ⟨q0, q1, q2, q3, q4, q5⟩ := box6 hSw.1; go_simp; try (with_reducible rfl))
  simp only [Act.put, List.setIfInBounds_toArray, List.set_cons_zero, List.set_cons_succ]
  refine wpAnyH_take (i := 6) (v := ?vu7) (by rw [List.getElem?_toArray]; rfl) (by kernel_rfl) (by kernel_rfl) (by kernel_rfl) ?qu7 (Or.inl ⟨by rfl, ?yu7⟩) (by assumption) ?ru7
  case qu7 => exact fun _ _ _ h => h
  case yu7 => (intro wz hSw; go_simp; try (with_reducible rfl))
  simp only [Act.put, List.setIfInBounds_toArray, List.set_cons_zero, List.set_cons_succ]
  refine wpAnyH_take (i := 7) (v := ?vu8) (by rw [List.getElem?_toArray]; rfl) (by kernel_rfl) (by kernel_rfl) (by kernel_rfl) ?qu8 (Or.inl ⟨by rfl, ?yu8⟩) (by assumption) ?ru8
  case qu8 => exact fun _ _ _ h => h
  case yu8 => (intro wz hSw; obtain ⟨q0, q1, q2, q3, q4, q5⟩ := box6 hSw.1; go_simp; try (with_reducible rfl))
  simp only [Act.put, List.setIfInBounds_toArray, List.set_cons_zero, List.set_cons_succ]
  refine wpAnyH_take (i := 9) (v := ?vu9) (by rw [List.getElem?_toArray]; rfl) (by kernel_rfl) (by kernel_rfl) (by kernel_rfl) ?qu9 (Or.inl ⟨by rfl, ?yu9⟩) (by assumption) ?ru9
  case qu9 => exact fun _ _ _ h => h
  case yu9 => (intro wz hSw; go_simp; try (with_reducible rfl))
  simp only [Act.put, List.setIfInBounds_toArray, List.set_cons_zero, List.set_cons_succ]
  refine wpAnyH_take (i := 10) (v := ?vu10) (by rw [List.getElem?_toArray]; rfl) (by kernel_rfl) (by kernel_rfl) (by kernel_rfl) ?qu10 (Or.inl ⟨by rfl, ?yu10⟩) (by assumption) ?ru10
  case qu10 => exact fun _ _ _ h => h
  case yu10 => (intro wz hSw; obtain ⟨q0, q1, q2, q3, q4, q5⟩ := box6 hSw.1; go_simp; try (with_reducible rfl))
  simp only [Act.put, List.setIfInBounds_toArray, List.set_cons_zero, List.set_cons_succ]
  refine wpAnyH_ready (rs := [8, 13]) (by kernel_rfl) (by simp) ?_
  refine AllReadyH.cons (by rw [List.getElem?_toArray]; rfl) (fun K hK => ?_) (AllReadyH.cons (by rw [List.getElem?_toArray]; rfl) (fun K hK => ?_) AllReadyH.nil)
  · have hHid := Lib.hid hHeld
    clear hHeld
    go_simp
    go_at_call 27; refine (cut_src (HS1.out.keep hHid.out.2.2)).mono ?_; rintro e xu11 ⟨g1, k1, rfl, hb, I1u, -⟩
    have I1 := Lib.hid I1u
    have hNew := Lib.hid (cp_more hb hHid.out)
    clear hb hHid I1u
    go_wp2_with fail
    refine hK.out _ _ hNew.out (fun hHeld => ?_)
    clear hK K hNew
    refine wpAnyH_ready (rs := [11, 13]) (by kernel_rfl) (by simp) ?_
    refine AllReadyH.cons (by rw [List.getElem?_toArray]; rfl) (fun K hK => ?_) (AllReadyH.cons (by rw [List.getElem?_toArray]; rfl) (fun K hK => ?_) AllReadyH.nil)
    · have hHid := Lib.hid hHeld
      clear hHeld
      go_simp
      go_at_call 27; refine (cut_src (HS2.out.keep hHid.out.2.2)).mono ?_; rintro e xu12 ⟨g2, k2, rfl, hb, I2u, -⟩
      have I2 := Lib.hid I2u
      have hNew := Lib.hid (cp_more hb hHid.out)
      have I1x := Lib.hid (I1.out.keep hb)
      clear I1
      have I1 := I1x
      clear I1x
      clear hb hHid I2u
      go_wp2_with fail
      refine hK.out _ _ hNew.out (fun hHeld => ?_)
      clear hK K hNew
      refine wpAnyH_take (i := 12) (v := ?vu13) (by rw [List.getElem?_toArray]; rfl) (by kernel_rfl) (by kernel_rfl) (by kernel_rfl) ?qu13 (Or.inl ⟨by rfl, ?yu13⟩) (by assumption) ?ru13
      case qu13 => exact fun _ _ _ h => h
      case yu13 => (intro wz hSw; go_simp; try (with_reducible rfl))
      simp only [Act.put, List.setIfInBounds_toArray, List.set_cons_zero, List.set_cons_succ]
      refine wpAnyH_ready (rs := [13]) (by kernel_rfl) (by simp) ?_
      refine AllReadyH.cons (by rw [List.getElem?_toArray]; rfl) (fun K hK => ?_) AllReadyH.nil
      have hHid0 := Lib.hid hHeld
      clear hHeld
      go_simp
      refine hK.out _ _ (cp_alloc hHid0.out _) (fun hHeld => ?_)
      clear hK K
      have PA := Lib.hid (heap_alloc_new xu12 (.cells #[.int .i64 0, .int .i64 0, .int .i64 0, .slice none 0 0, .slice none 0 0, .slice none 0 0] 25))
      refine wpAnyH_ready (rs := [14]) (by kernel_rfl) (by simp) ?_
      refine AllReadyH.cons (by rw [List.getElem?_toArray]; rfl) (fun K hK => ?_) AllReadyH.nil
      obtain ⟨z0, z1, z2, z3, z4, z5⟩ := box6 PA.out
      have zf := fr6 PA.out
      clear hHeld
      go_simp
      refine hK.out _ _ (cp_alloc hHid0.out _) (fun hHeld => ?_)
      have T := Lib.hid (heap_alloc_new xu12 (.cells #[.int .i64 kd, .int .i64 N, .int .i64 C, .slice (some ⟨g1, 0, none⟩) wl.length k1, .slice (some ⟨g2, 0, none⟩) vl.length k2, .slice none 0 0] 25))
      have BT := Lib.hid (cp_alloc hHid0.out (.cells #[.int .i64 kd, .int .i64 N, .int .i64 C, .slice (some ⟨g1, 0, none⟩) wl.length k1, .slice (some ⟨g2, 0, none⟩) vl.length k2, .slice none 0 0] 25))
      have J1 := Lib.hid (I1.out.keep (bl_al (Below.refl _ _) (.cells #[.int .i64 kd, .int .i64 N, .int .i64 C, .slice (some ⟨g1, 0, none⟩) wl.length k1, .slice (some ⟨g2, 0, none⟩) vl.length k2, .slice none 0 0] 25)))
      have J2 := Lib.hid (I2.out.keep (bl_al (Below.refl _ _) (.cells #[.int .i64 kd, .int .i64 N, .int .i64 C, .slice (some ⟨g1, 0, none⟩) wl.length k1, .slice (some ⟨g2, 0, none⟩) vl.length k2, .slice none 0 0] 25)))
      have LG : Hid (W0.heap.size ≤ xu12.heap.size) := hHid0.out.2.2.size
      clear hK K z0 z1 z2 z3 z4 z5 zf hHeld hHid0 PA I1 I2
      refine wpAnyH_done (by kernel_rfl) ?_ _
      go_wp2
      have LO : Hid (Lo kd N C wa va ca wn vn cn wc vc cc wl vl cl bx rb xu12.heap.size g1 g2 k1 k2 W0 (.slice none 0 0) [] 0 _) := { o := T.out, ow := World.ownsRow_nil _ _ _ _, ro := fun j hj => absurd hj (by omega), i1 := J1.out, i2 := J2.out }
      clear T J1 J2
      go_loopw [4] (fun i wr => ∃ k : Nat, k ≤ cl.length ∧ i = .int .i64 k ∧ Hid (wr.heap[bx]? = some (.cells #[.int .i64 kd, .int .i64 N, .int .i64 C, .slice wa wn wc, .slice va vn vc, .slice ca cn cc] 25 (0, 0)) ∧ wr.heap[rb]? = some (.cells #[.int .i64 0, .int .i64 0, .int .i64 0, .slice none 0 0, .slice none 0 0, .slice none 0 0] 25 (0, 0)) ∧ Below W0.heap.size W0 wr) ∧ ∃ cv ws, Hid (Lo kd N C wa va ca wn vn cn wc vc cc wl vl cl bx rb xu12.heap.size g1 g2 k1 k2 W0 cv ws k wr)) (fun i _ => cl.length - (intOf i).toNat)
      case atStart => exact ⟨0, by omega, rfl, BT, _, _, LO⟩
      case round =>
        clear BT LO
        obtain ⟨k, hk, rfl, Q, cv, ws, L⟩ := hrel
        have hcl := HS3.out.1
        obtain ⟨b0, b1, b2, b3, b4, b5⟩ := box6 Q.out.1
        by_cases hlt : k < cl.length
        · have hkn : k < cn := by omega
          have hk30 : (k : Int) < 30 := by omega
          have hkc : (0 : Int) ≤ (k : Int) ∧ (k : Int) < (cn : Int) := by omega
          obtain ⟨-, hnc, hc63, hs⟩ := HS3.out
          rcases hs with ⟨h0, _⟩ | ⟨b, o, rfl, hbW, hrows⟩
          · omega
          · obtain ⟨aj, nj, cj, hrow, hsrc⟩ := hrows k hlt
            clear hrows
            obtain ⟨row, hrw⟩ : ∃ r, cl[k]?.getD [] = r := ⟨_, rfl⟩
            have HG := Lib.hid hrw
            rw [hrw] at hsrc
            clear hrw hcl
            have SR := Lib.hid hsrc
            have RW := Lib.hid hrow
            have lgW : xu12.heap.size < wr.heap.size := lt_hp L.out.o
            obtain ⟨d0, d1, d2, d3, d4, d5⟩ := box6 L.out.o
            clear hsrc hrow
            have K0 := Lib.hid (cp_drew Q.out)
            have L0 := Lib.hid (L.out.keep (Below.refl _ _).drew)
            go_wp2
            refine wp_region_held_drew (S := fun w' => w'.cell? ⟨bx, 5, none⟩ = some (.slice (some ⟨b, o, none⟩) cn cc) ∧ w'.cell? ⟨b, o + k, none⟩ = some (.slice aj nj cj)) (by kernel_rfl) (cp_S K0.out RW.out hbW) (fun hHeld => ?_)
            refine wpAnyH_take (i := 0) (v := ?vu17) (by rw [List.getElem?_toArray]; rfl) (by kernel_rfl) (by kernel_rfl) (by kernel_rfl) ?qu17 (Or.inl ⟨by rfl, ?yu17⟩) (by assumption) ?ru17
            case qu17 => exact fun _ _ _ h => h
            case yu17 => (intro wz hSw; go_simp; try (with_reducible rfl))
            simp only [Act.put, List.setIfInBounds_toArray, List.set_cons_zero, List.set_cons_succ]
            refine wpAnyH_take (i := 2) (v := ?vu18) (by rw [List.getElem?_toArray]; rfl) (by kernel_rfl) (by kernel_rfl) (by kernel_rfl) ?qu18 (Or.inl ⟨by rfl, ?yu18⟩) (by assumption) ?ru18
            case qu18 => exact fun _ _ _ h => h
            case yu18 => (intro wz hSw; go_simp; try (with_reducible rfl))
            simp only [Act.put, List.setIfInBounds_toArray, List.set_cons_zero, List.set_cons_succ]
            refine wpAnyH_take (i := 3) (v := ?vu19) (by rw [List.getElem?_toArray]; rfl) (by kernel_rfl) (by kernel_rfl) (by kernel_rfl) ?qu19 (Or.inl ⟨by rfl, ?yu19⟩) (by assumption) ?ru19
            case qu19 => exact fun _ _ _ h => h
            case yu19 => (intro wz hSw; obtain ⟨q0, q1⟩ := hSw; go_simp; try (with_reducible rfl))
            simp only [Act.put, List.setIfInBounds_toArray, List.set_cons_zero, List.set_cons_succ]
            refine wpAnyH_take (i := 4) (v := ?vu20) (by rw [List.getElem?_toArray]; rfl) (by kernel_rfl) (by kernel_rfl) (by kernel_rfl) ?qu20 (Or.inl ⟨by rfl, ?yu20⟩) (by assumption) ?ru20
            case qu20 => exact fun _ _ _ h => h
            case yu20 => (intro wz hSw; go_simp; try (with_reducible rfl))
            simp only [Act.put, List.setIfInBounds_toArray, List.set_cons_zero, List.set_cons_succ]
            refine wpAnyH_take (i := 5) (v := ?vu21) (by rw [List.getElem?_toArray]; rfl) (by kernel_rfl) (by kernel_rfl) (by kernel_rfl) ?qu21 (Or.inl ⟨by rfl, ?yu21⟩) (by assumption) ?ru21
            case qu21 => exact fun _ _ _ h => h
            case yu21 => (intro wz hSw; go_simp; try (with_reducible rfl))
            simp only [Act.put, List.setIfInBounds_toArray, List.set_cons_zero, List.set_cons_succ]
            refine wpAnyH_take (i := 6) (v := ?vu22) (by rw [List.getElem?_toArray]; rfl) (by kernel_rfl) (by kernel_rfl) (by kernel_rfl) ?qu22 (Or.inl ⟨by rfl, ?yu22⟩) (by assumption) ?ru22
            case qu22 => exact fun _ _ _ h => h
            case yu22 => (intro wz hSw; obtain ⟨q0, q1⟩ := hSw; go_simp; try (with_reducible rfl))
            simp only [Act.put, List.setIfInBounds_toArray, List.set_cons_zero, List.set_cons_succ]
            refine wpAnyH_ready (rs := [1, 7]) (by kernel_rfl) (by simp) ?_
            refine AllReadyH.cons (by rw [List.getElem?_toArray]; rfl) (fun K hK => ?_) (AllReadyH.cons (by rw [List.getElem?_toArray]; rfl) (fun K hK => ?_) AllReadyH.nil)
            · have hHid := Lib.hid hHeld
              clear hHeld
              go_simp
              refine hK.out _ _ hHid.out (fun hHeld => ?_)
              clear hK K hHid
              refine wpAnyH_ready (rs := [7]) (by kernel_rfl) (by simp) ?_
              refine AllReadyH.cons (by rw [List.getElem?_toArray]; rfl) (fun K hK => ?_) AllReadyH.nil
              clear hHeld
              go_simp
              go_at_call 27; refine (cut_src (SR.out.keep K0.out.2.2)).mono ?_; rintro e x ⟨g, kc, rfl, hb, Iu, gu⟩
              have GW := Lib.hid (Nat.le_trans K0.out.2.2.size gu)
              have K1 := Lib.hid (cp_more hb K0.out)
              have L1 := Lib.hid (L0.out.keep hb)
              have IG := Lib.hid Iu
              have e5 := (box6 L1.out.o).2.2.2.2.2
              have lgx : xu12.heap.size < x.heap.size := lt_hp L1.out.o
              clear hb Iu gu
              go_wp2_with fail
              refine hK.out _ _ (cp_S K1.out RW.out hbW) (fun hHeld => ?_)
              clear hK K
              refine wpAnyH_ready (rs := [8]) (by kernel_rfl) (by simp) ?_
              refine AllReadyH.cons (by rw [List.getElem?_toArray]; rfl) (fun K hK => ?_) AllReadyH.nil
              clear hHeld
              go_simp
              refine hK.out _ _ (cp_S (cp_alloc K1.out _) RW.out hbW) (fun hHeld => ?_)
              clear hK K
              refine wpAnyH_ready (rs := [9]) (by kernel_rfl) (by simp) ?_
              refine AllReadyH.cons (by rw [List.getElem?_toArray]; rfl) (fun K hK => ?_) AllReadyH.nil
              clear hHeld
              refine step_append_lies _ (by rfl) _ _ _ (by rfl) W0.heap.size 22 i0 (.slice none 0 0) 1 24 Try.underlying23 hi hz0 hz1 hz2 rfl (by omega) cv k ws (by rfl) (L1.out.ow.alloc _) ⟨x.heap.size, 0, none⟩ 1 1 [.slice (some ⟨g, 0, none⟩) row.length kc] (by rfl) rfl (cell_one_new _ _ _) (by simp [Value.oneCell']) (by omega) (by unfold maxLen; omega) (by omega) (by have := K1.out.2.2.size; simp; omega) (x.heap.size + 1) (by simp) ?_
              intro g3 cap3 w3 hown3 hgrow3 hat3 hlt3
              have P := Lo.step L1.out (by rw [HG.out]; exact IG.out) GW.out (by rw [HG.out]) K1.out hbx hrb LG.out hown3 hgrow3
              have K2 := Lib.hid P.1.1
              have K3 := Lib.hid P.2.1
              have L3 := Lib.hid P.2.2
              have t5 := (box6 P.1.2).2.2.2.2.2
              have f5 := fr6 P.1.2 5
              clear P hown3 hgrow3 hat3
              simp only [Act.put, List.setIfInBounds_toArray, List.set_cons_zero, List.set_cons_succ]
              refine hK.out _ _ (cp_S K2.out RW.out hbW) (fun hHeld => ?_)
              clear hK K
              refine wpAnyH_take (i := 10) (v := ?vu14) (by rw [List.getElem?_toArray]; rfl) (by kernel_rfl) (by kernel_rfl) (by kernel_rfl) ?qu14 (Or.inl ⟨by rfl, ?yu14⟩) (by assumption) ?ru14
              case qu14 => exact fun _ _ _ h => h
              case yu14 => (intro wz hSw; go_simp; try (with_reducible rfl))
              simp only [Act.put, List.setIfInBounds_toArray, List.set_cons_zero, List.set_cons_succ]
              refine wpAnyH_ready (rs := [11]) (by kernel_rfl) (by simp) ?_
              refine AllReadyH.cons (by rw [List.getElem?_toArray]; rfl) (fun K hK => ?_) AllReadyH.nil
              clear hHeld
              go_simp
              refine hK.out _ _ (cp_S K3.out RW.out hbW) (fun hHeld => ?_)
              clear hK K t5 f5
              refine wpAnyH_done (by kernel_rfl) ?_ _
              clear hHeld
              go_wp2
              go_roundw
              case rel => exact ⟨k + 1, by omega, by go_num, K3, _, _, L3⟩
              case measure => simp [intOf]; omega
            · clear hHeld
              go_simp
              go_at_call 27; refine (cut_src (SR.out.keep K0.out.2.2)).mono ?_; rintro e x ⟨g, kc, rfl, hb, Iu, gu⟩
              have GW := Lib.hid (Nat.le_trans K0.out.2.2.size gu)
              have K1 := Lib.hid (cp_more hb K0.out)
              have L1 := Lib.hid (L0.out.keep hb)
              have IG := Lib.hid Iu
              have e5 := (box6 L1.out.o).2.2.2.2.2
              have lgx : xu12.heap.size < x.heap.size := lt_hp L1.out.o
              clear hb Iu gu
              go_wp2_with fail
              refine hK.out _ _ (cp_S K1.out RW.out hbW) (fun hHeld => ?_)
              clear hK K
              refine wpAnyH_ready (rs := [1, 8]) (by kernel_rfl) (by simp) ?_
              refine AllReadyH.cons (by rw [List.getElem?_toArray]; rfl) (fun K hK => ?_) (AllReadyH.cons (by rw [List.getElem?_toArray]; rfl) (fun K hK => ?_) AllReadyH.nil)
              · have hHid := Lib.hid hHeld
                clear hHeld
                go_simp
                refine hK.out _ _ hHid.out (fun hHeld => ?_)
                clear hK K hHid
                refine wpAnyH_ready (rs := [8]) (by kernel_rfl) (by simp) ?_
                refine AllReadyH.cons (by rw [List.getElem?_toArray]; rfl) (fun K hK => ?_) AllReadyH.nil
                clear hHeld
                go_simp
                refine hK.out _ _ (cp_S (cp_alloc K1.out _) RW.out hbW) (fun hHeld => ?_)
                clear hK K
                refine wpAnyH_ready (rs := [9]) (by kernel_rfl) (by simp) ?_
                refine AllReadyH.cons (by rw [List.getElem?_toArray]; rfl) (fun K hK => ?_) AllReadyH.nil
                clear hHeld
                refine step_append_lies _ (by rfl) _ _ _ (by rfl) W0.heap.size 22 i0 (.slice none 0 0) 1 24 Try.underlying23 hi hz0 hz1 hz2 rfl (by omega) cv k ws (by rfl) (L1.out.ow.alloc _) ⟨x.heap.size, 0, none⟩ 1 1 [.slice (some ⟨g, 0, none⟩) row.length kc] (by rfl) rfl (cell_one_new _ _ _) (by simp [Value.oneCell']) (by omega) (by unfold maxLen; omega) (by omega) (by have := K1.out.2.2.size; simp; omega) (x.heap.size + 1) (by simp) ?_
                intro g3 cap3 w3 hown3 hgrow3 hat3 hlt3
                have P := Lo.step L1.out (by rw [HG.out]; exact IG.out) GW.out (by rw [HG.out]) K1.out hbx hrb LG.out hown3 hgrow3
                have K2 := Lib.hid P.1.1
                have K3 := Lib.hid P.2.1
                have L3 := Lib.hid P.2.2
                have t5 := (box6 P.1.2).2.2.2.2.2
                have f5 := fr6 P.1.2 5
                clear P hown3 hgrow3 hat3
                simp only [Act.put, List.setIfInBounds_toArray, List.set_cons_zero, List.set_cons_succ]
                refine hK.out _ _ (cp_S K2.out RW.out hbW) (fun hHeld => ?_)
                clear hK K
                refine wpAnyH_take (i := 10) (v := ?vu15) (by rw [List.getElem?_toArray]; rfl) (by kernel_rfl) (by kernel_rfl) (by kernel_rfl) ?qu15 (Or.inl ⟨by rfl, ?yu15⟩) (by assumption) ?ru15
                case qu15 => exact fun _ _ _ h => h
                case yu15 => (intro wz hSw; go_simp; try (with_reducible rfl))
                simp only [Act.put, List.setIfInBounds_toArray, List.set_cons_zero, List.set_cons_succ]
                refine wpAnyH_ready (rs := [11]) (by kernel_rfl) (by simp) ?_
                refine AllReadyH.cons (by rw [List.getElem?_toArray]; rfl) (fun K hK => ?_) AllReadyH.nil
                clear hHeld
                go_simp
                refine hK.out _ _ (cp_S K3.out RW.out hbW) (fun hHeld => ?_)
                clear hK K t5 f5
                refine wpAnyH_done (by kernel_rfl) ?_ _
                clear hHeld
                go_wp2
                go_roundw
                case rel => exact ⟨k + 1, by omega, by go_num, K3, _, _, L3⟩
                case measure => simp [intOf]; omega
              · clear hHeld
                go_simp
                refine hK.out _ _ (cp_S (cp_alloc K1.out _) RW.out hbW) (fun hHeld => ?_)
                clear hK K
                refine wpAnyH_ready (rs := [1]) (by kernel_rfl) (by simp) ?_
                refine AllReadyH.cons (by rw [List.getElem?_toArray]; rfl) (fun K hK => ?_) AllReadyH.nil
                have hHid := Lib.hid hHeld
                clear hHeld
                go_simp
                refine hK.out _ _ hHid.out (fun hHeld => ?_)
                clear hK K hHid
                refine wpAnyH_ready (rs := [9]) (by kernel_rfl) (by simp) ?_
                refine AllReadyH.cons (by rw [List.getElem?_toArray]; rfl) (fun K hK => ?_) AllReadyH.nil
                clear hHeld
                refine step_append_lies _ (by rfl) _ _ _ (by rfl) W0.heap.size 22 i0 (.slice none 0 0) 1 24 Try.underlying23 hi hz0 hz1 hz2 rfl (by omega) cv k ws (by rfl) (L1.out.ow.alloc _) ⟨x.heap.size, 0, none⟩ 1 1 [.slice (some ⟨g, 0, none⟩) row.length kc] (by rfl) rfl (cell_one_new _ _ _) (by simp [Value.oneCell']) (by omega) (by unfold maxLen; omega) (by omega) (by have := K1.out.2.2.size; simp; omega) (x.heap.size + 1) (by simp) ?_
                intro g3 cap3 w3 hown3 hgrow3 hat3 hlt3
                have P := Lo.step L1.out (by rw [HG.out]; exact IG.out) GW.out (by rw [HG.out]) K1.out hbx hrb LG.out hown3 hgrow3
                have K2 := Lib.hid P.1.1
                have K3 := Lib.hid P.2.1
                have L3 := Lib.hid P.2.2
                have t5 := (box6 P.1.2).2.2.2.2.2
                have f5 := fr6 P.1.2 5
                clear P hown3 hgrow3 hat3
                simp only [Act.put, List.setIfInBounds_toArray, List.set_cons_zero, List.set_cons_succ]
                refine hK.out _ _ (cp_S K2.out RW.out hbW) (fun hHeld => ?_)
                clear hK K
                refine wpAnyH_take (i := 10) (v := ?vu16) (by rw [List.getElem?_toArray]; rfl) (by kernel_rfl) (by kernel_rfl) (by kernel_rfl) ?qu16 (Or.inl ⟨by rfl, ?yu16⟩) (by assumption) ?ru16
                case qu16 => exact fun _ _ _ h => h
                case yu16 => (intro wz hSw; go_simp; try (with_reducible rfl))
                simp only [Act.put, List.setIfInBounds_toArray, List.set_cons_zero, List.set_cons_succ]
                refine wpAnyH_ready (rs := [11]) (by kernel_rfl) (by simp) ?_
                refine AllReadyH.cons (by rw [List.getElem?_toArray]; rfl) (fun K hK => ?_) AllReadyH.nil
                clear hHeld
                go_simp
                refine hK.out _ _ (cp_S K3.out RW.out hbW) (fun hHeld => ?_)
                clear hK K t5 f5
                refine wpAnyH_done (by kernel_rfl) ?_ _
                clear hHeld
                go_wp2
                go_roundw
                case rel => exact ⟨k + 1, by omega, by go_num, K3, _, _, L3⟩
                case measure => simp [intOf]; omega
        · obtain rfl : k = cl.length := by omega
          obtain ⟨ca', nn', cc', hcv⟩ := own_slice L.out.ow
          subst hcv
          obtain ⟨d0, d1, d2, d3, d4, d5⟩ := box6 L.out.o
          obtain ⟨z0, z1, z2, z3, z4, z5⟩ := box6 Q.out.2.1
          have zf := fr6 Q.out.2.1
          have FN := Lib.hid (Lo.fin L.out Q.out HS3.out hrb LG.out BW.out hwrb)
          have hx : ((cl.length : Int) < (cn : Int) ∧ (cl.length : Int) = 30) ∨ ¬ (cl.length : Int) < (cn : Int) := by omega
          clear hcl hk hlt
          rcases hx with ⟨hx1, hx2⟩ | hx1
          · have hx3 : ¬ (cl.length : Int) < 30 := by omega
            clear hx2
            go_wp2
            refine bodyPost_ret (results_cell_row Try.results8 _ _ rb 25 _ (0, 0) _ rfl FN.out.1 Try.underlying25 rfl (by kernel_rfl)) rfl ?_; exact cp_post FN.out
          · go_wp2
            refine bodyPost_ret (results_cell_row Try.results8 _ _ rb 25 _ (0, 0) _ rfl FN.out.1 Try.underlying25 rfl (by kernel_rfl)) rfl ?_; exact cp_post FN.out
    · have hHid := Lib.hid hHeld
      clear hHeld
      go_simp
      refine hK.out _ _ (cp_alloc hHid.out _) (fun hHeld => ?_)
      clear hK K
      have PA := Lib.hid (heap_alloc_new xu11 (.cells #[.int .i64 0, .int .i64 0, .int .i64 0, .slice none 0 0, .slice none 0 0, .slice none 0 0] 25))
      have LG0 := hHid.out.2.2.size
      have LG : Hid (W0.heap.size ≤ xu11.heap.size) := LG0
      clear LG0
      have I1x := Lib.hid (I1.out.keep (bl_al (Below.refl _ _) (.cells #[.int .i64 0, .int .i64 0, .int .i64 0, .slice none 0 0, .slice none 0 0, .slice none 0 0] 25)))
      clear I1
      have I1 := I1x
      clear I1x
      clear hHid
      refine wpAnyH_ready (rs := [11]) (by kernel_rfl) (by simp) ?_
      refine AllReadyH.cons (by rw [List.getElem?_toArray]; rfl) (fun K hK => ?_) AllReadyH.nil
      have hHid := Lib.hid hHeld
      clear hHeld
      go_simp
      go_at_call 27; refine (cut_src (HS2.out.keep hHid.out.2.2)).mono ?_; rintro e xu23 ⟨g2, k2, rfl, hb, I2u, -⟩
      have I2 := Lib.hid I2u
      have hNew := Lib.hid (cp_more hb hHid.out)
      have I1x := Lib.hid (I1.out.keep hb)
      clear I1
      have I1 := I1x
      clear I1x
      have PAx := Lib.hid ((hb.block _ (lt_hp PA.out)).trans PA.out)
      clear PA
      have PA := PAx
      clear PAx
      clear hb hHid I2u
      go_wp2_with fail
      refine hK.out _ _ hNew.out (fun hHeld => ?_)
      clear hK K hNew
      refine wpAnyH_take (i := 12) (v := ?vu24) (by rw [List.getElem?_toArray]; rfl) (by kernel_rfl) (by kernel_rfl) (by kernel_rfl) ?qu24 (Or.inl ⟨by rfl, ?yu24⟩) (by assumption) ?ru24
      case qu24 => exact fun _ _ _ h => h
      case yu24 => (intro wz hSw; go_simp; try (with_reducible rfl))
      simp only [Act.put, List.setIfInBounds_toArray, List.set_cons_zero, List.set_cons_succ]
      refine wpAnyH_ready (rs := [14]) (by kernel_rfl) (by simp) ?_
      refine AllReadyH.cons (by rw [List.getElem?_toArray]; rfl) (fun K hK => ?_) AllReadyH.nil
      obtain ⟨z0, z1, z2, z3, z4, z5⟩ := box6 PA.out
      have zf := fr6 PA.out
      have hHid := Lib.hid hHeld
      clear hHeld
      go_simp
      refine hK.out _ _ (cp_store ⟨hHid.out, hbx, hrb⟩ LG.out (.int .i64 kd) (.int .i64 N) (.int .i64 C) (.slice (some ⟨g1, 0, none⟩) wl.length k1) (.slice (some ⟨g2, 0, none⟩) vl.length k2) (.slice none 0 0)) (fun hHeld => ?_)
      have T := Lib.hid (six PA.out (.int .i64 kd) (.int .i64 N) (.int .i64 C) (.slice (some ⟨g1, 0, none⟩) wl.length k1) (.slice (some ⟨g2, 0, none⟩) vl.length k2) (.slice none 0 0))
      have BT := Lib.hid (cp_store ⟨hHid.out, hbx, hrb⟩ LG.out (.int .i64 kd) (.int .i64 N) (.int .i64 C) (.slice (some ⟨g1, 0, none⟩) wl.length k1) (.slice (some ⟨g2, 0, none⟩) vl.length k2) (.slice none 0 0))
      have J1 := Lib.hid (I1.out.same (six_other (I1.out.ne PA.out (by decide)) (.int .i64 kd) (.int .i64 N) (.int .i64 C) (.slice (some ⟨g1, 0, none⟩) wl.length k1) (.slice (some ⟨g2, 0, none⟩) vl.length k2) (.slice none 0 0)))
      have J2 := Lib.hid (I2.out.same (six_other (I2.out.ne PA.out (by decide)) (.int .i64 kd) (.int .i64 N) (.int .i64 C) (.slice (some ⟨g1, 0, none⟩) wl.length k1) (.slice (some ⟨g2, 0, none⟩) vl.length k2) (.slice none 0 0)))
      clear hK K z0 z1 z2 z3 z4 z5 zf hHeld hHid PA I1 I2
      refine wpAnyH_done (by kernel_rfl) ?_ _
      go_wp2
      have LO : Hid (Lo kd N C wa va ca wn vn cn wc vc cc wl vl cl bx rb xu11.heap.size g1 g2 k1 k2 W0 (.slice none 0 0) [] 0 _) := { o := T.out, ow := World.ownsRow_nil _ _ _ _, ro := fun j hj => absurd hj (by omega), i1 := J1.out, i2 := J2.out }
      clear T J1 J2
      go_loopw [4] (fun i wr => ∃ k : Nat, k ≤ cl.length ∧ i = .int .i64 k ∧ Hid (wr.heap[bx]? = some (.cells #[.int .i64 kd, .int .i64 N, .int .i64 C, .slice wa wn wc, .slice va vn vc, .slice ca cn cc] 25 (0, 0)) ∧ wr.heap[rb]? = some (.cells #[.int .i64 0, .int .i64 0, .int .i64 0, .slice none 0 0, .slice none 0 0, .slice none 0 0] 25 (0, 0)) ∧ Below W0.heap.size W0 wr) ∧ ∃ cv ws, Hid (Lo kd N C wa va ca wn vn cn wc vc cc wl vl cl bx rb xu11.heap.size g1 g2 k1 k2 W0 cv ws k wr)) (fun i _ => cl.length - (intOf i).toNat)
      case atStart => exact ⟨0, by omega, rfl, BT, _, _, LO⟩
      case round =>
        clear BT LO
        obtain ⟨k, hk, rfl, Q, cv, ws, L⟩ := hrel
        have hcl := HS3.out.1
        obtain ⟨b0, b1, b2, b3, b4, b5⟩ := box6 Q.out.1
        by_cases hlt : k < cl.length
        · have hkn : k < cn := by omega
          have hk30 : (k : Int) < 30 := by omega
          have hkc : (0 : Int) ≤ (k : Int) ∧ (k : Int) < (cn : Int) := by omega
          obtain ⟨-, hnc, hc63, hs⟩ := HS3.out
          rcases hs with ⟨h0, _⟩ | ⟨b, o, rfl, hbW, hrows⟩
          · omega
          · obtain ⟨aj, nj, cj, hrow, hsrc⟩ := hrows k hlt
            clear hrows
            obtain ⟨row, hrw⟩ : ∃ r, cl[k]?.getD [] = r := ⟨_, rfl⟩
            have HG := Lib.hid hrw
            rw [hrw] at hsrc
            clear hrw hcl
            have SR := Lib.hid hsrc
            have RW := Lib.hid hrow
            have lgW : xu11.heap.size < wr.heap.size := lt_hp L.out.o
            obtain ⟨d0, d1, d2, d3, d4, d5⟩ := box6 L.out.o
            clear hsrc hrow
            have K0 := Lib.hid (cp_drew Q.out)
            have L0 := Lib.hid (L.out.keep (Below.refl _ _).drew)
            go_wp2
            refine wp_region_held_drew (S := fun w' => w'.cell? ⟨bx, 5, none⟩ = some (.slice (some ⟨b, o, none⟩) cn cc) ∧ w'.cell? ⟨b, o + k, none⟩ = some (.slice aj nj cj)) (by kernel_rfl) (cp_S K0.out RW.out hbW) (fun hHeld => ?_)
            refine wpAnyH_take (i := 0) (v := ?vu28) (by rw [List.getElem?_toArray]; rfl) (by kernel_rfl) (by kernel_rfl) (by kernel_rfl) ?qu28 (Or.inl ⟨by rfl, ?yu28⟩) (by assumption) ?ru28
            case qu28 => exact fun _ _ _ h => h
            case yu28 => (intro wz hSw; go_simp; try (with_reducible rfl))
            simp only [Act.put, List.setIfInBounds_toArray, List.set_cons_zero, List.set_cons_succ]
            refine wpAnyH_take (i := 2) (v := ?vu29) (by rw [List.getElem?_toArray]; rfl) (by kernel_rfl) (by kernel_rfl) (by kernel_rfl) ?qu29 (Or.inl ⟨by rfl, ?yu29⟩) (by assumption) ?ru29
            case qu29 => exact fun _ _ _ h => h
            case yu29 => (intro wz hSw; go_simp; try (with_reducible rfl))
            simp only [Act.put, List.setIfInBounds_toArray, List.set_cons_zero, List.set_cons_succ]
            refine wpAnyH_take (i := 3) (v := ?vu30) (by rw [List.getElem?_toArray]; rfl) (by kernel_rfl) (by kernel_rfl) (by kernel_rfl) ?qu30 (Or.inl ⟨by rfl, ?yu30⟩) (by assumption) ?ru30
            case qu30 => exact fun _ _ _ h => h
            case yu30 => (intro wz hSw; obtain ⟨q0, q1⟩ := hSw; go_simp; try (with_reducible rfl))
            simp only [Act.put, List.setIfInBounds_toArray, List.set_cons_zero, List.set_cons_succ]
            refine wpAnyH_take (i := 4) (v := ?vu31) (by rw [List.getElem?_toArray]; rfl) (by kernel_rfl) (by kernel_rfl) (by kernel_rfl) ?qu31 (Or.inl ⟨by rfl, ?yu31⟩) (by assumption) ?ru31
            case qu31 => exact fun _ _ _ h => h
            case yu31 => (intro wz hSw; go_simp; try (with_reducible rfl))
            simp only [Act.put, List.setIfInBounds_toArray, List.set_cons_zero, List.set_cons_succ]
            refine wpAnyH_take (i := 5) (v := ?vu32) (by rw [List.getElem?_toArray]; rfl) (by kernel_rfl) (by kernel_rfl) (by kernel_rfl) ?qu32 (Or.inl ⟨by rfl, ?yu32⟩) (by assumption) ?ru32
            case qu32 => exact fun _ _ _ h => h
            case yu32 => (intro wz hSw; go_simp; try (with_reducible rfl))
            simp only [Act.put, List.setIfInBounds_toArray, List.set_cons_zero, List.set_cons_succ]
            refine wpAnyH_take (i := 6) (v := ?vu33) (by rw [List.getElem?_toArray]; rfl) (by kernel_rfl) (by kernel_rfl) (by kernel_rfl) ?qu33 (Or.inl ⟨by rfl, ?yu33⟩) (by assumption) ?ru33
            case qu33 => exact fun _ _ _ h => h
            case yu33 => (intro wz hSw; obtain ⟨q0, q1⟩ := hSw; go_simp; try (with_reducible rfl))
            simp only [Act.put, List.setIfInBounds_toArray, List.set_cons_zero, List.set_cons_succ]
            refine wpAnyH_ready (rs := [1, 7]) (by kernel_rfl) (by simp) ?_
            refine AllReadyH.cons (by rw [List.getElem?_toArray]; rfl) (fun K hK => ?_) (AllReadyH.cons (by rw [List.getElem?_toArray]; rfl) (fun K hK => ?_) AllReadyH.nil)
            · have hHid := Lib.hid hHeld
              clear hHeld
              go_simp
              refine hK.out _ _ hHid.out (fun hHeld => ?_)
              clear hK K hHid
              refine wpAnyH_ready (rs := [7]) (by kernel_rfl) (by simp) ?_
              refine AllReadyH.cons (by rw [List.getElem?_toArray]; rfl) (fun K hK => ?_) AllReadyH.nil
              clear hHeld
              go_simp
              go_at_call 27; refine (cut_src (SR.out.keep K0.out.2.2)).mono ?_; rintro e x ⟨g, kc, rfl, hb, Iu, gu⟩
              have GW := Lib.hid (Nat.le_trans K0.out.2.2.size gu)
              have K1 := Lib.hid (cp_more hb K0.out)
              have L1 := Lib.hid (L0.out.keep hb)
              have IG := Lib.hid Iu
              have e5 := (box6 L1.out.o).2.2.2.2.2
              have lgx : xu11.heap.size < x.heap.size := lt_hp L1.out.o
              clear hb Iu gu
              go_wp2_with fail
              refine hK.out _ _ (cp_S K1.out RW.out hbW) (fun hHeld => ?_)
              clear hK K
              refine wpAnyH_ready (rs := [8]) (by kernel_rfl) (by simp) ?_
              refine AllReadyH.cons (by rw [List.getElem?_toArray]; rfl) (fun K hK => ?_) AllReadyH.nil
              clear hHeld
              go_simp
              refine hK.out _ _ (cp_S (cp_alloc K1.out _) RW.out hbW) (fun hHeld => ?_)
              clear hK K
              refine wpAnyH_ready (rs := [9]) (by kernel_rfl) (by simp) ?_
              refine AllReadyH.cons (by rw [List.getElem?_toArray]; rfl) (fun K hK => ?_) AllReadyH.nil
              clear hHeld
              refine step_append_lies _ (by rfl) _ _ _ (by rfl) W0.heap.size 22 i0 (.slice none 0 0) 1 24 Try.underlying23 hi hz0 hz1 hz2 rfl (by omega) cv k ws (by rfl) (L1.out.ow.alloc _) ⟨x.heap.size, 0, none⟩ 1 1 [.slice (some ⟨g, 0, none⟩) row.length kc] (by rfl) rfl (cell_one_new _ _ _) (by simp [Value.oneCell']) (by omega) (by unfold maxLen; omega) (by omega) (by have := K1.out.2.2.size; simp; omega) (x.heap.size + 1) (by simp) ?_
              intro g3 cap3 w3 hown3 hgrow3 hat3 hlt3
              have P := Lo.step L1.out (by rw [HG.out]; exact IG.out) GW.out (by rw [HG.out]) K1.out hbx hrb LG.out hown3 hgrow3
              have K2 := Lib.hid P.1.1
              have K3 := Lib.hid P.2.1
              have L3 := Lib.hid P.2.2
              have t5 := (box6 P.1.2).2.2.2.2.2
              have f5 := fr6 P.1.2 5
              clear P hown3 hgrow3 hat3
              simp only [Act.put, List.setIfInBounds_toArray, List.set_cons_zero, List.set_cons_succ]
              refine hK.out _ _ (cp_S K2.out RW.out hbW) (fun hHeld => ?_)
              clear hK K
              refine wpAnyH_take (i := 10) (v := ?vu25) (by rw [List.getElem?_toArray]; rfl) (by kernel_rfl) (by kernel_rfl) (by kernel_rfl) ?qu25 (Or.inl ⟨by rfl, ?yu25⟩) (by assumption) ?ru25
              case qu25 => exact fun _ _ _ h => h
              case yu25 => (intro wz hSw; go_simp; try (with_reducible rfl))
              simp only [Act.put, List.setIfInBounds_toArray, List.set_cons_zero, List.set_cons_succ]
              refine wpAnyH_ready (rs := [11]) (by kernel_rfl) (by simp) ?_
              refine AllReadyH.cons (by rw [List.getElem?_toArray]; rfl) (fun K hK => ?_) AllReadyH.nil
              clear hHeld
              go_simp
              refine hK.out _ _ (cp_S K3.out RW.out hbW) (fun hHeld => ?_)
              clear hK K t5 f5
              refine wpAnyH_done (by kernel_rfl) ?_ _
              clear hHeld
              go_wp2
              go_roundw
              case rel => exact ⟨k + 1, by omega, by go_num, K3, _, _, L3⟩
              case measure => simp [intOf]; omega
            · clear hHeld
              go_simp
              go_at_call 27; refine (cut_src (SR.out.keep K0.out.2.2)).mono ?_; rintro e x ⟨g, kc, rfl, hb, Iu, gu⟩
              have GW := Lib.hid (Nat.le_trans K0.out.2.2.size gu)
              have K1 := Lib.hid (cp_more hb K0.out)
              have L1 := Lib.hid (L0.out.keep hb)
              have IG := Lib.hid Iu
              have e5 := (box6 L1.out.o).2.2.2.2.2
              have lgx : xu11.heap.size < x.heap.size := lt_hp L1.out.o
              clear hb Iu gu
              go_wp2_with fail
              refine hK.out _ _ (cp_S K1.out RW.out hbW) (fun hHeld => ?_)
              clear hK K
              refine wpAnyH_ready (rs := [1, 8]) (by kernel_rfl) (by simp) ?_
              refine AllReadyH.cons (by rw [List.getElem?_toArray]; rfl) (fun K hK => ?_) (AllReadyH.cons (by rw [List.getElem?_toArray]; rfl) (fun K hK => ?_) AllReadyH.nil)
              · have hHid := Lib.hid hHeld
                clear hHeld
                go_simp
                refine hK.out _ _ hHid.out (fun hHeld => ?_)
                clear hK K hHid
                refine wpAnyH_ready (rs := [8]) (by kernel_rfl) (by simp) ?_
                refine AllReadyH.cons (by rw [List.getElem?_toArray]; rfl) (fun K hK => ?_) AllReadyH.nil
                clear hHeld
                go_simp
                refine hK.out _ _ (cp_S (cp_alloc K1.out _) RW.out hbW) (fun hHeld => ?_)
                clear hK K
                refine wpAnyH_ready (rs := [9]) (by kernel_rfl) (by simp) ?_
                refine AllReadyH.cons (by rw [List.getElem?_toArray]; rfl) (fun K hK => ?_) AllReadyH.nil
                clear hHeld
                refine step_append_lies _ (by rfl) _ _ _ (by rfl) W0.heap.size 22 i0 (.slice none 0 0) 1 24 Try.underlying23 hi hz0 hz1 hz2 rfl (by omega) cv k ws (by rfl) (L1.out.ow.alloc _) ⟨x.heap.size, 0, none⟩ 1 1 [.slice (some ⟨g, 0, none⟩) row.length kc] (by rfl) rfl (cell_one_new _ _ _) (by simp [Value.oneCell']) (by omega) (by unfold maxLen; omega) (by omega) (by have := K1.out.2.2.size; simp; omega) (x.heap.size + 1) (by simp) ?_
                intro g3 cap3 w3 hown3 hgrow3 hat3 hlt3
                have P := Lo.step L1.out (by rw [HG.out]; exact IG.out) GW.out (by rw [HG.out]) K1.out hbx hrb LG.out hown3 hgrow3
                have K2 := Lib.hid P.1.1
                have K3 := Lib.hid P.2.1
                have L3 := Lib.hid P.2.2
                have t5 := (box6 P.1.2).2.2.2.2.2
                have f5 := fr6 P.1.2 5
                clear P hown3 hgrow3 hat3
                simp only [Act.put, List.setIfInBounds_toArray, List.set_cons_zero, List.set_cons_succ]
                refine hK.out _ _ (cp_S K2.out RW.out hbW) (fun hHeld => ?_)
                clear hK K
                refine wpAnyH_take (i := 10) (v := ?vu26) (by rw [List.getElem?_toArray]; rfl) (by kernel_rfl) (by kernel_rfl) (by kernel_rfl) ?qu26 (Or.inl ⟨by rfl, ?yu26⟩) (by assumption) ?ru26
                case qu26 => exact fun _ _ _ h => h
                case yu26 => (intro wz hSw; go_simp; try (with_reducible rfl))
                simp only [Act.put, List.setIfInBounds_toArray, List.set_cons_zero, List.set_cons_succ]
                refine wpAnyH_ready (rs := [11]) (by kernel_rfl) (by simp) ?_
                refine AllReadyH.cons (by rw [List.getElem?_toArray]; rfl) (fun K hK => ?_) AllReadyH.nil
                clear hHeld
                go_simp
                refine hK.out _ _ (cp_S K3.out RW.out hbW) (fun hHeld => ?_)
                clear hK K t5 f5
                refine wpAnyH_done (by kernel_rfl) ?_ _
                clear hHeld
                go_wp2
                go_roundw
                case rel => exact ⟨k + 1, by omega, by go_num, K3, _, _, L3⟩
                case measure => simp [intOf]; omega
              · clear hHeld
                go_simp
                refine hK.out _ _ (cp_S (cp_alloc K1.out _) RW.out hbW) (fun hHeld => ?_)
                clear hK K
                refine wpAnyH_ready (rs := [1]) (by kernel_rfl) (by simp) ?_
                refine AllReadyH.cons (by rw [List.getElem?_toArray]; rfl) (fun K hK => ?_) AllReadyH.nil
                have hHid := Lib.hid hHeld
                clear hHeld
                go_simp
                refine hK.out _ _ hHid.out (fun hHeld => ?_)
                clear hK K hHid
                refine wpAnyH_ready (rs := [9]) (by kernel_rfl) (by simp) ?_
                refine AllReadyH.cons (by rw [List.getElem?_toArray]; rfl) (fun K hK => ?_) AllReadyH.nil
                clear hHeld
                refine step_append_lies _ (by rfl) _ _ _ (by rfl) W0.heap.size 22 i0 (.slice none 0 0) 1 24 Try.underlying23 hi hz0 hz1 hz2 rfl (by omega) cv k ws (by rfl) (L1.out.ow.alloc _) ⟨x.heap.size, 0, none⟩ 1 1 [.slice (some ⟨g, 0, none⟩) row.length kc] (by rfl) rfl (cell_one_new _ _ _) (by simp [Value.oneCell']) (by omega) (by unfold maxLen; omega) (by omega) (by have := K1.out.2.2.size; simp; omega) (x.heap.size + 1) (by simp) ?_
                intro g3 cap3 w3 hown3 hgrow3 hat3 hlt3
                have P := Lo.step L1.out (by rw [HG.out]; exact IG.out) GW.out (by rw [HG.out]) K1.out hbx hrb LG.out hown3 hgrow3
                have K2 := Lib.hid P.1.1
                have K3 := Lib.hid P.2.1
                have L3 := Lib.hid P.2.2
                have t5 := (box6 P.1.2).2.2.2.2.2
                have f5 := fr6 P.1.2 5
                clear P hown3 hgrow3 hat3
                simp only [Act.put, List.setIfInBounds_toArray, List.set_cons_zero, List.set_cons_succ]
                refine hK.out _ _ (cp_S K2.out RW.out hbW) (fun hHeld => ?_)
                clear hK K
                refine wpAnyH_take (i := 10) (v := ?vu27) (by rw [List.getElem?_toArray]; rfl) (by kernel_rfl) (by kernel_rfl) (by kernel_rfl) ?qu27 (Or.inl ⟨by rfl, ?yu27⟩) (by assumption) ?ru27
                case qu27 => exact fun _ _ _ h => h
                case yu27 => (intro wz hSw; go_simp; try (with_reducible rfl))
                simp only [Act.put, List.setIfInBounds_toArray, List.set_cons_zero, List.set_cons_succ]
                refine wpAnyH_ready (rs := [11]) (by kernel_rfl) (by simp) ?_
                refine AllReadyH.cons (by rw [List.getElem?_toArray]; rfl) (fun K hK => ?_) AllReadyH.nil
                clear hHeld
                go_simp
                refine hK.out _ _ (cp_S K3.out RW.out hbW) (fun hHeld => ?_)
                clear hK K t5 f5
                refine wpAnyH_done (by kernel_rfl) ?_ _
                clear hHeld
                go_wp2
                go_roundw
                case rel => exact ⟨k + 1, by omega, by go_num, K3, _, _, L3⟩
                case measure => simp [intOf]; omega
        · obtain rfl : k = cl.length := by omega
          obtain ⟨ca', nn', cc', hcv⟩ := own_slice L.out.ow
          subst hcv
          obtain ⟨d0, d1, d2, d3, d4, d5⟩ := box6 L.out.o
          obtain ⟨z0, z1, z2, z3, z4, z5⟩ := box6 Q.out.2.1
          have zf := fr6 Q.out.2.1
          have FN := Lib.hid (Lo.fin L.out Q.out HS3.out hrb LG.out BW.out hwrb)
          have hx : ((cl.length : Int) < (cn : Int) ∧ (cl.length : Int) = 30) ∨ ¬ (cl.length : Int) < (cn : Int) := by omega
          clear hcl hk hlt
          rcases hx with ⟨hx1, hx2⟩ | hx1
          · have hx3 : ¬ (cl.length : Int) < 30 := by omega
            clear hx2
            go_wp2
            refine bodyPost_ret (results_cell_row Try.results8 _ _ rb 25 _ (0, 0) _ rfl FN.out.1 Try.underlying25 rfl (by kernel_rfl)) rfl ?_; exact cp_post FN.out
          · go_wp2
            refine bodyPost_ret (results_cell_row Try.results8 _ _ rb 25 _ (0, 0) _ rfl FN.out.1 Try.underlying25 rfl (by kernel_rfl)) rfl ?_; exact cp_post FN.out
  · have hHid := Lib.hid hHeld
    clear hHeld
    go_simp
    refine hK.out _ _ (cp_alloc hHid.out _) (fun hHeld => ?_)
    clear hK K
    have PA := Lib.hid (heap_alloc_new W0 (.cells #[.int .i64 0, .int .i64 0, .int .i64 0, .slice none 0 0, .slice none 0 0, .slice none 0 0] 25))
    have LG0 := hHid.out.2.2.size
    have LG : Hid (W0.heap.size ≤ W0.heap.size) := LG0
    clear LG0
    clear hHid
    refine wpAnyH_ready (rs := [8]) (by kernel_rfl) (by simp) ?_
    refine AllReadyH.cons (by rw [List.getElem?_toArray]; rfl) (fun K hK => ?_) AllReadyH.nil
    have hHid := Lib.hid hHeld
    clear hHeld
    go_simp
    go_at_call 27; refine (cut_src (HS1.out.keep hHid.out.2.2)).mono ?_; rintro e xu34 ⟨g1, k1, rfl, hb, I1u, -⟩
    have I1 := Lib.hid I1u
    have hNew := Lib.hid (cp_more hb hHid.out)
    have PAx := Lib.hid ((hb.block _ (lt_hp PA.out)).trans PA.out)
    clear PA
    have PA := PAx
    clear PAx
    clear hb hHid I1u
    go_wp2_with fail
    refine hK.out _ _ hNew.out (fun hHeld => ?_)
    clear hK K hNew
    refine wpAnyH_ready (rs := [11]) (by kernel_rfl) (by simp) ?_
    refine AllReadyH.cons (by rw [List.getElem?_toArray]; rfl) (fun K hK => ?_) AllReadyH.nil
    have hHid := Lib.hid hHeld
    clear hHeld
    go_simp
    go_at_call 27; refine (cut_src (HS2.out.keep hHid.out.2.2)).mono ?_; rintro e xu35 ⟨g2, k2, rfl, hb, I2u, -⟩
    have I2 := Lib.hid I2u
    have hNew := Lib.hid (cp_more hb hHid.out)
    have PAx := Lib.hid ((hb.block _ (lt_hp PA.out)).trans PA.out)
    clear PA
    have PA := PAx
    clear PAx
    have I1x := Lib.hid (I1.out.keep hb)
    clear I1
    have I1 := I1x
    clear I1x
    clear hb hHid I2u
    go_wp2_with fail
    refine hK.out _ _ hNew.out (fun hHeld => ?_)
    clear hK K hNew
    refine wpAnyH_take (i := 12) (v := ?vu36) (by rw [List.getElem?_toArray]; rfl) (by kernel_rfl) (by kernel_rfl) (by kernel_rfl) ?qu36 (Or.inl ⟨by rfl, ?yu36⟩) (by assumption) ?ru36
    case qu36 => exact fun _ _ _ h => h
    case yu36 => (intro wz hSw; go_simp; try (with_reducible rfl))
    simp only [Act.put, List.setIfInBounds_toArray, List.set_cons_zero, List.set_cons_succ]
    refine wpAnyH_ready (rs := [14]) (by kernel_rfl) (by simp) ?_
    refine AllReadyH.cons (by rw [List.getElem?_toArray]; rfl) (fun K hK => ?_) AllReadyH.nil
    obtain ⟨z0, z1, z2, z3, z4, z5⟩ := box6 PA.out
    have zf := fr6 PA.out
    have hHid := Lib.hid hHeld
    clear hHeld
    go_simp
    refine hK.out _ _ (cp_store ⟨hHid.out, hbx, hrb⟩ LG.out (.int .i64 kd) (.int .i64 N) (.int .i64 C) (.slice (some ⟨g1, 0, none⟩) wl.length k1) (.slice (some ⟨g2, 0, none⟩) vl.length k2) (.slice none 0 0)) (fun hHeld => ?_)
    have T := Lib.hid (six PA.out (.int .i64 kd) (.int .i64 N) (.int .i64 C) (.slice (some ⟨g1, 0, none⟩) wl.length k1) (.slice (some ⟨g2, 0, none⟩) vl.length k2) (.slice none 0 0))
    have BT := Lib.hid (cp_store ⟨hHid.out, hbx, hrb⟩ LG.out (.int .i64 kd) (.int .i64 N) (.int .i64 C) (.slice (some ⟨g1, 0, none⟩) wl.length k1) (.slice (some ⟨g2, 0, none⟩) vl.length k2) (.slice none 0 0))
    have J1 := Lib.hid (I1.out.same (six_other (I1.out.ne PA.out (by decide)) (.int .i64 kd) (.int .i64 N) (.int .i64 C) (.slice (some ⟨g1, 0, none⟩) wl.length k1) (.slice (some ⟨g2, 0, none⟩) vl.length k2) (.slice none 0 0)))
    have J2 := Lib.hid (I2.out.same (six_other (I2.out.ne PA.out (by decide)) (.int .i64 kd) (.int .i64 N) (.int .i64 C) (.slice (some ⟨g1, 0, none⟩) wl.length k1) (.slice (some ⟨g2, 0, none⟩) vl.length k2) (.slice none 0 0)))
    clear hK K z0 z1 z2 z3 z4 z5 zf hHeld hHid PA I1 I2
    refine wpAnyH_done (by kernel_rfl) ?_ _
    go_wp2
    have LO : Hid (Lo kd N C wa va ca wn vn cn wc vc cc wl vl cl bx rb W0.heap.size g1 g2 k1 k2 W0 (.slice none 0 0) [] 0 _) := { o := T.out, ow := World.ownsRow_nil _ _ _ _, ro := fun j hj => absurd hj (by omega), i1 := J1.out, i2 := J2.out }
    clear T J1 J2
    go_loopw [4] (fun i wr => ∃ k : Nat, k ≤ cl.length ∧ i = .int .i64 k ∧ Hid (wr.heap[bx]? = some (.cells #[.int .i64 kd, .int .i64 N, .int .i64 C, .slice wa wn wc, .slice va vn vc, .slice ca cn cc] 25 (0, 0)) ∧ wr.heap[rb]? = some (.cells #[.int .i64 0, .int .i64 0, .int .i64 0, .slice none 0 0, .slice none 0 0, .slice none 0 0] 25 (0, 0)) ∧ Below W0.heap.size W0 wr) ∧ ∃ cv ws, Hid (Lo kd N C wa va ca wn vn cn wc vc cc wl vl cl bx rb W0.heap.size g1 g2 k1 k2 W0 cv ws k wr)) (fun i _ => cl.length - (intOf i).toNat)
    case atStart => exact ⟨0, by omega, rfl, BT, _, _, LO⟩
    case round =>
      clear BT LO
      obtain ⟨k, hk, rfl, Q, cv, ws, L⟩ := hrel
      have hcl := HS3.out.1
      obtain ⟨b0, b1, b2, b3, b4, b5⟩ := box6 Q.out.1
      by_cases hlt : k < cl.length
      · have hkn : k < cn := by omega
        have hk30 : (k : Int) < 30 := by omega
        have hkc : (0 : Int) ≤ (k : Int) ∧ (k : Int) < (cn : Int) := by omega
        obtain ⟨-, hnc, hc63, hs⟩ := HS3.out
        rcases hs with ⟨h0, _⟩ | ⟨b, o, rfl, hbW, hrows⟩
        · omega
        · obtain ⟨aj, nj, cj, hrow, hsrc⟩ := hrows k hlt
          clear hrows
          obtain ⟨row, hrw⟩ : ∃ r, cl[k]?.getD [] = r := ⟨_, rfl⟩
          have HG := Lib.hid hrw
          rw [hrw] at hsrc
          clear hrw hcl
          have SR := Lib.hid hsrc
          have RW := Lib.hid hrow
          have lgW : W0.heap.size < wr.heap.size := lt_hp L.out.o
          obtain ⟨d0, d1, d2, d3, d4, d5⟩ := box6 L.out.o
          clear hsrc hrow
          have K0 := Lib.hid (cp_drew Q.out)
          have L0 := Lib.hid (L.out.keep (Below.refl _ _).drew)
          go_wp2
          refine wp_region_held_drew (S := fun w' => w'.cell? ⟨bx, 5, none⟩ = some (.slice (some ⟨b, o, none⟩) cn cc) ∧ w'.cell? ⟨b, o + k, none⟩ = some (.slice aj nj cj)) (by kernel_rfl) (cp_S K0.out RW.out hbW) (fun hHeld => ?_)
          refine wpAnyH_take (i := 0) (v := ?vu40) (by rw [List.getElem?_toArray]; rfl) (by kernel_rfl) (by kernel_rfl) (by kernel_rfl) ?qu40 (Or.inl ⟨by rfl, ?yu40⟩) (by assumption) ?ru40
          case qu40 => exact fun _ _ _ h => h
          case yu40 => (intro wz hSw; go_simp; try (with_reducible rfl))
          simp only [Act.put, List.setIfInBounds_toArray, List.set_cons_zero, List.set_cons_succ]
          refine wpAnyH_take (i := 2) (v := ?vu41) (by rw [List.getElem?_toArray]; rfl) (by kernel_rfl) (by kernel_rfl) (by kernel_rfl) ?qu41 (Or.inl ⟨by rfl, ?yu41⟩) (by assumption) ?ru41
          case qu41 => exact fun _ _ _ h => h
          case yu41 => (intro wz hSw; go_simp; try (with_reducible rfl))
          simp only [Act.put, List.setIfInBounds_toArray, List.set_cons_zero, List.set_cons_succ]
          refine wpAnyH_take (i := 3) (v := ?vu42) (by rw [List.getElem?_toArray]; rfl) (by kernel_rfl) (by kernel_rfl) (by kernel_rfl) ?qu42 (Or.inl ⟨by rfl, ?yu42⟩) (by assumption) ?ru42
          case qu42 => exact fun _ _ _ h => h
          case yu42 => (intro wz hSw; obtain ⟨q0, q1⟩ := hSw; go_simp; try (with_reducible rfl))
          simp only [Act.put, List.setIfInBounds_toArray, List.set_cons_zero, List.set_cons_succ]
          refine wpAnyH_take (i := 4) (v := ?vu43) (by rw [List.getElem?_toArray]; rfl) (by kernel_rfl) (by kernel_rfl) (by kernel_rfl) ?qu43 (Or.inl ⟨by rfl, ?yu43⟩) (by assumption) ?ru43
          case qu43 => exact fun _ _ _ h => h
          case yu43 => (intro wz hSw; go_simp; try (with_reducible rfl))
          simp only [Act.put, List.setIfInBounds_toArray, List.set_cons_zero, List.set_cons_succ]
          refine wpAnyH_take (i := 5) (v := ?vu44) (by rw [List.getElem?_toArray]; rfl) (by kernel_rfl) (by kernel_rfl) (by kernel_rfl) ?qu44 (Or.inl ⟨by rfl, ?yu44⟩) (by assumption) ?ru44
          case qu44 => exact fun _ _ _ h => h
          case yu44 => (intro wz hSw; go_simp; try (with_reducible rfl))
          simp only [Act.put, List.setIfInBounds_toArray, List.set_cons_zero, List.set_cons_succ]
          refine wpAnyH_take (i := 6) (v := ?vu45) (by rw [List.getElem?_toArray]; rfl) (by kernel_rfl) (by kernel_rfl) (by kernel_rfl) ?qu45 (Or.inl ⟨by rfl, ?yu45⟩) (by assumption) ?ru45
          case qu45 => exact fun _ _ _ h => h
          case yu45 => (intro wz hSw; obtain ⟨q0, q1⟩ := hSw; go_simp; try (with_reducible rfl))
          simp only [Act.put, List.setIfInBounds_toArray, List.set_cons_zero, List.set_cons_succ]
          refine wpAnyH_ready (rs := [1, 7]) (by kernel_rfl) (by simp) ?_
          refine AllReadyH.cons (by rw [List.getElem?_toArray]; rfl) (fun K hK => ?_) (AllReadyH.cons (by rw [List.getElem?_toArray]; rfl) (fun K hK => ?_) AllReadyH.nil)
          · have hHid := Lib.hid hHeld
            clear hHeld
            go_simp
            refine hK.out _ _ hHid.out (fun hHeld => ?_)
            clear hK K hHid
            refine wpAnyH_ready (rs := [7]) (by kernel_rfl) (by simp) ?_
            refine AllReadyH.cons (by rw [List.getElem?_toArray]; rfl) (fun K hK => ?_) AllReadyH.nil
            clear hHeld
            go_simp
            go_at_call 27; refine (cut_src (SR.out.keep K0.out.2.2)).mono ?_; rintro e x ⟨g, kc, rfl, hb, Iu, gu⟩
            have GW := Lib.hid (Nat.le_trans K0.out.2.2.size gu)
            have K1 := Lib.hid (cp_more hb K0.out)
            have L1 := Lib.hid (L0.out.keep hb)
            have IG := Lib.hid Iu
            have e5 := (box6 L1.out.o).2.2.2.2.2
            have lgx : W0.heap.size < x.heap.size := lt_hp L1.out.o
            clear hb Iu gu
            go_wp2_with fail
            refine hK.out _ _ (cp_S K1.out RW.out hbW) (fun hHeld => ?_)
            clear hK K
            refine wpAnyH_ready (rs := [8]) (by kernel_rfl) (by simp) ?_
            refine AllReadyH.cons (by rw [List.getElem?_toArray]; rfl) (fun K hK => ?_) AllReadyH.nil
            clear hHeld
            go_simp
            refine hK.out _ _ (cp_S (cp_alloc K1.out _) RW.out hbW) (fun hHeld => ?_)
            clear hK K
            refine wpAnyH_ready (rs := [9]) (by kernel_rfl) (by simp) ?_
            refine AllReadyH.cons (by rw [List.getElem?_toArray]; rfl) (fun K hK => ?_) AllReadyH.nil
            clear hHeld
            refine step_append_lies _ (by rfl) _ _ _ (by rfl) W0.heap.size 22 i0 (.slice none 0 0) 1 24 Try.underlying23 hi hz0 hz1 hz2 rfl (by omega) cv k ws (by rfl) (L1.out.ow.alloc _) ⟨x.heap.size, 0, none⟩ 1 1 [.slice (some ⟨g, 0, none⟩) row.length kc] (by rfl) rfl (cell_one_new _ _ _) (by simp [Value.oneCell']) (by omega) (by unfold maxLen; omega) (by omega) (by have := K1.out.2.2.size; simp; omega) (x.heap.size + 1) (by simp) ?_
            intro g3 cap3 w3 hown3 hgrow3 hat3 hlt3
            have P := Lo.step L1.out (by rw [HG.out]; exact IG.out) GW.out (by rw [HG.out]) K1.out hbx hrb LG.out hown3 hgrow3
            have K2 := Lib.hid P.1.1
            have K3 := Lib.hid P.2.1
            have L3 := Lib.hid P.2.2
            have t5 := (box6 P.1.2).2.2.2.2.2
            have f5 := fr6 P.1.2 5
            clear P hown3 hgrow3 hat3
            simp only [Act.put, List.setIfInBounds_toArray, List.set_cons_zero, List.set_cons_succ]
            refine hK.out _ _ (cp_S K2.out RW.out hbW) (fun hHeld => ?_)
            clear hK K
            refine wpAnyH_take (i := 10) (v := ?vu37) (by rw [List.getElem?_toArray]; rfl) (by kernel_rfl) (by kernel_rfl) (by kernel_rfl) ?qu37 (Or.inl ⟨by rfl, ?yu37⟩) (by assumption) ?ru37
            case qu37 => exact fun _ _ _ h => h
            case yu37 => (intro wz hSw; go_simp; try (with_reducible rfl))
            simp only [Act.put, List.setIfInBounds_toArray, List.set_cons_zero, List.set_cons_succ]
            refine wpAnyH_ready (rs := [11]) (by kernel_rfl) (by simp) ?_
            refine AllReadyH.cons (by rw [List.getElem?_toArray]; rfl) (fun K hK => ?_) AllReadyH.nil
            clear hHeld
            go_simp
            refine hK.out _ _ (cp_S K3.out RW.out hbW) (fun hHeld => ?_)
            clear hK K t5 f5
            refine wpAnyH_done (by kernel_rfl) ?_ _
            clear hHeld
            go_wp2
            go_roundw
            case rel => exact ⟨k + 1, by omega, by go_num, K3, _, _, L3⟩
            case measure => simp [intOf]; omega
          · clear hHeld
            go_simp
            go_at_call 27; refine (cut_src (SR.out.keep K0.out.2.2)).mono ?_; rintro e x ⟨g, kc, rfl, hb, Iu, gu⟩
            have GW := Lib.hid (Nat.le_trans K0.out.2.2.size gu)
            have K1 := Lib.hid (cp_more hb K0.out)
            have L1 := Lib.hid (L0.out.keep hb)
            have IG := Lib.hid Iu
            have e5 := (box6 L1.out.o).2.2.2.2.2
            have lgx : W0.heap.size < x.heap.size := lt_hp L1.out.o
            clear hb Iu gu
            go_wp2_with fail
            refine hK.out _ _ (cp_S K1.out RW.out hbW) (fun hHeld => ?_)
            clear hK K
            refine wpAnyH_ready (rs := [1, 8]) (by kernel_rfl) (by simp) ?_
            refine AllReadyH.cons (by rw [List.getElem?_toArray]; rfl) (fun K hK => ?_) (AllReadyH.cons (by rw [List.getElem?_toArray]; rfl) (fun K hK => ?_) AllReadyH.nil)
            · have hHid := Lib.hid hHeld
              clear hHeld
              go_simp
              refine hK.out _ _ hHid.out (fun hHeld => ?_)
              clear hK K hHid
              refine wpAnyH_ready (rs := [8]) (by kernel_rfl) (by simp) ?_
              refine AllReadyH.cons (by rw [List.getElem?_toArray]; rfl) (fun K hK => ?_) AllReadyH.nil
              clear hHeld
              go_simp
              refine hK.out _ _ (cp_S (cp_alloc K1.out _) RW.out hbW) (fun hHeld => ?_)
              clear hK K
              refine wpAnyH_ready (rs := [9]) (by kernel_rfl) (by simp) ?_
              refine AllReadyH.cons (by rw [List.getElem?_toArray]; rfl) (fun K hK => ?_) AllReadyH.nil
              clear hHeld
              refine step_append_lies _ (by rfl) _ _ _ (by rfl) W0.heap.size 22 i0 (.slice none 0 0) 1 24 Try.underlying23 hi hz0 hz1 hz2 rfl (by omega) cv k ws (by rfl) (L1.out.ow.alloc _) ⟨x.heap.size, 0, none⟩ 1 1 [.slice (some ⟨g, 0, none⟩) row.length kc] (by rfl) rfl (cell_one_new _ _ _) (by simp [Value.oneCell']) (by omega) (by unfold maxLen; omega) (by omega) (by have := K1.out.2.2.size; simp; omega) (x.heap.size + 1) (by simp) ?_
              intro g3 cap3 w3 hown3 hgrow3 hat3 hlt3
              have P := Lo.step L1.out (by rw [HG.out]; exact IG.out) GW.out (by rw [HG.out]) K1.out hbx hrb LG.out hown3 hgrow3
              have K2 := Lib.hid P.1.1
              have K3 := Lib.hid P.2.1
              have L3 := Lib.hid P.2.2
              have t5 := (box6 P.1.2).2.2.2.2.2
              have f5 := fr6 P.1.2 5
              clear P hown3 hgrow3 hat3
              simp only [Act.put, List.setIfInBounds_toArray, List.set_cons_zero, List.set_cons_succ]
              refine hK.out _ _ (cp_S K2.out RW.out hbW) (fun hHeld => ?_)
              clear hK K
              refine wpAnyH_take (i := 10) (v := ?vu38) (by rw [List.getElem?_toArray]; rfl) (by kernel_rfl) (by kernel_rfl) (by kernel_rfl) ?qu38 (Or.inl ⟨by rfl, ?yu38⟩) (by assumption) ?ru38
              case qu38 => exact fun _ _ _ h => h
              case yu38 => (intro wz hSw; go_simp; try (with_reducible rfl))
              simp only [Act.put, List.setIfInBounds_toArray, List.set_cons_zero, List.set_cons_succ]
              refine wpAnyH_ready (rs := [11]) (by kernel_rfl) (by simp) ?_
              refine AllReadyH.cons (by rw [List.getElem?_toArray]; rfl) (fun K hK => ?_) AllReadyH.nil
              clear hHeld
              go_simp
              refine hK.out _ _ (cp_S K3.out RW.out hbW) (fun hHeld => ?_)
              clear hK K t5 f5
              refine wpAnyH_done (by kernel_rfl) ?_ _
              clear hHeld
              go_wp2
              go_roundw
              case rel => exact ⟨k + 1, by omega, by go_num, K3, _, _, L3⟩
              case measure => simp [intOf]; omega
            · clear hHeld
              go_simp
              refine hK.out _ _ (cp_S (cp_alloc K1.out _) RW.out hbW) (fun hHeld => ?_)
              clear hK K
              refine wpAnyH_ready (rs := [1]) (by kernel_rfl) (by simp) ?_
              refine AllReadyH.cons (by rw [List.getElem?_toArray]; rfl) (fun K hK => ?_) AllReadyH.nil
              have hHid := Lib.hid hHeld
              clear hHeld
              go_simp
              refine hK.out _ _ hHid.out (fun hHeld => ?_)
              clear hK K hHid
              refine wpAnyH_ready (rs := [9]) (by kernel_rfl) (by simp) ?_
              refine AllReadyH.cons (by rw [List.getElem?_toArray]; rfl) (fun K hK => ?_) AllReadyH.nil
              clear hHeld
              refine step_append_lies _ (by rfl) _ _ _ (by rfl) W0.heap.size 22 i0 (.slice none 0 0) 1 24 Try.underlying23 hi hz0 hz1 hz2 rfl (by omega) cv k ws (by rfl) (L1.out.ow.alloc _) ⟨x.heap.size, 0, none⟩ 1 1 [.slice (some ⟨g, 0, none⟩) row.length kc] (by rfl) rfl (cell_one_new _ _ _) (by simp [Value.oneCell']) (by omega) (by unfold maxLen; omega) (by omega) (by have := K1.out.2.2.size; simp; omega) (x.heap.size + 1) (by simp) ?_
              intro g3 cap3 w3 hown3 hgrow3 hat3 hlt3
              have P := Lo.step L1.out (by rw [HG.out]; exact IG.out) GW.out (by rw [HG.out]) K1.out hbx hrb LG.out hown3 hgrow3
              have K2 := Lib.hid P.1.1
              have K3 := Lib.hid P.2.1
              have L3 := Lib.hid P.2.2
              have t5 := (box6 P.1.2).2.2.2.2.2
              have f5 := fr6 P.1.2 5
              clear P hown3 hgrow3 hat3
              simp only [Act.put, List.setIfInBounds_toArray, List.set_cons_zero, List.set_cons_succ]
              refine hK.out _ _ (cp_S K2.out RW.out hbW) (fun hHeld => ?_)
              clear hK K
              refine wpAnyH_take (i := 10) (v := ?vu39) (by rw [List.getElem?_toArray]; rfl) (by kernel_rfl) (by kernel_rfl) (by kernel_rfl) ?qu39 (Or.inl ⟨by rfl, ?yu39⟩) (by assumption) ?ru39
              case qu39 => exact fun _ _ _ h => h
              case yu39 => (intro wz hSw; go_simp; try (with_reducible rfl))
              simp only [Act.put, List.setIfInBounds_toArray, List.set_cons_zero, List.set_cons_succ]
              refine wpAnyH_ready (rs := [11]) (by kernel_rfl) (by simp) ?_
              refine AllReadyH.cons (by rw [List.getElem?_toArray]; rfl) (fun K hK => ?_) AllReadyH.nil
              clear hHeld
              go_simp
              refine hK.out _ _ (cp_S K3.out RW.out hbW) (fun hHeld => ?_)
              clear hK K t5 f5
              refine wpAnyH_done (by kernel_rfl) ?_ _
              clear hHeld
              go_wp2
              go_roundw
              case rel => exact ⟨k + 1, by omega, by go_num, K3, _, _, L3⟩
              case measure => simp [intOf]; omega
      · obtain rfl : k = cl.length := by omega
        obtain ⟨ca', nn', cc', hcv⟩ := own_slice L.out.ow
        subst hcv
        obtain ⟨d0, d1, d2, d3, d4, d5⟩ := box6 L.out.o
        obtain ⟨z0, z1, z2, z3, z4, z5⟩ := box6 Q.out.2.1
        have zf := fr6 Q.out.2.1
        have FN := Lib.hid (Lo.fin L.out Q.out HS3.out hrb LG.out BW.out hwrb)
        have hx : ((cl.length : Int) < (cn : Int) ∧ (cl.length : Int) = 30) ∨ ¬ (cl.length : Int) < (cn : Int) := by omega
        clear hcl hk hlt
        rcases hx with ⟨hx1, hx2⟩ | hx1
        · have hx3 : ¬ (cl.length : Int) < 30 := by omega
          clear hx2
          go_wp2
          refine bodyPost_ret (results_cell_row Try.results8 _ _ rb 25 _ (0, 0) _ rfl FN.out.1 Try.underlying25 rfl (by kernel_rfl)) rfl ?_; exact cp_post FN.out
        · go_wp2
          refine bodyPost_ret (results_cell_row Try.results8 _ _ rb 25 _ (0, 0) _ rfl FN.out.1 Try.underlying25 rfl (by kernel_rfl)) rfl ?_; exact cp_post FN.out
end Go.Proofs.Yteoionlnnjcggaa
