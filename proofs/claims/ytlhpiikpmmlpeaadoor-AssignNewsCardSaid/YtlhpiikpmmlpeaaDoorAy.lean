/-
  assign: AssignNews, walked.
-/
import Derived.Test.YtlhpiikpmmlpeaaDoorAx
import Derived.Deep.RegionHeld3
namespace Go.Proofs.YtlhpiikpmmlpeaaDoor
open Go.RowKit
set_option linter.unusedVariables false
set_option linter.unusedSimpArgs false
set_option maxRecDepth 100000 in
set_option maxHeartbeats 16000000 in
theorem news_walk (kd N C : Int) (wl vl : List Int) (cl : List (List Int)) (wa va ca : Option Addr) (wn vn cn wc vc cc : Nat) (w : World) (hT : st.T64 w) (h1 : Src w wa wn wc wl) (h2 : Src w va vn vc vl) (h3 : RSrc w ca cn cc cl) :
    Calls Tryd.prog 3 #[.agg #[.int .i64 kd, .int .i64 N, .int .i64 C, .slice wa wn wc, .slice va vn vc, .slice ca cn cc]] w fun e w' => e = .returned (.bool true) ∧ Below w.heap.size w w' := by
  have bA : Below w.heap.size w (w.alloc (.cells #[.int .i64 kd, .int .i64 N, .int .i64 C, .slice wa wn wc, .slice va vn vc, .slice ca cn cc] 25)) := bl_al (Below.refl _ _) _
  have HC := Lib.hid (refcopy_any kd N C wl vl cl wa va ca wn vn cn wc vc cc _ (h1.keep bA) (h2.keep bA) (h3.keep bA))
  have HB := Lib.hid bA
  have l1 : wl.length ≤ 1000 := by have := h1.1; omega
  have l2 : vl.length ≤ 1000 := by have := h2.1; omega
  have l3 : cl.length ≤ 1000 := by have := h3.1; omega
  have HT := Lib.hid hT
  have NN := Lib.hid (fun W => none_any W)
  have KN0 := Lib.hid (fun W => kids_nil W)
  have BN0 := Lib.hid (fun W => bound_nil W)
  have AN0 := Lib.hid (fun W => answer_nil W)
  have DN0 := Lib.hid (fun W => depth_nil W)
  clear h1 h2 h3 bA hT
  go_enter Tryd.func3, Tryd.ntmps3
  go_wp2_with fail
  refine HC.out.mono ?_; rintro e w1 ⟨g1, k1, g2, k2, ca', cc', rfl, hb, i1, i2, rw, -⟩
  have q0 : w1.heap[w.heap.size]? = some (.cells #[.int .i64 kd, .int .i64 N, .int .i64 C, .slice wa wn wc, .slice va vn vc, .slice ca cn cc] 25 (0, 0)) := (hb.block _ (by simp)).trans (heap_alloc_new w _)
  have P := put_copy (K := kd) (N := N) (C := C) (k1 := k1) (k2 := k2) (cc := cc') (Nat.le_refl _) q0 (bl_tr HB.out hb) i1 i2 rw l1 l2 l3 _ rfl
  have HP := Lib.hid P
  obtain ⟨c0, c1, c2, c3, c4, c5⟩ := box6 q0
  have cf := fr6 q0
  clear hb i1 i2 rw q0 HC HB P
  have HRf := Lib.hid (fun W (h : Prob W wl vl cl (some ⟨g1, 0, none⟩) (some ⟨g2, 0, none⟩) ca') => ref_any kd N C wl vl cl _ _ _ k1 k2 cc' W h)
  have HNw := Lib.hid (fun W (h : Prob W wl vl cl (some ⟨g1, 0, none⟩) (some ⟨g2, 0, none⟩) ca') => new_any kd N C wl vl cl _ _ _ k1 k2 cc' W h)
  go_wp2_with fail
  clear c0 c1 c2 c3 c4 c5 cf
  generalize ((((((w1.setCell ⟨w.heap.size, 0, none⟩ (.int .i64 kd)).setCell ⟨w.heap.size, 1, none⟩ (.int .i64 N)).setCell ⟨w.heap.size, 2, none⟩ (.int .i64 C)).setCell ⟨w.heap.size, 3, none⟩ (.slice (some ⟨g1, 0, none⟩) wl.length k1)).setCell ⟨w.heap.size, 4, none⟩ (.slice (some ⟨g2, 0, none⟩) vl.length k2)).setCell ⟨w.heap.size, 5, none⟩ (.slice ca' cl.length cc')) = X at *
  refine (HNw.out X HP.out.2.1).mono ?_; rintro e w3 hq
  have AS := Lib.hid (fun (W : World) (hb : Below w3.heap.size w3 W) (hw : Below w.heap.size w w3) => assigns_any W (HT.out.keep (bl_tr hw hb)))
  unfold NaP at hq
  obtain ⟨ch, hch⟩ : ∃ ch, ch = chk kd N C wl vl cl := ⟨_, rfl⟩
  rw [← hch] at hq HRf
  clear hch
  rcases hq with ⟨hz, rfl, hb3⟩ | ⟨rfl, hK, rfl, hb3⟩ | ⟨rfl, rfl, p, n, hNn, hln, rfl, hb3, hk⟩
  · have HP3 := Lib.hid (And.intro ((hb3.block _ (lt_hp HP.out.1)).trans HP.out.1) (show Prob w3 wl vl cl (some ⟨g1, 0, none⟩) (some ⟨g2, 0, none⟩) ca' from ⟨HP.out.2.1.1.keep hb3, HP.out.2.1.2.1.keep hb3, HP.out.2.1.2.2.1.keep hb3, l1, l2, l3⟩))
    have B3 := Lib.hid (bl_tr HP.out.2.2 hb3)
    obtain ⟨c0, c1, c2, c3, c4, c5⟩ := box6 HP3.out.1
    have b1 : (ch == 0) = false := by simpa using hz
    have b2 : (ch != 0) = true := by simpa using hz
    have b3 : (ch == ch) = true := by simp
    clear hb3 HNw
    go_wp2_with fail
    refine (NN.out _).mono ?_; rintro e w4 ⟨rfl, rfl⟩
    go_wp2_with fail
    refine (KN0.out _).mono ?_; rintro e w4 ⟨rfl, b4⟩
    have E4 := Lib.hid b4
    clear b4
    go_wp2_with fail
    refine (NN.out _).mono ?_; rintro e w5 ⟨rfl, rfl⟩
    go_wp2_with fail
    refine (BN0.out _).mono ?_; rintro e w5 ⟨rfl, b5⟩
    have E5 := Lib.hid (bl_tr E4.out b5)
    clear b5
    go_wp2_with fail
    refine (NN.out _).mono ?_; rintro e w6 ⟨rfl, rfl⟩
    go_wp2_with fail
    refine (AN0.out _).mono ?_; rintro e w6 ⟨rfl, b6⟩
    have E6 := Lib.hid (bl_tr E5.out b6)
    clear b6
    clear c0 c1 c2 c3 c4 c5
    obtain ⟨c0, c1, c2, c3, c4, c5⟩ := box6 ((E6.out.block _ (lt_hp HP3.out.1)).trans HP3.out.1)
    go_wp2_with fail
    refine (HRf.out _ (HP3.out.2.keep E6.out)).mono ?_; rintro e w7 ⟨rfl, hb7⟩
    have E7 := Lib.hid (bl_tr E6.out hb7)
    have FX := Lib.hid (fun Y (hb : Below w7.heap.size w7 Y) => box6 (((bl_tr E7.out hb).block _ (lt_hp HP3.out.1)).trans HP3.out.1))
    clear c0 c1 c2 c3 c4 c5 hb7
    obtain ⟨c0, c1, c2, c3, c4, c5⟩ := FX.out w7 (Below.refl _ _)
    go_upto_region 9 with fail
    have s0 := FX.out w7 (Below.refl _ _)
    have AS7 := Lib.hid (AS.out w7.drew (bl_tr E7.out (od.bl_drew w7)) B3.out)
    have AS6 := Lib.hid (AS.out w7 E7.out B3.out)
    refine wp_region_held_drew (S := fun _ => True) (by kernel_rfl) trivial (fun hHeld => ?_)
    have BY := Lib.hid (od.bl_drew w7)
    generalize World.drew _ = Y at *
    refine wpAnyH_ready (rs := [0]) (by kernel_rfl) (by simp) ?_
    refine AllReadyH.cons (by rw [List.getElem?_toArray]; rfl) (fun Kq hKq => ?_) AllReadyH.nil
    clear hHeld
    go_simp
    go_at_call 20; refine AS7.out.mono ?_; rintro e w8 ⟨rfl, hb8⟩; have D7 := Lib.hid (bl_tr BY.out hb8); clear hb8
    go_wp2_with fail
    refine hKq.out _ _ trivial (fun hHeld => ?_)
    clear hKq Kq
    try simp only [Act.put, List.setIfInBounds_toArray, List.set_cons_zero, List.set_cons_succ]
    refine wpAnyH_take (i := 1) (v := ?vz1) (by rw [List.getElem?_toArray]; rfl) (by kernel_rfl) (by kernel_rfl) (by kernel_rfl) ?kz1 (Or.inl ⟨by rfl, ?yz1⟩) hHeld ?rz1
    case kz1 => exact fun _ _ _ h => h
    case yz1 => (intro wz hSw; go_simp; try (with_reducible rfl))
    try simp only [Act.put, List.setIfInBounds_toArray, List.set_cons_zero, List.set_cons_succ]
    refine wpAnyH_take (i := 2) (v := ?vz2) (by rw [List.getElem?_toArray]; rfl) (by kernel_rfl) (by kernel_rfl) (by kernel_rfl) ?kz2 (Or.inl ⟨by rfl, ?yz2⟩) hHeld ?rz2
    case kz2 => exact fun _ _ _ h => h
    case yz2 => (intro wz hSw; go_simp; try (with_reducible rfl))
    try simp only [Act.put, List.setIfInBounds_toArray, List.set_cons_zero, List.set_cons_succ]
    refine wpAnyH_take (i := 3) (v := ?vz3) (by rw [List.getElem?_toArray]; rfl) (by kernel_rfl) (by kernel_rfl) (by kernel_rfl) ?kz3 (Or.inl ⟨by rfl, ?yz3⟩) hHeld ?rz3
    case kz3 => exact fun _ _ _ h => h
    case yz3 => (intro wz hSw; go_simp; try (with_reducible rfl))
    try simp only [Act.put, List.setIfInBounds_toArray, List.set_cons_zero, List.set_cons_succ]
    refine wpAnyH_take (i := 4) (v := ?vz4) (by rw [List.getElem?_toArray]; rfl) (by kernel_rfl) (by kernel_rfl) (by kernel_rfl) ?kz4 (Or.inl ⟨by rfl, ?yz4⟩) hHeld ?rz4
    case kz4 => exact fun _ _ _ h => h
    case yz4 => (intro wz hSw; go_simp; try (with_reducible rfl))
    try simp only [Act.put, List.setIfInBounds_toArray, List.set_cons_zero, List.set_cons_succ]
    refine wpAnyH_take (i := 5) (v := ?vz5) (by rw [List.getElem?_toArray]; rfl) (by kernel_rfl) (by kernel_rfl) (by kernel_rfl) ?kz5 (Or.inl ⟨by rfl, ?yz5⟩) hHeld ?rz5
    case kz5 => exact fun _ _ _ h => h
    case yz5 => (intro wz hSw; go_simp; try (with_reducible rfl))
    try simp only [Act.put, List.setIfInBounds_toArray, List.set_cons_zero, List.set_cons_succ]
    refine wpAnyH_take (i := 6) (v := ?vz6) (by rw [List.getElem?_toArray]; rfl) (by kernel_rfl) (by kernel_rfl) (by kernel_rfl) ?kz6 (Or.inl ⟨by rfl, ?yz6⟩) hHeld ?rz6
    case kz6 => exact fun _ _ _ h => h
    case yz6 => (intro wz hSw; go_simp; try (with_reducible rfl))
    try simp only [Act.put, List.setIfInBounds_toArray, List.set_cons_zero, List.set_cons_succ]
    refine wpAnyH_take (i := 7) (v := ?vz7) (by rw [List.getElem?_toArray]; rfl) (by kernel_rfl) (by kernel_rfl) (by kernel_rfl) ?kz7 (Or.inl ⟨by rfl, ?yz7⟩) hHeld ?rz7
    case kz7 => exact fun _ _ _ h => h
    case yz7 => (intro wz hSw; go_simp; try (with_reducible rfl))
    try simp only [Act.put, List.setIfInBounds_toArray, List.set_cons_zero, List.set_cons_succ]
    refine wpAnyH_take (i := 8) (v := ?vz8) (by rw [List.getElem?_toArray]; rfl) (by kernel_rfl) (by kernel_rfl) (by kernel_rfl) ?kz8 (Or.inl ⟨by rfl, ?yz8⟩) hHeld ?rz8
    case kz8 => exact fun _ _ _ h => h
    case yz8 => (intro wz hSw; go_simp; try (with_reducible rfl))
    try simp only [Act.put, List.setIfInBounds_toArray, List.set_cons_zero, List.set_cons_succ]
    refine wpAnyH_take (i := 9) (v := ?vz9) (by rw [List.getElem?_toArray]; rfl) (by kernel_rfl) (by kernel_rfl) (by kernel_rfl) ?kz9 (Or.inl ⟨by rfl, ?yz9⟩) hHeld ?rz9
    case kz9 => exact fun _ _ _ h => h
    case yz9 => (intro wz hSw; go_simp; try (with_reducible rfl))
    try simp only [Act.put, List.setIfInBounds_toArray, List.set_cons_zero, List.set_cons_succ]
    refine wpAnyH_take (i := 10) (v := ?vz10) (by rw [List.getElem?_toArray]; rfl) (by kernel_rfl) (by kernel_rfl) (by kernel_rfl) ?kz10 (Or.inl ⟨by rfl, ?yz10⟩) hHeld ?rz10
    case kz10 => exact fun _ _ _ h => h
    case yz10 => (intro wz hSw; go_simp; try (with_reducible rfl))
    try simp only [Act.put, List.setIfInBounds_toArray, List.set_cons_zero, List.set_cons_succ]
    refine wpAnyH_take (i := 11) (v := ?vz11) (by rw [List.getElem?_toArray]; rfl) (by kernel_rfl) (by kernel_rfl) (by kernel_rfl) ?kz11 (Or.inl ⟨by rfl, ?yz11⟩) hHeld ?rz11
    case kz11 => exact fun _ _ _ h => h
    case yz11 => (intro wz hSw; go_simp; try (with_reducible rfl))
    try simp only [Act.put, List.setIfInBounds_toArray, List.set_cons_zero, List.set_cons_succ]
    refine wpAnyH_take (i := 12) (v := ?vz12) (by rw [List.getElem?_toArray]; rfl) (by kernel_rfl) (by kernel_rfl) (by kernel_rfl) ?kz12 (Or.inl ⟨by rfl, ?yz12⟩) hHeld ?rz12
    case kz12 => exact fun _ _ _ h => h
    case yz12 => (intro wz hSw; go_simp; try (with_reducible rfl))
    try simp only [Act.put, List.setIfInBounds_toArray, List.set_cons_zero, List.set_cons_succ]
    refine wpAnyH_take (i := 13) (v := ?vz13) (by rw [List.getElem?_toArray]; rfl) (by kernel_rfl) (by kernel_rfl) (by kernel_rfl) ?kz13 (Or.inl ⟨by rfl, ?yz13⟩) hHeld ?rz13
    case kz13 => exact fun _ _ _ h => h
    case yz13 => (intro wz hSw; go_simp; try (with_reducible rfl))
    try simp only [Act.put, List.setIfInBounds_toArray, List.set_cons_zero, List.set_cons_succ]
    refine wpAnyH_take (i := 14) (v := ?vz14) (by rw [List.getElem?_toArray]; rfl) (by kernel_rfl) (by kernel_rfl) (by kernel_rfl) ?kz14 (Or.inl ⟨by rfl, ?yz14⟩) hHeld ?rz14
    case kz14 => exact fun _ _ _ h => h
    case yz14 => (intro wz hSw; go_simp; try (with_reducible rfl))
    try simp only [Act.put, List.setIfInBounds_toArray, List.set_cons_zero, List.set_cons_succ]
    refine wpAnyH_take (i := 15) (v := ?vz15) (by rw [List.getElem?_toArray]; rfl) (by kernel_rfl) (by kernel_rfl) (by kernel_rfl) ?kz15 (Or.inl ⟨by rfl, ?yz15⟩) hHeld ?rz15
    case kz15 => exact fun _ _ _ h => h
    case yz15 => (intro wz hSw; go_simp; try (with_reducible rfl))
    try simp only [Act.put, List.setIfInBounds_toArray, List.set_cons_zero, List.set_cons_succ]
    refine wpAnyH_take (i := 16) (v := ?vz16) (by rw [List.getElem?_toArray]; rfl) (by kernel_rfl) (by kernel_rfl) (by kernel_rfl) ?kz16 (Or.inl ⟨by rfl, ?yz16⟩) hHeld ?rz16
    case kz16 => exact fun _ _ _ h => h
    case yz16 => (intro wz hSw; go_simp; try (with_reducible rfl))
    try simp only [Act.put, List.setIfInBounds_toArray, List.set_cons_zero, List.set_cons_succ]
    refine wpAnyH_take (i := 17) (v := ?vz17) (by rw [List.getElem?_toArray]; rfl) (by kernel_rfl) (by kernel_rfl) (by kernel_rfl) ?kz17 (Or.inl ⟨by rfl, ?yz17⟩) hHeld ?rz17
    case kz17 => exact fun _ _ _ h => h
    case yz17 => (intro wz hSw; go_simp; try (with_reducible rfl))
    try simp only [Act.put, List.setIfInBounds_toArray, List.set_cons_zero, List.set_cons_succ]
    refine wpAnyH_take (i := 18) (v := ?vz18) (by rw [List.getElem?_toArray]; rfl) (by kernel_rfl) (by kernel_rfl) (by kernel_rfl) ?kz18 (Or.inl ⟨by rfl, ?yz18⟩) hHeld ?rz18
    case kz18 => exact fun _ _ _ h => h
    case yz18 => (intro wz hSw; go_simp; try (with_reducible rfl))
    try simp only [Act.put, List.setIfInBounds_toArray, List.set_cons_zero, List.set_cons_succ]
    refine wpAnyH_take (i := 19) (v := ?vz19) (by rw [List.getElem?_toArray]; rfl) (by kernel_rfl) (by kernel_rfl) (by kernel_rfl) ?kz19 (Or.inl ⟨by rfl, ?yz19⟩) hHeld ?rz19
    case kz19 => exact fun _ _ _ h => h
    case yz19 => (intro wz hSw; go_simp; try (with_reducible rfl))
    try simp only [Act.put, List.setIfInBounds_toArray, List.set_cons_zero, List.set_cons_succ]
    refine wpAnyH_take (i := 20) (v := ?vz20) (by rw [List.getElem?_toArray]; rfl) (by kernel_rfl) (by kernel_rfl) (by kernel_rfl) ?kz20 (Or.inl ⟨by rfl, ?yz20⟩) hHeld ?rz20
    case kz20 => exact fun _ _ _ h => h
    case yz20 => (intro wz hSw; go_simp; try (with_reducible rfl))
    try simp only [Act.put, List.setIfInBounds_toArray, List.set_cons_zero, List.set_cons_succ]
    refine wpAnyH_take (i := 21) (v := ?vz21) (by rw [List.getElem?_toArray]; rfl) (by kernel_rfl) (by kernel_rfl) (by kernel_rfl) ?kz21 (Or.inl ⟨by rfl, ?yz21⟩) hHeld ?rz21
    case kz21 => exact fun _ _ _ h => h
    case yz21 => (intro wz hSw; go_simp; try (with_reducible rfl))
    try simp only [Act.put, List.setIfInBounds_toArray, List.set_cons_zero, List.set_cons_succ]
    refine wpAnyH_take (i := 22) (v := ?vz22) (by rw [List.getElem?_toArray]; rfl) (by kernel_rfl) (by kernel_rfl) (by kernel_rfl) ?kz22 (Or.inl ⟨by rfl, ?yz22⟩) hHeld ?rz22
    case kz22 => exact fun _ _ _ h => h
    case yz22 => (intro wz hSw; go_simp; try (with_reducible rfl))
    try simp only [Act.put, List.setIfInBounds_toArray, List.set_cons_zero, List.set_cons_succ]
    refine wpAnyH_take (i := 23) (v := ?vz23) (by rw [List.getElem?_toArray]; rfl) (by kernel_rfl) (by kernel_rfl) (by kernel_rfl) ?kz23 (Or.inl ⟨by rfl, ?yz23⟩) hHeld ?rz23
    case kz23 => exact fun _ _ _ h => h
    case yz23 => (intro wz hSw; go_simp; try (with_reducible rfl))
    try simp only [Act.put, List.setIfInBounds_toArray, List.set_cons_zero, List.set_cons_succ]
    refine wpAnyH_take (i := 24) (v := ?vz24) (by rw [List.getElem?_toArray]; rfl) (by kernel_rfl) (by kernel_rfl) (by kernel_rfl) ?kz24 (Or.inl ⟨by rfl, ?yz24⟩) hHeld ?rz24
    case kz24 => exact fun _ _ _ h => h
    case yz24 => (intro wz hSw; go_simp; try (with_reducible rfl))
    try simp only [Act.put, List.setIfInBounds_toArray, List.set_cons_zero, List.set_cons_succ]
    refine wpAnyH_take (i := 25) (v := ?vz25) (by rw [List.getElem?_toArray]; rfl) (by kernel_rfl) (by kernel_rfl) (by kernel_rfl) ?kz25 (Or.inl ⟨by rfl, ?yz25⟩) hHeld ?rz25
    case kz25 => exact fun _ _ _ h => h
    case yz25 => (intro wz hSw; go_simp; try (with_reducible rfl))
    try simp only [Act.put, List.setIfInBounds_toArray, List.set_cons_zero, List.set_cons_succ]
    refine wpAnyH_ready (rs := [26]) (by kernel_rfl) (by simp) ?_
    refine AllReadyH.cons (by rw [List.getElem?_toArray]; rfl) (fun Kq hKq => ?_) AllReadyH.nil
    clear hHeld
    go_simp
    go_at_call 15; refine (NN.out _).mono ?_; rintro e w9 ⟨rfl, rfl⟩
    go_wp2_with fail
    refine hKq.out _ _ trivial (fun hHeld => ?_)
    clear hKq Kq
    try simp only [Act.put, List.setIfInBounds_toArray, List.set_cons_zero, List.set_cons_succ]
    refine wpAnyH_ready (rs := [27]) (by kernel_rfl) (by simp) ?_
    refine AllReadyH.cons (by rw [List.getElem?_toArray]; rfl) (fun Kq hKq => ?_) AllReadyH.nil
    clear hHeld
    go_simp
    go_at_call 21; refine (DN0.out _).mono ?_; rintro e w9 ⟨rfl, rfl⟩
    go_wp2_with fail
    refine hKq.out _ _ trivial (fun hHeld => ?_)
    clear hKq Kq
    try simp only [Act.put, List.setIfInBounds_toArray, List.set_cons_zero, List.set_cons_succ]
    refine wpAnyH_take (i := 28) (v := ?vz26) (by rw [List.getElem?_toArray]; rfl) (by kernel_rfl) (by kernel_rfl) (by kernel_rfl) ?kz26 (Or.inl ⟨by rfl, ?yz26⟩) hHeld ?rz26
    case kz26 => exact fun _ _ _ h => h
    case yz26 => (intro wz hSw; go_simp; try (with_reducible rfl))
    try simp only [Act.put, List.setIfInBounds_toArray, List.set_cons_zero, List.set_cons_succ]
    refine wpAnyH_take (i := 29) (v := ?vz27) (by rw [List.getElem?_toArray]; rfl) (by kernel_rfl) (by kernel_rfl) (by kernel_rfl) ?kz27 (Or.inl ⟨by rfl, ?yz27⟩) hHeld ?rz27
    case kz27 => exact fun _ _ _ h => h
    case yz27 => (intro wz hSw; go_simp; try (with_reducible rfl))
    try simp only [Act.put, List.setIfInBounds_toArray, List.set_cons_zero, List.set_cons_succ]
    refine wpAnyH_take (i := 30) (v := ?vz28) (by rw [List.getElem?_toArray]; rfl) (by kernel_rfl) (by kernel_rfl) (by kernel_rfl) ?kz28 (Or.inl ⟨by rfl, ?yz28⟩) hHeld ?rz28
    case kz28 => exact fun _ _ _ h => h
    case yz28 => (intro wz hSw; go_simp; try (with_reducible rfl))
    try simp only [Act.put, List.setIfInBounds_toArray, List.set_cons_zero, List.set_cons_succ]
    refine wpAnyH_take (i := 31) (v := ?vz29) (by rw [List.getElem?_toArray]; rfl) (by kernel_rfl) (by kernel_rfl) (by kernel_rfl) ?kz29 (Or.inl ⟨by rfl, ?yz29⟩) hHeld ?rz29
    case kz29 => exact fun _ _ _ h => h
    case yz29 => (intro wz hSw; go_simp; try (with_reducible rfl))
    try simp only [Act.put, List.setIfInBounds_toArray, List.set_cons_zero, List.set_cons_succ]
    refine wpAnyH_take (i := 32) (v := ?vz30) (by rw [List.getElem?_toArray]; rfl) (by kernel_rfl) (by kernel_rfl) (by kernel_rfl) ?kz30 (Or.inl ⟨by rfl, ?yz30⟩) hHeld ?rz30
    case kz30 => exact fun _ _ _ h => h
    case yz30 => (intro wz hSw; go_simp; try (with_reducible rfl))
    try simp only [Act.put, List.setIfInBounds_toArray, List.set_cons_zero, List.set_cons_succ]
    refine wpAnyH_take (i := 33) (v := ?vz31) (by rw [List.getElem?_toArray]; rfl) (by kernel_rfl) (by kernel_rfl) (by kernel_rfl) ?kz31 (Or.inl ⟨by rfl, ?yz31⟩) hHeld ?rz31
    case kz31 => exact fun _ _ _ h => h
    case yz31 => (intro wz hSw; go_simp; try (with_reducible rfl))
    try simp only [Act.put, List.setIfInBounds_toArray, List.set_cons_zero, List.set_cons_succ]
    refine wpAnyH_take (i := 34) (v := undef) (by rw [List.getElem?_toArray]; rfl) (by kernel_rfl) (by kernel_rfl) (by kernel_rfl) ?kz32 (Or.inr ⟨by rfl, rfl⟩) hHeld ?rz32
    case kz32 => exact fun _ _ _ h => h
    try simp only [Act.put, List.setIfInBounds_toArray, List.set_cons_zero, List.set_cons_succ]
    refine wpAnyH_take (i := 35) (v := undef) (by rw [List.getElem?_toArray]; rfl) (by kernel_rfl) (by kernel_rfl) (by kernel_rfl) ?kz33 (Or.inr ⟨by rfl, rfl⟩) hHeld ?rz33
    case kz33 => exact fun _ _ _ h => h
    try simp only [Act.put, List.setIfInBounds_toArray, List.set_cons_zero, List.set_cons_succ]
    refine wpAnyH_take (i := 36) (v := undef) (by rw [List.getElem?_toArray]; rfl) (by kernel_rfl) (by kernel_rfl) (by kernel_rfl) ?kz34 (Or.inr ⟨by rfl, rfl⟩) hHeld ?rz34
    case kz34 => exact fun _ _ _ h => h
    try simp only [Act.put, List.setIfInBounds_toArray, List.set_cons_zero, List.set_cons_succ]
    refine wpAnyH_take (i := 37) (v := undef) (by rw [List.getElem?_toArray]; rfl) (by kernel_rfl) (by kernel_rfl) (by kernel_rfl) ?kz35 (Or.inr ⟨by rfl, rfl⟩) hHeld ?rz35
    case kz35 => exact fun _ _ _ h => h
    try simp only [Act.put, List.setIfInBounds_toArray, List.set_cons_zero, List.set_cons_succ]
    refine wpAnyH_take (i := 38) (v := undef) (by rw [List.getElem?_toArray]; rfl) (by kernel_rfl) (by kernel_rfl) (by kernel_rfl) ?kz36 (Or.inr ⟨by rfl, rfl⟩) hHeld ?rz36
    case kz36 => exact fun _ _ _ h => h
    try simp only [Act.put, List.setIfInBounds_toArray, List.set_cons_zero, List.set_cons_succ]
    refine wpAnyH_take (i := 39) (v := ?vz37) (by rw [List.getElem?_toArray]; rfl) (by kernel_rfl) (by kernel_rfl) (by kernel_rfl) ?kz37 (Or.inl ⟨by rfl, ?yz37⟩) hHeld ?rz37
    case kz37 => exact fun _ _ _ h => h
    case yz37 => (intro wz hSw; go_simp; try (with_reducible rfl))
    try simp only [Act.put, List.setIfInBounds_toArray, List.set_cons_zero, List.set_cons_succ]
    refine wpAnyH_take (i := 40) (v := ?vz38) (by rw [List.getElem?_toArray]; rfl) (by kernel_rfl) (by kernel_rfl) (by kernel_rfl) ?kz38 (Or.inl ⟨by rfl, ?yz38⟩) hHeld ?rz38
    case kz38 => exact fun _ _ _ h => h
    case yz38 => (intro wz hSw; go_simp; try (with_reducible rfl))
    try simp only [Act.put, List.setIfInBounds_toArray, List.set_cons_zero, List.set_cons_succ]
    refine wpAnyH_take (i := 41) (v := ?vz39) (by rw [List.getElem?_toArray]; rfl) (by kernel_rfl) (by kernel_rfl) (by kernel_rfl) ?kz39 (Or.inl ⟨by rfl, ?yz39⟩) hHeld ?rz39
    case kz39 => exact fun _ _ _ h => h
    case yz39 => (intro wz hSw; go_simp; try (with_reducible rfl))
    try simp only [Act.put, List.setIfInBounds_toArray, List.set_cons_zero, List.set_cons_succ]
    refine wpAnyH_done (by kernel_rfl) ?_ _
    have BF := Lib.hid (bl_tr B3.out (bl_tr E7.out D7.out))
    go_wp2
    go_ret
    exact ⟨rfl, BF.out⟩
  · have HP3 := Lib.hid (And.intro ((hb3.block _ (lt_hp HP.out.1)).trans HP.out.1) (show Prob w3 wl vl cl (some ⟨g1, 0, none⟩) (some ⟨g2, 0, none⟩) ca' from ⟨HP.out.2.1.1.keep hb3, HP.out.2.1.2.1.keep hb3, HP.out.2.1.2.2.1.keep hb3, l1, l2, l3⟩))
    have B3 := Lib.hid (bl_tr HP.out.2.2 hb3)
    obtain ⟨c0, c1, c2, c3, c4, c5⟩ := box6 HP3.out.1
    have b2 : (kd != 2) = true := by simpa using hK
    clear hb3 HNw
    go_wp2_with fail
    refine (NN.out _).mono ?_; rintro e w4 ⟨rfl, rfl⟩
    go_wp2_with fail
    refine (KN0.out _).mono ?_; rintro e w4 ⟨rfl, b4⟩
    have E4 := Lib.hid b4
    clear b4
    go_wp2_with fail
    refine (NN.out _).mono ?_; rintro e w5 ⟨rfl, rfl⟩
    go_wp2_with fail
    refine (BN0.out _).mono ?_; rintro e w5 ⟨rfl, b5⟩
    have E5 := Lib.hid (bl_tr E4.out b5)
    clear b5
    go_wp2_with fail
    refine (NN.out _).mono ?_; rintro e w6 ⟨rfl, rfl⟩
    go_wp2_with fail
    refine (AN0.out _).mono ?_; rintro e w6 ⟨rfl, b6⟩
    have E6 := Lib.hid (bl_tr E5.out b6)
    clear b6
    clear c0 c1 c2 c3 c4 c5
    obtain ⟨c0, c1, c2, c3, c4, c5⟩ := box6 ((E6.out.block _ (lt_hp HP3.out.1)).trans HP3.out.1)
    go_wp2_with fail
    refine (HRf.out _ (HP3.out.2.keep E6.out)).mono ?_; rintro e w7 ⟨rfl, hb7⟩
    have E7 := Lib.hid (bl_tr E6.out hb7)
    have FX := Lib.hid (fun Y (hb : Below w7.heap.size w7 Y) => box6 (((bl_tr E7.out hb).block _ (lt_hp HP3.out.1)).trans HP3.out.1))
    clear c0 c1 c2 c3 c4 c5 hb7
    obtain ⟨c0, c1, c2, c3, c4, c5⟩ := FX.out w7 (Below.refl _ _)
    go_upto_region 9 with fail
    have s0 := FX.out w7 (Below.refl _ _)
    have AS7 := Lib.hid (AS.out w7.drew (bl_tr E7.out (od.bl_drew w7)) B3.out)
    have AS6 := Lib.hid (AS.out w7 E7.out B3.out)
    refine wp_region_held_drew (S := fun _ => True) (by kernel_rfl) trivial (fun hHeld => ?_)
    have BY := Lib.hid (od.bl_drew w7)
    generalize World.drew _ = Y at *
    refine wpAnyH_ready (rs := [0]) (by kernel_rfl) (by simp) ?_
    refine AllReadyH.cons (by rw [List.getElem?_toArray]; rfl) (fun Kq hKq => ?_) AllReadyH.nil
    clear hHeld
    go_simp
    go_at_call 20; refine AS7.out.mono ?_; rintro e w8 ⟨rfl, hb8⟩; have D7 := Lib.hid (bl_tr BY.out hb8); clear hb8
    go_wp2_with fail
    refine hKq.out _ _ trivial (fun hHeld => ?_)
    clear hKq Kq
    try simp only [Act.put, List.setIfInBounds_toArray, List.set_cons_zero, List.set_cons_succ]
    refine wpAnyH_take (i := 1) (v := ?vz40) (by rw [List.getElem?_toArray]; rfl) (by kernel_rfl) (by kernel_rfl) (by kernel_rfl) ?kz40 (Or.inl ⟨by rfl, ?yz40⟩) hHeld ?rz40
    case kz40 => exact fun _ _ _ h => h
    case yz40 => (intro wz hSw; go_simp; try (with_reducible rfl))
    try simp only [Act.put, List.setIfInBounds_toArray, List.set_cons_zero, List.set_cons_succ]
    refine wpAnyH_take (i := 2) (v := ?vz41) (by rw [List.getElem?_toArray]; rfl) (by kernel_rfl) (by kernel_rfl) (by kernel_rfl) ?kz41 (Or.inl ⟨by rfl, ?yz41⟩) hHeld ?rz41
    case kz41 => exact fun _ _ _ h => h
    case yz41 => (intro wz hSw; go_simp; try (with_reducible rfl))
    try simp only [Act.put, List.setIfInBounds_toArray, List.set_cons_zero, List.set_cons_succ]
    refine wpAnyH_take (i := 3) (v := ?vz42) (by rw [List.getElem?_toArray]; rfl) (by kernel_rfl) (by kernel_rfl) (by kernel_rfl) ?kz42 (Or.inl ⟨by rfl, ?yz42⟩) hHeld ?rz42
    case kz42 => exact fun _ _ _ h => h
    case yz42 => (intro wz hSw; go_simp; try (with_reducible rfl))
    try simp only [Act.put, List.setIfInBounds_toArray, List.set_cons_zero, List.set_cons_succ]
    refine wpAnyH_take (i := 4) (v := ?vz43) (by rw [List.getElem?_toArray]; rfl) (by kernel_rfl) (by kernel_rfl) (by kernel_rfl) ?kz43 (Or.inl ⟨by rfl, ?yz43⟩) hHeld ?rz43
    case kz43 => exact fun _ _ _ h => h
    case yz43 => (intro wz hSw; go_simp; try (with_reducible rfl))
    try simp only [Act.put, List.setIfInBounds_toArray, List.set_cons_zero, List.set_cons_succ]
    refine wpAnyH_take (i := 5) (v := ?vz44) (by rw [List.getElem?_toArray]; rfl) (by kernel_rfl) (by kernel_rfl) (by kernel_rfl) ?kz44 (Or.inl ⟨by rfl, ?yz44⟩) hHeld ?rz44
    case kz44 => exact fun _ _ _ h => h
    case yz44 => (intro wz hSw; go_simp; try (with_reducible rfl))
    try simp only [Act.put, List.setIfInBounds_toArray, List.set_cons_zero, List.set_cons_succ]
    refine wpAnyH_take (i := 6) (v := ?vz45) (by rw [List.getElem?_toArray]; rfl) (by kernel_rfl) (by kernel_rfl) (by kernel_rfl) ?kz45 (Or.inl ⟨by rfl, ?yz45⟩) hHeld ?rz45
    case kz45 => exact fun _ _ _ h => h
    case yz45 => (intro wz hSw; go_simp; try (with_reducible rfl))
    try simp only [Act.put, List.setIfInBounds_toArray, List.set_cons_zero, List.set_cons_succ]
    refine wpAnyH_take (i := 7) (v := ?vz46) (by rw [List.getElem?_toArray]; rfl) (by kernel_rfl) (by kernel_rfl) (by kernel_rfl) ?kz46 (Or.inl ⟨by rfl, ?yz46⟩) hHeld ?rz46
    case kz46 => exact fun _ _ _ h => h
    case yz46 => (intro wz hSw; go_simp; try (with_reducible rfl))
    try simp only [Act.put, List.setIfInBounds_toArray, List.set_cons_zero, List.set_cons_succ]
    refine wpAnyH_take (i := 8) (v := ?vz47) (by rw [List.getElem?_toArray]; rfl) (by kernel_rfl) (by kernel_rfl) (by kernel_rfl) ?kz47 (Or.inl ⟨by rfl, ?yz47⟩) hHeld ?rz47
    case kz47 => exact fun _ _ _ h => h
    case yz47 => (intro wz hSw; go_simp; try (with_reducible rfl))
    try simp only [Act.put, List.setIfInBounds_toArray, List.set_cons_zero, List.set_cons_succ]
    refine wpAnyH_take (i := 9) (v := ?vz48) (by rw [List.getElem?_toArray]; rfl) (by kernel_rfl) (by kernel_rfl) (by kernel_rfl) ?kz48 (Or.inl ⟨by rfl, ?yz48⟩) hHeld ?rz48
    case kz48 => exact fun _ _ _ h => h
    case yz48 => (intro wz hSw; go_simp; try (with_reducible rfl))
    try simp only [Act.put, List.setIfInBounds_toArray, List.set_cons_zero, List.set_cons_succ]
    refine wpAnyH_take (i := 10) (v := ?vz49) (by rw [List.getElem?_toArray]; rfl) (by kernel_rfl) (by kernel_rfl) (by kernel_rfl) ?kz49 (Or.inl ⟨by rfl, ?yz49⟩) hHeld ?rz49
    case kz49 => exact fun _ _ _ h => h
    case yz49 => (intro wz hSw; go_simp; try (with_reducible rfl))
    try simp only [Act.put, List.setIfInBounds_toArray, List.set_cons_zero, List.set_cons_succ]
    refine wpAnyH_take (i := 11) (v := ?vz50) (by rw [List.getElem?_toArray]; rfl) (by kernel_rfl) (by kernel_rfl) (by kernel_rfl) ?kz50 (Or.inl ⟨by rfl, ?yz50⟩) hHeld ?rz50
    case kz50 => exact fun _ _ _ h => h
    case yz50 => (intro wz hSw; go_simp; try (with_reducible rfl))
    try simp only [Act.put, List.setIfInBounds_toArray, List.set_cons_zero, List.set_cons_succ]
    refine wpAnyH_take (i := 12) (v := ?vz51) (by rw [List.getElem?_toArray]; rfl) (by kernel_rfl) (by kernel_rfl) (by kernel_rfl) ?kz51 (Or.inl ⟨by rfl, ?yz51⟩) hHeld ?rz51
    case kz51 => exact fun _ _ _ h => h
    case yz51 => (intro wz hSw; go_simp; try (with_reducible rfl))
    try simp only [Act.put, List.setIfInBounds_toArray, List.set_cons_zero, List.set_cons_succ]
    refine wpAnyH_take (i := 13) (v := ?vz52) (by rw [List.getElem?_toArray]; rfl) (by kernel_rfl) (by kernel_rfl) (by kernel_rfl) ?kz52 (Or.inl ⟨by rfl, ?yz52⟩) hHeld ?rz52
    case kz52 => exact fun _ _ _ h => h
    case yz52 => (intro wz hSw; go_simp; try (with_reducible rfl))
    try simp only [Act.put, List.setIfInBounds_toArray, List.set_cons_zero, List.set_cons_succ]
    refine wpAnyH_take (i := 14) (v := ?vz53) (by rw [List.getElem?_toArray]; rfl) (by kernel_rfl) (by kernel_rfl) (by kernel_rfl) ?kz53 (Or.inl ⟨by rfl, ?yz53⟩) hHeld ?rz53
    case kz53 => exact fun _ _ _ h => h
    case yz53 => (intro wz hSw; go_simp; try (with_reducible rfl))
    try simp only [Act.put, List.setIfInBounds_toArray, List.set_cons_zero, List.set_cons_succ]
    refine wpAnyH_take (i := 15) (v := ?vz54) (by rw [List.getElem?_toArray]; rfl) (by kernel_rfl) (by kernel_rfl) (by kernel_rfl) ?kz54 (Or.inl ⟨by rfl, ?yz54⟩) hHeld ?rz54
    case kz54 => exact fun _ _ _ h => h
    case yz54 => (intro wz hSw; go_simp; try (with_reducible rfl))
    try simp only [Act.put, List.setIfInBounds_toArray, List.set_cons_zero, List.set_cons_succ]
    refine wpAnyH_take (i := 16) (v := ?vz55) (by rw [List.getElem?_toArray]; rfl) (by kernel_rfl) (by kernel_rfl) (by kernel_rfl) ?kz55 (Or.inl ⟨by rfl, ?yz55⟩) hHeld ?rz55
    case kz55 => exact fun _ _ _ h => h
    case yz55 => (intro wz hSw; go_simp; try (with_reducible rfl))
    try simp only [Act.put, List.setIfInBounds_toArray, List.set_cons_zero, List.set_cons_succ]
    refine wpAnyH_take (i := 17) (v := ?vz56) (by rw [List.getElem?_toArray]; rfl) (by kernel_rfl) (by kernel_rfl) (by kernel_rfl) ?kz56 (Or.inl ⟨by rfl, ?yz56⟩) hHeld ?rz56
    case kz56 => exact fun _ _ _ h => h
    case yz56 => (intro wz hSw; go_simp; try (with_reducible rfl))
    try simp only [Act.put, List.setIfInBounds_toArray, List.set_cons_zero, List.set_cons_succ]
    refine wpAnyH_take (i := 18) (v := ?vz57) (by rw [List.getElem?_toArray]; rfl) (by kernel_rfl) (by kernel_rfl) (by kernel_rfl) ?kz57 (Or.inl ⟨by rfl, ?yz57⟩) hHeld ?rz57
    case kz57 => exact fun _ _ _ h => h
    case yz57 => (intro wz hSw; go_simp; try (with_reducible rfl))
    try simp only [Act.put, List.setIfInBounds_toArray, List.set_cons_zero, List.set_cons_succ]
    refine wpAnyH_take (i := 19) (v := ?vz58) (by rw [List.getElem?_toArray]; rfl) (by kernel_rfl) (by kernel_rfl) (by kernel_rfl) ?kz58 (Or.inl ⟨by rfl, ?yz58⟩) hHeld ?rz58
    case kz58 => exact fun _ _ _ h => h
    case yz58 => (intro wz hSw; go_simp; try (with_reducible rfl))
    try simp only [Act.put, List.setIfInBounds_toArray, List.set_cons_zero, List.set_cons_succ]
    refine wpAnyH_take (i := 20) (v := ?vz59) (by rw [List.getElem?_toArray]; rfl) (by kernel_rfl) (by kernel_rfl) (by kernel_rfl) ?kz59 (Or.inl ⟨by rfl, ?yz59⟩) hHeld ?rz59
    case kz59 => exact fun _ _ _ h => h
    case yz59 => (intro wz hSw; go_simp; try (with_reducible rfl))
    try simp only [Act.put, List.setIfInBounds_toArray, List.set_cons_zero, List.set_cons_succ]
    refine wpAnyH_take (i := 21) (v := ?vz60) (by rw [List.getElem?_toArray]; rfl) (by kernel_rfl) (by kernel_rfl) (by kernel_rfl) ?kz60 (Or.inl ⟨by rfl, ?yz60⟩) hHeld ?rz60
    case kz60 => exact fun _ _ _ h => h
    case yz60 => (intro wz hSw; go_simp; try (with_reducible rfl))
    try simp only [Act.put, List.setIfInBounds_toArray, List.set_cons_zero, List.set_cons_succ]
    refine wpAnyH_take (i := 22) (v := ?vz61) (by rw [List.getElem?_toArray]; rfl) (by kernel_rfl) (by kernel_rfl) (by kernel_rfl) ?kz61 (Or.inl ⟨by rfl, ?yz61⟩) hHeld ?rz61
    case kz61 => exact fun _ _ _ h => h
    case yz61 => (intro wz hSw; go_simp; try (with_reducible rfl))
    try simp only [Act.put, List.setIfInBounds_toArray, List.set_cons_zero, List.set_cons_succ]
    refine wpAnyH_take (i := 23) (v := ?vz62) (by rw [List.getElem?_toArray]; rfl) (by kernel_rfl) (by kernel_rfl) (by kernel_rfl) ?kz62 (Or.inl ⟨by rfl, ?yz62⟩) hHeld ?rz62
    case kz62 => exact fun _ _ _ h => h
    case yz62 => (intro wz hSw; go_simp; try (with_reducible rfl))
    try simp only [Act.put, List.setIfInBounds_toArray, List.set_cons_zero, List.set_cons_succ]
    refine wpAnyH_take (i := 24) (v := ?vz63) (by rw [List.getElem?_toArray]; rfl) (by kernel_rfl) (by kernel_rfl) (by kernel_rfl) ?kz63 (Or.inl ⟨by rfl, ?yz63⟩) hHeld ?rz63
    case kz63 => exact fun _ _ _ h => h
    case yz63 => (intro wz hSw; go_simp; try (with_reducible rfl))
    try simp only [Act.put, List.setIfInBounds_toArray, List.set_cons_zero, List.set_cons_succ]
    refine wpAnyH_take (i := 25) (v := ?vz64) (by rw [List.getElem?_toArray]; rfl) (by kernel_rfl) (by kernel_rfl) (by kernel_rfl) ?kz64 (Or.inl ⟨by rfl, ?yz64⟩) hHeld ?rz64
    case kz64 => exact fun _ _ _ h => h
    case yz64 => (intro wz hSw; go_simp; try (with_reducible rfl))
    try simp only [Act.put, List.setIfInBounds_toArray, List.set_cons_zero, List.set_cons_succ]
    refine wpAnyH_ready (rs := [26]) (by kernel_rfl) (by simp) ?_
    refine AllReadyH.cons (by rw [List.getElem?_toArray]; rfl) (fun Kq hKq => ?_) AllReadyH.nil
    clear hHeld
    go_simp
    go_at_call 15; refine (NN.out _).mono ?_; rintro e w9 ⟨rfl, rfl⟩
    go_wp2_with fail
    refine hKq.out _ _ trivial (fun hHeld => ?_)
    clear hKq Kq
    try simp only [Act.put, List.setIfInBounds_toArray, List.set_cons_zero, List.set_cons_succ]
    refine wpAnyH_ready (rs := [27]) (by kernel_rfl) (by simp) ?_
    refine AllReadyH.cons (by rw [List.getElem?_toArray]; rfl) (fun Kq hKq => ?_) AllReadyH.nil
    clear hHeld
    go_simp
    go_at_call 21; refine (DN0.out _).mono ?_; rintro e w9 ⟨rfl, rfl⟩
    go_wp2_with fail
    refine hKq.out _ _ trivial (fun hHeld => ?_)
    clear hKq Kq
    try simp only [Act.put, List.setIfInBounds_toArray, List.set_cons_zero, List.set_cons_succ]
    refine wpAnyH_take (i := 28) (v := ?vz65) (by rw [List.getElem?_toArray]; rfl) (by kernel_rfl) (by kernel_rfl) (by kernel_rfl) ?kz65 (Or.inl ⟨by rfl, ?yz65⟩) hHeld ?rz65
    case kz65 => exact fun _ _ _ h => h
    case yz65 => (intro wz hSw; go_simp; try (with_reducible rfl))
    try simp only [Act.put, List.setIfInBounds_toArray, List.set_cons_zero, List.set_cons_succ]
    refine wpAnyH_take (i := 29) (v := ?vz66) (by rw [List.getElem?_toArray]; rfl) (by kernel_rfl) (by kernel_rfl) (by kernel_rfl) ?kz66 (Or.inl ⟨by rfl, ?yz66⟩) hHeld ?rz66
    case kz66 => exact fun _ _ _ h => h
    case yz66 => (intro wz hSw; go_simp; try (with_reducible rfl))
    try simp only [Act.put, List.setIfInBounds_toArray, List.set_cons_zero, List.set_cons_succ]
    refine wpAnyH_take (i := 30) (v := ?vz67) (by rw [List.getElem?_toArray]; rfl) (by kernel_rfl) (by kernel_rfl) (by kernel_rfl) ?kz67 (Or.inl ⟨by rfl, ?yz67⟩) hHeld ?rz67
    case kz67 => exact fun _ _ _ h => h
    case yz67 => (intro wz hSw; go_simp; try (with_reducible rfl))
    try simp only [Act.put, List.setIfInBounds_toArray, List.set_cons_zero, List.set_cons_succ]
    refine wpAnyH_take (i := 31) (v := ?vz68) (by rw [List.getElem?_toArray]; rfl) (by kernel_rfl) (by kernel_rfl) (by kernel_rfl) ?kz68 (Or.inl ⟨by rfl, ?yz68⟩) hHeld ?rz68
    case kz68 => exact fun _ _ _ h => h
    case yz68 => (intro wz hSw; go_simp; try (with_reducible rfl))
    try simp only [Act.put, List.setIfInBounds_toArray, List.set_cons_zero, List.set_cons_succ]
    refine wpAnyH_take (i := 32) (v := ?vz69) (by rw [List.getElem?_toArray]; rfl) (by kernel_rfl) (by kernel_rfl) (by kernel_rfl) ?kz69 (Or.inl ⟨by rfl, ?yz69⟩) hHeld ?rz69
    case kz69 => exact fun _ _ _ h => h
    case yz69 => (intro wz hSw; go_simp; try (with_reducible rfl))
    try simp only [Act.put, List.setIfInBounds_toArray, List.set_cons_zero, List.set_cons_succ]
    refine wpAnyH_take (i := 33) (v := ?vz70) (by rw [List.getElem?_toArray]; rfl) (by kernel_rfl) (by kernel_rfl) (by kernel_rfl) ?kz70 (Or.inl ⟨by rfl, ?yz70⟩) hHeld ?rz70
    case kz70 => exact fun _ _ _ h => h
    case yz70 => (intro wz hSw; go_simp; try (with_reducible rfl))
    try simp only [Act.put, List.setIfInBounds_toArray, List.set_cons_zero, List.set_cons_succ]
    refine wpAnyH_take (i := 34) (v := undef) (by rw [List.getElem?_toArray]; rfl) (by kernel_rfl) (by kernel_rfl) (by kernel_rfl) ?kz71 (Or.inr ⟨by rfl, rfl⟩) hHeld ?rz71
    case kz71 => exact fun _ _ _ h => h
    try simp only [Act.put, List.setIfInBounds_toArray, List.set_cons_zero, List.set_cons_succ]
    refine wpAnyH_take (i := 35) (v := undef) (by rw [List.getElem?_toArray]; rfl) (by kernel_rfl) (by kernel_rfl) (by kernel_rfl) ?kz72 (Or.inr ⟨by rfl, rfl⟩) hHeld ?rz72
    case kz72 => exact fun _ _ _ h => h
    try simp only [Act.put, List.setIfInBounds_toArray, List.set_cons_zero, List.set_cons_succ]
    refine wpAnyH_take (i := 36) (v := undef) (by rw [List.getElem?_toArray]; rfl) (by kernel_rfl) (by kernel_rfl) (by kernel_rfl) ?kz73 (Or.inr ⟨by rfl, rfl⟩) hHeld ?rz73
    case kz73 => exact fun _ _ _ h => h
    try simp only [Act.put, List.setIfInBounds_toArray, List.set_cons_zero, List.set_cons_succ]
    refine wpAnyH_take (i := 37) (v := undef) (by rw [List.getElem?_toArray]; rfl) (by kernel_rfl) (by kernel_rfl) (by kernel_rfl) ?kz74 (Or.inr ⟨by rfl, rfl⟩) hHeld ?rz74
    case kz74 => exact fun _ _ _ h => h
    try simp only [Act.put, List.setIfInBounds_toArray, List.set_cons_zero, List.set_cons_succ]
    refine wpAnyH_take (i := 38) (v := undef) (by rw [List.getElem?_toArray]; rfl) (by kernel_rfl) (by kernel_rfl) (by kernel_rfl) ?kz75 (Or.inr ⟨by rfl, rfl⟩) hHeld ?rz75
    case kz75 => exact fun _ _ _ h => h
    try simp only [Act.put, List.setIfInBounds_toArray, List.set_cons_zero, List.set_cons_succ]
    refine wpAnyH_take (i := 39) (v := ?vz76) (by rw [List.getElem?_toArray]; rfl) (by kernel_rfl) (by kernel_rfl) (by kernel_rfl) ?kz76 (Or.inl ⟨by rfl, ?yz76⟩) hHeld ?rz76
    case kz76 => exact fun _ _ _ h => h
    case yz76 => (intro wz hSw; go_simp; try (with_reducible rfl))
    try simp only [Act.put, List.setIfInBounds_toArray, List.set_cons_zero, List.set_cons_succ]
    refine wpAnyH_take (i := 40) (v := ?vz77) (by rw [List.getElem?_toArray]; rfl) (by kernel_rfl) (by kernel_rfl) (by kernel_rfl) ?kz77 (Or.inl ⟨by rfl, ?yz77⟩) hHeld ?rz77
    case kz77 => exact fun _ _ _ h => h
    case yz77 => (intro wz hSw; go_simp; try (with_reducible rfl))
    try simp only [Act.put, List.setIfInBounds_toArray, List.set_cons_zero, List.set_cons_succ]
    refine wpAnyH_take (i := 41) (v := ?vz78) (by rw [List.getElem?_toArray]; rfl) (by kernel_rfl) (by kernel_rfl) (by kernel_rfl) ?kz78 (Or.inl ⟨by rfl, ?yz78⟩) hHeld ?rz78
    case kz78 => exact fun _ _ _ h => h
    case yz78 => (intro wz hSw; go_simp; try (with_reducible rfl))
    try simp only [Act.put, List.setIfInBounds_toArray, List.set_cons_zero, List.set_cons_succ]
    refine wpAnyH_done (by kernel_rfl) ?_ _
    have BF := Lib.hid (bl_tr B3.out (bl_tr E7.out D7.out))
    go_wp2
    go_ret
    exact ⟨rfl, BF.out⟩
  · have HP3 := Lib.hid (And.intro ((hb3.block _ (lt_hp HP.out.1)).trans HP.out.1) (show Prob w3 wl vl cl (some ⟨g1, 0, none⟩) (some ⟨g2, 0, none⟩) ca' from ⟨HP.out.2.1.1.keep hb3, HP.out.2.1.2.1.keep hb3, HP.out.2.1.2.2.1.keep hb3, l1, l2, l3⟩))
    have B3 := Lib.hid (bl_tr HP.out.2.2 hb3)
    obtain ⟨c0, c1, c2, c3, c4, c5⟩ := box6 HP3.out.1
    subst hNn
    have DK := Lib.hid (fun (Y : World) (h : Below w3.heap.size w3 Y) => depth_any (hk.keep h))
    have tb3 : ((n : Int) == (n : Int)) = true := by simp
    clear hk hln
    clear hb3 HNw
    go_wp2_with fail
    refine (NN.out _).mono ?_; rintro e w4 ⟨rfl, rfl⟩
    go_wp2_with fail
    refine (KN0.out _).mono ?_; rintro e w4 ⟨rfl, b4⟩
    have E4 := Lib.hid b4
    clear b4
    go_wp2_with fail
    refine (NN.out _).mono ?_; rintro e w5 ⟨rfl, rfl⟩
    go_wp2_with fail
    refine (BN0.out _).mono ?_; rintro e w5 ⟨rfl, b5⟩
    have E5 := Lib.hid (bl_tr E4.out b5)
    clear b5
    go_wp2_with fail
    refine (NN.out _).mono ?_; rintro e w6 ⟨rfl, rfl⟩
    go_wp2_with fail
    refine (AN0.out _).mono ?_; rintro e w6 ⟨rfl, b6⟩
    have E6 := Lib.hid (bl_tr E5.out b6)
    clear b6
    clear c0 c1 c2 c3 c4 c5
    obtain ⟨c0, c1, c2, c3, c4, c5⟩ := box6 ((E6.out.block _ (lt_hp HP3.out.1)).trans HP3.out.1)
    go_wp2_with fail
    refine (HRf.out _ (HP3.out.2.keep E6.out)).mono ?_; rintro e w7 ⟨rfl, hb7⟩
    have E7 := Lib.hid (bl_tr E6.out hb7)
    have FX := Lib.hid (fun Y (hb : Below w7.heap.size w7 Y) => box6 (((bl_tr E7.out hb).block _ (lt_hp HP3.out.1)).trans HP3.out.1))
    clear c0 c1 c2 c3 c4 c5 hb7
    obtain ⟨c0, c1, c2, c3, c4, c5⟩ := FX.out w7 (Below.refl _ _)
    go_upto_region 9 with fail
    have s0 := FX.out w7 (Below.refl _ _)
    have AS7 := Lib.hid (AS.out w7.drew (bl_tr E7.out (od.bl_drew w7)) B3.out)
    have AS6 := Lib.hid (AS.out w7 E7.out B3.out)
    go_region_held3 (fun Y => Y.cell? ⟨w.heap.size, 0, none⟩ = some (.int .i64 2) ∧ Y.cell? ⟨w.heap.size, 1, none⟩ = some (.int .i64 (n : Int)) ∧ Y.cell? ⟨w.heap.size, 2, none⟩ = some (.int .i64 C) ∧ Y.cell? ⟨w.heap.size, 3, none⟩ = some (.slice (some ⟨g1, 0, none⟩) wl.length k1) ∧ Y.cell? ⟨w.heap.size, 4, none⟩ = some (.slice (some ⟨g2, 0, none⟩) vl.length k2) ∧ Y.cell? ⟨w.heap.size, 5, none⟩ = some (.slice ca' cl.length cc')) (first | exact s0 | exact d7 | exact d10)
      (first
      | (go_at_call 20; (with_reducible refine AS7.out.mono ?_); rintro e w8 ⟨rfl, hb8⟩; have D7 := Lib.hid (bl_tr (od.bl_drew w7) hb8); have d7 := FX.out w8 D7.out)
      | (go_at_call 15; (with_reducible refine (NN.out _).mono ?_); rintro e w9 ⟨rfl, rfl⟩)
      | (go_at_call 21; (with_reducible refine (DN0.out _).mono ?_); rintro e w9 ⟨rfl, rfl⟩)
      | (go_at_call 21; (with_reducible refine (DK.out _ (bl_tr E7.out D7.out)).mono ?_); rintro e w9 ⟨rfl, rfl⟩)
      | (go_at_call 22; (with_reducible refine (rdepth_any _ _ _ _ _ _ _).mono ?_); rintro e w10 ⟨rfl, hb10⟩; have D10 := Lib.hid (bl_tr D7.out hb10); have d10 := FX.out w10 D10.out)
      | fail)
    have BF := Lib.hid (bl_tr B3.out (bl_tr E7.out D10.out))
    go_wp2
    go_ret
    exact ⟨rfl, BF.out⟩
end Go.Proofs.YtlhpiikpmmlpeaaDoor
