/-
  cert: the reader reads a whole text.
-/
import Derived.Test.YtjajpmbmkagcaaaDoorCg
import Derived.Deep.DeepCutAuto
namespace Go.Proofs.YtjajpmbmkagcaaaDoor
open Go.RowKit
set_option linter.unusedVariables false

theorem tw_al (w : World) (o : Obj) : Tw [] w (w.alloc o) := (Tw.refl [] w).al o
def CrP (p : Nat) (s : ByteArray) (w : World) (x : Ending) (w' : World) : Prop := ∃ V v T L, x = .returned (.agg #[.int .i64 V, v, .string T]) ∧ RB p s (crE s).1 (crE s).2 w' ∧ Tw [p] w w' ∧ Ol w.heap.size v L w' ∧ L.length = crn s ∧ ((crE s).2 = 0 → V = nmv s (cr0 s).1 ∧ L = elv s (crn s) ∧ T = treV s (cr5 s))
abbrev C0 : Obj := .cells #[.int .i64 0, .slice none 0 0, .string ⟨#[]⟩] 26
set_option maxRecDepth 100000 in
set_option maxHeartbeats 16000000 in
theorem cert_any (CL : ∀ (t : ByteArray) (W : World), t.size ≤ 2000000 → Calls Tryd.prog 38 #[.string t] W fun e w' => e = .returned (.string t) ∧ Below W.heap.size W w') {p : Nat} {s : ByteArray} {w : World} (h : RB p s 0 0 w) (hs : s.size ≤ 2000000) :
    Calls Tryd.prog 21 #[.pointer (some ⟨p, 0, none⟩)] w (CrP p s w) := by
  have hp := lt_hp h
  have al1 := bl_al (Below.refl _ w) C0
  have al2 := bl_al al1 C0
  have RR := Lib.hid (h.up al2)
  have W1 := Lib.hid (Tw.of (S := [p]) al2)
  have RC := Lib.hid (show CB w.heap.size 0 (.slice none 0 0) ⟨#[]⟩ ((w.alloc C0).alloc C0) from (heap_alloc_old (w.alloc C0) C0 (by simp)).trans (heap_alloc_new w C0))
  have CC := Lib.hid (show CB (w.heap.size + 1) 0 (.slice none 0 0) ⟨#[]⟩ ((w.alloc C0).alloc C0) from by
    have := heap_alloc_new (w.alloc C0) C0
    rw [World.size_alloc] at this
    exact this)
  have PH := Lib.hid hp
  have F1 := Lib.hid (fun W (x : St) (hx : x.1 ≤ s.size) (hW : RB p s x.1 x.2 W) q (hq : q.size ≤ 8 ∧ ∀ j, j < q.size → (q.get! j).toNat < 128) => pass_st q hq.1 hq.2 hW hx hs)
  have F2 := Lib.hid (fun W most (x : St) (hx : x.1 ≤ s.size) (hW : RB p s x.1 x.2 W) => number_st most hW hx hs)
  have F3 := Lib.hid (fun W (x : St) (hx : x.1 ≤ s.size) (hW : RB p s x.1 x.2 W) => count_st hW hx hs)
  have F4 := Lib.hid (fun W (x : St) (hx : x.1 ≤ s.size) (hW : RB p s x.1 x.2 W) => tree_st CL hW hx hs)
  have P0 := Lib.hid (show Calls Tryd.prog 29 #[.pointer (some ⟨p, 0, none⟩), .string ⟨#[67, 69, 82, 84, 32]⟩] ((w.alloc C0).alloc C0) _ from F1.out _ (0, 0) (Nat.zero_le _) RR.out qC qC_ok)
  clear h hp al1 al2 CL RR
  go_enter Tryd.func21, Tryd.ntmps21
  go_wp2_with fail
  refine P0.out.mono ?_; rintro e w2 ⟨rfl, b2, t2⟩
  have RR := Lib.hid (show RB p s (cr0 s).1 (cr0 s).2 w2 from b2)
  have W1 := Lib.hid (W1.out.trans t2)
  have RC := Lib.hid (RC.out.keep t2 (by have := PH.out; simp; omega))
  have CC := Lib.hid (CC.out.keep t2 (by have := PH.out; simp; omega))
  have N1 := Lib.hid (F2.out _ 1125899906842624 (cr0 s) (cr0_le s) RR.out)
  clear P0 b2 t2 RR
  go_wp2_with fail
  refine N1.out.mono ?_; rintro e w3 ⟨V, rfl, hV, b3, t3⟩
  have HV := Lib.hid (show (cr1 s).2 = 0 → V = nmv s (cr0 s).1 from hV)
  have RR := Lib.hid (show RB p s (cr1 s).1 (cr1 s).2 w3 from b3)
  have W1 := Lib.hid (W1.out.trans t3)
  have RC := Lib.hid (RC.out.keep t3 (by have := PH.out; simp; omega))
  have CC := Lib.hid (CC.out.keep t3 (by have := PH.out; simp; omega))
  obtain ⟨c0, c1, c2, cf⟩ := CC.out.cells
  have cf0 := cf 0
  have st := (Tw.refl [w.heap.size + 1] w3).st (w.heap.size + 1) (.inl (by simp)) 0 (.int .i64 V)
  have RR := Lib.hid (RR.out.keep st (by have := PH.out; simp; omega))
  have W1 := Lib.hid (W1.out.st (w.heap.size + 1) (.inr (by omega)) 0 (.int .i64 V))
  have RC := Lib.hid (RC.out.keep st (by simp))
  have CC := Lib.hid (CC.out.s0 V)
  have P2 := Lib.hid (show Calls Tryd.prog 29 #[.pointer (some ⟨p, 0, none⟩), .string ⟨#[32]⟩] (w3.setCell ⟨w.heap.size + 1, 0, none⟩ (.int .i64 V)) _ from F1.out _ (cr1 s) (cr1_le s) RR.out qS qS_ok)
  clear N1 hV b3 t3 st cf RR
  go_wp2_with fail
  refine P2.out.mono ?_; rintro e w4 ⟨rfl, b4, t4⟩
  have RR := Lib.hid (show RB p s (cr2 s).1 (cr2 s).2 w4 from b4)
  have W1 := Lib.hid (W1.out.trans t4)
  have RC := Lib.hid (RC.out.keep t4 (by have := PH.out; simp; omega))
  have CC := Lib.hid (CC.out.keep t4 (by have := PH.out; simp; omega))
  have N3 := Lib.hid (F3.out _ (cr2 s) (cr2_le s) RR.out)
  clear P2 b4 t4 RR c0 c1 c2 cf0
  go_wp2_with fail
  refine N3.out.mono ?_; rintro e w5 ⟨rfl, b5, t5⟩
  have RR := Lib.hid (show RB p s (cr3 s).1 (cr3 s).2 w5 from b5)
  have W1 := Lib.hid (W1.out.trans t5)
  have RC := Lib.hid (RC.out.keep t5 (by have := PH.out; simp; omega))
  have CC := Lib.hid (CC.out.keep t5 (by have := PH.out; simp; omega))
  have NB := cntV_le s (cr2 s)
  have EN := Lib.hid (show crn s = cntV s (cr2 s) from rfl)
  clear N3 b5 t5
  generalize cntV s (cr2 s) = n at *
  go_wp2_with fail
  go_loopw [14, 4] (fun i q wr => ∃ (j : Nat) (v : Value) (L : List Int), i = .int .i64 (j : Int) ∧ q = .string (sep j) ∧ j ≤ n ∧ L.length = j ∧ Hid (RB p s (els s j).1 (els s j).2 wr) ∧ Hid (Tw [p] w wr) ∧ Hid (CB w.heap.size 0 (.slice none 0 0) ⟨#[]⟩ wr) ∧ Hid (CB (w.heap.size + 1) V v ⟨#[]⟩ wr) ∧ Hid (Ol w.heap.size v L wr) ∧ Hid ((els s j).2 = 0 → L = elv s j)) (fun i _ _ => n - (intOf i).toNat)
  case atStart => exact ⟨0, _, [], rfl, rfl, Nat.zero_le _, rfl, RR, W1, RC, CC, Lib.hid (ol_nil _ _), Lib.hid (fun _ => rfl)⟩
  case round =>
    clear RR W1 RC CC
    obtain ⟨j, v, L, rfl, rfl, hj, hL, RR, W1, RC, CC, OL, HL⟩ := hrel
    by_cases hlt : j < n
    · have i1 : (j : Int) < (n : Int) := by omega
      have hwj : IntKind.i64.wrap ((j : Int) + 1) = (j : Int) + 1 := IntWalk.i64_in _ (by omega)
      obtain ⟨va, vc, rfl⟩ := OL.out.form
      subst hL
      have P5 := Lib.hid (F1.out _ (els s L.length) (els_le s L.length) RR.out (sep L.length) (sep_ok L.length))
      go_wp2_with fail
      refine P5.out.mono ?_; rintro e w6 ⟨rfl, b6, t6⟩
      have OL := Lib.hid (OL.out.keep t6 (fun i hi => by simp at hi; subst hi; exact OL.out.far RR.out (by decide)))
      have RR := Lib.hid b6
      have W1 := Lib.hid (W1.out.trans t6)
      have RC := Lib.hid (RC.out.keep t6 (by have := PH.out; simp; omega))
      have CC := Lib.hid (CC.out.keep t6 (by have := PH.out; simp; omega))
      clear P5 b6 t6
      go_upto_region 9 with fail
      have dr := bl_drew w6
      have OL := Lib.hid (OL.out.keep (S := []) (Tw.of dr) (by simp))
      have RR := Lib.hid (RR.out.up dr)
      have W1 := Lib.hid (W1.out.trans (Tw.of dr))
      have RC := Lib.hid (RC.out.keep (S := []) (Tw.of dr) (by simp))
      have CC := Lib.hid (CC.out.keep (S := []) (Tw.of dr) (by simp))
      clear dr
      have N5 := Lib.hid (F2.out _ 999 (pasS s (sep L.length) (els s L.length)) (pasS_le (els_le s L.length)) RR.out)
      refine HeldL.begin (fun W => CB (w.heap.size + 1) V (.slice va L.length vc) ⟨#[]⟩ W) 7 (by kernel_rfl) CC.out (fun hHeld => ?_)
      generalize World.drew w6 = W6 at *
      refine HeldL.take (k := 0) (v := ?vc0) (by rw [List.getElem?_toArray]; rfl) (by kernel_rfl) (by kernel_rfl) (by kernel_rfl) (by kernel_rfl) ?qc0 (Or.inl ⟨by rfl, ?yc0⟩) hHeld ?rc0
      case qc0 => exact fun _ _ _ h => h
      case yc0 => (intro wz hSw; go_simp; try (with_reducible rfl))
      try simp only [Act.put, List.setIfInBounds_toArray, List.set_cons_zero, List.set_cons_succ]
      refine HeldL.take (k := 1) (v := ?vc1) (by rw [List.getElem?_toArray]; rfl) (by kernel_rfl) (by kernel_rfl) (by kernel_rfl) (by kernel_rfl) ?qc1 (Or.inl ⟨by rfl, ?yc1⟩) hHeld ?rc1
      case qc1 => exact fun _ _ _ h => h
      case yc1 => (intro wz hSw; have f := (CB.cells hSw).2.1; go_simp; try (with_reducible rfl))
      try simp only [Act.put, List.setIfInBounds_toArray, List.set_cons_zero, List.set_cons_succ]
      refine HeldL.take (k := 2) (v := ?vc2) (by rw [List.getElem?_toArray]; rfl) (by kernel_rfl) (by kernel_rfl) (by kernel_rfl) (by kernel_rfl) ?qc2 (Or.inl ⟨by rfl, ?yc2⟩) hHeld ?rc2
      case qc2 => exact fun _ _ _ h => h
      case yc2 => (intro wz hSw; go_simp; try (with_reducible rfl))
      try simp only [Act.put, List.setIfInBounds_toArray, List.set_cons_zero, List.set_cons_succ]
      refine HeldL.one (k := 3) (by kernel_rfl) (by rw [List.getElem?_toArray]; rfl) (fun K hK => ?_)
      go_simp
      go_at_call 30
      refine N5.out.mono ?_; rintro e w8 ⟨x8, rfl, hx8, b8, t8⟩
      have OL := Lib.hid (OL.out.keep t8 (fun i hi => by simp at hi; subst hi; exact OL.out.far RR.out (by decide)))
      have RR := Lib.hid (show RB p s (els s (L.length + 1)).1 (els s (L.length + 1)).2 w8 from b8)
      have HX := Lib.hid (show (els s (L.length + 1)).2 = 0 → x8 = nmv s (pasS s (sep L.length) (els s L.length)).1 from hx8)
      have W1 := Lib.hid (W1.out.trans t8)
      have RC := Lib.hid (RC.out.keep t8 (by have := PH.out; simp; omega))
      have CC := Lib.hid (CC.out.keep t8 (by have := PH.out; simp; omega))
      clear N5 b8 t8 hx8 hHeld
      go_wp2_with fail
      refine hK.out _ _ (fun _ => CC.out) (fun hHeld0 => ?_)
      clear hK K hHeld0
      refine HeldL.one (k := 4) (by kernel_rfl) (by rw [List.getElem?_toArray]; rfl) (fun K hK => ?_)
      go_simp
      have al := tw_al w8 (.cells #[.int .i64 x8] 3)
      have OL := Lib.hid (OL.out.keep al (by simp))
      have RR := Lib.hid (RR.out.keep al (by simp))
      have W1 := Lib.hid (W1.out.al (.cells #[.int .i64 x8] 3))
      have RC := Lib.hid (RC.out.keep al (by simp))
      have CC := Lib.hid (CC.out.keep al (by simp))
      have NC := Lib.hid (heap_alloc_new w8 (.cells #[.int .i64 x8] 3))
      clear al
      refine hK.out _ _ (fun _ => CC.out) (fun hHeld0 => ?_)
      clear hK K hHeld0
      try simp only [Act.put, List.setIfInBounds_toArray, List.set_cons_zero, List.set_cons_succ]
      refine HeldL.one (k := 5) (by kernel_rfl) (by rw [List.getElem?_toArray]; rfl) (fun K hK => ?_)
      have NCC := (cell_of_row _ _ 0 _ 3 _ NC.out).trans (show _ = some (Value.int .i64 x8) from rfl)
      refine step_app1 (by rfl) _ _ (by rfl) (by rfl) w.heap.size _ L x8 w8.heap.size (by rfl) (by rfl) (by omega) OL.out (Nat.le_trans (show w.heap.size ≤ w.heap.size + 1 + 1 by omega) (by have := lt_hp CC.out; omega)) NCC ?_
      intro v' w9 ho9 t9
      obtain ⟨va', vc', e9⟩ := ho9.form
      rw [List.length_append, show [x8].length = 1 from rfl] at e9
      subst e9
      have RR := Lib.hid (RR.out.keep t9 (OL.out.far RR.out (by decide)))
      have W9 := Lib.hid (show Tw [p] w w9 from ⟨t9.os.trans W1.out.os, t9.tape.trans W1.out.tape, t9.output.trans W1.out.output, Nat.le_trans W1.out.size t9.size, fun b hb hn => (t9.block b (Nat.lt_of_lt_of_le hb W1.out.size) (fun hm => by have := (OL.out.blk b hm).1; omega)).trans (W1.out.block b hb hn)⟩)
      have RC := Lib.hid (RC.out.keep t9 (OL.out.far RC.out (by decide)))
      have CC := Lib.hid (CC.out.keep t9 (OL.out.far CC.out (by decide)))
      have OL := Lib.hid ho9
      clear NC NCC t9 ho9 W1
      refine hK.out _ _ (fun _ => CC.out) (fun hHeld0 => ?_)
      clear hK K hHeld0
      try simp only [Act.put, List.setIfInBounds_toArray, List.set_cons_zero, List.set_cons_succ]
      refine HeldL.take (k := 6) (v := ?vc6) (by rw [List.getElem?_toArray]; rfl) (by kernel_rfl) (by kernel_rfl) (by kernel_rfl) (by kernel_rfl) ?qc6 (Or.inl ⟨by rfl, ?yc6⟩) CC.out ?rc6
      case qc6 => exact fun _ _ _ h => h
      case yc6 => (intro wz hSw; go_simp; try (with_reducible rfl))
      try simp only [Act.put, List.setIfInBounds_toArray, List.set_cons_zero, List.set_cons_succ]
      refine HeldL.one (k := 7) (by kernel_rfl) (by rw [List.getElem?_toArray]; rfl) (fun K hK => ?_)
      obtain ⟨_, c1, _, cf⟩ := CC.out.cells
      have cf1 := cf 1
      go_simp
      refine hK.out _ _ (fun h => absurd rfl h) (fun _ => ?_)
      clear hK K c1 cf cf1
      refine HeldL.over (by kernel_rfl) ?_ _
      have st := (Tw.refl [w.heap.size + 1] w9).st (w.heap.size + 1) (.inl (by simp)) 1 (.slice va' (L.length + 1) vc')
      have RR := Lib.hid (RR.out.keep st (by have := PH.out; simp; omega))
      have W1 := Lib.hid (W9.out.st (w.heap.size + 1) (.inr (by omega)) 1 (.slice va' (L.length + 1) vc'))
      have RC := Lib.hid (RC.out.keep st (by simp))
      have OL := Lib.hid (OL.out.keep st (fun i hi => by simp at hi; subst hi; exact OL.out.far CC.out (by decide)))
      have CC := Lib.hid (CC.out.s1 (.slice va' (L.length + 1) vc'))
      have HL := Lib.hid (show (els s (L.length + 1)).2 = 0 → L ++ [x8] = elv s (L.length + 1) from fun h => by rw [show elv s (L.length + 1) = elv s L.length ++ [nmv s (pasS s (sep L.length) (els s L.length)).1] from rfl, ← HL.out (pasS_back (numS_back h)), HX.out h])
      have LL : (L ++ [x8]).length = L.length + 1 := by rw [List.length_append]; rfl
      clear st W9 HX
      generalize (w9.setCell ⟨w.heap.size + 1, 1, none⟩ (.slice va' (L.length + 1) vc')) = W at *
      have SJ := Lib.hid (show sep (L.length + 1) = ⟨#[32]⟩ from rfl)
      go_wp2
      go_roundw
      case rel => exact ⟨L.length + 1, _, L ++ [x8], by go_num, by rw [SJ.out], by omega, LL, RR, W1, RC, CC, OL, HL⟩
      case measure => simp [intOf]; omega
    · obtain rfl : j = n := by omega
      obtain ⟨va, vc, rfl⟩ := OL.out.form
      subst hL
      have d0 : decide ((L.length : Int) < (L.length : Int)) = false := decide_eq_false (by omega)
      have E5 := Lib.hid (show cr5 s = pasS s qN (els s L.length) from by unfold cr5; rw [EN.out])
      have P5 := Lib.hid (show Calls Tryd.prog 29 #[.pointer (some ⟨p, 0, none⟩), .string ⟨#[10]⟩] wr _ from F1.out _ (els s L.length) (els_le s L.length) RR.out qN qN_ok)
      go_wp2_with fail
      refine P5.out.mono ?_; rintro e w6 ⟨rfl, b6, t6⟩
      have OL := Lib.hid (OL.out.keep t6 (fun i hi => by simp at hi; subst hi; exact OL.out.far RR.out (by decide)))
      rw [← E5.out] at b6
      have RR := Lib.hid b6
      have W1 := Lib.hid (W1.out.trans t6)
      have RC := Lib.hid (RC.out.keep t6 (by have := PH.out; simp; omega))
      have CC := Lib.hid (CC.out.keep t6 (by have := PH.out; simp; omega))
      have T6 := Lib.hid (F4.out _ (cr5 s) (cr5_le s) RR.out)
      clear P5 b6 t6 d0
      go_wp2_with fail
      refine T6.out.mono ?_; rintro e w7 ⟨rfl, b7, t7⟩
      have OL := Lib.hid (OL.out.keep t7 (fun i hi => by simp at hi; subst hi; exact OL.out.far RR.out (by decide)))
      have RR := Lib.hid (show RB p s (cr6 s).1 (cr6 s).2 w7 from b7)
      have W1 := Lib.hid (W1.out.trans t7)
      have RC := Lib.hid (RC.out.keep t7 (by have := PH.out; simp; omega))
      have CC := Lib.hid (CC.out.keep t7 (by have := PH.out; simp; omega))
      obtain ⟨c0, c1, c2, cf⟩ := CC.out.cells
      have cf2 := cf 2
      generalize hT : treV s (cr5 s) = T at *
      have HT := Lib.hid hT
      have st := (Tw.refl [w.heap.size + 1] w7).st (w.heap.size + 1) (.inl (by simp)) 2 (.string T)
      have RR := Lib.hid (RR.out.keep st (by have := PH.out; simp; omega))
      have W1 := Lib.hid (W1.out.st (w.heap.size + 1) (.inr (by omega)) 2 (.string T))
      have RC := Lib.hid (RC.out.keep st (by simp))
      have OL := Lib.hid (OL.out.keep st (fun i hi => by simp at hi; subst hi; exact OL.out.far CC.out (by decide)))
      have CC := Lib.hid (CC.out.s2 T)
      have P7 := Lib.hid (show Calls Tryd.prog 29 #[.pointer (some ⟨p, 0, none⟩), .string ⟨#[10]⟩] (w7.setCell ⟨w.heap.size + 1, 2, none⟩ (.string T)) _ from F1.out _ (cr6 s) (cr6_le s) RR.out qN qN_ok)
      clear T6 b7 t7 st cf hT
      go_wp2_with fail
      refine P7.out.mono ?_; rintro e w8 ⟨rfl, b8, t8⟩
      have OL := Lib.hid (OL.out.keep t8 (fun i hi => by simp at hi; subst hi; exact OL.out.far RR.out (by decide)))
      have RR := Lib.hid (show RB p s (cr7 s).1 (cr7 s).2 w8 from b8)
      have W1 := Lib.hid (W1.out.trans t8)
      have RC := Lib.hid (RC.out.keep t8 (by have := PH.out; simp; omega))
      have CC := Lib.hid (CC.out.keep t8 (by have := PH.out; simp; omega))
      have UE := Lib.hid (show crE s = (if (cr7 s).2 = 0 ∧ (cr7 s).1 < s.size then ((cr7 s).1, 7) else cr7 s) from rfl)
      have E0 := Lib.hid (show (cr7 s).2 = 0 → V = nmv s (cr0 s).1 ∧ L = elv s (crn s) ∧ T = treV s (cr5 s) from fun h => by
        have h6 := pasS_back h
        have h5 := treS_back h6
        rw [E5.out] at h5
        have hn := pasS_back h5
        have h3 := els_back L.length hn
        have h2 := cntS_back h3
        have h1 := pasS_back h2
        exact ⟨HV.out h1, by rw [EN.out]; exact HL.out hn, HT.out.symm⟩)
      have LC := Lib.hid (show L.length = crn s from EN.out.symm)
      clear P7 b8 t8 c0 c1 c2 cf2 F1 F2 F3 F4 HV HL HT E5 EN NB
      generalize cr7 s = x7 at *
      obtain ⟨a7, e7⟩ := x7
      obtain ⟨k0, k1, k2, kf⟩ := RR.out.cells
      have kf2 := kf 2
      go_upto_region 15 with fail
      by_cases he : e7 = 0
      · have b1 : (e7 == 0) = true := by simp [he]
        by_cases hl : a7 < s.size
        · have i1 : (a7 : Int) < (s.size : Int) := by omega
          have E := Lib.hid (show crE s = (a7, 7) from by rw [UE.out, if_pos ⟨he, hl⟩])
          go_quiet (fail)
          have dn := bl_dn (Below.refl w8.heap.size w8) nq
          have OL := Lib.hid (OL.out.keep (S := []) (Tw.of dn) (by simp))
          have RR := Lib.hid (RR.out.up dn)
          have W1 := Lib.hid (W1.out.trans (Tw.of dn))
          have RC := Lib.hid (RC.out.keep (S := []) (Tw.of dn) (by simp))
          have CC := Lib.hid (CC.out.keep (S := []) (Tw.of dn) (by simp))
          clear dn k0 k1 k2 kf kf2
          generalize w8.drewN nq = Y at *
          obtain ⟨k0, k1, k2, kf⟩ := RR.out.cells
          have kf2 := kf 2
          have st := (Tw.refl [p] Y).st p (.inl (by simp)) 2 (.int .i64 7)
          have OL := Lib.hid (OL.out.keep st (fun i hi => by simp at hi; subst hi; exact OL.out.far RR.out (by decide)))
          have W1 := Lib.hid (W1.out.trans st)
          have RC := Lib.hid (RC.out.keep st (by have := PH.out; simp; omega))
          have CC := Lib.hid (CC.out.keep st (by have := PH.out; simp; omega))
          have RR := Lib.hid (RR.out.er 7)
          clear st kf b1 he hl UE
          go_upto_region 17 with fail
          clear k0 k1 k2 kf2 i1
          generalize Y.setCell ⟨p, 2, none⟩ (.int .i64 7) = Z at *
          obtain ⟨r0, r1, r2, rf⟩ := RC.out.cells
          obtain ⟨q0, q1, q2, _⟩ := CC.out.cells
          have rf0 := rf 0
          have rf1 := rf 1
          have rf2 := rf 2
          clear rf
          have FC := ((RC.out.s0 V).s1 (.slice va L.length vc)).s2 T
          have st := (((Tw.refl [w.heap.size] Z).st w.heap.size (.inl (by simp)) 0 (.int .i64 V)).st w.heap.size (.inl (by simp)) 1 (.slice va L.length vc)).st w.heap.size (.inl (by simp)) 2 (.string T)
          have OL := Lib.hid (OL.out.keep st (fun i hi => by simp at hi; subst hi; exact OL.out.far RC.out (by decide)))
          have RR := Lib.hid (RR.out.keep st (by have := PH.out; simp; omega))
          have W1 := Lib.hid (((W1.out.st w.heap.size (.inr (Nat.le_refl _)) 0 (.int .i64 V)).st w.heap.size (.inr (Nat.le_refl _)) 1 (.slice va L.length vc)).st w.heap.size (.inr (Nat.le_refl _)) 2 (.string T))
          clear st RC CC
          have FC := Lib.hid FC
          go_wp2
          obtain ⟨d0, d1, d2, _⟩ := FC.out.cells
          refine bodyPost_ret (by simp [results, Tryd.results21, go_sem, d0, d1, d2]; rfl) rfl ?_
          exact ⟨V, _, T, L, rfl, by rw [E.out]; exact RR.out, W1.out, OL.out, LC.out, by rw [E.out]; exact fun h => absurd (show (7 : Int) = 0 from h) (by decide)⟩
        · have i1 : decide ((a7 : Int) < (s.size : Int)) = false := decide_eq_false (by omega)
          have i2 : decide (a7 < s.size) = false := decide_eq_false hl
          have E := Lib.hid (show crE s = (a7, e7) from by rw [UE.out, if_neg (fun h => hl h.2)])
          clear he hl UE
          go_quiet (fail)
          have dn := bl_dn (Below.refl w8.heap.size w8) nq
          have OL := Lib.hid (OL.out.keep (S := []) (Tw.of dn) (by simp))
          have RR := Lib.hid (RR.out.up dn)
          have W1 := Lib.hid (W1.out.trans (Tw.of dn))
          have RC := Lib.hid (RC.out.keep (S := []) (Tw.of dn) (by simp))
          have CC := Lib.hid (CC.out.keep (S := []) (Tw.of dn) (by simp))
          clear dn k0 k1 k2 kf kf2
          generalize w8.drewN nq = Y at *
          go_upto_region 17 with fail
          clear i1 i2
          obtain ⟨r0, r1, r2, rf⟩ := RC.out.cells
          obtain ⟨q0, q1, q2, _⟩ := CC.out.cells
          have rf0 := rf 0
          have rf1 := rf 1
          have rf2 := rf 2
          clear rf
          have FC := ((RC.out.s0 V).s1 (.slice va L.length vc)).s2 T
          have st := (((Tw.refl [w.heap.size] Y).st w.heap.size (.inl (by simp)) 0 (.int .i64 V)).st w.heap.size (.inl (by simp)) 1 (.slice va L.length vc)).st w.heap.size (.inl (by simp)) 2 (.string T)
          have OL := Lib.hid (OL.out.keep st (fun i hi => by simp at hi; subst hi; exact OL.out.far RC.out (by decide)))
          have RR := Lib.hid (RR.out.keep st (by have := PH.out; simp; omega))
          have W1 := Lib.hid (((W1.out.st w.heap.size (.inr (Nat.le_refl _)) 0 (.int .i64 V)).st w.heap.size (.inr (Nat.le_refl _)) 1 (.slice va L.length vc)).st w.heap.size (.inr (Nat.le_refl _)) 2 (.string T))
          clear st RC CC
          have FC := Lib.hid FC
          go_wp2
          obtain ⟨d0, d1, d2, _⟩ := FC.out.cells
          refine bodyPost_ret (by simp [results, Tryd.results21, go_sem, d0, d1, d2]; rfl) rfl ?_
          exact ⟨V, _, T, L, rfl, by rw [E.out]; exact RR.out, W1.out, OL.out, LC.out, by rw [E.out]; exact E0.out⟩
      · have b1 : (e7 == 0) = false := by simpa using he
        have E := Lib.hid (show crE s = (a7, e7) from by rw [UE.out, if_neg (fun h => he h.1)])
        clear he UE
        go_quiet (fail)
        have dn := bl_dn (Below.refl w8.heap.size w8) nq
        have OL := Lib.hid (OL.out.keep (S := []) (Tw.of dn) (by simp))
        have RR := Lib.hid (RR.out.up dn)
        have W1 := Lib.hid (W1.out.trans (Tw.of dn))
        have RC := Lib.hid (RC.out.keep (S := []) (Tw.of dn) (by simp))
        have CC := Lib.hid (CC.out.keep (S := []) (Tw.of dn) (by simp))
        clear dn k0 k1 k2 kf kf2
        generalize w8.drewN nq = Y at *
        go_upto_region 17 with fail
        obtain ⟨r0, r1, r2, rf⟩ := RC.out.cells
        obtain ⟨q0, q1, q2, _⟩ := CC.out.cells
        have rf0 := rf 0
        have rf1 := rf 1
        have rf2 := rf 2
        clear rf
        have FC := ((RC.out.s0 V).s1 (.slice va L.length vc)).s2 T
        have st := (((Tw.refl [w.heap.size] Y).st w.heap.size (.inl (by simp)) 0 (.int .i64 V)).st w.heap.size (.inl (by simp)) 1 (.slice va L.length vc)).st w.heap.size (.inl (by simp)) 2 (.string T)
        have OL := Lib.hid (OL.out.keep st (fun i hi => by simp at hi; subst hi; exact OL.out.far RC.out (by decide)))
        have RR := Lib.hid (RR.out.keep st (by have := PH.out; simp; omega))
        have W1 := Lib.hid (((W1.out.st w.heap.size (.inr (Nat.le_refl _)) 0 (.int .i64 V)).st w.heap.size (.inr (Nat.le_refl _)) 1 (.slice va L.length vc)).st w.heap.size (.inr (Nat.le_refl _)) 2 (.string T))
        clear st RC CC
        have FC := Lib.hid FC
        go_wp2
        obtain ⟨d0, d1, d2, _⟩ := FC.out.cells
        refine bodyPost_ret (by simp [results, Tryd.results21, go_sem, d0, d1, d2]; rfl) rfl ?_
        exact ⟨V, _, T, L, rfl, by rw [E.out]; exact RR.out, W1.out, OL.out, LC.out, by rw [E.out]; exact E0.out⟩
end Go.Proofs.YtjajpmbmkagcaaaDoor
