/-
  cert: the reference's Read, for every text.
-/
import Derived.Test.YtjajpmbmkagcaaaDoorCk
namespace Go.Proofs.YtjajpmbmkagcaaaDoor
open Go.RowKit
set_option linter.unusedVariables false
theorem refnum_ok {s : ByteArray} {a : Nat} {most : Int} (ha : a ≤ s.size) (hs : s.size ≤ 2000000) (hz : nme s a most = 0) (w : World) : Calls Tryd.prog 23 #[.string s, .int .i64 (a : Int), .int .i64 most] w fun e w' => e = .returned (.tuple #[.int .i64 (nmv s a), .int .i64 (nmn s a : Int), .int .i64 0]) ∧ Below w.heap.size w w' := by
  refine (refnumber_any s a most ha hs w).mono ?_
  rintro e w' ⟨h, hb⟩
  unfold NrP at h
  rw [if_pos hz, if_pos hz, hz] at h
  exact ⟨h, hb⟩
theorem refnum_er {s : ByteArray} {a : Nat} {most : Int} (ha : a ≤ s.size) (hs : s.size ≤ 2000000) (hz : nme s a most ≠ 0) (w : World) : Calls Tryd.prog 23 #[.string s, .int .i64 (a : Int), .int .i64 most] w fun e w' => e = .returned (.tuple #[.int .i64 0, .int .i64 (a : Int), .int .i64 (nme s a most)]) ∧ Below w.heap.size w w' := by
  refine (refnumber_any s a most ha hs w).mono ?_
  rintro e w' ⟨h, hb⟩
  unfold NrP at h
  rw [if_neg hz, if_neg hz] at h
  exact ⟨h, hb⟩
theorem wpList_app1 {ops : Array Oper} {rest : List Oper} {o : Oper} {A : Act} {X : World} {Q : Exit → Act → World → Prop} (hgd : o.guard = none) (s x : Operand) (ho : o.op = .call { callee := .builtin .append, args := #[s, x], argTypes := #[22, 22] }) (hty : o.type = 22)
    (B : Nat) (v : Value) (L : List Int) (m : Int) (g1 : Nat) (he : A.eval s = v) (hx : A.eval x = .slice (some ⟨g1, 0, none⟩) 1 1) (hl : L.length ≤ 900) (hown : Ol B v L X) (hB : B ≤ X.heap.size) (hc : X.cell? ⟨g1, 0, none⟩ = some (.int .i64 m))
    (h : ∀ v' X', Ol B v' (L ++ [m]) X' → Tw (vb v) X X' → wpList Tryd.prog ops Q rest (A.put o.dst v') X') : wpList Tryd.prog ops Q (o :: rest) A X :=
  wpList_plain hgd fun K hK => by
    have hw : Region.wanted o (yielded ops A.tmps) = true := by simp [Region.wanted, hgd]
    have := step_app1 (ops := ops) (K := K) (Q := Q) (E := True) hgd s x ho hty B v L m g1 he hx hl hown hB hc (fun v' X' h1 h2 => hK _ _ (h v' X' h1 h2))
    rw [if_pos hw] at this
    exact this
theorem num_st {s : ByteArray} {a : Nat} {most : Int} {x : St} (h : x = (a, 0)) : numS s most x = (if nme s a most = 0 then nmn s a else a, nme s a most) := by subst h; rfl
set_option maxRecDepth 100000 in
set_option maxHeartbeats 16000000 in
theorem refread_all (s : ByteArray) (hs : s.size ≤ 2000000) (w : World) : Calls Tryd.prog 15 #[.string s] w (RdP s w) := by
  have HW := Lib.hid (bl_al (Below.refl _ w) D0)
  have HR := Lib.hid (show DB w.heap.size 0 (.slice none 0 0) ⟨#[]⟩ (w.alloc D0) from heap_alloc_new w D0)
  have SG := Lib.hid (fun a c (hc : c < 256) W => sign_any s a c hc W)
  go_enter Tryd.func15, Tryd.ntmps15
  go_wp2_with fail
  generalize hX : w.alloc D0 = X at *
  have HXX := Lib.hid hX
  clear hX
  go_loopw [6, 5] (fun i a wr => ∃ k b : Nat, i = .int .i64 (k : Int) ∧ a = .int .i64 (k : Int) ∧ k ≤ 5 ∧ 5 ≤ k + b ∧ Hid (pff s qC 0 b k = pf s qC 0) ∧ X = wr) (fun i _ _ => 5 - (intOf i).toNat)
  case atStart => exact ⟨0, 5, rfl, rfl, by omega, by omega, Lib.hid rfl, rfl⟩
  case round =>
    obtain ⟨k, b, rfl, rfl, hk, hb, HP, rfl⟩ := hrel
    by_cases h5 : k < 5
    · obtain ⟨b, rfl⟩ : ∃ b', b = b' + 1 := ⟨b - 1, by omega⟩
      rcases (show k = 0 ∨ k = 1 ∨ k = 2 ∨ k = 3 ∨ k = 4 by omega) with rfl | rfl | rfl | rfl | rfl
      · have SC := Lib.hid (fun W => show Calls Tryd.prog 22 #[.string s, .int .i64 0, .int .u8 67] W _ from SG.out 0 67 (by decide) W)
        by_cases hz : sgv s 0 67 = 0
        · have HP2 := Lib.hid ((c0_step (s := s) (b := b) (k := 0) (by omega) hz).symm.trans HP.out)
          rw [hz] at SC
          clear HP hz SG
          go_wp2_with fail
          refine (SC.out _).mono ?_; rintro e w2 ⟨rfl, rfl⟩
          clear SC
          go_wp2
          go_roundw
          case rel => exact ⟨1, b, rfl, rfl, by omega, by omega, HP2, by first | rfl | trivial⟩
          case measure => simp [intOf]
        · have C0 := c0_err (s := s) (b := b + 1) (k := 0) (by omega) HP.out hz
          have hE : crE s = (0, sgv s 0 67) := (crE_0 (by rw [C0]; exact hz)).trans C0
          have b1 : (sgv s 0 67 != 0) = true := by simpa using hz
          have FE := Lib.hid (rd_err hz hE HW.out HR.out)
          obtain ⟨r0, r1, r2, rf⟩ := HR.out.cells
          have rf0 := rf 0
          have rf1 := rf 1
          have rf2 := rf 2
          clear rf
          generalize sgv s 0 67 = er at *
          clear HP SG C0 hE HW HR hz
          go_wp2_with fail
          refine (SC.out _).mono ?_; rintro e w2 ⟨rfl, rfl⟩
          clear SC
          go_wp2
          have FD := FE.out.2
          unfold put3 at FD
          obtain ⟨d0, d1, d2, _⟩ := FD.cells
          refine bodyPost_ret (by simp [results, Tryd.results15, go_sem, d0, d1, d2]; rfl) rfl ?_
          exact FE.out.1
      · have SC := Lib.hid (fun W => show Calls Tryd.prog 22 #[.string s, .int .i64 1, .int .u8 69] W _ from SG.out 1 69 (by decide) W)
        by_cases hz : sgv s 1 69 = 0
        · have HP2 := Lib.hid ((c0_step (s := s) (b := b) (k := 1) (by omega) hz).symm.trans HP.out)
          rw [hz] at SC
          clear HP hz SG
          go_wp2_with fail
          refine (SC.out _).mono ?_; rintro e w2 ⟨rfl, rfl⟩
          clear SC
          go_wp2
          go_roundw
          case rel => exact ⟨2, b, rfl, rfl, by omega, by omega, HP2, by first | rfl | trivial⟩
          case measure => simp [intOf]
        · have C0 := c0_err (s := s) (b := b + 1) (k := 1) (by omega) HP.out hz
          have hE : crE s = (1, sgv s 1 69) := (crE_0 (by rw [C0]; exact hz)).trans C0
          have b1 : (sgv s 1 69 != 0) = true := by simpa using hz
          have FE := Lib.hid (rd_err hz hE HW.out HR.out)
          obtain ⟨r0, r1, r2, rf⟩ := HR.out.cells
          have rf0 := rf 0
          have rf1 := rf 1
          have rf2 := rf 2
          clear rf
          generalize sgv s 1 69 = er at *
          clear HP SG C0 hE HW HR hz
          go_wp2_with fail
          refine (SC.out _).mono ?_; rintro e w2 ⟨rfl, rfl⟩
          clear SC
          go_wp2
          have FD := FE.out.2
          unfold put3 at FD
          obtain ⟨d0, d1, d2, _⟩ := FD.cells
          refine bodyPost_ret (by simp [results, Tryd.results15, go_sem, d0, d1, d2]; rfl) rfl ?_
          exact FE.out.1
      · have SC := Lib.hid (fun W => show Calls Tryd.prog 22 #[.string s, .int .i64 2, .int .u8 82] W _ from SG.out 2 82 (by decide) W)
        by_cases hz : sgv s 2 82 = 0
        · have HP2 := Lib.hid ((c0_step (s := s) (b := b) (k := 2) (by omega) hz).symm.trans HP.out)
          rw [hz] at SC
          clear HP hz SG
          go_wp2_with fail
          refine (SC.out _).mono ?_; rintro e w2 ⟨rfl, rfl⟩
          clear SC
          go_wp2
          go_roundw
          case rel => exact ⟨3, b, rfl, rfl, by omega, by omega, HP2, by first | rfl | trivial⟩
          case measure => simp [intOf]
        · have C0 := c0_err (s := s) (b := b + 1) (k := 2) (by omega) HP.out hz
          have hE : crE s = (2, sgv s 2 82) := (crE_0 (by rw [C0]; exact hz)).trans C0
          have b1 : (sgv s 2 82 != 0) = true := by simpa using hz
          have FE := Lib.hid (rd_err hz hE HW.out HR.out)
          obtain ⟨r0, r1, r2, rf⟩ := HR.out.cells
          have rf0 := rf 0
          have rf1 := rf 1
          have rf2 := rf 2
          clear rf
          generalize sgv s 2 82 = er at *
          clear HP SG C0 hE HW HR hz
          go_wp2_with fail
          refine (SC.out _).mono ?_; rintro e w2 ⟨rfl, rfl⟩
          clear SC
          go_wp2
          have FD := FE.out.2
          unfold put3 at FD
          obtain ⟨d0, d1, d2, _⟩ := FD.cells
          refine bodyPost_ret (by simp [results, Tryd.results15, go_sem, d0, d1, d2]; rfl) rfl ?_
          exact FE.out.1
      · have SC := Lib.hid (fun W => show Calls Tryd.prog 22 #[.string s, .int .i64 3, .int .u8 84] W _ from SG.out 3 84 (by decide) W)
        by_cases hz : sgv s 3 84 = 0
        · have HP2 := Lib.hid ((c0_step (s := s) (b := b) (k := 3) (by omega) hz).symm.trans HP.out)
          rw [hz] at SC
          clear HP hz SG
          go_wp2_with fail
          refine (SC.out _).mono ?_; rintro e w2 ⟨rfl, rfl⟩
          clear SC
          go_wp2
          go_roundw
          case rel => exact ⟨4, b, rfl, rfl, by omega, by omega, HP2, by first | rfl | trivial⟩
          case measure => simp [intOf]
        · have C0 := c0_err (s := s) (b := b + 1) (k := 3) (by omega) HP.out hz
          have hE : crE s = (3, sgv s 3 84) := (crE_0 (by rw [C0]; exact hz)).trans C0
          have b1 : (sgv s 3 84 != 0) = true := by simpa using hz
          have FE := Lib.hid (rd_err hz hE HW.out HR.out)
          obtain ⟨r0, r1, r2, rf⟩ := HR.out.cells
          have rf0 := rf 0
          have rf1 := rf 1
          have rf2 := rf 2
          clear rf
          generalize sgv s 3 84 = er at *
          clear HP SG C0 hE HW HR hz
          go_wp2_with fail
          refine (SC.out _).mono ?_; rintro e w2 ⟨rfl, rfl⟩
          clear SC
          go_wp2
          have FD := FE.out.2
          unfold put3 at FD
          obtain ⟨d0, d1, d2, _⟩ := FD.cells
          refine bodyPost_ret (by simp [results, Tryd.results15, go_sem, d0, d1, d2]; rfl) rfl ?_
          exact FE.out.1
      · have SC := Lib.hid (fun W => show Calls Tryd.prog 22 #[.string s, .int .i64 4, .int .u8 32] W _ from SG.out 4 32 (by decide) W)
        by_cases hz : sgv s 4 32 = 0
        · have HP2 := Lib.hid ((c0_step (s := s) (b := b) (k := 4) (by omega) hz).symm.trans HP.out)
          rw [hz] at SC
          clear HP hz SG
          go_wp2_with fail
          refine (SC.out _).mono ?_; rintro e w2 ⟨rfl, rfl⟩
          clear SC
          go_wp2
          go_roundw
          case rel => exact ⟨5, b, rfl, rfl, by omega, by omega, HP2, by first | rfl | trivial⟩
          case measure => simp [intOf]
        · have C0 := c0_err (s := s) (b := b + 1) (k := 4) (by omega) HP.out hz
          have hE : crE s = (4, sgv s 4 32) := (crE_0 (by rw [C0]; exact hz)).trans C0
          have b1 : (sgv s 4 32 != 0) = true := by simpa using hz
          have FE := Lib.hid (rd_err hz hE HW.out HR.out)
          obtain ⟨r0, r1, r2, rf⟩ := HR.out.cells
          have rf0 := rf 0
          have rf1 := rf 1
          have rf2 := rf 2
          clear rf
          generalize sgv s 4 32 = er at *
          clear HP SG C0 hE HW HR hz
          go_wp2_with fail
          refine (SC.out _).mono ?_; rintro e w2 ⟨rfl, rfl⟩
          clear SC
          go_wp2
          have FD := FE.out.2
          unfold put3 at FD
          obtain ⟨d0, d1, d2, _⟩ := FD.cells
          refine bodyPost_ret (by simp [results, Tryd.results15, go_sem, d0, d1, d2]; rfl) rfl ?_
          exact FE.out.1
    · have hk5 : k = 5 := by omega
      have C0 := Lib.hid (show cr0 s = (k, 0) from by rw [hk5] at HP ⊢; exact c0_ok HP.out)
      have k0 : k ≤ s.size := by have := cr0_le s; rw [C0.out] at this; exact this
      have i5 : ¬ (k : Int) < 5 := by omega
      clear HP hk5 hk hb h5
      by_cases n1 : nme s k 1125899906842624 = 0
      case neg =>
        have C1 : cr1 s = (k, nme s k 1125899906842624) := by unfold cr1; rw [num_st C0.out, if_neg n1]
        have hE : crE s = (k, nme s k 1125899906842624) := (crE_1 (by rw [C1]; exact n1)).trans C1
        have NN := Lib.hid (fun W => refnum_er (most := 1125899906842624) k0 hs n1 W)
        have b1 : (nme s k 1125899906842624 != 0) = true := by simpa using n1
        have HN := Lib.hid n1
        have HE := Lib.hid hE
        generalize nme s k 1125899906842624 = er at *
        clear C1 hE n1 SG C0
        go_wp2_with fail
        refine (NN.out _).mono ?_; rintro e w2 ⟨rfl, hb2⟩
        have HR := Lib.hid (HR.out.keep (S := []) (Tw.of hb2) (by simp))
        have HW := Lib.hid (HW.out.trans (hb2.mono HW.out.size))
        clear NN hb2
        have FE := Lib.hid (rd_err HN.out HE.out HW.out HR.out)
        obtain ⟨r0, r1, r2, rf⟩ := HR.out.cells
        have rf0 := rf 0
        have rf1 := rf 1
        have rf2 := rf 2
        clear rf
        go_wp2
        have FD := FE.out.2
        unfold put3 at FD
        obtain ⟨d0, d1, d2, _⟩ := FD.cells
        refine bodyPost_ret (by simp [results, Tryd.results15, go_sem, d0, d1, d2]; rfl) rfl ?_
        exact FE.out.1
      case pos =>
        have C1 := Lib.hid (show cr1 s = (nmn s k, 0) from by unfold cr1; rw [num_st C0.out, if_pos n1, n1])
        have k1 : nmn s k ≤ s.size := by have := cr1_le s; rw [C1.out] at this; exact this
        have NN := Lib.hid (fun W => refnum_ok (most := 1125899906842624) k0 hs n1 W)
        have HV := Lib.hid (show nmv s (cr0 s).1 = nmv s k from by rw [C0.out])
        clear n1 k0 C0
        generalize nmv s k = V at *
        generalize nmn s k = a1 at *
        go_wp2_with fail
        refine (NN.out _).mono ?_; rintro e w2 ⟨rfl, hb2⟩
        have HR := Lib.hid (HR.out.keep (S := []) (Tw.of hb2) (by simp))
        have HW := Lib.hid (HW.out.trans (hb2.mono HW.out.size))
        clear NN hb2
        have S2 := Lib.hid (fun W => show Calls Tryd.prog 22 #[.string s, .int .i64 (a1 : Int), .int .u8 32] W _ from SG.out a1 32 (by decide) W)
        by_cases z2 : sgv s a1 32 = 0
        case neg =>
          have C2 : cr2 s = (a1, sgv s a1 32) := by unfold cr2; rw [pas_S s _ (by rw [C1.out]), C1.out, if_neg z2]
          have HE := Lib.hid ((crE_2 (by rw [C2]; exact z2)).trans C2)
          have HN := Lib.hid z2
          have b1 : (sgv s a1 32 != 0) = true := by simpa using z2
          generalize sgv s a1 32 = er at *
          clear C2 z2 SG C1
          go_wp2_with fail
          refine (S2.out _).mono ?_; rintro e w3 ⟨rfl, rfl⟩
          clear S2
          have FE := Lib.hid (rd_err HN.out HE.out HW.out HR.out)
          obtain ⟨r0, r1, r2, rf⟩ := HR.out.cells
          have rf0 := rf 0
          have rf1 := rf 1
          have rf2 := rf 2
          clear rf
          go_wp2
          have FD := FE.out.2
          unfold put3 at FD
          obtain ⟨d0, d1, d2, _⟩ := FD.cells
          refine bodyPost_ret (by simp [results, Tryd.results15, go_sem, d0, d1, d2]; rfl) rfl ?_
          exact FE.out.1
        case pos =>
          have C2 := Lib.hid (show cr2 s = (a1 + 1, 0) from by unfold cr2; rw [pas_S s _ (by rw [C1.out]), C1.out, if_pos z2])
          have k2 : a1 + 1 ≤ s.size := by have := cr2_le s; rw [C2.out] at this; exact this
          rw [z2] at S2
          clear z2 k1 C1
          have hw2 : IntKind.i64.wrap ((a1 : Int) + 1) = (a1 : Int) + 1 := IntWalk.i64_in _ (by omega)
          go_wp2_with fail
          refine (S2.out _).mono ?_; rintro e w3 ⟨rfl, rfl⟩
          clear S2
          go_upto_region 16 with fail
          clear hw2
          obtain ⟨a2, ha2⟩ : ∃ a2 : Nat, a2 = a1 + 1 := ⟨_, rfl⟩
          have ea2 : (a1 : Int) + 1 = (a2 : Int) := by omega
          rw [← ha2] at C2 k2
          simp only [ea2]
          clear ea2 ha2
          by_cases n3 : nme s a2 64 = 0
          case neg =>
            have C3 : cr3 s = (a2, nme s a2 64) := by unfold cr3 cntS cte; rw [C2.out, if_pos rfl, if_pos n3, if_neg n3]
            have HE := Lib.hid ((crE_3 (by rw [C3]; exact n3)).trans C3)
            have NN := Lib.hid (fun W => refnum_er (most := 64) k2 hs n3 W)
            have b1 : (nme s a2 64 != 0) = true := by simpa using n3
            have HN := Lib.hid n3
            generalize nme s a2 64 = er at *
            clear C3 n3 SG C2
            go_wp2_with fail
            refine (NN.out _).mono ?_; rintro e w4 ⟨rfl, hb2⟩
            have HR := Lib.hid (HR.out.keep (S := []) (Tw.of hb2) (by simp))
            have HW := Lib.hid (HW.out.trans (hb2.mono HW.out.size))
            clear NN hb2
            have FE := Lib.hid (rd_err HN.out HE.out HW.out HR.out)
            obtain ⟨r0, r1, r2, rf⟩ := HR.out.cells
            have rf0 := rf 0
            have rf1 := rf 1
            have rf2 := rf 2
            clear rf
            go_wp2
            have FD := FE.out.2
            unfold put3 at FD
            obtain ⟨d0, d1, d2, _⟩ := FD.cells
            refine bodyPost_ret (by simp [results, Tryd.results15, go_sem, d0, d1, d2]; rfl) rfl ?_
            exact FE.out.1
          case pos =>
            have NB := nmv_bd n3
            have NN := Lib.hid (fun W => refnum_ok (most := 64) k2 hs n3 W)
            have U3 := Lib.hid (show cr3 s = (if nmv s a2 = 0 then (a2, 1) else (nmn s a2, 0)) from by
              unfold cr3 cntS cte
              rw [C2.out, if_pos rfl, if_neg (show ¬ nme s a2 64 ≠ 0 from fun h => h n3)]
              show (if (if nmv s a2 = 0 then (1 : Int) else 0) = 0 then nmn s a2 else a2, if nmv s a2 = 0 then (1 : Int) else 0) = _
              by_cases c : nmv s a2 = 0
              · rw [if_pos c, if_pos c, if_neg (by decide)]
              · rw [if_neg c, if_neg c, if_pos rfl])
            have UN := Lib.hid (show (cr3 s).2 = 0 → crn s = (nmv s a2).toNat from fun h => by
              unfold crn cntV
              rw [C2.out]
              rw [show cr3 s = cntS s (a2, 0) from by unfold cr3; rw [C2.out]] at h
              rw [if_pos h])
            generalize nmv s a2 = nv at *
            generalize nmn s a2 = a3 at *
            go_wp2_with fail
            refine (NN.out _).mono ?_; rintro e w4 ⟨rfl, hb2⟩
            have HR := Lib.hid (HR.out.keep (S := []) (Tw.of hb2) (by simp))
            have HW := Lib.hid (HW.out.trans (hb2.mono HW.out.size))
            clear NN hb2 n3 C2
            by_cases nz : nv = 0
            case pos =>
              have C3 : cr3 s = (a2, 1) := by rw [U3.out, if_pos nz]
              have HE := Lib.hid ((crE_3 (by rw [C3]; exact (show (1 : Int) ≠ 0 by decide))).trans C3)
              have b1 : (nv == 0) = true := by simp [nz]
              have FE := Lib.hid (rd_err (show (1 : Int) ≠ 0 by decide) HE.out HW.out HR.out)
              obtain ⟨r0, r1, r2, rf⟩ := HR.out.cells
              have rf0 := rf 0
              have rf1 := rf 1
              have rf2 := rf 2
              clear rf
              clear C3 nz SG U3 UN NB HE
              go_wp2
              have FD := FE.out.2
              unfold put3 at FD
              obtain ⟨d0, d1, d2, _⟩ := FD.cells
              refine bodyPost_ret (by simp [results, Tryd.results15, go_sem, d0, d1, d2]; rfl) rfl ?_
              exact FE.out.1
            case neg =>
              obtain ⟨n, rfl⟩ : ∃ n : Nat, nv = (n : Int) := ⟨nv.toNat, by omega⟩
              have C3 := Lib.hid (show cr3 s = (a3, 0) from by rw [U3.out, if_neg nz])
              have CN := Lib.hid (show crn s = n from by rw [UN.out (by rw [C3.out])]; omega)
              have k3 : a3 ≤ s.size := by have := cr3_le s; rw [C3.out] at this; exact this
              have n0 : 1 ≤ n := by omega
              have n64 : n ≤ 64 := by omega
              have b1 : ((n : Int) == 0) = false := beq_eq_false_iff_ne.mpr (by omega)
              have S3 := Lib.hid (fun W => show Calls Tryd.prog 22 #[.string s, .int .i64 (a3 : Int), .int .u8 10] W _ from SG.out a3 10 (by decide) W)
              clear U3 UN NB nz k2
              by_cases z3 : sgv s a3 10 = 0
              case neg =>
                have P0 : pasS s (sep 0) (els s 0) = (a3, sgv s a3 10) := by
                  show pasS s qN (cr3 s) = _
                  rw [pas_N s _ (by rw [C3.out]), C3.out, if_neg z3]
                have HE := Lib.hid ((crE_s (j := 0) (by rw [CN.out]; omega) (by rw [P0]; exact z3)).trans P0)
                have HN := Lib.hid z3
                have b2 : (sgv s a3 10 != 0) = true := by simpa using z3
                generalize sgv s a3 10 = er at *
                clear P0 z3 SG C3 CN
                go_wp2_with fail
                refine (S3.out _).mono ?_; rintro e w5 ⟨rfl, rfl⟩
                clear S3
                have FE := Lib.hid (rd_err HN.out HE.out HW.out HR.out)
                obtain ⟨r0, r1, r2, rf⟩ := HR.out.cells
                have rf0 := rf 0
                have rf1 := rf 1
                have rf2 := rf 2
                clear rf
                go_wp2
                have FD := FE.out.2
                unfold put3 at FD
                obtain ⟨d0, d1, d2, _⟩ := FD.cells
                refine bodyPost_ret (by simp [results, Tryd.results15, go_sem, d0, d1, d2]; rfl) rfl ?_
                exact FE.out.1
              case pos =>
                have P0 := Lib.hid (show pasS s (sep 0) (els s 0) = (a3 + 1, 0) from by
                  show pasS s qN (cr3 s) = _
                  rw [pas_N s _ (by rw [C3.out]), C3.out, if_pos z3])
                have E0 := Lib.hid (show els s 0 = (a3, 0) from C3.out)
                rw [z3] at S3
                clear z3 C3
                go_wp2_with fail
                refine (S3.out _).mono ?_; rintro e w5 ⟨rfl, rfl⟩
                clear S3
                go_wp2_with fail
                have AL := bl_al (Below.refl _ w4) (.cells #[.int .i64 V, .slice none 0 0, .string ⟨#[]⟩] 24)
                have DC := Lib.hid (show DB w4.heap.size V (.slice none 0 0) ⟨#[]⟩ (w4.alloc (.cells #[.int .i64 V, .slice none 0 0, .string ⟨#[]⟩] 24)) from heap_alloc_new w4 (.cells #[.int .i64 V, .slice none 0 0, .string ⟨#[]⟩] 24))
                have HL := Lib.hid (show w.heap.size < w4.heap.size from lt_hp HR.out)
                have HR := Lib.hid (HR.out.keep (S := []) (Tw.of AL) (by simp))
                have HW := Lib.hid (HW.out.trans (AL.mono HW.out.size))
                clear AL
                generalize w4.alloc (.cells #[.int .i64 V, .slice none 0 0, .string ⟨#[]⟩] 24) = X5 at *
                generalize w4.heap.size = cb at *
                go_loopw [15, 5] (fun i c wr => ∃ (j a : Nat) (v : Value) (L : List Int), i = .int .i64 (j : Int) ∧ c = .int .i64 (a : Int) ∧ j ≤ n ∧ L.length = j ∧ Hid (els s j = (a, 0)) ∧ Hid (L = elv s j) ∧ Hid (j < n → pasS s (sep j) (els s j) = (a + 1, 0)) ∧ Hid (j = n → cr5 s = (a + 1, 0)) ∧ Hid (Below w.heap.size w wr) ∧ Hid (DB w.heap.size 0 (.slice none 0 0) ⟨#[]⟩ wr) ∧ Hid (DB cb V v ⟨#[]⟩ wr) ∧ Hid (Ol w.heap.size v L wr)) (fun i _ _ => n - (intOf i).toNat)
                case atStart => exact ⟨0, a3, _, [], rfl, rfl, Nat.zero_le _, rfl, E0, Lib.hid rfl, Lib.hid (fun _ => P0.out), Lib.hid (fun h => by omega), HW, HR, DC, Lib.hid (ol_nil _ _)⟩
                case round =>
                  clear HW HR DC E0 P0 k3
                  obtain ⟨j, a, v, L, rfl, rfl, hj, hL, EJ, EL, EP, EN, HW, HR, DC, OL⟩ := hrel
                  obtain ⟨va, vc, rfl⟩ := OL.out.form
                  subst hL
                  by_cases hlt : L.length < n
                  · have i1 : (L.length : Int) < (n : Int) := by omega
                    have P1 := EP.out hlt
                    have ka : a + 1 ≤ s.size := by have := pasS_le (q := sep L.length) (els_le s L.length); rw [P1] at this; exact this
                    have hw1 : IntKind.i64.wrap ((a : Int) + 1) = (a : Int) + 1 := IntWalk.i64_in _ (by omega)
                    have hwj : IntKind.i64.wrap ((L.length : Int) + 1) = (L.length : Int) + 1 := IntWalk.i64_in _ (by omega)
                    have hwn : IntKind.i64.wrap ((n : Int) - 1) = (n : Int) - 1 := IntWalk.i64_in _ (by omega)
                    have U1 := Lib.hid (show els s (L.length + 1) = (if nme s (a + 1) 999 = 0 then nmn s (a + 1) else a + 1, nme s (a + 1) 999) from num_st P1)
                    have V1 := Lib.hid (show elv s (L.length + 1) = L ++ [nmv s (a + 1)] from by rw [show elv s (L.length + 1) = elv s L.length ++ [nmv s (pasS s (sep L.length) (els s L.length)).1] from rfl, P1, ← EL.out])
                    by_cases n5 : nme s (a + 1) 999 = 0
                    case neg =>
                      have C5 : els s (L.length + 1) = (a + 1, nme s (a + 1) 999) := by rw [U1.out, if_neg n5]
                      have HE := Lib.hid ((crE_j (j := L.length + 1) (by rw [CN.out]; omega) (by rw [C5]; exact n5)).trans C5)
                      have NN := Lib.hid (fun W => refnum_er (most := 999) ka hs n5 W)
                      have b3 : (nme s (a + 1) 999 != 0) = true := by simpa using n5
                      have HN := Lib.hid n5
                      rw [show ((a + 1 : Nat) : Int) = (a : Int) + 1 by omega] at NN
                      generalize nme s (a + 1) 999 = er at *
                      clear C5 n5 SG U1 V1 EJ EL EP EN P1 CN DC OL hwj hwn
                      go_wp2_with fail
                      refine (NN.out _).mono ?_; rintro e w6 ⟨rfl, hb2⟩
                      have HR := Lib.hid (HR.out.keep (S := []) (Tw.of hb2) (by simp))
                      have HW := Lib.hid (HW.out.trans (hb2.mono HW.out.size))
                      clear NN hb2
                      have FE := Lib.hid (rd_err HN.out HE.out HW.out HR.out)
                      obtain ⟨r0, r1, r2, rf⟩ := HR.out.cells
                      have rf0 := rf 0
                      have rf1 := rf 1
                      have rf2 := rf 2
                      clear rf
                      rw [show ((a + 1 : Nat) : Int) = (a : Int) + 1 by omega] at FE
                      go_wp2
                      have FD := FE.out.2
                      unfold put3 at FD
                      obtain ⟨d0, d1, d2, _⟩ := FD.cells
                      refine bodyPost_ret (by simp [results, Tryd.results15, go_sem, d0, d1, d2]; rfl) rfl ?_
                      exact FE.out.1
                    case pos =>
                      have C5 := Lib.hid (show els s (L.length + 1) = (nmn s (a + 1), 0) from by rw [U1.out, if_pos n5, n5])
                      have k5 : nmn s (a + 1) ≤ s.size := by have := els_le s (L.length + 1); rw [C5.out] at this; exact this
                      have NN := Lib.hid (fun W => refnum_ok (most := 999) ka hs n5 W)
                      rw [show ((a + 1 : Nat) : Int) = (a : Int) + 1 by omega] at NN
                      clear n5 U1 P1 EP EN EJ EL
                      generalize nmv s (a + 1) = x5 at *
                      generalize nmn s (a + 1) = a5 at *
                      go_wp2_with fail
                      refine (NN.out _).mono ?_; rintro e w6 ⟨rfl, hb2⟩
                      have HR := Lib.hid (HR.out.keep (S := []) (Tw.of hb2) (by simp))
                      have HW := Lib.hid (HW.out.trans (hb2.mono HW.out.size))
                      have DC := Lib.hid (DC.out.keep (S := []) (Tw.of hb2) (by simp))
                      have OL := Lib.hid (OL.out.keep (S := []) (Tw.of hb2) (by simp))
                      clear NN hb2 hw1 ka
                      obtain ⟨c0, c1, c2, cf⟩ := DC.out.cells
                      have cf1 := cf 1
                      clear c0 c2 cf
                      have al := tw_al w6 (.cells #[.int .i64 x5] 3)
                      have OL := Lib.hid (OL.out.keep al (by simp))
                      have NC := Lib.hid ((cell_of_row _ _ 0 _ 3 _ (heap_alloc_new w6 (.cells #[.int .i64 x5] 3))).trans (show _ = some (Value.int .i64 x5) from rfl))
                      have HR := Lib.hid (HR.out.keep al (by simp))
                      have DC := Lib.hid (DC.out.keep al (by simp))
                      have HW := Lib.hid (HW.out.trans ((bl_al (Below.refl _ w6) (.cells #[.int .i64 x5] 3)).mono HW.out.size))
                      clear al
                      go_wp2_with (at_builtin; refine wpList_app1 rfl _ _ rfl rfl w.heap.size _ L x5 w6.heap.size rfl rfl (by omega) OL.out HW.out.size NC.out ?_)
                      intro v' w9 ho9 t9
                      obtain ⟨va', vc', e9⟩ := ho9.form
                      rw [List.length_append, show [x5].length = 1 from rfl] at e9
                      subst e9
                      have HW := Lib.hid (Tw.below HW.out t9 (fun b hb => (OL.out.blk b hb).1) HW.out.size)
                      have HR := Lib.hid (HR.out.keep t9 (OL.out.far HR.out (by decide)))
                      have DC := Lib.hid (DC.out.keep t9 (OL.out.far DC.out (by decide)))
                      have OL := Lib.hid ho9
                      obtain ⟨_, c1, _, cf⟩ := DC.out.cells
                      have cf1 := cf 1
                      have st := (Tw.refl [cb] w9).st cb (.inl (by simp)) 1 (.slice va' (L.length + 1) vc')
                      have HW2 := Lib.hid (Tw.below HW.out st (fun b hb => by simp at hb; have := HL.out; omega) HW.out.size)
                      have HR2 := Lib.hid (HR.out.keep st (by have := HL.out; simp; omega))
                      have OL2 := Lib.hid (OL.out.keep st (fun i hi => by simp at hi; subst hi; exact OL.out.far DC.out (by decide)))
                      have DC2 := Lib.hid (DC.out.s1 (.slice va' (L.length + 1) vc'))
                      clear HW HR OL DC NC t9 ho9 st cf
                      go_upto_region 33 with fail
                      clear c1 cf1
                      generalize w9.setCell ⟨cb, 1, none⟩ (.slice va' (L.length + 1) vc') = W at *
                      have HW := HW2
                      have HR := HR2
                      clear HW2
                      have LL : (L ++ [x5]).length = L.length + 1 := by rw [List.length_append]; rfl
                      by_cases hlast : L.length + 1 = n
                      case pos =>
                        have bl : ((L.length : Int) == (n : Int) - 1) = true := by simp; omega
                        have UP := Lib.hid (show cr5 s = (if sgv s a5 10 = 0 then (a5 + 1, 0) else (a5, sgv s a5 10)) from by unfold cr5; rw [CN.out, ← hlast, pas_N s _ (by rw [C5.out]), C5.out])
                        have S5 := Lib.hid (fun X => show Calls Tryd.prog 22 #[.string s, .int .i64 (a5 : Int), .int .u8 10] X _ from SG.out a5 10 (by decide) X)
                        by_cases z5 : sgv s a5 10 = 0
                        case neg =>
                          rw [if_neg z5] at UP
                          have HE := Lib.hid ((crE_5 (by rw [UP.out]; exact z5)).trans UP.out)
                          have HN := Lib.hid z5
                          have b4 : (sgv s a5 10 != 0) = true := by simpa using z5
                          generalize sgv s a5 10 = er at *
                          clear UP z5 SG C5 CN V1 DC2 OL2 HR2
                          go_wp2_with fail
                          refine (S5.out _).mono ?_; rintro e w10 ⟨rfl, rfl⟩
                          clear S5
                          have FE := Lib.hid (rd_err HN.out HE.out HW.out HR.out)
                          obtain ⟨r0, r1, r2, rf⟩ := HR.out.cells
                          have rf0 := rf 0
                          have rf1 := rf 1
                          have rf2 := rf 2
                          clear rf
                          go_wp2
                          have FD := FE.out.2
                          unfold put3 at FD
                          obtain ⟨d0, d1, d2, _⟩ := FD.cells
                          refine bodyPost_ret (by simp [results, Tryd.results15, go_sem, d0, d1, d2]; rfl) rfl ?_
                          exact FE.out.1
                        case pos =>
                          rw [if_pos z5] at UP
                          rw [z5] at S5
                          have Q1 := Lib.hid (show L.length + 1 < n → pasS s (sep (L.length + 1)) (els s (L.length + 1)) = (a5 + 1, 0) from fun h => by omega)
                          have Q2 := Lib.hid (show L.length + 1 = n → cr5 s = (a5 + 1, 0) from fun _ => UP.out)
                          have VV := Lib.hid V1.out.symm
                          clear UP z5 V1
                          go_wp2_with fail
                          refine (S5.out _).mono ?_; rintro e w10 ⟨rfl, rfl⟩
                          clear S5
                          go_wp2
                          go_roundw
                          case rel => exact ⟨L.length + 1, a5, _, L ++ [x5], by go_num, rfl, by omega, LL, C5, VV, Q1, Q2, HW, HR2, DC2, OL2⟩
                          case measure => simp [intOf]; omega
                      case neg =>
                        have bl : ((L.length : Int) == (n : Int) - 1) = false := beq_eq_false_iff_ne.mpr (by omega)
                        have UP := Lib.hid (show pasS s (sep (L.length + 1)) (els s (L.length + 1)) = (if sgv s a5 32 = 0 then (a5 + 1, 0) else (a5, sgv s a5 32)) from by rw [show sep (L.length + 1) = qS from rfl, pas_S s _ (by rw [C5.out]), C5.out])
                        have S5 := Lib.hid (fun X => show Calls Tryd.prog 22 #[.string s, .int .i64 (a5 : Int), .int .u8 32] X _ from SG.out a5 32 (by decide) X)
                        by_cases z5 : sgv s a5 32 = 0
                        case neg =>
                          rw [if_neg z5] at UP
                          have HE := Lib.hid ((crE_s (j := L.length + 1) (by rw [CN.out]; omega) (by rw [UP.out]; exact z5)).trans UP.out)
                          have HN := Lib.hid z5
                          have b4 : (sgv s a5 32 != 0) = true := by simpa using z5
                          generalize sgv s a5 32 = er at *
                          clear UP z5 SG C5 CN V1 DC2 OL2 HR2
                          go_wp2_with fail
                          refine (S5.out _).mono ?_; rintro e w10 ⟨rfl, rfl⟩
                          clear S5
                          have FE := Lib.hid (rd_err HN.out HE.out HW.out HR.out)
                          obtain ⟨r0, r1, r2, rf⟩ := HR.out.cells
                          have rf0 := rf 0
                          have rf1 := rf 1
                          have rf2 := rf 2
                          clear rf
                          go_wp2
                          have FD := FE.out.2
                          unfold put3 at FD
                          obtain ⟨d0, d1, d2, _⟩ := FD.cells
                          refine bodyPost_ret (by simp [results, Tryd.results15, go_sem, d0, d1, d2]; rfl) rfl ?_
                          exact FE.out.1
                        case pos =>
                          rw [if_pos z5] at UP
                          rw [z5] at S5
                          have Q1 := Lib.hid (show L.length + 1 < n → pasS s (sep (L.length + 1)) (els s (L.length + 1)) = (a5 + 1, 0) from fun _ => UP.out)
                          have Q2 := Lib.hid (show L.length + 1 = n → cr5 s = (a5 + 1, 0) from fun h => absurd h hlast)
                          have VV := Lib.hid V1.out.symm
                          clear UP z5 V1
                          go_wp2_with fail
                          refine (S5.out _).mono ?_; rintro e w10 ⟨rfl, rfl⟩
                          clear S5
                          go_wp2
                          go_roundw
                          case rel => exact ⟨L.length + 1, a5, _, L ++ [x5], by go_num, rfl, by omega, LL, C5, VV, Q1, Q2, HW, HR2, DC2, OL2⟩
                          case measure => simp [intOf]; omega
                  · have hn : L.length = n := by omega
                    subst hn
                    have C5 := Lib.hid (EN.out rfl)
                    have ka : a + 1 ≤ s.size := by have := cr5_le s; rw [C5.out] at this; exact this
                    have hw1 : IntKind.i64.wrap ((a : Int) + 1) = (a : Int) + 1 := IntWalk.i64_in _ (by omega)
                    have i1 : ¬ (L.length : Int) < (L.length : Int) := by omega
                    have CN2 := Lib.hid (show L = elv s (crn s) from by rw [CN.out]; exact EL.out)
                    clear EJ EP EN SG EL CN
                    go_upto_region 40 with fail
                    obtain ⟨f, hf⟩ : ∃ f : Nat, f = a + 1 := ⟨_, rfl⟩
                    have ef : (a : Int) + 1 = (f : Int) := by omega
                    rw [← hf] at C5 ka
                    simp only [ef]
                    clear ef hf hw1 i1
                    have LE := Lib.hid (fun c (hc : c < 256) X => refletter_any c hc X)
                    have G6 := Lib.hid (show cr6 s = (f + trk s f, tre s f) from by unfold cr6 treS; rw [C5.out, if_pos rfl])
                    have T5 := Lib.hid (show treV s (cr5 s) = (if tre s f = 0 then s.extract f (f + lt s f) else ⟨#[]⟩) from by unfold treV; rw [show treS s (cr5 s) = cr6 s from rfl, G6.out, C5.out])
                    clear C5
                    have WR := Lib.hid (show wr = wr from rfl)
                    generalize hwr : wr = X6 at *
                    clear hwr WR
                    go_wp2_with fail
                    go_loopw [5] (fun c wz => ∃ k b : Nat, c = .int .i64 ((f : Int) + (k : Int)) ∧ Hid (ltf s f b k = lt s f) ∧ s.size ≤ f + k + b ∧ k ≤ 1048576 ∧ f + k ≤ s.size ∧ X6 = wz) (fun c _ => s.size - (intOf c).toNat)
                    case atStart => exact ⟨0, s.size - f, by simp, Lib.hid rfl, by omega, by omega, by omega, rfl⟩
                    case round =>
                      obtain ⟨k, b, rfl, HP, hb, hk, hfk, rfl⟩ := hrel
                      have e1 : (f : Int) + (k : Int) - (f : Int) = (k : Int) := by omega
                      have hw3 : IntKind.i64.wrap ((f : Int) + (k : Int) - (f : Int)) = (f : Int) + (k : Int) - (f : Int) := IntWalk.i64_in _ (by omega)
                      have hw4 : IntKind.i64.wrap (((f : Int) + (k : Int)) + 1) = ((f : Int) + (k : Int)) + 1 := IntWalk.i64_in _ (by omega)
                      by_cases hin : f + k < s.size
                      · have i3 : ((f : Int) + (k : Int)) < (s.size : Int) := by omega
                        have gg := get_of s (f + k) hin
                        have LC := Lib.hid (fun X => LE.out (s[f + k]'hin).toNat (UInt8.toNat_lt _) X)
                        by_cases hl : ltr ((s.get! (f + k)).toNat : Int) = true
                        · rw [← gg, hl, gg] at LC
                          obtain ⟨b, rfl⟩ : ∃ b', b = b' + 1 := ⟨b - 1, by omega⟩
                          have HP2 := Lib.hid ((ltf_step s f b k ⟨hin, hl⟩).symm.trans HP.out)
                          clear HP hl gg
                          by_cases hm : k = 1048576
                          case pos =>
                            have hge := ltf_ge s f b (k + 1)
                            rw [HP2.out] at hge
                            have G7 : cr6 s = (f + k, 5) := by rw [G6.out]; unfold trk tre; rw [if_pos (by omega), if_pos (by omega), hm]
                            have HE := Lib.hid ((crE_6 (by rw [G7]; exact (show (5 : Int) ≠ 0 by decide))).trans G7)
                            have b5 : ((f : Int) + (k : Int) - (f : Int) == 1048576) = true := by rw [e1]; simp [hm]
                            have FE := Lib.hid (rd_err (show (5 : Int) ≠ 0 by decide) HE.out HW.out HR.out)
                            obtain ⟨r0, r1, r2, rf⟩ := HR.out.cells
                            have rf0 := rf 0
                            have rf1 := rf 1
                            have rf2 := rf 2
                            clear rf
                            rw [show ((f + k : Nat) : Int) = (f : Int) + (k : Int) by omega] at FE
                            clear hge G7 HP2 hm G6 T5 CN2 HV hw4 e1 hb hk DC OL
                            go_wp2_with fail
                            refine (LC.out _).mono ?_; rintro e w11 ⟨rfl, rfl⟩
                            clear LC LE
                            go_wp2
                            have FD := FE.out.2
                            unfold put3 at FD
                            obtain ⟨d0, d1, d2, _⟩ := FD.cells
                            refine bodyPost_ret (by simp [results, Tryd.results15, go_sem, d0, d1, d2]; rfl) rfl ?_
                            exact FE.out.1
                          case neg =>
                            have b5 : ((f : Int) + (k : Int) - (f : Int) == 1048576) = false := by rw [e1]; exact beq_eq_false_iff_ne.mpr (by omega)
                            clear G6 T5 CN2 HV HW HR DC OL LE e1
                            go_wp2_with fail
                            refine (LC.out _).mono ?_; rintro e w11 ⟨rfl, rfl⟩
                            clear LC
                            go_wp2
                            go_roundw
                            case rel => exact ⟨k + 1, b, congrArg (Value.int .i64) (by omega), HP2, by omega, by omega, by omega, by first | rfl | trivial⟩
                            case measure => simp [intOf]; omega
                        · have hl0 : ltr ((s.get! (f + k)).toNat : Int) = false := by simpa using hl
                          rw [← gg, hl0, gg] at LC
                          have EL := Lib.hid (show lt s f = k from by rw [← HP.out]; exact ltf_stop s f b k (fun h => hl h.2))
                          have G7 := Lib.hid (show cr6 s = (f + k, if k = 0 ∨ (s.get! (f + k)).toNat ≠ 10 then 2 else 0) from by rw [G6.out]; unfold trk tre; rw [EL.out, if_neg (by omega), if_neg (by omega), if_neg (by omega)])
                          have d1 : decide ((s.size : Int) ≤ ((f : Int) + (k : Int))) = false := decide_eq_false (by omega)
                          have d2 : decide (s.size ≤ f + k) = false := decide_eq_false (by omega)
                          clear hl hl0 HP hw3 hw4
                          by_cases hbad : k = 0 ∨ (s.get! (f + k)).toNat ≠ 10
                          case pos =>
                            rw [if_pos hbad] at G7
                            have HE := Lib.hid ((crE_6 (by rw [G7.out]; exact (show (2 : Int) ≠ 0 by decide))).trans G7.out)
                            by_cases k0 : k = 0
                            case pos =>
                              subst k0
                              have HE := Lib.hid (show crE s = (f, 2) from HE.out)
                              have hd : ((f : Int) == (f : Int)) = true := by simp
                              have FE := Lib.hid (rd_err (show (2 : Int) ≠ 0 by decide) HE.out HW.out HR.out)
                              obtain ⟨r0, r1, r2, rf⟩ := HR.out.cells
                              have rf0 := rf 0
                              have rf1 := rf 1
                              have rf2 := rf 2
                              clear rf
                              clear G7 hbad gg G6 T5 CN2 HV DC OL LE EL e1 hb hk HE
                              go_wp2_with fail
                              refine (LC.out _).mono ?_; rintro e w11 ⟨rfl, rfl⟩
                              clear LC
                              go_wp2
                              have FD := FE.out.2
                              unfold put3 at FD
                              obtain ⟨d0, d1, d2, _⟩ := FD.cells
                              refine bodyPost_ret (by simp [results, Tryd.results15, go_sem, d0, d1, d2]; rfl) rfl ?_
                              exact FE.out.1
                            case neg =>
                              have hd : ((f : Int) + (k : Int) == (f : Int)) = false := beq_eq_false_iff_ne.mpr (by omega)
                              have hd2 : (((s[f + k]'hin).toNat : Int) != 10) = true := by rw [← gg]; simp; omega
                              have FE := Lib.hid (rd_err (show (2 : Int) ≠ 0 by decide) HE.out HW.out HR.out)
                              obtain ⟨r0, r1, r2, rf⟩ := HR.out.cells
                              have rf0 := rf 0
                              have rf1 := rf 1
                              have rf2 := rf 2
                              clear rf
                              rw [show ((f + k : Nat) : Int) = (f : Int) + (k : Int) by omega] at FE
                              clear G7 hbad gg G6 T5 CN2 HV DC OL LE EL e1 hb hk HE
                              go_wp2_with fail
                              refine (LC.out _).mono ?_; rintro e w11 ⟨rfl, rfl⟩
                              clear LC
                              go_wp2
                              have FD := FE.out.2
                              unfold put3 at FD
                              obtain ⟨d0, d1, d2, _⟩ := FD.cells
                              refine bodyPost_ret (by simp [results, Tryd.results15, go_sem, d0, d1, d2]; rfl) rfl ?_
                              exact FE.out.1
                          case neg =>
                            rw [if_neg hbad] at G7
                            have h10 : (s.get! (f + k)).toNat = 10 := by omega
                            have b6 : (((f : Int) + (k : Int)) == (f : Int)) = false := beq_eq_false_iff_ne.mpr (by omega)
                            have b7 : (((s[f + k]'hin).toNat : Int) != 10) = false := by rw [← gg, h10]; rfl
                            have SV : sgv s (f + k) 10 = 0 := by unfold sgv; rw [if_neg (by omega), if_pos h10]
                            have G8 := Lib.hid (show cr7 s = (f + k + 1, 0) from by unfold cr7; rw [pas_N s _ (by rw [G7.out]), G7.out, if_pos SV])
                            have TT := Lib.hid (show treV s (cr5 s) = s.extract f (f + k) from by rw [T5.out, ← EL.out, if_pos (by have := congrArg (fun z => z.2) (G6.out.symm.trans G7.out); exact this)])
                            have UE := Lib.hid (show crE s = (if f + k + 1 < s.size then (f + k + 1, 7) else (f + k + 1, 0)) from by
                              unfold crE
                              rw [G8.out]
                              by_cases c : f + k + 1 < s.size
                              · rw [if_pos ⟨rfl, c⟩, if_pos c]
                              · rw [if_neg (fun h => c h.2), if_neg c])
                            have i6 : (f : Int) ≤ ((f : Int) + (k : Int)) := by omega
                            have i7 : ((f : Int) + (k : Int)) ≤ (s.size : Int) := by omega
                            have hw4 : IntKind.i64.wrap (((f : Int) + (k : Int)) + 1) = ((f : Int) + (k : Int)) + 1 := IntWalk.i64_in _ (by omega)
                            obtain ⟨_, _, c2, cf⟩ := DC.out.cells
                            have cf2 := cf 2
                            have st := (Tw.refl [cb] X6).st cb (.inl (by simp)) 2 (.string (s.extract f (f + k)))
                            have HW := Lib.hid (Tw.below HW.out st (fun b hb => by simp at hb; have := HL.out; omega) HW.out.size)
                            have OL := Lib.hid (OL.out.keep st (fun i hi => by simp at hi; subst hi; exact OL.out.far DC.out (by decide)))
                            have HR := Lib.hid (HR.out.keep st (by have := HL.out; simp; omega))
                            have DC := Lib.hid (DC.out.s2 (s.extract f (f + k)))
                            clear cf st G7 hbad gg G6 T5 LE EL e1 hb hk h10 SV G8
                            go_wp2_with fail
                            refine (LC.out _).mono ?_; rintro e w11 ⟨rfl, rfl⟩
                            clear LC
                            go_upto_region 50 with fail
                            clear c2 cf2 d1 d2 b6
                            generalize X6.setCell ⟨cb, 2, none⟩ (.string (s.extract f (f + k))) = X7 at *
                            by_cases hlong : f + k + 1 < s.size
                            case pos =>
                              have i8 : (f : Int) + (k : Int) + 1 < (s.size : Int) := by omega
                              rw [if_pos hlong] at UE
                              have FE := Lib.hid (rd_err (show (7 : Int) ≠ 0 by decide) UE.out HW.out HR.out)
                              obtain ⟨r0, r1, r2, rf⟩ := HR.out.cells
                              have rf0 := rf 0
                              have rf1 := rf 1
                              have rf2 := rf 2
                              clear rf
                              rw [show ((f + k + 1 : Nat) : Int) = (f : Int) + (k : Int) + 1 by omega] at FE
                              clear UE TT CN2 HV DC OL hlong
                              go_wp2
                              have FD := FE.out.2
                              unfold put3 at FD
                              obtain ⟨d0, d1, d2, _⟩ := FD.cells
                              refine bodyPost_ret (by simp [results, Tryd.results15, go_sem, d0, d1, d2]; rfl) rfl ?_
                              exact FE.out.1
                            case neg =>
                              have i8 : ¬ (f : Int) + (k : Int) + 1 < (s.size : Int) := by omega
                              rw [if_neg hlong] at UE
                              have FE := Lib.hid (rd_ok (V := V) (v := .slice va L.length vc) (T := s.extract f (f + k)) (L := L) (by rw [UE.out]) ⟨HV.out.symm, CN2.out, TT.out.symm⟩ HW.out HR.out OL.out)
                              obtain ⟨r0, r1, r2, rf⟩ := HR.out.cells
                              have rf0 := rf 0
                              have rf1 := rf 1
                              have rf2 := rf 2
                              obtain ⟨q0, q1, q2, _⟩ := DC.out.cells
                              clear rf UE TT CN2 HV DC OL hlong
                              go_wp2
                              have FD := FE.out.2
                              unfold put3 at FD
                              obtain ⟨d0, d1, d2, _⟩ := FD.cells
                              refine bodyPost_ret (by simp [results, Tryd.results15, go_sem, d0, d1, d2]; rfl) rfl ?_
                              exact FE.out.1
                      · have EL := Lib.hid (show lt s f = k from by rw [← HP.out]; exact ltf_stop s f b k (fun h => hin h.1))
                        have G7 := Lib.hid (show cr6 s = (f + k, 6) from by rw [G6.out]; unfold trk tre; rw [EL.out, if_neg (by omega), if_neg (by omega), if_pos (by omega)])
                        have HE := Lib.hid ((crE_6 (by rw [G7.out]; exact (show (6 : Int) ≠ 0 by decide))).trans G7.out)
                        have i3 : ¬ ((f : Int) + (k : Int)) < (s.size : Int) := by omega
                        have d1 : decide ((s.size : Int) ≤ ((f : Int) + (k : Int))) = true := decide_eq_true (by omega)
                        have d2 : decide (s.size ≤ f + k) = true := decide_eq_true (by omega)
                        have FE := Lib.hid (rd_err (show (6 : Int) ≠ 0 by decide) HE.out HW.out HR.out)
                        obtain ⟨r0, r1, r2, rf⟩ := HR.out.cells
                        have rf0 := rf 0
                        have rf1 := rf 1
                        have rf2 := rf 2
                        clear rf
                        rw [show ((f + k : Nat) : Int) = (f : Int) + (k : Int) by omega] at FE
                        clear G7 G6 T5 CN2 HV DC OL LE EL e1 hb hk HE hw3 hw4 HP hin
                        go_wp2
                        have FD := FE.out.2
                        unfold put3 at FD
                        obtain ⟨d0, d1, d2, _⟩ := FD.cells
                        refine bodyPost_ret (by simp [results, Tryd.results15, go_sem, d0, d1, d2]; rfl) rfl ?_
                        exact FE.out.1
end Go.Proofs.YtjajpmbmkagcaaaDoor
