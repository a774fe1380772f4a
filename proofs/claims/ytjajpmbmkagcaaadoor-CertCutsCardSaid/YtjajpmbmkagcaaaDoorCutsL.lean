/-
  cert: CertCuts, walked.
-/
import Derived.Test.YtjajpmbmkagcaaaDoorWritesL
namespace Go.Proofs.YtjajpmbmkagcaaaDoor
open Go.RowKit
set_option linter.unusedVariables false
theorem ext_sz {S : ByteArray} {m : Nat} (h : m ≤ S.size) : (S.extract 0 m).size = m := by
  rw [ByteArray.size_extract]
  omega
theorem agr_cut {S : ByteArray} {m : Nat} (h : m ≤ S.size) : Agr S (S.extract 0 m) (S.extract 0 m).size := by
  rw [ext_sz h]
  refine ⟨h, by rw [ext_sz h]; exact Nat.le_refl _, fun j hj => ?_⟩
  rw [get_of S j (by omega), get_of _ j (by rw [ext_sz h]; exact hj), ByteArray.getElem_extract]
  congr 1
  omega
theorem agr_more (S U : ByteArray) : Agr S (S ++ U) S.size := by
  refine ⟨Nat.le_refl _, by rw [ByteArray.size_append]; omega, fun j hj => ?_⟩
  rw [get_of S j hj, get_of _ j (by rw [ByteArray.size_append]; omega), ByteArray.getElem_append_left hj]
theorem cut_read {S : ByteArray} {m : Nat} (h : (crE S).2 = 0) (hm : m < S.size) (hs : S.size ≤ 2000000) (W : World) : Calls Tryd.prog 14 #[.string (S.extract 0 m)] W fun x w' => x = .returned (.tuple #[.agg #[.int .i64 0, .slice none 0 0, .string ⟨#[]⟩], .int .i64 (m : Int), .int .i64 6]) ∧ Below W.heap.size W w' := by
  have e := cut_all h (agr_cut (Nat.le_of_lt hm)) (by rw [ext_sz (Nat.le_of_lt hm)]; exact hm)
  rw [ext_sz (Nat.le_of_lt hm)] at e
  exact (read_any _ (by rw [ext_sz (Nat.le_of_lt hm)]; omega) W).mono fun x w' r => rdp_er e (by decide) r
theorem more_read {S : ByteArray} (h : (crE S).2 = 0) (hs : S.size ≤ 1000000) (W : World) : Calls Tryd.prog 14 #[.string (S ++ (⟨#[10]⟩ : ByteArray))] W fun x w' => x = .returned (.tuple #[.agg #[.int .i64 0, .slice none 0 0, .string ⟨#[]⟩], .int .i64 (S.size : Int), .int .i64 7]) ∧ Below W.heap.size W w' := by
  have z : (S ++ (⟨#[10]⟩ : ByteArray)).size = S.size + 1 := by rw [ByteArray.size_append]; rfl
  have e := more_all h (agr_more S ⟨#[10]⟩) (by rw [z]; omega)
  exact (read_any _ (by rw [z]; omega) W).mono fun x w' r => rdp_er e (by decide) r
theorem cut_at (cut : Int) (n : Nat) (h1 : 1 ≤ n) (h2 : n ≤ 1000000) : ∃ m : Nat, m < n ∧ wrap64 ((IntKind.u64.wrap cut).tmod (n : Int)) = (m : Int) := by
  have u0 : 0 ≤ IntKind.u64.wrap cut := by
    rw [show IntKind.u64.wrap cut = cut % 18446744073709551616 from rfl]
    omega
  generalize IntKind.u64.wrap cut = u at *
  rw [Int.tmod_eq_emod_of_nonneg u0]
  have a1 := Int.emod_lt_of_pos u (show (0 : Int) < (n : Int) by omega)
  have a2 := Int.emod_nonneg u (show (n : Int) ≠ 0 by omega)
  refine ⟨(u % (n : Int)).toNat, by omega, ?_⟩
  unfold wrap64
  omega
set_option maxRecDepth 100000 in
set_option maxHeartbeats 16000000 in
theorem cuts_walk (V : Int) (L : List Int) (T0 : ByteArray) (a : Option Addr) (n c : Nat) (cut : Int) (fit : (Lit.int .i64 cut).wf = true) (w : World) (ht : Tab w) (hA : Arg 70 w a n c L) : Calls Tryd.prog 5 #[.agg #[.int .i64 V, .slice a n c, .string T0], .int .i64 cut] w fun e w' => e = .returned (.bool true) ∧ Below w.heap.size w w' := by
  have CE := Lib.hid (fun W t => certs_any W t)
  have HT := Lib.hid ht
  obtain ⟨z1, z2⟩ := bounds_i64 fit
  clear fit
  have B1 := Lib.hid (bl_al (Below.refl _ w) (.cells #[.int .i64 V, .slice a n c, .string T0] 24))
  have E1 := Lib.hid (show EB w.heap.size V (.slice a n c) T0 24 (w.alloc (.cells #[.int .i64 V, .slice a n c, .string T0] 24)) from heap_alloc_new w (.cells #[.int .i64 V, .slice a n c, .string T0] 24))
  have hl70 := hA.len.1
  have HA := Lib.hid (show Arg 70 (w.alloc (.cells #[.int .i64 V, .slice a n c, .string T0] 24)) a n c L from by
    rcases hA with h | h | ⟨b, o, e, h1, h2, h3, h4, h5⟩
    · exact Or.inl h
    · exact Or.inr (Or.inl h)
    · exact Or.inr (Or.inr ⟨b, o, e, h1, h2, Nat.lt_of_lt_of_le h3 B1.out.size, fun j hj => (B1.out.cell (p := ⟨b, o + j, none⟩) h3).trans (h4 j hj), h5⟩))
  have TM := Lib.hid (tame_any (V := V) (T := T0) HA.out)
  have S5 := Lib.hid (ext_size T0)
  generalize T0.extract 0 (min T0.size 500) = T at *
  obtain ⟨k0, k1, k2⟩ := EB.cells E1.out
  clear ht hA HA
  go_enter Tryd.func5, Tryd.ntmps5
  go_wp2_with fail
  generalize w.alloc (.cells #[.int .i64 V, .slice a n c, .string T0] 24) = X at *
  refine TM.out.mono ?_; rintro e w2 ⟨v2, rfl, ho, hb2⟩
  obtain ⟨va, vc, rfl⟩ := ho.form
  have E2 := Lib.hid (show EB w.heap.size V (.slice a n c) T0 24 w2 from (hb2.block _ (lt_hp E1.out)).trans E1.out)
  have st := (((Tw.refl [w.heap.size] w2).st w.heap.size (.inl (by simp)) 0 (.int .i64 V)).st w.heap.size (.inl (by simp)) 1 (.slice va L.length vc)).st w.heap.size (.inl (by simp)) 2 (.string T)
  have E3 := Lib.hid (E2.out.put V (.slice va L.length vc) T)
  have HO := Lib.hid (ho.keep st (fun i hi => by simp at hi; subst hi; exact ho.far E2.out (by decide)))
  have B3 := Lib.hid (show Below w.heap.size w _ from Tw.below (bl_tr B1.out hb2) st (fun i hi => by simp at hi; omega) (by have := B1.out.size; have := hb2.size; omega))
  obtain ⟨k0, k1, k2⟩ := EB.cells E2.out
  have f0 : ∀ j, w2.frozen? ⟨w.heap.size, j, none⟩ = false := fun j => by simp [World.frozen?, show w2.heap[w.heap.size]? = _ from E2.out]
  have f1 := f0 0
  have f2 := f0 1
  have f3 := f0 2
  clear f0 hb2 ho st TM E1 E2 B1
  go_wp2_with fail
  generalize ((w2.setCell ⟨w.heap.size, 0, none⟩ (.int .i64 V)).setCell ⟨w.heap.size, 1, none⟩ (.slice va L.length vc)).setCell ⟨w.heap.size, 2, none⟩ (.string T) = X4 at *
  refine (to_any (V := V) (T := T) HO.out (by omega)).mono ?_; rintro e w5 ⟨u5, rfl, hu, hb5⟩
  obtain ⟨ua, uc, rfl⟩ := hu.form
  have HU := Lib.hid hu.ls
  have B6 := Lib.hid (bl_tr B3.out hb5)
  clear hu hb5 HO E3 B3 k0 k1 k2 f1 f2 f3
  obtain ⟨S, er, WR, RW, ES⟩ := both_write V L T (by omega) (by have := S5.out; omega)
  replace WR := Lib.hid WR
  replace ES := Lib.hid ES
  clear RW
  go_wp2_with fail
  refine (WR.out w5 _ HU.out (tab_keep HT.out B6.out)).mono ?_; rintro e w7 ⟨rfl, hb7⟩
  have B7 := Lib.hid (bl_tr B6.out hb7)
  have T7 := Lib.hid (tab_keep HT.out B7.out)
  clear hb7 B6 WR HU
  go_wp2_with fail
  refine (CE.out w7 T7.out).mono ?_; rintro e w8 ⟨rfl, hb8⟩
  have B8 := Lib.hid (bl_tr B7.out hb8)
  have T8 := Lib.hid (tab_keep HT.out B8.out)
  clear hb8 B7 T7
  by_cases he : er = 0
  · subst he
    obtain ⟨F, hS⟩ := ES.out rfl
    have hz := txt_size F
    rw [← hS] at hz
    have c1 := (text_to F (text_back2 hS)).1
    have hs5 := S5.out
    have c2 : (crE S).2 = 0 := by rw [c1]
    obtain ⟨m, hm, em⟩ := cut_at cut S.size (by omega) (by omega)
    have i1 : (m : Int) ≤ (S.size : Int) := by omega
    have hu : IntKind.u64.wrap (S.size : Int) = (S.size : Int) := by rw [show IntKind.u64.wrap (S.size : Int) = (S.size : Int) % 18446744073709551616 from rfl]; omega
    have hp1 : 0 < S.size := by omega
    have hp2 : ¬ S.size = 0 := by omega
    have hp3 : ((S.size : Int) == 0) = false := beq_eq_false_iff_ne.mpr (by omega)
    have hcat : Hid (¬ 9223372036854775807 < S.size + 1) := Lib.hid (by omega)
    have R1 := Lib.hid (fun W => cut_read c2 hm (by omega) W)
    have R2 := Lib.hid (fun W => more_read c2 (by omega) W)
    clear F hS c1 c2 ES S5 HT hz hs5 hm
    go_wp2_with fail
    refine (R1.out _).mono ?_; rintro e w9 ⟨rfl, hb9⟩
    have B9 := Lib.hid (bl_tr B8.out (bl_tr hb9 (bl_al (Below.refl _ w9) (.cells #[.int .i64 0, .slice none 0 0, .string ⟨#[]⟩] 26))))
    have hc := hcat.out
    clear hb9 B8 R1
    go_wp2_with fail
    generalize w9.alloc (.cells #[.int .i64 0, .slice none 0 0, .string ⟨#[]⟩] 26) = X9 at *
    clear hc
    refine (R2.out _).mono ?_; rintro e w10 ⟨rfl, hb10⟩
    have B10 := Lib.hid (bl_tr B9.out (bl_tr hb10 (bl_al (Below.refl _ w10) (.cells #[.int .i64 0, .slice none 0 0, .string ⟨#[]⟩] 26))))
    clear hb10 B9 R2
    go_wp2
    go_ret
    exact ⟨rfl, B10.out⟩
  · have b1 : (er != 0) = true := by simpa using he
    clear ES he
    go_wp2_with fail
    refine (CE.out w8 T8.out).mono ?_; rintro e w9 ⟨rfl, hb9⟩
    have B9 := Lib.hid (bl_tr B8.out hb9)
    clear hb9
    go_wp2
    go_ret
    exact ⟨rfl, B9.out⟩
end Go.Proofs.YtjajpmbmkagcaaaDoor
