/-
  cert: CertReads, walked.
-/
import Derived.Test.YtjajpmbmkagcaaaDoorCt
namespace Go.Proofs.YtjajpmbmkagcaaaDoor
open Go.RowKit
set_option linter.unusedVariables false
theorem text_back {s : ByteArray} {l : List UInt8} (h : s.data.toList = l) : (⟨l.toArray⟩ : ByteArray) = s := by
  subst h
  refine ByteArray.ext (Array.ext' ?_)
  simp
theorem rdp_ok {s : ByteArray} {w w' : World} {x : Ending} {V : Int} {L : List Int} {T : ByteArray} (h : (crE s).2 = 0) (hV : nmv s (cr0 s).1 = V) (hL : elv s (crn s) = L) (hT : treV s (cr5 s) = T) (r : RdP s w x w') :
    ∃ v, x = .returned (.tuple #[.agg #[.int .i64 V, v, .string T], .int .i64 0, .int .i64 0]) ∧ Ol w.heap.size v L w' ∧ Below w.heap.size w w' := by
  obtain ⟨V', v, T', L', rfl, hb, ho, hok, h0⟩ := r
  obtain ⟨rfl, rfl, rfl⟩ := hok h
  rw [if_pos h, h, hV, hT]
  rw [hL] at ho
  exact ⟨v, rfl, ho, hb⟩
theorem rdp_er {s : ByteArray} {w w' : World} {x : Ending} {a : Nat} {e : Int} (h : crE s = (a, e)) (he : e ≠ 0) (r : RdP s w x w') :
    x = .returned (.tuple #[.agg #[.int .i64 0, .slice none 0 0, .string ⟨#[]⟩], .int .i64 (a : Int), .int .i64 e]) ∧ Below w.heap.size w w' := by
  obtain ⟨V', v, T', L', rfl, hb, ho, hok, h0⟩ := r
  have h2 : (crE s).2 ≠ 0 := by rw [h]; exact he
  obtain ⟨rfl, rfl, rfl, rfl⟩ := h0 h2
  rw [if_neg h2, h]
  exact ⟨rfl, hb⟩
/-- both readers answer alike, whatever it is -/
theorem both_read (s : ByteArray) (hs : s.size ≤ 2000000) : ∃ (V : Int) (L : List Int) (T : ByteArray) (a e : Int), (∀ W, Calls Tryd.prog 14 #[.string s] W fun x w' => ∃ v, x = .returned (.tuple #[.agg #[.int .i64 V, v, .string T], .int .i64 a, .int .i64 e]) ∧ Ol W.heap.size v L w' ∧ Below W.heap.size W w') ∧
    (∀ W, Calls Tryd.prog 15 #[.string s] W fun x w' => ∃ v, x = .returned (.tuple #[.agg #[.int .i64 V, v, .string T], .int .i64 a, .int .i64 e]) ∧ Ol W.heap.size v L w' ∧ Below W.heap.size W w') ∧ (e = 0 → Frm V L T ∧ (⟨(txt V L T).toArray⟩ : ByteArray) = s) ∧ L.length ≤ 64 := by
  by_cases he : (crE s).2 = 0
  · obtain ⟨F, ht⟩ := text_of he
    exact ⟨_, _, _, 0, 0, fun W => (read_any s hs W).mono fun x w' r => rdp_ok he rfl rfl rfl r, fun W => (refread_all s hs W).mono fun x w' r => rdp_ok he rfl rfl rfl r, fun _ => ⟨F, text_back ht⟩, F.l1⟩
  · refine ⟨0, [], ⟨#[]⟩, (crE s).1, (crE s).2, fun W => (read_any s hs W).mono fun x w' r => ?_, fun W => (refread_all s hs W).mono fun x w' r => ?_, fun h => absurd h he, by simp⟩
    · obtain ⟨h1, h2⟩ := rdp_er rfl he r
      exact ⟨_, h1, ol_nil _ _, h2⟩
    · obtain ⟨h1, h2⟩ := rdp_er rfl he r
      exact ⟨_, h1, ol_nil _ _, h2⟩
set_option maxRecDepth 100000 in
set_option maxHeartbeats 16000000 in
theorem reads_walk (s : ByteArray) (w : World) (ht : Tab w) : Calls Tryd.prog 4 #[.string s] w fun e w' => e = .returned (.bool true) ∧ Below w.heap.size w w' := by
  have CE := Lib.hid (fun W t => certs_any W t)
  have HT := Lib.hid ht
  by_cases hs : 3000 < s.size
  · have i1 : (3000 : Int) < (s.size : Int) := by omega
    clear ht
    go_enter Tryd.func4, Tryd.ntmps4
    go_wp2_with fail
    refine (CE.out _ HT.out).mono ?_; rintro e w2 ⟨rfl, hb2⟩
    go_wp2
    go_ret
    exact ⟨rfl, hb2⟩
  have i1 : ¬ (3000 : Int) < (s.size : Int) := by omega
  obtain ⟨V, L, T, xa, xe, RA, RR, XF, hL⟩ := both_read s (by omega)
  have RA := Lib.hid RA
  have RR := Lib.hid RR
  have XF := Lib.hid XF
  clear ht
  go_enter Tryd.func4, Tryd.ntmps4
  go_wp2_with fail
  refine (RA.out _).mono ?_; rintro e w2 ⟨v1, rfl, ho, hb2⟩
  obtain ⟨va, vc, rfl⟩ := ho.form
  have HB2 := Lib.hid hb2
  have HO := Lib.hid ho.ls
  have AL := Lib.hid (bl_al (Below.refl _ w2) (.cells #[.int .i64 V, .slice va L.length vc, .string T] 26))
  have E2 := Lib.hid (heap_alloc_new w2 (.cells #[.int .i64 V, .slice va L.length vc, .string T] 26))
  clear hb2 ho RA
  go_wp2_with fail
  generalize w2.alloc (.cells #[.int .i64 V, .slice va L.length vc, .string T] 26) = X2 at *
  refine (RR.out _).mono ?_; rintro e w3 ⟨v1, rfl, ho, hb3⟩
  obtain ⟨vb, vd, rfl⟩ := ho.form
  have HB3 := Lib.hid (bl_tr AL.out hb3)
  have E3 := Lib.hid (show EB w2.heap.size V (.slice va L.length vc) T 26 w3 from (hb3.block _ (lt_hp E2.out)).trans E2.out)
  have HO3 := Lib.hid (HO.out.up HB3.out)
  have HP3 := Lib.hid ho.ls
  have AL3 := Lib.hid (bl_al (Below.refl _ w3) (.cells #[.int .i64 V, .slice vb L.length vd, .string T] 24))
  have E4 := Lib.hid (heap_alloc_new w3 (.cells #[.int .i64 V, .slice vb L.length vd, .string T] 24))
  clear hb3 ho RR AL E2
  go_upto_region 5 with fail
  generalize w3.alloc (.cells #[.int .i64 V, .slice vb L.length vd, .string T] 24) = X3 at *
  have HBX := Lib.hid (bl_tr HB2.out (bl_tr HB3.out AL3.out))
  have FX := Lib.hid (fun Y (hb : Below X3.heap.size X3 Y) => show (Y.cell? ⟨w2.heap.size, 0, none⟩ = some (.int .i64 V) ∧ Y.cell? ⟨w2.heap.size, 1, none⟩ = some (.slice va L.length vc) ∧ Y.cell? ⟨w2.heap.size, 2, none⟩ = some (.string T)) ∧ (Y.cell? ⟨w3.heap.size, 0, none⟩ = some (.int .i64 V) ∧ Y.cell? ⟨w3.heap.size, 1, none⟩ = some (.slice vb L.length vd) ∧ Y.cell? ⟨w3.heap.size, 2, none⟩ = some (.string T)) from
    ⟨EB.cells ((hb.block _ (lt_hp ((AL3.out.block _ (lt_hp E3.out)).trans E3.out))).trans ((AL3.out.block _ (lt_hp E3.out)).trans E3.out)), EB.cells ((hb.block _ (lt_hp E4.out)).trans E4.out)⟩)
  have TD := Lib.hid (tab_keep HT.out (bl_tr HBX.out (bl_drew X3)))
  have LA := Lib.hid (fun Y (hb : Below X3.heap.size X3 Y) => show Ls (.slice va L.length vc) L Y ∧ Ls (.slice vb L.length vd) L Y from ⟨(HO3.out.up AL3.out).up hb, (HP3.out.up AL3.out).up hb⟩)
  have c0 := FX.out X3 (Below.refl _ _)
  have n1 : (xa != xa) = false := bne_self_eq_false _
  have n2 : (xe != xe) = false := bne_self_eq_false _
  have HL := Lib.hid hL
  clear hL E3 E4 HO3 HP3 AL3 HB3 HB2 HO
  go_region_held3 (fun Y => (Y.cell? ⟨w2.heap.size, 0, none⟩ = some (.int .i64 V) ∧ Y.cell? ⟨w2.heap.size, 1, none⟩ = some (.slice va L.length vc) ∧ Y.cell? ⟨w2.heap.size, 2, none⟩ = some (.string T)) ∧ (Y.cell? ⟨w3.heap.size, 0, none⟩ = some (.int .i64 V) ∧ Y.cell? ⟨w3.heap.size, 1, none⟩ = some (.slice vb L.length vd) ∧ Y.cell? ⟨w3.heap.size, 2, none⟩ = some (.string T))) (first | exact c0 | exact d4 | exact d5 | exact d6)
    (first
      | (go_at_call 12; (with_reducible refine (same_any (LA.out w5 D5.out).1 (LA.out w5 D5.out).2 (by have := HL.out; omega)).mono ?_); rintro e w6 ⟨rfl, hb6⟩; have D6 := Lib.hid (bl_tr D5.out hb6); have d6 := FX.out w6 D6.out)
      | (go_at_call 13; (with_reducible refine (from_any (n := L.length) ⟨_, _, rfl⟩).mono ?_); rintro e w5 ⟨rfl, hb5⟩; have D5 := Lib.hid (bl_tr D4.out hb5); have d5 := FX.out w5 D5.out)
      | (go_at_call 11; (with_reducible refine (CE.out _ TD.out).mono ?_); rintro e w4 ⟨rfl, hb4⟩; have D4 := Lib.hid (bl_tr (bl_drew X3) hb4); have d4 := FX.out w4 D4.out)
      | fail)
  have HF := Lib.hid (bl_tr HBX.out D6.out)
  clear c0 d4 d5 d6 hb4 hb5 hb6 n1 n2
  by_cases he : xe = 0
  · subst he
    obtain ⟨F, ht⟩ := XF.out rfl
    obtain ⟨⟨k0, k1, k2⟩, _⟩ := FX.out w6 D6.out
    have WR := Lib.hid (write_yes (LA.out w6 D6.out).1 F (tab_keep HT.out HF.out))
    rw [ht] at WR
    clear XF F ht FX LA HT TD CE
    go_wp2_with fail
    refine WR.out.mono ?_; rintro e w7 ⟨rfl, hb7⟩
    have HG := Lib.hid (bl_tr HF.out hb7)
    clear hb7 WR
    go_wp2
    go_ret
    exact ⟨rfl, HG.out⟩
  · have b1 : (xe != 0) = true := by simpa using he
    clear XF he FX LA
    go_wp2
    go_ret
    exact ⟨rfl, HF.out⟩
end Go.Proofs.YtjajpmbmkagcaaaDoor
