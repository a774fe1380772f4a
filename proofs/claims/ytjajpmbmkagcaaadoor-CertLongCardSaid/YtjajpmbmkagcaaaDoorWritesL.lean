/-
  cert: CertWrites, walked.
-/
import Derived.Test.YtjajpmbmkagcaaaDoorReadsL
namespace Go.Proofs.YtjajpmbmkagcaaaDoor
open Go.RowKit
set_option linter.unusedVariables false
theorem txt_size {V : Int} {L : List Int} {T : ByteArray} (F : Frm V L T) : (⟨(txt V L T).toArray⟩ : ByteArray).size ≤ 2000 + T.size ∧ 1 ≤ (⟨(txt V L T).toArray⟩ : ByteArray).size := by
  have a1 := Lib.itoa_length_le V (by have := F.v0; omega) (by have := F.v1; omega)
  have a2 := Lib.itoa_length_le (L.length : Int) (by omega) (by have := F.l1; omega)
  have a3 := elT_len L 0 F.l2
  have a4 := F.l1
  show (txt V L T).length ≤ _ ∧ 1 ≤ (txt V L T).length
  unfold txt hdT
  have q5 : qC.data.toList.length = 5 := rfl
  have tl : T.data.toList.length = T.size := by simp
  simp only [List.length_append, List.length_cons, List.length_nil, q5, tl]
  omega
theorem both_write (V : Int) (L : List Int) (T : ByteArray) (hL : L.length ≤ 1000) (hT : T.size ≤ 1000) : ∃ (S : ByteArray) (e : Int), (∀ W v, Ls v L W → Tab W → Calls Tryd.prog 9 #[.agg #[.int .i64 V, v, .string T]] W fun x w' => x = .returned (.tuple #[.string S, .int .i64 e]) ∧ Below W.heap.size W w') ∧
    (∀ W v, Ls v L W → Calls Tryd.prog 10 #[.agg #[.int .i64 V, v, .string T]] W fun x w' => x = .returned (.tuple #[.string S, .int .i64 e]) ∧ Below W.heap.size W w') ∧ (e = 0 → Frm V L T ∧ S = ⟨(txt V L T).toArray⟩) := by
  by_cases F : Frm V L T
  · exact ⟨_, 0, fun W v h t => write_yes h F t, fun W v h => (refwrite_text h (by omega) (by omega)).mono fun x w' r => ⟨r.1 F, r.2.2⟩, fun _ => ⟨F, rfl⟩⟩
  · exact ⟨_, 8, fun W v h t => write_no h (by omega) (by omega) F, fun W v h => (refwrite_text h (by omega) (by omega)).mono fun x w' r => ⟨r.2.1 F, r.2.2⟩, fun h => absurd h (by decide)⟩
theorem text_back2 {V : Int} {L : List Int} {T S : ByteArray} (h : S = ⟨(txt V L T).toArray⟩) : S.data.toList = txt V L T := by
  subst h
  simp
theorem ext_size (T : ByteArray) : (T.extract 0 (min T.size 500)).size ≤ 500 := by
  rw [ByteArray.size_extract]
  omega
/-- what comes of a certificate that came in: cut to size, copied into two boxes -/
def Two (V : Int) (L : List Int) (T : ByteArray) (p q : Nat) (v u : Value) (w : World) : Prop := EB p V v T 24 w ∧ EB q V u T 26 w ∧ Ls v L w ∧ Ls u L w
theorem Two.up {V : Int} {L : List Int} {T : ByteArray} {p q : Nat} {v u : Value} {w w1 : World} (h : Two V L T p q v u w) (k : Below w.heap.size w w1) : Two V L T p q v u w1 :=
  ⟨(k.block _ (lt_hp h.1)).trans h.1, (k.block _ (lt_hp h.2.1)).trans h.2.1, h.2.2.1.up k, h.2.2.2.up k⟩
set_option maxRecDepth 100000 in
set_option maxHeartbeats 16000000 in
theorem writes_walk (V : Int) (L : List Int) (T0 : ByteArray) (a : Option Addr) (n c : Nat) (w : World) (ht : Tab w) (hA : Arg 70 w a n c L) : Calls Tryd.prog 3 #[.agg #[.int .i64 V, .slice a n c, .string T0]] w fun e w' => e = .returned (.bool true) ∧ Below w.heap.size w w' := by
  have CE := Lib.hid (fun W t => certs_any W t)
  have HT := Lib.hid ht
  have B1 := Lib.hid (bl_al (Below.refl _ w) (.cells #[.int .i64 V, .slice a n c, .string T0] 24))
  have E1 := Lib.hid (show EB w.heap.size V (.slice a n c) T0 24 (w.alloc (.cells #[.int .i64 V, .slice a n c, .string T0] 24)) from heap_alloc_new w (.cells #[.int .i64 V, .slice a n c, .string T0] 24))
  have hl70 := hA.len.1
  have HA := Lib.hid (show Arg 70 (w.alloc (.cells #[.int .i64 V, .slice a n c, .string T0] 24)) a n c L from by
    rcases hA with h | h | ⟨b, o, e, h1, h2, h3, h4, h5⟩
    · exact Or.inl h
    · exact Or.inr (Or.inl h)
    · exact Or.inr (Or.inr ⟨b, o, e, h1, h2, Nat.lt_of_lt_of_le h3 B1.out.size, fun j hj => (B1.out.cell (p := ⟨b, o + j, none⟩) h3).trans (h4 j hj), h5⟩))
  have TM := Lib.hid (tame_any (V := V) (T := T0) HA.out)
  have S5 := Lib.hid (ext_size T0)
  generalize T0.extract 0 (min T0.size 500) = T at *
  obtain ⟨k0, k1, k2⟩ := EB.cells E1.out
  clear ht hA HA
  go_enter Tryd.func3, Tryd.ntmps3
  go_wp2_with fail
  generalize w.alloc (.cells #[.int .i64 V, .slice a n c, .string T0] 24) = X at *
  refine TM.out.mono ?_; rintro e w2 ⟨v2, rfl, ho, hb2⟩
  obtain ⟨va, vc, rfl⟩ := ho.form
  have E2 := Lib.hid (show EB w.heap.size V (.slice a n c) T0 24 w2 from (hb2.block _ (lt_hp E1.out)).trans E1.out)
  have st := (((Tw.refl [w.heap.size] w2).st w.heap.size (.inl (by simp)) 0 (.int .i64 V)).st w.heap.size (.inl (by simp)) 1 (.slice va L.length vc)).st w.heap.size (.inl (by simp)) 2 (.string T)
  have E3 := Lib.hid (E2.out.put V (.slice va L.length vc) T)
  have HO := Lib.hid (ho.keep st (fun i hi => by simp at hi; subst hi; exact ho.far E2.out (by decide)))
  have B3 := Lib.hid (show Below w.heap.size w _ from Tw.below (bl_tr B1.out hb2) st (fun i hi => by simp at hi; omega) (by have := B1.out.size; have := hb2.size; omega))
  obtain ⟨k0, k1, k2⟩ := EB.cells E2.out
  have f0 : ∀ j, w2.frozen? ⟨w.heap.size, j, none⟩ = false := fun j => by simp [World.frozen?, show w2.heap[w.heap.size]? = _ from E2.out]
  have f1 := f0 0
  have f2 := f0 1
  have f3 := f0 2
  clear f0 hb2 ho st TM E1 E2 B1
  go_wp2_with fail
  generalize ((w2.setCell ⟨w.heap.size, 0, none⟩ (.int .i64 V)).setCell ⟨w.heap.size, 1, none⟩ (.slice va L.length vc)).setCell ⟨w.heap.size, 2, none⟩ (.string T) = X4 at *
  refine (to_any (V := V) (T := T) HO.out (by omega)).mono ?_; rintro e w5 ⟨u5, rfl, hu, hb5⟩
  obtain ⟨ua, uc, rfl⟩ := hu.form
  have AL := bl_al (Below.refl _ w5) (.cells #[.int .i64 V, .slice ua L.length uc, .string T] 26)
  have TW := Lib.hid (show Two V L T w.heap.size w5.heap.size (.slice va L.length vc) (.slice ua L.length uc) (w5.alloc (.cells #[.int .i64 V, .slice ua L.length uc, .string T] 26)) from
    ⟨(AL.block _ (lt_hp ((hb5.block _ (lt_hp E3.out)).trans E3.out))).trans ((hb5.block _ (lt_hp E3.out)).trans E3.out), heap_alloc_new w5 _, (HO.out.ls.up hb5).up AL, hu.ls.up AL⟩)
  have B6 := Lib.hid (bl_tr B3.out (bl_tr hb5 AL))
  clear hu hb5 AL HO E3 B3 k0 k1 k2 f1 f2 f3
  obtain ⟨S, er, WR, RW, ES⟩ := both_write V L T (by omega) (by have := S5.out; omega)
  replace WR := Lib.hid WR
  replace RW := Lib.hid RW
  replace ES := Lib.hid ES
  obtain ⟨⟨p0, p1, p2⟩, ⟨q0, q1, q2⟩⟩ := show _ ∧ _ from ⟨EB.cells TW.out.1, EB.cells TW.out.2.1⟩
  go_wp2_with fail
  generalize w5.alloc (.cells #[.int .i64 V, .slice ua L.length uc, .string T] 26) = X6 at *
  refine (WR.out X6 _ TW.out.2.2.2 (tab_keep HT.out B6.out)).mono ?_; rintro e w7 ⟨rfl, hb7⟩
  have TW7 := Lib.hid (TW.out.up hb7)
  have B7 := Lib.hid (bl_tr B6.out hb7)
  clear hb7 TW B6 WR p0 p1 p2 q0 q1 q2
  obtain ⟨⟨p0, p1, p2⟩, ⟨q0, q1, q2⟩⟩ := show _ ∧ _ from ⟨EB.cells TW7.out.1, EB.cells TW7.out.2.1⟩
  go_wp2_with fail
  refine (RW.out w7 _ TW7.out.2.2.1).mono ?_; rintro e w8 ⟨rfl, hb8⟩
  have TW8 := Lib.hid (TW7.out.up hb8)
  have B8 := Lib.hid (bl_tr B7.out hb8)
  clear hb8 TW7 B7 RW p0 p1 p2 q0 q1 q2
  go_upto_region 5 with fail
  have FX := Lib.hid (fun Y (hb : Below w8.heap.size w8 Y) => show (Y.cell? ⟨w.heap.size, 0, none⟩ = some (.int .i64 V) ∧ Y.cell? ⟨w.heap.size, 1, none⟩ = some (.slice va L.length vc) ∧ Y.cell? ⟨w.heap.size, 2, none⟩ = some (.string T)) ∧ (Y.cell? ⟨w5.heap.size, 0, none⟩ = some (.int .i64 V) ∧ Y.cell? ⟨w5.heap.size, 1, none⟩ = some (.slice ua L.length uc) ∧ Y.cell? ⟨w5.heap.size, 2, none⟩ = some (.string T)) from
    ⟨EB.cells (TW8.out.up hb).1, EB.cells (TW8.out.up hb).2.1⟩)
  have LA := Lib.hid (fun Y (hb : Below w8.heap.size w8 Y) => show Ls (.slice ua L.length uc) L Y ∧ Ls (.slice va L.length vc) L Y from ⟨(TW8.out.up hb).2.2.2, (TW8.out.up hb).2.2.1⟩)
  have TD := Lib.hid (tab_keep HT.out (bl_tr B8.out (bl_drew w8)))
  have c0 := FX.out w8 (Below.refl _ _)
  have n2 : (er != er) = false := bne_self_eq_false _
  go_region_held3 (fun Y => (Y.cell? ⟨w.heap.size, 0, none⟩ = some (.int .i64 V) ∧ Y.cell? ⟨w.heap.size, 1, none⟩ = some (.slice va L.length vc) ∧ Y.cell? ⟨w.heap.size, 2, none⟩ = some (.string T)) ∧ (Y.cell? ⟨w5.heap.size, 0, none⟩ = some (.int .i64 V) ∧ Y.cell? ⟨w5.heap.size, 1, none⟩ = some (.slice ua L.length uc) ∧ Y.cell? ⟨w5.heap.size, 2, none⟩ = some (.string T))) (first | exact c0 | exact d4 | exact d5 | exact d6)
    (first
      | (go_at_call 12; (with_reducible refine (same_any (LA.out w15 DX5.out).1 (LA.out w15 DX5.out).2 (by omega)).mono ?_); rintro e w16 ⟨rfl, hb6⟩; have D6 := Lib.hid (bl_tr DX5.out hb6); have d6 := FX.out w16 D6.out)
      | (go_at_call 13; (with_reducible refine (from_any (n := L.length) ⟨_, _, rfl⟩).mono ?_); rintro e w15 ⟨rfl, hb5⟩; have DX5 := Lib.hid (bl_tr D4.out hb5); have d5 := FX.out w15 DX5.out)
      | (go_at_call 11; (with_reducible refine (CE.out _ TD.out).mono ?_); rintro e w14 ⟨rfl, hb4⟩; have D4 := Lib.hid (bl_tr (bl_drew w8) hb4); have d4 := FX.out w14 D4.out)
      | fail)
  have HF := Lib.hid (bl_tr B8.out D6.out)
  have TW9 := Lib.hid (TW8.out.up D6.out)
  clear c0 d4 d5 hb4 hb5 hb6 n2 d6 FX TD D4 DX5 D6 TW8 B8 CE LA
  by_cases he : er = 0
  · subst he
    obtain ⟨F, hS⟩ := ES.out rfl
    have hz := txt_size F
    rw [← hS] at hz
    obtain ⟨c1, c2, c3, c4⟩ := text_to F (text_back2 hS)
    have RD := Lib.hid (show ∀ W, Calls Tryd.prog 14 #[.string S] W fun x w' => ∃ v, x = .returned (.tuple #[.agg #[.int .i64 V, v, .string T], .int .i64 0, .int .i64 0]) ∧ Ol W.heap.size v L w' ∧ Below W.heap.size W w' from fun W => (read_any S (by have := S5.out; omega) W).mono fun x w' r => rdp_ok (by rw [c1]) c2 c3 c4 r)
    clear F hS hz c1 c2 c3 c4 ES S5 HT
    go_wp2_with fail
    refine (RD.out _).mono ?_; rintro e w10 ⟨v10, rfl, ho, hb10⟩
    obtain ⟨xa, xc, rfl⟩ := ho.form
    have AL := bl_al (Below.refl _ w10) (.cells #[.int .i64 V, .slice xa L.length xc, .string T] 26)
    have TW11 := Lib.hid ((TW9.out.up hb10).up AL)
    have EX := Lib.hid (show EB w10.heap.size V (.slice xa L.length xc) T 26 (w10.alloc (.cells #[.int .i64 V, .slice xa L.length xc, .string T] 26)) from heap_alloc_new w10 _)
    have LX := Lib.hid (ho.ls.up AL)
    have BX := Lib.hid (bl_tr HF.out (bl_tr hb10 AL))
    clear ho hb10 AL TW9 HF RD
    go_upto_region 10 with fail
    generalize w10.alloc (.cells #[.int .i64 V, .slice xa L.length xc, .string T] 26) = X11 at *
    have FX := Lib.hid (fun Y (hb : Below X11.heap.size X11 Y) => show (Y.cell? ⟨w.heap.size, 0, none⟩ = some (.int .i64 V) ∧ Y.cell? ⟨w.heap.size, 1, none⟩ = some (.slice va L.length vc) ∧ Y.cell? ⟨w.heap.size, 2, none⟩ = some (.string T)) ∧ (Y.cell? ⟨w10.heap.size, 0, none⟩ = some (.int .i64 V) ∧ Y.cell? ⟨w10.heap.size, 1, none⟩ = some (.slice xa L.length xc) ∧ Y.cell? ⟨w10.heap.size, 2, none⟩ = some (.string T)) from
      ⟨EB.cells (TW11.out.up hb).1, EB.cells ((hb.block _ (lt_hp EX.out)).trans EX.out)⟩)
    have LA := Lib.hid (fun Y (hb : Below X11.heap.size X11 Y) => show Ls (.slice xa L.length xc) L Y ∧ Ls (.slice va L.length vc) L Y from ⟨LX.out.up hb, (TW11.out.up hb).2.2.1⟩)
    have c0 := FX.out X11 (Below.refl _ _)
    go_region_held3 (fun Y => (Y.cell? ⟨w.heap.size, 0, none⟩ = some (.int .i64 V) ∧ Y.cell? ⟨w.heap.size, 1, none⟩ = some (.slice va L.length vc) ∧ Y.cell? ⟨w.heap.size, 2, none⟩ = some (.string T)) ∧ (Y.cell? ⟨w10.heap.size, 0, none⟩ = some (.int .i64 V) ∧ Y.cell? ⟨w10.heap.size, 1, none⟩ = some (.slice xa L.length xc) ∧ Y.cell? ⟨w10.heap.size, 2, none⟩ = some (.string T))) (first | exact c0 | exact d5 | exact d6)
      (first
        | (go_at_call 12; (with_reducible refine (same_any (LA.out w15 DX5.out).1 (LA.out w15 DX5.out).2 (by omega)).mono ?_); rintro e w16 ⟨rfl, hb6⟩; have D6 := Lib.hid (bl_tr DX5.out hb6); have d6 := FX.out w16 D6.out)
        | (go_at_call 13; (with_reducible refine (from_any (n := L.length) ⟨_, _, rfl⟩).mono ?_); rintro e w15 ⟨rfl, hb5⟩; have DX5 := Lib.hid (bl_tr (bl_drew X11) hb5); have d5 := FX.out w15 DX5.out)
        | fail)
    have HG := Lib.hid (bl_tr BX.out D6.out)
    go_wp2
    go_ret
    exact ⟨rfl, HG.out⟩
  · have b1 : (er != 0) = true := by simpa using he
    clear ES he
    go_wp2
    go_ret
    exact ⟨rfl, HF.out⟩
end Go.Proofs.YtjajpmbmkagcaaaDoor
