/-
  cert: Write.
-/
import Derived.Test.YtjajpmbmkagcaaaDoorWb
namespace Go.Proofs.YtjajpmbmkagcaaaDoor
open Go.RowKit
set_option linter.unusedVariables false
/-- a list of texts that a walk has built -/
def Osl (B : Nat) (v : Value) (L : List ByteArray) (w : World) : Prop := w.ownsRow B 9 1 v L.length (L.map Value.string)
theorem info9 : (Tryd.prog.info? 9).map (fun i => (i.zero, i.size, i.bytes)) = some (some (.string ⟨#[]⟩), 1, 16) := by kernel_rfl
theorem Osl.up {B : Nat} {v : Value} {L : List ByteArray} {w w1 : World} (h : Osl B v L w) (k : Below w.heap.size w w1) : Osl B v L w1 := by
  refine ⟨h.1, ?_⟩
  rcases h.2 with hn | ⟨g, cap, cur, rfl, hg, hh, r⟩
  · exact Or.inl hn
  · exact Or.inr ⟨g, cap, cur, rfl, hg, (k.block g (lt_hp hh)).trans hh, r⟩
theorem Osl.form {B : Nat} {v : Value} {L : List ByteArray} {w : World} (h : Osl B v L w) : ∃ a c, v = .slice a L.length c := by
  rcases h.2 with ⟨h1, h2⟩ | ⟨g, cap, cur, h1, _⟩
  · rw [h2]; exact ⟨_, _, h1⟩
  · exact ⟨_, _, h1⟩
theorem wpList_apps {ops : Array Oper} {rest : List Oper} {o : Oper} {A : Act} {X : World} {Q : Exit → Act → World → Prop} (hgd : o.guard = none) (s x : Operand) (ho : o.op = .call { callee := .builtin .append, args := #[s, x], argTypes := #[46, 46] }) (hty : o.type = 46)
    (B : Nat) (v : Value) (L : List ByteArray) (m : ByteArray) (g1 : Nat) (he : A.eval s = v) (hx : A.eval x = .slice (some ⟨g1, 0, none⟩) 1 1) (hl : L.length ≤ 900) (hown : Osl B v L X) (hB : B ≤ X.heap.size) (hc : X.cell? ⟨g1, 0, none⟩ = some (.string m))
    (h : ∀ v' X', Osl B v' (L ++ [m]) X' → Below B X X' → wpList Tryd.prog ops Q rest (A.put o.dst v') X') : wpList Tryd.prog ops Q (o :: rest) A X :=
  wpList_plain hgd fun K hK => by
    obtain ⟨i0, hi, hz0, hz1, hz2⟩ := info_parts info9
    obtain ⟨v', w', hr, h2, h3, h4, h5⟩ := run_append_own_at (P := Tryd.prog) X B 46 46 9 i0 (.string ⟨#[]⟩) 1 16 Tryd.underlying46 hi hz0 hz1 hz2 rfl (by decide) v L.length (L.map Value.string) hown ⟨g1, 0, none⟩ 1 1 [.string m] (by simp) (fun j u hj => by
      cases j with
      | zero => simp at hj; subst hj; exact hc
      | succ j => simp at hj) (by simp [Value.oneCell']) (by unfold maxLen; omega) (by omega) hB
    unfold Oper.wp execOp
    simp only [ho, hty, resolve, invoke, builtin, Sem.run_bind, Sem.run_pure, Result.andThen_ok, List.map_toArray, List.map_cons, List.map_nil, he, hx, hr]
    refine hK _ _ (h v' w' ?_ ⟨h3.os, h3.tape, h3.output, h3.size, fun b hb => h3.block b (by omega) (fun e => ?_)⟩)
    · show w'.ownsRow B 9 1 v' (L ++ [m]).length ((L ++ [m]).map Value.string)
      rw [List.map_append, List.length_append]
      exact h2
    · rcases hown.2 with ⟨rfl, _⟩ | ⟨g, cap, cur, rfl, hg, _⟩
      · simp [Value.ownBlock] at e
      · simp [Value.ownBlock] at e
        omega
def wb (n : Int) : ByteArray := ⟨(Lib.itoa n).toArray⟩
theorem wb_size (n : Int) (h0 : -9223372036854775808 ≤ n) (h1 : n ≤ 9223372036854775807) : (wb n).size ≤ 21 := Lib.itoa_length_le n h0 h1
theorem jt_el : ∀ (r : List Int) (j : Nat), Lib.joinTail [32] (r.map Lib.itoa) = elT (j + 1) r
  | [], j => rfl
  | n :: r, j => by
    have ih := jt_el r (j + 1)
    unfold Lib.joinTail at ih ⊢
    simp only [List.map_cons, List.flatten_cons, elT]
    rw [ih]
    rfl
theorem join_el (L : List Int) (h : 1 ≤ L.length) : 10 :: Lib.join (L.map Lib.itoa) [32] = elT 0 L := by
  cases L with
  | nil => simp at h
  | cons n r =>
    rw [List.map_cons, Lib.join_cons, jt_el r 0]
    rfl
theorem elT_len : ∀ (L : List Int) (j : Nat), (∀ x, x ∈ L → 0 ≤ x ∧ x ≤ 999) → (elT j L).length ≤ 22 * L.length
  | [], j, _ => by simp [elT]
  | n :: r, j, h => by
    have ih := elT_len r (j + 1) (fun x hx => h x (List.mem_cons_of_mem _ hx))
    have b := h n List.mem_cons_self
    have l := Lib.itoa_length_le n (by omega) (by omega)
    simp only [elT, List.length_cons, List.length_append]
    omega
/-- the elements, joined -/
def jb (L : List Int) : ByteArray := ⟨(Lib.join (L.map Lib.itoa) [32]).toArray⟩
theorem jb_size {L : List Int} (h : 1 ≤ L.length) (hx : ∀ x, x ∈ L → 0 ≤ x ∧ x ≤ 999) : (jb L).size ≤ 22 * L.length := by
  have := elT_len L 0 hx
  rw [← join_el L h, List.length_cons] at this
  show (Lib.join (L.map Lib.itoa) [32]).length ≤ _
  omega
theorem join_any {L : List Int} {ua : Option Addr} {uc B : Nat} {wr : World} (ho : Osl B (.slice ua L.length uc) (L.map wb) wr) (h1 : 1 ≤ L.length) (h2 : L.length ≤ 1000) (hx : ∀ x, x ∈ L → 0 ≤ x ∧ x ≤ 999) (W : World) (hb : Below wr.heap.size wr W) : Calls Tryd.prog 18 #[.slice ua L.length uc, .string ⟨#[32]⟩] W fun e w' => e = .returned (.string (jb L)) ∧ Below W.heap.size W w' := by
  rcases ho.2 with ⟨h3, h4⟩ | ⟨g, cap, cur, h3, h4, h5, h6, h7, h8, h9⟩
  · rw [List.length_map] at h4; omega
  · injection h3 with q1 q2 q3
    subst q1 q3
    have e : (L.map wb).map (·.data.toList) = L.map Lib.itoa := by
      rw [List.map_map]
      exact List.map_congr_left fun x _ => rfl
    have js := jb_size h1 hx
    have := Tryd.strings_Join g 0 uc (L.map wb) ⟨#[32]⟩ W (fun j x hj => by
      rw [Nat.zero_add]
      refine (hb.cell (p := ⟨g, j, none⟩) (lt_hp h5)).trans (cell_take h5 h9 ?_)
      rw [List.getElem?_map, hj]; rfl) (Nat.lt_of_lt_of_le (lt_hp h5) hb.size) (by rw [List.length_map]; omega) h6 (by
      rw [e]
      show (jb L).size ≤ _
      omega)
    rw [e, List.length_map] at this
    exact this
theorem txt_cat (V : Int) (L : List Int) (T : ByteArray) (h : 1 ≤ L.length) : ((⟨#[67, 69, 82, 84, 32]⟩ : ByteArray) ++ wb V ++ (⟨#[32]⟩ : ByteArray) ++ wb (L.length : Int)) ++ (⟨#[10]⟩ : ByteArray) ++ jb L ++ (⟨#[10]⟩ : ByteArray) ++ T ++ (⟨#[10]⟩ : ByteArray) = ⟨(txt V L T).toArray⟩ := by
  refine ByteArray.ext (Array.ext' ?_)
  unfold txt hdT
  rw [← join_el L h]
  simp [wb, jb, qC, ByteArray.data_append]
theorem write_no {V : Int} {T : ByteArray} {L : List Int} {v : Value} {w : World} (h1 : Ls v L w) (hL : L.length ≤ 1000000) (hT : T.size ≤ 2000000) (hF : ¬ Frm V L T) : Calls Tryd.prog 9 #[.agg #[.int .i64 V, v, .string T]] w fun e w' => e = .returned (.tuple #[.string ⟨#[]⟩, .int .i64 8]) ∧ Below w.heap.size w w' := by
  obtain ⟨a1, c1, rfl⟩ := h1.form
  have b1 := bl_al (Below.refl _ w) (.cells #[.int .i64 V, .slice a1 L.length c1, .string T] 26)
  have e1 := heap_alloc_new w (.cells #[.int .i64 V, .slice a1 L.length c1, .string T] 26)
  have HB := Lib.hid b1
  have VA := Lib.hid (valid_any (V := V) (T := T) (h1.up b1) hL hT)
  have HF := Lib.hid hF
  obtain ⟨k0, k1, k2⟩ := EB.cells e1
  clear h1 b1 e1 hF
  go_enter Tryd.func9, Tryd.ntmps9
  go_wp2_with fail
  refine VA.out.mono ?_; rintro e w1 ⟨b, rfl, hb, h2⟩
  obtain rfl : b = false := by
    cases b with
    | false => rfl
    | true => exact absurd (hb.1 rfl) HF.out
  have H2 := Lib.hid (bl_tr HB.out h2)
  clear hb h2 VA HB HF
  go_wp2
  go_ret2
  exact ⟨rfl, H2.out⟩
set_option maxRecDepth 100000 in
set_option maxHeartbeats 8000000 in
theorem write_yes {V : Int} {T : ByteArray} {L : List Int} {v : Value} {w : World} (h1 : Ls v L w) (hF : Frm V L T) (ht : Tab w) : Calls Tryd.prog 9 #[.agg #[.int .i64 V, v, .string T]] w fun e w' => e = .returned (.tuple #[.string ⟨(txt V L T).toArray⟩, .int .i64 0]) ∧ Below w.heap.size w w' := by
  obtain ⟨a1, c1, rfl⟩ := h1.form
  have b1 := bl_al (Below.refl _ w) (.cells #[.int .i64 V, .slice a1 L.length c1, .string T] 26)
  have e1 := heap_alloc_new w (.cells #[.int .i64 V, .slice a1 L.length c1, .string T] 26)
  have HB := Lib.hid b1
  have H1 := Lib.hid (h1.up b1)
  have HE := Lib.hid e1
  have VA := Lib.hid (valid_any (V := V) (T := T) (h1.up b1) (by have := hF.l1; omega) (by have := hF.t1; omega))
  have HF := Lib.hid hF
  have HT := Lib.hid ht
  have WA := Lib.hid (show ∀ n : Int, -9223372036854775808 ≤ n → n ≤ 9223372036854775807 → ∀ W, Tab W → Calls Tryd.prog 17 #[.int .i64 n] W fun e w' => e = .returned (.string (wb n)) ∧ Below W.heap.size W w' from fun n a b W t => write_any n a b W t)
  obtain ⟨k0, k1, k2⟩ := EB.cells e1
  clear h1 b1 hF e1 ht
  go_enter Tryd.func9, Tryd.ntmps9
  go_wp2_with fail
  refine VA.out.mono ?_; rintro e w1 ⟨b, rfl, hb, h2⟩
  obtain rfl : b = true := hb.2 HF.out
  have HB1 := Lib.hid (bl_tr HB.out h2)
  have HE1 := Lib.hid ((h2.block _ (lt_hp HE.out)).trans HE.out)
  have H1 := Lib.hid (H1.out.up h2)
  have HS := Lib.hid (show w.heap.size < w1.heap.size from lt_hp HE1.out)
  clear hb h2 VA HB HE k0 k1 k2
  obtain ⟨k0, k1, k2⟩ := EB.cells HE1.out
  go_wp2_with fail
  go_loopw [14, 4] (fun i u wr => ∃ k : Nat, i = .int .i64 (k : Int) ∧ k ≤ L.length ∧ Hid (Below w1.heap.size w1 wr) ∧ Hid (Osl w1.heap.size u ((L.take k).map wb) wr)) (fun i _ _ => L.length - (intOf i).toNat)
  case atStart => exact ⟨0, rfl, Nat.zero_le _, Lib.hid (Below.refl _ _), Lib.hid ⟨rfl, .inl ⟨rfl, rfl⟩⟩⟩
  case round =>
    clear k0 k1 k2
    obtain ⟨k, rfl, hk, HX, HO⟩ := hrel
    obtain ⟨ua, uc, rfl⟩ := HO.out.form
    have LK := Lib.hid (show ((L.take k).map wb).length = k by rw [List.length_map, List.length_take]; omega)
    rw [LK.out]
    by_cases hlt : k < L.length
    · rcases H1.out.up HX.out with ⟨_, _, _, h0⟩ | ⟨g, o, c, hv, hc, hg, hcell⟩
      · subst h0; simp at hlt
      · injection hv with q1 q2 q3
        subst q1
        have m1 := hcell k hlt
        have i2 : (k : Int) < (L.length : Int) := by omega
        have NB := Lib.hid (HF.out.l2 _ (nt_mem L k hlt))
        have ET := Lib.hid (show (L.take (k + 1)).map wb = (L.take k).map wb ++ [wb (nt L k)] by rw [List.take_add_one, nt_at L k hlt]; simp)
        have T2 := Lib.hid (tab_keep HT.out (bl_tr HB1.out HX.out))
        have hk64 : k ≤ 64 := by have := HF.out.l1; omega
        have K9 := Lib.hid (show k ≤ 64 from by have := HF.out.l1; omega)
        clear hcell q2 q3 hc
        generalize nt L k = n at *
        go_wp2_with fail
        refine (WA.out n (by have := NB.out; omega) (by have := NB.out; omega) _ T2.out).mono ?_; rintro e w2 ⟨rfl, hb2⟩
        have HX2 := Lib.hid (bl_tr HX.out hb2)
        have HO2 := Lib.hid (HO.out.up hb2)
        clear hb2 HX HO m1
        have HC := Lib.hid (heap_alloc_new w2 (.cells #[.string (wb n)] 9))
        have AL := Lib.hid (bl_al HX2.out (.cells #[.string (wb n)] 9))
        have HO3 := Lib.hid (HO2.out.up (bl_al (Below.refl _ w2) (.cells #[.string (wb n)] 9)))
        rw [LK.out] at HO3
        clear HO2
        go_wp2_with (at_builtin; refine wpList_apps rfl _ _ rfl rfl w1.heap.size _ _ (wb n) w2.heap.size rfl rfl (by rw [LK.out]; have := K9.out; omega) HO3.out (Nat.le_trans HX2.out.size (by simp)) ((cell_of_row _ _ 0 _ 9 _ HC.out).trans rfl) ?_; intro u' w3 ho hb3)
        obtain ⟨va, vc, rfl⟩ := ho.form
        have HX3 := Lib.hid (AL.out.trans hb3)
        have HO4 := Lib.hid ho
        clear ho hb3 HO3 AL HC
        exact ⟨⟨k + 1, by go_num, by omega, HX3, Lib.hid (by rw [ET.out]; exact HO4.out)⟩, by simp [intOf]; omega⟩
    · obtain rfl : k = L.length := by omega
      have i2 : ¬ (L.length : Int) < (L.length : Int) := by omega
      have HW := Lib.hid (bl_tr HB1.out HX.out)
      have HE2 := Lib.hid ((HX.out.block _ HS.out).trans HE1.out)
      have HS2 := Lib.hid (lt_hp HE2.out)
      rw [List.take_length] at HO LK
      have FX := Lib.hid (fun W (h : Below wr.heap.size wr W) => show W.cell? ⟨w.heap.size, 0, none⟩ = some (.int .i64 V) ∧ W.cell? ⟨w.heap.size, 1, none⟩ = some (.slice a1 L.length c1) from
        ⟨(h.cell (p := ⟨w.heap.size, 0, none⟩) HS2.out).trans (EB.cells HE2.out).1, (h.cell (p := ⟨w.heap.size, 1, none⟩) HS2.out).trans (EB.cells HE2.out).2.1⟩)
      have T2 := Lib.hid (tab_keep HT.out HW.out)
      have TD := Lib.hid (tab_keep T2.out (bl_drew wr))
      have hv0 : -9223372036854775808 ≤ V := by have := HF.out.v0; omega
      have hv1 : V ≤ 9223372036854775807 := by have := HF.out.v1; omega
      have hn0 : -9223372036854775808 ≤ (L.length : Int) := by omega
      have hn1 : (L.length : Int) ≤ 9223372036854775807 := by have := HF.out.l1; omega
      have sv := wb_size V hv0 hv1
      have sn := wb_size (L.length : Int) hn0 hn1
      have HV := Lib.hid (And.intro hv0 hv1)
      have HN := Lib.hid (And.intro hn0 hn1)
      have hc1 : ¬ 9223372036854775807 < 5 + (wb V).size := by omega
      have hc2 : ¬ 9223372036854775807 < 5 + (wb V).size + 1 := by omega
      have hc3 : ¬ 9223372036854775807 < 5 + (wb V).size + 1 + (wb (L.length : Int)).size := by omega
      have c0 := FX.out wr (Below.refl _ _)
      clear hv0 hv1 hn0 hn1 HX hlt sv sn H1 HS HE1 HB1 hk i2
      go_upto_region 9 with fail
      go_region_held3 (fun W => W.cell? ⟨w.heap.size, 0, none⟩ = some (.int .i64 V) ∧ W.cell? ⟨w.heap.size, 1, none⟩ = some (.slice a1 L.length c1)) (first | exact c0 | exact d3 | exact d5)
        (first
          | (go_at_call 17; (with_reducible refine (WA.out _ (by first | exact HV.out.1 | exact HN.out.1) (by first | exact HV.out.2 | exact HN.out.2) _ (tab_keep T2.out D3.out)).mono ?_); rintro e w5 ⟨rfl, hb5⟩; have D5 := Lib.hid (bl_tr D3.out hb5); have d5 := FX.out w5 D5.out)
          | (go_at_call 17; (with_reducible refine (WA.out _ (by first | exact HV.out.1 | exact HN.out.1) (by first | exact HV.out.2 | exact HN.out.2) _ TD.out).mono ?_); rintro e w3 ⟨rfl, hb3⟩; have D3 := Lib.hid (bl_tr (bl_drew wr) hb3); have d3 := FX.out w3 D3.out))
      have FT := Lib.hid (txt_cat V L T HF.out.l0)
      have S1 := Lib.hid (show ((⟨#[67, 69, 82, 84, 32]⟩ : ByteArray) ++ wb V ++ (⟨#[32]⟩ : ByteArray) ++ wb (L.length : Int)).size ≤ 1000 from by
        have a1 := wb_size V HV.out.1 HV.out.2
        have a2 := wb_size (L.length : Int) HN.out.1 HN.out.2
        simp only [ByteArray.size_append]
        show 5 + (wb V).size + 1 + _ ≤ _
        omega)
      have JA := Lib.hid (fun W hb => join_any (LK.out ▸ HO.out) HF.out.l0 (by have := HF.out.l1; omega) HF.out.l2 W hb)
      clear hc1 hc2 hc3 c0
      go_upto_region 10 with fail
      have HW5 := Lib.hid (bl_tr HW.out D5.out)
      have C5 := Lib.hid (show w5.cell? ⟨w.heap.size, 2, none⟩ = some (.string T) from (D5.out.cell (p := ⟨w.heap.size, 2, none⟩) HS2.out).trans (EB.cells HE2.out).2.2)
      have LT5 := Lib.hid (Nat.lt_of_lt_of_le HS2.out D5.out.size)
      have JD := Lib.hid (JA.out w5.drew (bl_tr D5.out (bl_drew w5)))
      have JS := Lib.hid (jb_size HF.out.l0 HF.out.l2)
      have TS := Lib.hid (show L.length ≤ 64 ∧ T.size ≤ 1048576 from ⟨HF.out.l1, HF.out.t1⟩)
      generalize (⟨#[67, 69, 82, 84, 32]⟩ : ByteArray) ++ wb V ++ (⟨#[32]⟩ : ByteArray) ++ wb (L.length : Int) = F at *
      generalize jb L = J at *
      have hc1 : ¬ 9223372036854775807 < F.size + 1 := by have := S1.out; omega
      have hc2 : ¬ 9223372036854775807 < F.size + 1 + J.size := by have := S1.out; have := JS.out; have := TS.out; omega
      have hc3 : ¬ 9223372036854775807 < F.size + 1 + J.size + 1 := by have := S1.out; have := JS.out; have := TS.out; omega
      have hc4 : ¬ 9223372036854775807 < F.size + 1 + J.size + 1 + T.size := by have := S1.out; have := JS.out; have := TS.out; omega
      have hc5 : ¬ 9223372036854775807 < F.size + 1 + J.size + 1 + T.size + 1 := by have := S1.out; have := JS.out; have := TS.out; omega
      have c5 := C5.out
      clear JA D5 D3 hb3 hb5 d3 d5 HO LK
      go_region_held3 (fun W => W.cell? ⟨w.heap.size, 2, none⟩ = some (.string T)) (first | exact c5 | exact d7)
        ((go_at_call 18; (with_reducible refine JD.out.mono ?_); rintro e w7 ⟨rfl, hb7⟩; have D7 := Lib.hid (bl_tr HW5.out (bl_tr (bl_drew w5) hb7)); have d7 := (hb7.cell (p := ⟨w.heap.size, 2, none⟩) LT5.out).trans c5))
      clear hc1 hc2 hc3 hc4 hc5
      go_wp2
      go_ret2
      exact ⟨congrArg (fun z => Ending.returned (.tuple #[.string z, .int .i64 0])) FT.out, D7.out⟩
end Go.Proofs.YtjajpmbmkagcaaaDoor
