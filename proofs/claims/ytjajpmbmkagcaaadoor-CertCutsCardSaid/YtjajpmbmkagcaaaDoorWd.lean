/-
  cert: the reference's Write.
-/
import Derived.Test.YtjajpmbmkagcaaaDoorWc
namespace Go.Proofs.YtjajpmbmkagcaaaDoor
open Go.RowKit
set_option linter.unusedVariables false
/-- what Write answers -/
def WQ (V : Int) (L : List Int) (T : ByteArray) (w : World) (e : Ending) (w' : World) : Prop := (Frm V L T → e = .returned (.tuple #[.string ⟨(txt V L T).toArray⟩, .int .i64 0])) ∧ (¬ Frm V L T → e = .returned (.tuple #[.string ⟨#[]⟩, .int .i64 8])) ∧ Below w.heap.size w w'
theorem wq_no {V : Int} {L : List Int} {T : ByteArray} {w w' : World} (h : ¬ Frm V L T) (hb : Below w.heap.size w w') : WQ V L T w (.returned (.tuple #[.string ⟨#[]⟩, .int .i64 8])) w' := ⟨fun f => absurd f h, fun _ => rfl, hb⟩
theorem wq_yes {V : Int} {L : List Int} {T : ByteArray} {w w' : World} {S : ByteArray} (h : Frm V L T) (hs : S = ⟨(txt V L T).toArray⟩) (hb : Below w.heap.size w w') : WQ V L T w (.returned (.tuple #[.string S, .int .i64 0])) w' := ⟨fun _ => by rw [hs], fun f => absurd h f, hb⟩
theorem joinT_app (sep : List UInt8) (r m : List (List UInt8)) : Lib.joinTail sep (r ++ m) = Lib.joinTail sep r ++ Lib.joinTail sep m := by simp [Lib.joinTail]
theorem jb_one (n : Int) : jb [n] = wb n := by
  unfold jb wb
  rw [List.map_cons, List.map_nil, Lib.join_one]
theorem jb_snoc (L : List Int) (n : Int) (h : L ≠ []) : jb (L ++ [n]) = jb L ++ (⟨#[32]⟩ : ByteArray) ++ wb n := by
  cases L with
  | nil => exact absurd rfl h
  | cons m r =>
    unfold jb wb
    rw [List.cons_append, List.map_cons, List.map_cons, List.map_append, Lib.join_cons, Lib.join_cons, joinT_app]
    refine ByteArray.ext (Array.ext' ?_)
    simp [Lib.joinTail, ByteArray.data_append]
theorem jb_nil : jb [] = ⟨#[]⟩ := rfl
theorem cat_nil (F : ByteArray) : F ++ (⟨#[]⟩ : ByteArray) = F := by
  refine ByteArray.ext (Array.ext' ?_)
  simp [ByteArray.data_append]
theorem cat_asc (A B C : ByteArray) : A ++ B ++ C = A ++ (B ++ C) := ByteArray.append_assoc
set_option maxRecDepth 100000 in
set_option maxHeartbeats 16000000 in
theorem refwrite_text {V : Int} {T : ByteArray} {L : List Int} {v : Value} {w : World} (h1 : Ls v L w) (hL : L.length ≤ 1000000) (hT : T.size ≤ 2000000) : Calls Tryd.prog 10 #[.agg #[.int .i64 V, v, .string T]] w (WQ V L T w) := by
  obtain ⟨a1, c1, rfl⟩ := h1.form
  have b1 := bl_al (Below.refl _ w) (.cells #[.int .i64 V, .slice a1 L.length c1, .string T] 24)
  have e1 := heap_alloc_new w (.cells #[.int .i64 V, .slice a1 L.length c1, .string T] 24)
  have HB := Lib.hid b1
  have H1 := Lib.hid (h1.up b1)
  have HE := Lib.hid e1
  have WA := Lib.hid (show ∀ n : Int, -9223372036854775808 ≤ n → n ≤ 9223372036854775807 → ∀ W, Calls Tryd.prog 19 #[.int .i64 n] W fun e w' => e = .returned (.string (wb n)) ∧ Below W.heap.size W w' from fun n a b W => refwrite_any n a b W)
  obtain ⟨k0, k1, k2⟩ := EB.cells e1
  clear h1 b1 e1
  by_cases v0 : V < 0
  · have U := Lib.hid (wq_no (L := L) (T := T) (fun (h : Frm V L T) => by have := h.v0; omega) HB.out)
    go_enter Tryd.func10, Tryd.ntmps10
    go_wp2
    go_ret2
    exact U.out
  by_cases v1 : 1125899906842624 < V
  · have U := Lib.hid (wq_no (L := L) (T := T) (fun (h : Frm V L T) => by have := h.v1; omega) HB.out)
    go_enter Tryd.func10, Tryd.ntmps10
    go_wp2
    go_ret2
    exact U.out
  by_cases l0 : L.length < 1
  · have U := Lib.hid (wq_no (V := V) (T := T) (fun (h : Frm V L T) => by have := h.l0; omega) HB.out)
    have n1 : (L.length : Int) < 1 := by omega
    go_enter Tryd.func10, Tryd.ntmps10
    go_wp2
    go_ret2
    exact U.out
  have n1 : ¬ (L.length : Int) < 1 := by omega
  by_cases l1 : 64 < L.length
  · have U := Lib.hid (wq_no (V := V) (T := T) (fun (h : Frm V L T) => by have := h.l1; omega) HB.out)
    have i1 : 64 < (L.length : Int) := by omega
    go_enter Tryd.func10, Tryd.ntmps10
    go_wp2
    go_ret2
    exact U.out
  have i1 : ¬ 64 < (L.length : Int) := by omega
  by_cases t0 : T.size < 1
  · have U := Lib.hid (wq_no (V := V) (L := L) (fun (h : Frm V L T) => by have := h.t0; omega) HB.out)
    have n2 : (T.size : Int) < 1 := by omega
    go_enter Tryd.func10, Tryd.ntmps10
    go_wp2
    go_ret2
    exact U.out
  have n2 : ¬ (T.size : Int) < 1 := by omega
  by_cases t1 : 1048576 < T.size
  · have U := Lib.hid (wq_no (V := V) (L := L) (fun (h : Frm V L T) => by have := h.t1; omega) HB.out)
    have i2 : 1048576 < (T.size : Int) := by omega
    go_enter Tryd.func10, Tryd.ntmps10
    go_wp2
    go_ret2
    exact U.out
  have i2 : ¬ 1048576 < (T.size : Int) := by omega
  have HC := Lib.hid (show 0 ≤ V ∧ V ≤ 1125899906842624 ∧ 1 ≤ L.length ∧ L.length ≤ 64 ∧ 1 ≤ T.size ∧ T.size ≤ 1048576 from ⟨by omega, by omega, by omega, by omega, by omega, by omega⟩)
  have HS := Lib.hid (lt_hp HE.out)
  clear l0 l1 t0 t1
  go_enter Tryd.func10, Tryd.ntmps10
  go_upto_region 3 with fail
  generalize w.alloc (.cells #[.int .i64 V, .slice a1 L.length c1, .string T] 24) = X at *
  have FX := Lib.hid (fun W (h : Below X.heap.size X W) => show W.cell? ⟨w.heap.size, 0, none⟩ = some (.int .i64 V) ∧ W.cell? ⟨w.heap.size, 1, none⟩ = some (.slice a1 L.length c1) ∧ W.cell? ⟨w.heap.size, 2, none⟩ = some (.string T) from
    EB.cells ((h.block _ HS.out).trans HE.out))
  have hv0 : -9223372036854775808 ≤ V := by omega
  have hv1 : V ≤ 9223372036854775807 := by omega
  have hn0 : -9223372036854775808 ≤ (L.length : Int) := by omega
  have hn1 : (L.length : Int) ≤ 9223372036854775807 := by omega
  have sv := wb_size V hv0 hv1
  have sn := wb_size (L.length : Int) hn0 hn1
  have HV := Lib.hid (And.intro hv0 hv1)
  have HN := Lib.hid (And.intro hn0 hn1)
  have hc1 : ¬ 9223372036854775807 < 5 + (wb V).size := by omega
  have hc2 : ¬ 9223372036854775807 < 5 + (wb V).size + 1 := by omega
  have hc3 : ¬ 9223372036854775807 < 5 + (wb V).size + 1 + (wb (L.length : Int)).size := by omega
  have hc4 : ¬ 9223372036854775807 < 5 + (wb V).size + 1 + (wb (L.length : Int)).size + 1 := by omega
  have c0 := FX.out X (Below.refl _ _)
  clear hv0 hv1 hn0 hn1 sv sn k0 k1 k2 n1 i1 n2 i2 v0 v1
  go_region_held3 (fun W => W.cell? ⟨w.heap.size, 0, none⟩ = some (.int .i64 V) ∧ W.cell? ⟨w.heap.size, 1, none⟩ = some (.slice a1 L.length c1) ∧ W.cell? ⟨w.heap.size, 2, none⟩ = some (.string T)) (first | exact c0 | exact d3 | exact d5)
    (first
      | (go_at_call 19; (with_reducible refine (WA.out _ (by first | exact HV.out.1 | exact HN.out.1) (by first | exact HV.out.2 | exact HN.out.2) w3).mono ?_); rintro e w5 ⟨rfl, hb5⟩; have D5 := Lib.hid (bl_tr D3.out hb5); have d5 := FX.out w5 D5.out)
      | (go_at_call 19; (with_reducible refine (WA.out _ (by first | exact HV.out.1 | exact HN.out.1) (by first | exact HV.out.2 | exact HN.out.2) _).mono ?_); rintro e w3 ⟨rfl, hb3⟩; have D3 := Lib.hid (bl_tr (bl_drew X) hb3); have d3 := FX.out w3 D3.out))
  all_goals
    have FT := Lib.hid (txt_cat V L T HC.out.2.2.1)
    have S1 := Lib.hid (show ((⟨#[67, 69, 82, 84, 32]⟩ : ByteArray) ++ wb V ++ (⟨#[32]⟩ : ByteArray) ++ wb (L.length : Int) ++ (⟨#[10]⟩ : ByteArray)).size ≤ 1000 from by
      have a1 := wb_size V HV.out.1 HV.out.2
      have a2 := wb_size (L.length : Int) HN.out.1 HN.out.2
      simp only [ByteArray.size_append]
      show 5 + (wb V).size + 1 + _ + 1 ≤ _
      omega)
    have H5 := Lib.hid (bl_tr HB.out D5.out)
    have G5 := Lib.hid (fun W (h : Below w5.heap.size w5 W) => FX.out W (bl_tr D5.out h))
    have L5 := Lib.hid (H1.out.up D5.out)
    clear hc1 hc2 hc3 hc4 c0 HV HN d3 d5 hb3 hb5 D3 D5 FX H1 HB HE HS
    go_wp2_with fail
    generalize (⟨#[67, 69, 82, 84, 32]⟩ : ByteArray) ++ wb V ++ (⟨#[32]⟩ : ByteArray) ++ wb (L.length : Int) ++ (⟨#[10]⟩ : ByteArray) = F at *
    go_loopw [5, 4] (fun i u wr => ∃ (k : Nat) (S : ByteArray), i = .int .i64 (k : Int) ∧ u = .string S ∧ k ≤ L.length ∧ Hid (Below w5.heap.size w5 wr) ∧ Hid (S = F ++ jb (L.take k)) ∧ S.size ≤ 1000 + 22 * k ∧ Hid (∀ j, j < k → 0 ≤ nt L j ∧ nt L j ≤ 999)) (fun i _ _ => L.length - (intOf i).toNat)
    case atStart => exact ⟨0, F, rfl, rfl, Nat.zero_le _, Lib.hid (Below.refl _ _), Lib.hid (cat_nil F).symm, by have := S1.out; omega, Lib.hid (fun j hj => by omega)⟩
    case round =>
      obtain ⟨k, S, rfl, rfl, hk, HX, HJ, hS, HA⟩ := hrel
      obtain ⟨e0, e1, e2⟩ := G5.out wr HX.out
      by_cases hlt : k < L.length
      · rcases L5.out.up HX.out with ⟨_, _, _, h0⟩ | ⟨g, o, c, hv, hc, hg, hcell⟩
        · subst h0; simp at hlt
        · injection hv with q1 q2 q3
          subst q1
          have m1 := hcell k hlt
          have NF := Lib.hid (fun (h : Frm V L T) => h.l2 _ (nt_mem L k hlt))
          have i2 : (k : Int) < (L.length : Int) := by omega
          have ET := Lib.hid (show L.take (k + 1) = L.take k ++ [nt L k] by rw [List.take_add_one, nt_at L k hlt]; rfl)
          have K9 := Lib.hid (show k ≤ 64 from by have := HC.out; omega)
          have HX0 := Lib.hid (bl_tr H5.out HX.out)
          clear hcell q2 q3 hc
          generalize hn : nt L k = n at *
          have hn := Lib.hid hn
          by_cases n0 : n < 0
          · have U := Lib.hid (wq_no (fun (h : Frm V L T) => by have := NF.out h; omega) HX0.out)
            clear NF HA HC hS
            go_wp2
            go_ret2
            exact U.out
          · by_cases n9 : 999 < n
            · have U := Lib.hid (wq_no (fun (h : Frm V L T) => by have := NF.out h; omega) HX0.out)
              clear NF HA HC hS
              go_wp2
              go_ret2
              exact U.out
            · have HA2 := Lib.hid (show ∀ j, j < k + 1 → 0 ≤ nt L j ∧ nt L j ≤ 999 from fun j hj => by
                by_cases e : j = k
                · subst e; rw [hn.out]; omega
                · exact HA.out j (by omega))
              have sn := wb_size n (by omega) (by omega)
              have WN := Lib.hid (fun W => WA.out n (by omega) (by omega) W)
              by_cases k0 : 0 < k
              · have HJ2 := Lib.hid (show S ++ (⟨#[32]⟩ : ByteArray) ++ wb n = F ++ jb (L.take (k + 1)) from by
                  rw [ET.out, jb_snoc _ _ (fun e => by have h0 : (L.take k).length = 0 := (by rw [e]; rfl); rw [List.length_take] at h0; omega), HJ.out, cat_asc, cat_asc, cat_asc])
                have hcA := Lib.hid (show ¬ 9223372036854775807 < S.size + 1 from by have := K9.out; omega)
                have hcB := Lib.hid (show ¬ 9223372036854775807 < S.size + 1 + (wb n).size from by have := K9.out; omega)
                have HS2 := Lib.hid (show (S ++ (⟨#[32]⟩ : ByteArray) ++ wb n).size ≤ 1000 + 22 * (k + 1) from by
                  rw [ByteArray.size_append, ByteArray.size_append]
                  show S.size + 1 + _ ≤ _
                  omega)
                have i3 : (0 : Int) < (k : Int) := by omega
                clear NF HA HC hS sn hn ET
                go_upto_region 10 with fail
                have h1 := hcA.out
                go_wp2_with fail
                clear h1
                refine (WN.out _).mono ?_; rintro e w7 ⟨rfl, hb7⟩
                have HX7 := Lib.hid (bl_tr HX.out hb7)
                have hc := hcB.out
                clear hb7
                go_wp2
                exact ⟨⟨k + 1, _, by go_num, rfl, by omega, HX7, HJ2, HS2.out, HA2⟩, by simp [intOf]; omega⟩
              · have HJ2 := Lib.hid (show S ++ wb n = F ++ jb (L.take (k + 1)) from by
                  rw [ET.out, HJ.out, show L.take k = [] from by rw [show k = 0 by omega]; rfl, jb_nil, cat_nil, List.nil_append, jb_one])
                have hcB := Lib.hid (show ¬ 9223372036854775807 < S.size + (wb n).size from by have := K9.out; omega)
                have HS2 := Lib.hid (show (S ++ wb n).size ≤ 1000 + 22 * (k + 1) from by
                  rw [ByteArray.size_append]
                  omega)
                have i3 : ¬ (0 : Int) < (k : Int) := by omega
                have i4 : decide ((0 : Int) < (k : Int)) = false := decide_eq_false i3
                clear NF HA HC hS sn hn ET
                go_wp2_with fail
                refine (WN.out _).mono ?_; rintro e w7 ⟨rfl, hb7⟩
                have HX7 := Lib.hid (bl_tr HX.out hb7)
                have hc := hcB.out
                clear hb7
                go_wp2
                exact ⟨⟨k + 1, _, by go_num, rfl, by omega, HX7, HJ2, HS2.out, HA2⟩, by simp [intOf]; omega⟩
      · obtain rfl : k = L.length := by omega
        have i2 : ¬ (L.length : Int) < (L.length : Int) := by omega
        have LA := Lib.hid (show ∀ x, x ∈ L → 0 ≤ x ∧ x ≤ 999 from fun x hx => by
          obtain ⟨j, hj, e⟩ := List.mem_iff_getElem.mp hx
          have := HA.out j hj
          unfold nt at this
          rw [List.getElem?_eq_getElem hj, e] at this
          exact this)
        rw [List.take_length] at HJ
        have HW := Lib.hid (bl_tr H5.out HX.out)
        have FE := Lib.hid (show S ++ (⟨#[10]⟩ : ByteArray) ++ T ++ (⟨#[10]⟩ : ByteArray) = ⟨(txt V L T).toArray⟩ from by rw [HJ.out]; exact FT.out)
        have HS3 := Lib.hid (show S.size ≤ 10000 from by have := HC.out; omega)
        clear HA HJ hS hk hlt H5 L5 WA FT S1 HX
        have E1 := Lib.hid e1
        go_upto_region 12 with fail
        go_wp2_with fail
        go_loop [6] (fun i => ∃ k : Nat, i = .int .i64 (k : Int) ∧ k ≤ T.size ∧ Hid (∀ j, j < k → ltr ((T.get! j).toNat : Int) = true)) (fun i => T.size - (intOf i).toNat)
        case atStart => exact ⟨0, rfl, Nat.zero_le _, Lib.hid (fun j hj => by omega)⟩
        case round =>
          obtain ⟨k, rfl, hk, HA⟩ := hrel
          by_cases hlt : k < T.size
          · have i3 : (k : Int) < (T.size : Int) := by omega
            have gt2 := get_of T k hlt
            have NF := Lib.hid (fun (h : Frm V L T) => h.t2 k hlt)
            have LT := Lib.hid (fun W => refletter_any (T[k]'hlt).toNat (UInt8.toNat_lt _) W)
            by_cases hl : ltr ((T.get! k).toNat : Int) = true
            · have HA2 := Lib.hid (show ∀ j, j < k + 1 → ltr ((T.get! j).toNat : Int) = true from fun j hj => by
                by_cases e : j = k
                · subst e; exact hl
                · exact HA.out j (by omega))
              rw [← gt2, hl, gt2] at LT
              have hT2 := hT
              clear HA NF hl gt2 HC
              go_wp2_with fail
              refine (LT.out _).mono ?_; rintro x w7 ⟨rfl, rfl⟩
              clear LT
              go_wp2
              go_round
              case rel => exact ⟨k + 1, by go_num, by omega, HA2⟩
              case measure => simp [intOf]; omega
            · have U := Lib.hid (wq_no (fun h => hl (NF.out h)) HW.out)
              have hl2 : ltr ((T.get! k).toNat : Int) = false := by simpa using hl
              rw [← gt2, hl2, gt2] at LT
              clear HA NF hl hl2 gt2 HC
              go_wp2_with fail
              refine (LT.out _).mono ?_; rintro x w7 ⟨rfl, rfl⟩
              clear LT
              go_wp2
              go_ret2
              exact U.out
          · have i3 : ¬ (k : Int) < (T.size : Int) := by omega
            have F0 : Frm V L T := ⟨HC.out.1, HC.out.2.1, HC.out.2.2.1, HC.out.2.2.2.1, LA.out, HC.out.2.2.2.2.1, HC.out.2.2.2.2.2, fun j hj => HA.out j (by omega)⟩
            have U := Lib.hid (wq_yes F0 FE.out HW.out)
            have hc1 := Lib.hid (show ¬ 9223372036854775807 < S.size + 1 from by have := HS3.out; omega)
            have hc2 := Lib.hid (show ¬ 9223372036854775807 < S.size + 1 + T.size from by have := HS3.out; omega)
            have hc3 := Lib.hid (show ¬ 9223372036854775807 < S.size + 1 + T.size + 1 from by have := HS3.out; omega)
            clear HA HC F0
            go_upto_region 17 with fail
            have h1 := hc1.out
            have h2 := hc2.out
            have h3 := hc3.out
            go_wp2
            go_ret2
            exact U.out
end Go.Proofs.YtjajpmbmkagcaaaDoor
