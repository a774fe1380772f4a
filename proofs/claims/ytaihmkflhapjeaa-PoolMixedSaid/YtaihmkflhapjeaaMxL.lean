/-
  The walk through kurganlaw18.PoolMixed.
-/
import Derived.Test.YtaihmkflhapjeaaMxN
import Derived.Deep.Cut
import Derived.Deep.DeepCutAuto
namespace Go.Proofs.Ytaihmkflhapjeaa
open Go.RowKit Go.MuLone
set_option linter.unusedVariables false
/-- what came in, at hand -/
def T3 (a : Option Addr) (m : Nat) (tw tt ta : Nat → Int) (w : World) : Prop := ∀ k, k < m → ∃ bb oo, a = some ⟨bb, oo, none⟩ ∧ ∀ W, Below w.heap.size w W → W.cell? ⟨bb, oo + k * 3, none⟩ = some (.int .i64 (tw k)) ∧ W.cell? ⟨bb, oo + k * 3 + 1, none⟩ = some (.int .i64 (tt k)) ∧ W.cell? ⟨bb, oo + k * 3 + 2, none⟩ = some (.int .i64 (ta k))
set_option maxRecDepth 100000 in
set_option maxHeartbeats 100000000 in
theorem mixed_core (x U : Int) (n r m : Nat) (hU : IntKind.u64.wrap x = U) (hU1 : 0 ≤ U) (hr : U % 12 = (r : Int)) (hr2 : r ≤ 11) (hn : n = r + 1)
    (a : Option Addr) (rn rc : Nat) (tw tt ta : Nat → Int) (w : World) (hm : m ≤ 300) (hrn : ∀ k : Nat, k < m → k < rn) (hrn2 : ¬ m = 300 → rn = m) (hR : T3 a m tw tt ta w) :
    Calls Try.prog 4 #[.int .i64 x, .slice a rn rc] w fun e w' => e = .returned (.bool true) ∧ Below w.heap.size w w' := by
  have FR := Lib.hid (fresh_any n 4 (by omega) (by omega) (by omega) (by omega) w)
  rw [show ((4 : Nat) : Int) = 4 from rfl] at FR
  have AR := Lib.hid hR
  have HN := Lib.hid hrn
  have HN2 := Lib.hid hrn2
  have PA := Lib.hid pools_any
  have RN := Lib.hid (rnew_any n (by omega) (by omega))
  have a1 : (1 : Int) + (r : Int) = (n : Int) := by omega
  have a2 : IntKind.i64.wrap (r : Int) = (r : Int) := IntWalk.i64_in _ (by omega)
  have a3 : IntKind.i64.wrap ((1 : Int) + (r : Int)) = (n : Int) := by rw [a1]; exact IntWalk.i64_in _ (by omega)
  have b1 : 1 ≤ n := by omega
  have b2 : n ≤ 30 := by omega
  clear hR hrn hrn2 hn
  go_enter Try.func4, Try.ntmps4
  go_wp2_with fail
  refine FR.out.mono ?_; rintro e w1 ⟨A, l', rfl, hbase, hAn, hAk, hsz, hln, hlf, po, bl⟩
  subst hAn
  have PO := Lib.hid po
  have B := Lib.hid bl
  have SZ := Lib.hid hsz
  have LFh := Lib.hid hlf
  have HL := Lib.hid hln
  have hbase := Lib.hid hbase
  have hAk := Lib.hid hAk
  clear po bl hsz hln hlf FR a1 a2 a3 hr hU hU1
  go_wp2_with fail
  refine (PA.out _).mono ?_; rintro e w3 ⟨rfl, hb3⟩
  have PO := Lib.hid (PO.out.up hb3)
  have B := Lib.hid (bl_tr B.out hb3)
  clear hb3 PA
  go_wp2_with fail
  refine (RN.out _).mono ?_; rintro e w4 ⟨g, cap, rfl, hg, hR, hb4⟩
  have ST := Lib.hid (jt_begin hbase.out hAk.out b2 SZ.out LFh.out HL.out PO.out B.out rfl hg hR hb4)
  unfold nils nosl at ST
  clear PO B SZ LFh HL hbase hAk hg hR hb4 RN
  generalize w3.heap.size = q at *
  go_wp2_with fail
  generalize ((w4.alloc (.cells #[.pointer none, .pointer none, .pointer none, .pointer none] 47)).alloc (.cells #[.slice none 0 0, .slice none 0 0, .slice none 0 0, .slice none 0 0] 48)) = w5 at *
  generalize w4.heap.size + 1 = qh at *
  generalize w4.heap.size = qa at *
  go_loopw [11] (fun i wr => ∃ k : Nat, i = .int .i64 k ∧ k ≤ m ∧ Hid (Jt A q g cap qa qh w.heap.size w (A.n + 1 + k) wr)) (fun i _ => 300 - (intOf i).toNat)
  case atStart => exact ⟨0, rfl, by omega, by simpa using ST⟩
  case round =>
    clear ST
    obtain ⟨k, rfl, hk, ST⟩ := hrel
    by_cases hlt : k < m
    · have i0 : (k : Int) < 300 := by omega
      have i1 : (k : Int) < (rn : Int) := by have := HN.out k hlt; omega
      have i2 : 0 ≤ (k : Int) := by omega
      have hwk : IntKind.i64.wrap ((k : Int) + 1) = (k : Int) + 1 := IntWalk.i64_in _ (by omega)
      obtain ⟨bb, oo, rfl, hrow⟩ := AR.out k hlt
      obtain ⟨nv, nb, hd, ow, l, s, own, st, loc, ac, H, hvv, hl, L, bx, fr, mx, lv, rl, hs, bel, hH⟩ := ST.out
      obtain ⟨c0, c1, c2⟩ := hrow _ bel
      have MX := Lib.hid mx
      have LV := Lib.hid lv
      have RL := Lib.hid rl
      have HS := Lib.hid hs
      have BE := Lib.hid bel
      have HH := Lib.hid hH
      clear mx lv rl hs bel hH hrow ST
      generalize tw k = xw at *
      generalize tt k = xt at *
      generalize ta k = xa at *
      obtain ⟨V, hV⟩ : ∃ V, IntKind.u64.wrap xw = V := ⟨_, rfl⟩
      have hV1 := u64_bd xw
      rw [hV] at hV1
      obtain ⟨i, hi⟩ : ∃ i : Nat, V % 4 = i := ⟨(V % 4).toNat, by omega⟩
      have i4 : i < 4 := by omega
      have i4i : (i : Int) < 4 := by omega
      have al := bl_al (Below.refl _ wr) (.cells #[.int .i64 xw, .int .i64 xt, .int .i64 xa] 50)
      have LV := Lib.hid (LV.out.up al)
      have MX := Lib.hid (MX.out.up al)
      have BE := Lib.hid (bl_tr BE.out al)
      clear al
      obtain ⟨d0, d1⟩ := LV.out.ca i i4
      cases hx : ac i with
      | none =>
        have e0 : xp bx ac i = .pointer none := by unfold xp; rw [hx]
        rw [e0] at d0
        obtain ⟨f0, f1, la, lc, hf⟩ := LV.out.ch i i4
        rw [hf] at f0
        rcases (show (xt ≠ 4 ∨ (xt = 4 ∧ (L i).length = 0)) ∨ (xt = 4 ∧ 0 < (L i).length) by omega) with hor | ⟨rfl, h0⟩
        · as_aux_lemma =>
            have T : True := trivial
            rcases hor with h4 | ⟨rfl, h0⟩
            case' inl => have q4 : (xt == 4) = false := by simpa using h4
            case' inr => rw [h0] at f0
            all_goals
              go_upto_region 19 with fail
              clear d0 f0 f1 c0 c1 c2 hf
              go_wp2_with fail
              refine (mx_take MX.out i4 hx).mono ?_; rintro e w6 ⟨cb, rfl, g1, g2, mx2⟩
              have LV := Lib.hid (LV.out.up g2)
              have BE := Lib.hid (bl_tr BE.out g2)
              clear g1 g2 MX
              go_wp2_with fail
              refine (mx_shared mx2).mono ?_; rintro e w7 ⟨x3, c3, rfl, i3, t3, mx3, fr3⟩
              have LV := Lib.hid (LV.out.fr' fr3)
              have BE := Lib.hid (fr3.bel BE.out BE.out.size)
              have SL := mx3.st_le
              clear i3 t3 fr3 mx2
              go_wp2_with fail
              refine (mx_own mx3 i4).mono ?_; rintro e w8 ⟨v3, rfl, l3, g3, mx4⟩
              obtain ⟨x4, c4, rfl, _⟩ := l3.ints
              rw [ints_len]
              have LV := Lib.hid (LV.out.up g3)
              have BE := Lib.hid (bl_tr BE.out g3)
              have OL := mx3.px.o2 i i4
              have N2 := mx3.px.n2
              obtain ⟨d0, d1⟩ := LV.out.ca i i4
              have al := bl_al (Below.refl _ w8) (.cells #[.pointer (some ⟨cb, 0, none⟩), .bool false, .int .i64 0, .int .i64 ((st.length : Int) + ((own i).length : Int))] 52)
              have d2 : ∀ j, (w8.alloc (.cells #[.pointer (some ⟨cb, 0, none⟩), .bool false, .int .i64 0, .int .i64 ((st.length : Int) + ((own i).length : Int))] 52)).frozen? ⟨qa, j, none⟩ = false := fun j => (al.frozen (p := ⟨qa, j, none⟩) (lt_hp LV.out.ha)).trans (d1 j)
              have d3 := (al.cell (p := ⟨qa, i, none⟩) (lt_hp LV.out.ha)).trans d0
              have hwl : IntKind.i64.wrap ((st.length : Int) + ((own i).length : Int)) = (st.length : Int) + ((own i).length : Int) := IntWalk.i64_in _ (by omega)
              have JT := Lib.hid (jt_take (v := (st.length : Int) + ((own i).length : Int)) mx4 LV.out RL.out i4 hx (by omega) (by omega) HS.out BE.out HH.out)
              clear LV BE RL HS HH mx3 mx4 l3 g3 d0 d1 al hx
              go_wp2
              go_roundw
              case rel => exact ⟨k + 1, by go_num, by omega, Lib.hid (by
                obtain ⟨nv, nb, hd, ow, l, s, own, st, loc, ac, H, hvv, hl, L, bx, fr, mx, lv, rl, hs, bel, hH⟩ := JT.out
                exact ⟨nv, nb, hd, ow, l, s, own, st, loc, ac, H, hvv, hl, L, bx, fr, mx, lv, rl, by omega, bel, hH⟩)⟩
              case measure => simp [intOf]; omega
        · as_aux_lemma =>
            have j0 : (0 : Int) < ((L i).length : Int) := by omega
            go_upto_region 15 with fail
            have LN := Lib.hid (show (L i).length ≤ 30 from by
              have := nodup_lt A.n (L i) (RL.out.nd i i4) (fun m hm => ((RL.out.lr i i4 m).mp hm).1); omega)
            obtain ⟨V2, hV2⟩ : ∃ V2, IntKind.u64.wrap xa = V2 := ⟨_, rfl⟩
            have hV3 := u64_bd xa
            rw [hV2] at hV3
            obtain ⟨kk, hkk⟩ : ∃ kk : Nat, V2 % ((L i).length : Int) = (kk : Int) := ⟨(V2 % ((L i).length : Int)).toNat, by have := Int.emod_nonneg V2 (show ((L i).length : Int) ≠ 0 by omega); omega⟩
            have hk1 : kk < (L i).length := by have := Int.emod_lt_of_pos V2 j0; omega
            have hkt : V2.tmod ((L i).length : Int) = (kk : Int) := by rw [Int.tmod_eq_emod_of_nonneg hV3.1]; exact hkk
            have hwN : IntKind.u64.wrap ((L i).length : Int) = ((L i).length : Int) := by have := LN.out; rw [IntKind.wrap_u64, Int.emod_eq_of_lt (by omega) (by omega)]
            have hwkk : IntKind.i64.wrap (kk : Int) = (kk : Int) := IntWalk.i64_in _ (by have := LN.out; omega)
            have hwk1 : IntKind.i64.wrap ((kk : Int) + 1) = (kk : Int) + 1 := IntWalk.i64_in _ (by have := LN.out; omega)
            obtain ⟨l1, l2, g0, lc0, a2, c2', hf2, e1, hl1, hl2, hl12, cK, s1, s2, s3, s4, SR⟩ := oh_cut (LV.out.ol i i4) hk1
            obtain ⟨m1, m2, RL2⟩ := RL.out.give i4 hk1
            have NZ : (((L i).length : Int) == 0) = false := beq_eq_false_iff_ne.mpr (by omega)
            have j1 : (kk : Int) < ((L i).length : Int) := by omega
            rw [hf] at hf2
            injection hf2 with hf2 _ hf3
            subst hf2 hf3
            replace hl1 := Lib.hid hl1
            replace hl2 := Lib.hid hl2
            replace SR := Lib.hid SR
            replace hf := Lib.hid hf
            obtain ⟨mk, hmk⟩ : ∃ mk, (L i)[kk] = mk := ⟨_, rfl⟩
            rw [Nat.zero_add] at cK
            rw [hmk] at cK RL2 m1 m2
            replace RL2 := Lib.hid RL2
            replace m1 := Lib.hid (And.intro m1 m2)
            replace hl12 := Lib.hid hl12
            clear m2 c0 c1 hV3 hmk hk1
            subst e1
            have hw64 : wrap64 (l1.length : Int) = (l1.length : Int) := IntWalk.wrap64_in _ (by have := LN.out; omega)
            go_quiet (fail)
            go_upto_region 17 with fail
            have al2 := (bl_dn (Below.refl (wr.alloc (.cells #[.int .i64 xw, .int .i64 4, .int .i64 xa] 50)).heap.size (wr.alloc (.cells #[.int .i64 xw, .int .i64 4, .int .i64 xa] 50))) nq).drew
            replace LV := Lib.hid (LV.out.up al2)
            replace MX := Lib.hid (MX.out.up al2)
            replace BE := Lib.hid (bl_tr BE.out al2)
            replace SR := Lib.hid (fun X (hX : Below (((wr.alloc (.cells #[.int .i64 xw, .int .i64 4, .int .i64 xa] 50)).drewN nq).drew).heap.size (((wr.alloc (.cells #[.int .i64 xw, .int .i64 4, .int .i64 xa] 50)).drewN nq).drew) X) => SR.out X (bl_tr al2 hX))
            clear al2 f0 f1 cK d0 d1 hV2 hkk hkt hwN NZ hw64
            have FX := Lib.hid (fun X (hX : Below (((wr.alloc (.cells #[.int .i64 xw, .int .i64 4, .int .i64 xa] 50)).drewN nq).drew).heap.size (((wr.alloc (.cells #[.int .i64 xw, .int .i64 4, .int .i64 xa] 50)).drewN nq).drew) X) => show X.cell? ⟨qh, i, none⟩ = some (.slice (some ⟨g0, 0, none⟩) (L i).length lc) from by
              have := ((LV.out.up hX).ch i i4).1
              rw [hf.out] at this
              exact this)
            have FF := Lib.hid (fun X (hX : Below (((wr.alloc (.cells #[.int .i64 xw, .int .i64 4, .int .i64 xa] 50)).drewN nq).drew).heap.size (((wr.alloc (.cells #[.int .i64 xw, .int .i64 4, .int .i64 xa] 50)).drewN nq).drew) X) => ((LV.out.up hX).ch i i4).2.1 i)
            have hl3 : l1.length ≤ 1000 := by have := LN.out; have := hl12.out; omega
            have hl4 : l1.length + l2.length ≤ 1000 := by have := LN.out; have := hl12.out; omega
            refine HeldL.begin (fun w' => Below (((wr.alloc (.cells #[.int .i64 xw, .int .i64 4, .int .i64 xa] 50)).drewN nq).drew).heap.size (((wr.alloc (.cells #[.int .i64 xw, .int .i64 4, .int .i64 xa] 50)).drewN nq).drew) w') 16 (by kernel_rfl) (Below.refl _ _) (fun hHeld => ?_)
            generalize (((wr.alloc (.cells #[.int .i64 xw, .int .i64 4, .int .i64 xa] 50)).drewN nq).drew) = WX at *
            refine HeldL.take (k := 0) (v := ?vg0) (by rw [List.getElem?_toArray]; rfl) (by kernel_rfl) (by kernel_rfl) (by kernel_rfl) (by kernel_rfl) ?qg0 (Or.inl ⟨by rfl, ?yg0⟩) hHeld ?rg0
            case qg0 => exact fun _ _ _ h => h
            case yg0 => (intro wz hSw; have f := FX.out wz hSw; go_simp; try (with_reducible rfl))
            try simp only [Act.put, List.setIfInBounds_toArray, List.set_cons_zero, List.set_cons_succ]
            refine HeldL.take (k := 2) (v := ?vg2) (by rw [List.getElem?_toArray]; rfl) (by kernel_rfl) (by kernel_rfl) (by kernel_rfl) (by kernel_rfl) ?qg2 (Or.inl ⟨by rfl, ?yg2⟩) hHeld ?rg2
            case qg2 => exact fun _ _ _ h => h
            case yg2 => (intro wz hSw; have f := FX.out wz hSw; go_simp; try (with_reducible rfl))
            try simp only [Act.put, List.setIfInBounds_toArray, List.set_cons_zero, List.set_cons_succ]
            refine HeldL.take (k := 3) (v := ?vg3) (by rw [List.getElem?_toArray]; rfl) (by kernel_rfl) (by kernel_rfl) (by kernel_rfl) (by kernel_rfl) ?qg3 (Or.inl ⟨by rfl, ?yg3⟩) hHeld ?rg3
            case qg3 => exact fun _ _ _ h => h
            case yg3 => (intro wz hSw; have f := FX.out wz hSw; go_simp; try (with_reducible rfl))
            try simp only [Act.put, List.setIfInBounds_toArray, List.set_cons_zero, List.set_cons_succ]
            refine HeldL.take (k := 4) (v := ?vg4) (by rw [List.getElem?_toArray]; rfl) (by kernel_rfl) (by kernel_rfl) (by kernel_rfl) (by kernel_rfl) ?qg4 (Or.inl ⟨by rfl, ?yg4⟩) hHeld ?rg4
            case qg4 => exact fun _ _ _ h => h
            case yg4 => (intro wz hSw; have f := FX.out wz hSw; go_simp; try (with_reducible rfl))
            try simp only [Act.put, List.setIfInBounds_toArray, List.set_cons_zero, List.set_cons_succ]
            refine HeldL.take (k := 5) (v := ?vg5) (by rw [List.getElem?_toArray]; rfl) (by kernel_rfl) (by kernel_rfl) (by kernel_rfl) (by kernel_rfl) ?qg5 (Or.inl ⟨by rfl, ?yg5⟩) hHeld ?rg5
            case qg5 => exact fun _ _ _ h => h
            case yg5 => (intro wz hSw; have f := FX.out wz hSw; go_simp; try (with_reducible rfl))
            try simp only [Act.put, List.setIfInBounds_toArray, List.set_cons_zero, List.set_cons_succ]
            refine HeldL.take (k := 6) (v := ?vg6) (by rw [List.getElem?_toArray]; rfl) (by kernel_rfl) (by kernel_rfl) (by kernel_rfl) (by kernel_rfl) ?qg6 (Or.inl ⟨by rfl, ?yg6⟩) hHeld ?rg6
            case qg6 => exact fun _ _ _ h => h
            case yg6 => (intro wz hSw; have f := FX.out wz hSw; go_simp; try (with_reducible rfl))
            try simp only [Act.put, List.setIfInBounds_toArray, List.set_cons_zero, List.set_cons_succ]
            refine HeldL.take (k := 8) (v := ?vg8) (by rw [List.getElem?_toArray]; rfl) (by kernel_rfl) (by kernel_rfl) (by kernel_rfl) (by kernel_rfl) ?qg8 (Or.inl ⟨by rfl, ?yg8⟩) hHeld ?rg8
            case qg8 => exact fun _ _ _ h => h
            case yg8 => (intro wz hSw; have f := FX.out wz hSw; go_simp; try (with_reducible rfl))
            try simp only [Act.put, List.setIfInBounds_toArray, List.set_cons_zero, List.set_cons_succ]
            refine HeldL.take (k := 9) (v := ?vg9) (by rw [List.getElem?_toArray]; rfl) (by kernel_rfl) (by kernel_rfl) (by kernel_rfl) (by kernel_rfl) ?qg9 (Or.inl ⟨by rfl, ?yg9⟩) hHeld ?rg9
            case qg9 => exact fun _ _ _ h => h
            case yg9 => (intro wz hSw; have f := FX.out wz hSw; go_simp; try (with_reducible rfl))
            try simp only [Act.put, List.setIfInBounds_toArray, List.set_cons_zero, List.set_cons_succ]
            refine HeldL.take (k := 10) (v := ?vg10) (by rw [List.getElem?_toArray]; rfl) (by kernel_rfl) (by kernel_rfl) (by kernel_rfl) (by kernel_rfl) ?qg10 (Or.inl ⟨by rfl, ?yg10⟩) hHeld ?rg10
            case qg10 => exact fun _ _ _ h => h
            case yg10 => (intro wz hSw; have f := FX.out wz hSw; go_simp; try (with_reducible rfl))
            try simp only [Act.put, List.setIfInBounds_toArray, List.set_cons_zero, List.set_cons_succ]
            refine HeldL.take (k := 11) (v := ?vg11) (by rw [List.getElem?_toArray]; rfl) (by kernel_rfl) (by kernel_rfl) (by kernel_rfl) (by kernel_rfl) ?qg11 (Or.inl ⟨by rfl, ?yg11⟩) hHeld ?rg11
            case qg11 => exact fun _ _ _ h => h
            case yg11 => (intro wz hSw; have f := FX.out wz hSw; go_simp; try (with_reducible rfl))
            try simp only [Act.put, List.setIfInBounds_toArray, List.set_cons_zero, List.set_cons_succ]
            refine HeldL.take (k := 12) (v := ?vg12) (by rw [List.getElem?_toArray]; rfl) (by kernel_rfl) (by kernel_rfl) (by kernel_rfl) (by kernel_rfl) ?qg12 (Or.inl ⟨by rfl, ?yg12⟩) hHeld ?rg12
            case qg12 => exact fun _ _ _ h => h
            case yg12 => (intro wz hSw; have f := FX.out wz hSw; go_simp; try (with_reducible rfl))
            try simp only [Act.put, List.setIfInBounds_toArray, List.set_cons_zero, List.set_cons_succ]
            refine HeldL.take (k := 13) (v := ?vg13) (by rw [List.getElem?_toArray]; rfl) (by kernel_rfl) (by kernel_rfl) (by kernel_rfl) (by kernel_rfl) ?qg13 (Or.inl ⟨by rfl, ?yg13⟩) hHeld ?rg13
            case qg13 => exact fun _ _ _ h => h
            case yg13 => (intro wz hSw; have f := FX.out wz hSw; go_simp; try (with_reducible rfl))
            try simp only [Act.put, List.setIfInBounds_toArray, List.set_cons_zero, List.set_cons_succ]
            clear hHeld
            refine HeldL.one (k := 1) (by kernel_rfl) (by rw [List.getElem?_toArray]; rfl) (fun K hK => ?_)
            go_simp
            refine hK.out _ _ (fun _ => bl_al (Below.refl _ WX) _) (fun hHeld0 => ?_)
            have hHeld := hHeld0 (by decide)
            clear hK K hHeld0
            refine HeldL.one (k := 7) (by kernel_rfl) (by rw [List.getElem?_toArray]; rfl) (fun K hK => ?_)
            refine step_app (by rfl) _ _ (by rfl) (by rfl) WX.heap.size WX.heap.size l1 (some ⟨g0, 0, none⟩) lc (by rfl) (by rfl) hl3 (own0 WX) (by simp) (SR.out _ hHeld).1 ?_
            intro g1 cap1 w2 ho1 hg1 hlt1
            have hb1 := app_below hg1
            have HO1 := Lib.hid ho1
            refine hK.out _ _ (fun _ => hb1) (fun hHeld0 => ?_)
            have hHeld2 := hHeld0 (by decide)
            clear hK K hHeld hHeld0 ho1 hg1 hlt1 hb1
            try simp only [Act.put, List.setIfInBounds_toArray, List.set_cons_zero, List.set_cons_succ]
            refine HeldL.one (k := 14) (by kernel_rfl) (by rw [List.getElem?_toArray]; rfl) (fun K hK => ?_)
            refine step_app2 (by rfl) _ _ (by rfl) (by rfl) WX.heap.size _ _ l1 l2 a2 c2' (by rfl) (by rfl) hl4 HO1.out hHeld2.size (SR.out _ hHeld2).2 ?_
            intro g2 cap2 w4 ho2 hg2 hlt2
            have HB2 := hHeld2.grown hg2 hHeld2.size (fun j hj => by cases hj; exact own_ge HO1.out)
            have HO2 := Lib.hid ho2
            refine hK.out _ _ (fun _ => HB2) (fun hHeld0 => ?_)
            have hHeld3 := hHeld0 (by decide)
            clear hK K hHeld2 hHeld0 ho2 hg2 hlt2 HB2 HO1
            try simp only [Act.put, List.setIfInBounds_toArray, List.set_cons_zero, List.set_cons_succ]
            refine HeldL.take (k := 15) (v := ?vg15) (by rw [List.getElem?_toArray]; rfl) (by kernel_rfl) (by kernel_rfl) (by kernel_rfl) (by kernel_rfl) ?qg15 (Or.inl ⟨by rfl, ?yg15⟩) hHeld3 ?rg15
            case qg15 => exact fun _ _ _ h => h
            case yg15 => (intro wz hSw; have f := FX.out wz hSw; go_simp; try (with_reducible rfl))
            try simp only [Act.put, List.setIfInBounds_toArray, List.set_cons_zero, List.set_cons_succ]
            refine HeldL.one (k := 16) (by kernel_rfl) (by rw [List.getElem?_toArray]; rfl) (fun K hK => ?_)
            have f0 := FF.out _ hHeld3
            have f1 := FX.out _ hHeld3
            go_simp
            refine hK.out _ _ (fun h => absurd rfl h) (fun _ => ?_)
            clear hK K f0 f1 FX FF
            refine HeldL.over (by kernel_rfl) ?_ _
            have HOH := oh_of (L := List.take l1.length (L i) ++ List.drop (l1.length + 1) (L i)) HO2.out (by rw [ints_app, ← hl1.out, ← hl2.out])
            obtain ⟨MX2, LV2, hVB⟩ := mx_drop MX.out LV.out i4 hHeld3 HOH
            have BE2 := Lib.hid (below_st (bl_tr BE.out hHeld3) (Nat.le_trans MX.out.hB hHeld3.size) (HH.out _ LV.out.mem.2.2.2) i (.slice (some ⟨g2, 0, none⟩) (l1.length + l2.length) cap2))
            have HH2 := Lib.hid (fun c (hc : c ∈ vblk (.slice (some ⟨g2, 0, none⟩) (l1.length + l2.length) cap2) ++ H) => show w.heap.size ≤ c from by
              rcases List.mem_append.mp hc with e | e
              · exact hVB c e
              · exact HH.out c e)
            have LV := Lib.hid LV2
            clear MX BE HOH HO2 hVB hHeld3 s1 s2 s3 s4 SR hl1 hl2 hf LV2 HH
            go_wp2_with fail
            refine (mx_give MX2 i4 hx m1.out.1 m1.out.2).mono ?_; rintro e w6 ⟨cb, rfl, g1', g2', mx2⟩
            replace LV := Lib.hid (LV.out.up g2')
            have BE := Lib.hid (bl_tr BE2.out g2')
            clear g1' g2' MX2 BE2
            obtain ⟨d0, d1⟩ := LV.out.ca i i4
            have al := bl_al (Below.refl _ w6) (.cells #[.pointer (some ⟨cb, 0, none⟩), .bool true, .int .i64 (mk : Int), .int .i64 0] 52)
            have d2 : ∀ j, (w6.alloc (.cells #[.pointer (some ⟨cb, 0, none⟩), .bool true, .int .i64 (mk : Int), .int .i64 0] 52)).frozen? ⟨qa, j, none⟩ = false := fun j => (al.frozen (p := ⟨qa, j, none⟩) (lt_hp LV.out.ha)).trans (d1 j)
            have d3 := (al.cell (p := ⟨qa, i, none⟩) (lt_hp LV.out.ha)).trans d0
            have JT := Lib.hid (jt_give mx2 LV.out RL2.out i4 hx HS.out BE.out HH2.out)
            clear LV BE RL RL2 HS HH2 mx2 d0 d1 al hx
            go_wp2
            go_roundw
            case rel => exact ⟨k + 1, by go_num, by omega, Lib.hid (by
                obtain ⟨nv, nb, hd, ow, l, s, own, st, loc, ac, H, hvv, hl, L, bx, fr, mx, lv, rl, hs, bel, hH⟩ := JT.out
                exact ⟨nv, nb, hd, ow, l, s, own, st, loc, ac, H, hvv, hl, L, bx, fr, mx, lv, rl, by omega, bel, hH⟩)⟩
            case measure => simp [intOf]; omega
      | some x =>
        as_aux_lemma =>
          have e0 : xp bx ac i = .pointer (some ⟨bx i, 0, none⟩) := by unfold xp; rw [hx]
          rw [e0] at d0
          obtain ⟨g0, g1, g2, g3, gf⟩ := LV.out.cb i4 hx
          have XA := Lib.hid (MX.out.ax i i4 x hx).2.2.1
          go_upto_region 21 with fail
          clear c0 c1 c2 d0 d1 g0 g1 g2 g3 gf
          go_wp2_with fail
          refine (mx_steps2 MX.out).mono ?_; rintro e w6 ⟨rfl, mx2, fr2, _⟩
          have LV := Lib.hid (LV.out.fr' fr2)
          have BE := Lib.hid (fr2.bel BE.out BE.out.size)
          clear fr2 MX
          obtain ⟨g0, g1, g2, g3, gf⟩ := LV.out.cb i4 hx
          have S0 := mx2.s0
          have hsb := HS.out
          have NB := mx2.px.n2
          go_wp2_with fail
          refine (jt_step mx2 LV.out i4 hx (by omega)).mono ?_; rintro e w7 ⟨r, hd', ow', l', s', own', st', loc', ac1, ac2, y, nx, sl, tp, bl, rfl, mx3, lv3, fr3, k1, k2, k3, k4, k5, k6, k7, k8⟩
          have BE := Lib.hid (fr3.bel BE.out BE.out.size)
          clear g0 g1 g2 g3 gf LV mx2 fr3
          have k8 := Lib.hid k8
          have k6 := Lib.hid k6
          go_wp2_with fail
          refine (mx_steps2 mx3).mono ?_; rintro e w8 ⟨rfl, mx4, fr4, t4⟩
          have LV := Lib.hid (lv3.fr' fr4)
          have BE := Lib.hid (fr4.bel BE.out BE.out.size)
          have aa := k6.out.ne mx3.po
          have AC := Lib.hid (k6.out.keep t4 (by simp; exact ⟨aa.g, aa.b⟩))
          clear k6 aa fr4 t4 mx3 lv3
          obtain ⟨g0, g1, g2, g3, gf⟩ := LV.out.cb i4 k2
          rw [k3] at g0
          have hw1 : IntKind.i64.wrap (s + 1) = s + 1 := IntWalk.i64_in _ (by omega)
          have q1 : decide (s + 1 < s') = false := decide_eq_false (by omega)
          have OV := Lib.hid (over_any r k7 AC.out)
          have MX := Lib.hid mx4
          clear mx4
          go_wp2_with fail
          refine OV.out.mono ?_; rintro e w9 ⟨rfl, rfl⟩
          clear OV q1 hw1
          have bq : (r != r) = false := by simp
          go_upto_region 25 with fail
          have k4' := k4
          clear g0 g1 g2 g3 gf hx k4 hsb NB S0 bq
          obtain ⟨HF0, hHF⟩ : ∃ f : Nat → Int, f = fr := ⟨_, rfl⟩
          obtain ⟨w10, hw10⟩ : ∃ v, v = w8 := ⟨_, rfl⟩
          subst hw10
          go_wp2_with fail
          go_loopw [19] (fun jj wz => ∃ (kk : Nat) (fz : Nat → Int), jj = .int .i64 kk ∧ kk ≤ 4 ∧ Hid (Mx A nv nb hd' ow' l' s' own' st' loc' ac1 w.heap.size H wz) ∧ Hid (Lv q g A.n cap qa qh w.heap.size H hvv hl L bx fz ac2 wz) ∧ Hid (Below w.heap.size w wz) ∧ Hid (Ac x.a A (i : Int) x.gv nx sl tp bl wz) ∧ Hid (∀ p, p < kk → ∀ y, ac2 p = some y → fz p ≤ (st'.length : Int) + ((own' p).length : Int))) (fun jj _ => 4 - (intOf jj).toNat)
          case atStart => exact ⟨0, fr, rfl, by omega, MX, LV, BE, AC, Lib.hid (fun p hp => by omega)⟩
          case round =>
            clear MX LV BE AC
            obtain ⟨kk, fz, rfl, hkk, MX, LV, BE, AC, FZ⟩ := hrel
            by_cases hk4 : kk < 4
            · as_aux_lemma =>
                have kk1 : (kk : Int) < 4 := by omega
                have hwkk : IntKind.i64.wrap ((kk : Int) + 1) = (kk : Int) + 1 := IntWalk.i64_in _ (by omega)
                obtain ⟨d0, d1⟩ := LV.out.ca kk hk4
                have MIN := Lib.hid (fun (a b : Int) => show (0 ≤ a → 0 ≤ b → b ≤ 10000 → 0 ≤ min a b ∧ min a b ≤ 10000) from fun _ _ _ => by omega)
                cases hy : ac2 kk with
                | none =>
                  have e0 : xp bx ac2 kk = .pointer none := by unfold xp; rw [hy]
                  rw [e0] at d0
                  clear d1 e0
                  go_wp2
                  go_roundw
                  case rel => exact ⟨kk + 1, fz, by go_num, by omega, MX, LV, BE, AC, Lib.hid (fun p hp y hpy => by
                by_cases e : p = kk
                · subst e; rw [hy] at hpy; cases hpy
                · exact FZ.out p (by omega) y hpy)⟩
                  case measure => simp [intOf]; omega
                | some y =>
                  have e0 : xp bx ac2 kk = .pointer (some ⟨bx kk, 0, none⟩) := by unfold xp; rw [hy]
                  rw [e0] at d0
                  go_upto_region 29 with fail
                  refine HeldL.begin (fun wz => Mx A nv nb hd' ow' l' s' own' st' loc' ac1 w.heap.size H wz ∧ Lv q g A.n cap qa qh w.heap.size H hvv hl L bx fz ac2 wz ∧ Below w.heap.size w wz ∧ Ac x.a A (i : Int) x.gv nx sl tp bl wz) 20 (by kernel_rfl) ⟨MX.out.up (bl_drew _), LV.out.up (bl_drew _), bl_tr BE.out (bl_drew _), AC.out.keep (S := []) (Tw.of (bl_drew _)) (by simp)⟩ (fun hHeld => ?_)
                  generalize World.drew wr = WZ at *
                  clear d0 d1
                  refine HeldL.take (k := 0) (v := ?vs0) (by rw [List.getElem?_toArray]; rfl) (by kernel_rfl) (by kernel_rfl) (by kernel_rfl) (by kernel_rfl) ?qs0 (Or.inl ⟨by rfl, ?ys0⟩) hHeld ?rs0
                  case qs0 => exact fun _ _ _ h => h
                  case ys0 => (intro wz hSw; obtain ⟨d0, _⟩ := hSw.2.1.ca kk hk4; rw [e0] at d0; obtain ⟨_, _, _, d3, _⟩ := hSw.2.1.cb hk4 hy; go_simp; try (with_reducible rfl))
                  try simp only [Act.put, List.setIfInBounds_toArray, List.set_cons_zero, List.set_cons_succ]
                  refine HeldL.take (k := 1) (v := ?vs1) (by rw [List.getElem?_toArray]; rfl) (by kernel_rfl) (by kernel_rfl) (by kernel_rfl) (by kernel_rfl) ?qs1 (Or.inl ⟨by rfl, ?ys1⟩) hHeld ?rs1
                  case qs1 => exact fun _ _ _ h => h
                  case ys1 => (intro wz hSw; obtain ⟨d0, _⟩ := hSw.2.1.ca kk hk4; rw [e0] at d0; obtain ⟨_, _, _, d3, _⟩ := hSw.2.1.cb hk4 hy; go_simp; try (with_reducible rfl))
                  try simp only [Act.put, List.setIfInBounds_toArray, List.set_cons_zero, List.set_cons_succ]
                  refine HeldL.take (k := 2) (v := ?vs2) (by rw [List.getElem?_toArray]; rfl) (by kernel_rfl) (by kernel_rfl) (by kernel_rfl) (by kernel_rfl) ?qs2 (Or.inl ⟨by rfl, ?ys2⟩) hHeld ?rs2
                  case qs2 => exact fun _ _ _ h => h
                  case ys2 => (intro wz hSw; obtain ⟨d0, _⟩ := hSw.2.1.ca kk hk4; rw [e0] at d0; obtain ⟨_, _, _, d3, _⟩ := hSw.2.1.cb hk4 hy; go_simp; try (with_reducible rfl))
                  try simp only [Act.put, List.setIfInBounds_toArray, List.set_cons_zero, List.set_cons_succ]
                  refine HeldL.take (k := 3) (v := ?vs3) (by rw [List.getElem?_toArray]; rfl) (by kernel_rfl) (by kernel_rfl) (by kernel_rfl) (by kernel_rfl) ?qs3 (Or.inl ⟨by rfl, ?ys3⟩) hHeld ?rs3
                  case qs3 => exact fun _ _ _ h => h
                  case ys3 => (intro wz hSw; obtain ⟨d0, _⟩ := hSw.2.1.ca kk hk4; rw [e0] at d0; obtain ⟨_, _, _, d3, _⟩ := hSw.2.1.cb hk4 hy; go_simp; try (with_reducible rfl))
                  try simp only [Act.put, List.setIfInBounds_toArray, List.set_cons_zero, List.set_cons_succ]
                  refine HeldL.take (k := 4) (v := ?vs4) (by rw [List.getElem?_toArray]; rfl) (by kernel_rfl) (by kernel_rfl) (by kernel_rfl) (by kernel_rfl) ?qs4 (Or.inl ⟨by rfl, ?ys4⟩) hHeld ?rs4
                  case qs4 => exact fun _ _ _ h => h
                  case ys4 => (intro wz hSw; obtain ⟨d0, _⟩ := hSw.2.1.ca kk hk4; rw [e0] at d0; obtain ⟨_, _, _, d3, _⟩ := hSw.2.1.cb hk4 hy; go_simp; try (with_reducible rfl))
                  try simp only [Act.put, List.setIfInBounds_toArray, List.set_cons_zero, List.set_cons_succ]
                  refine HeldL.take (k := 5) (v := ?vs5) (by rw [List.getElem?_toArray]; rfl) (by kernel_rfl) (by kernel_rfl) (by kernel_rfl) (by kernel_rfl) ?qs5 (Or.inl ⟨by rfl, ?ys5⟩) hHeld ?rs5
                  case qs5 => exact fun _ _ _ h => h
                  case ys5 => (intro wz hSw; obtain ⟨d0, _⟩ := hSw.2.1.ca kk hk4; rw [e0] at d0; obtain ⟨_, _, _, d3, _⟩ := hSw.2.1.cb hk4 hy; go_simp; try (with_reducible rfl))
                  try simp only [Act.put, List.setIfInBounds_toArray, List.set_cons_zero, List.set_cons_succ]
                  refine HeldL.take (k := 6) (v := ?vs6) (by rw [List.getElem?_toArray]; rfl) (by kernel_rfl) (by kernel_rfl) (by kernel_rfl) (by kernel_rfl) ?qs6 (Or.inl ⟨by rfl, ?ys6⟩) hHeld ?rs6
                  case qs6 => exact fun _ _ _ h => h
                  case ys6 => (intro wz hSw; obtain ⟨d0, _⟩ := hSw.2.1.ca kk hk4; rw [e0] at d0; obtain ⟨_, _, _, d3, _⟩ := hSw.2.1.cb hk4 hy; go_simp; try (with_reducible rfl))
                  try simp only [Act.put, List.setIfInBounds_toArray, List.set_cons_zero, List.set_cons_succ]
                  refine HeldL.take (k := 7) (v := ?vs7) (by rw [List.getElem?_toArray]; rfl) (by kernel_rfl) (by kernel_rfl) (by kernel_rfl) (by kernel_rfl) ?qs7 (Or.inl ⟨by rfl, ?ys7⟩) hHeld ?rs7
                  case qs7 => exact fun _ _ _ h => h
                  case ys7 => (intro wz hSw; obtain ⟨d0, _⟩ := hSw.2.1.ca kk hk4; rw [e0] at d0; obtain ⟨_, _, _, d3, _⟩ := hSw.2.1.cb hk4 hy; go_simp; try (with_reducible rfl))
                  try simp only [Act.put, List.setIfInBounds_toArray, List.set_cons_zero, List.set_cons_succ]
                  refine HeldL.take (k := 8) (v := ?vs8) (by rw [List.getElem?_toArray]; rfl) (by kernel_rfl) (by kernel_rfl) (by kernel_rfl) (by kernel_rfl) ?qs8 (Or.inl ⟨by rfl, ?ys8⟩) hHeld ?rs8
                  case qs8 => exact fun _ _ _ h => h
                  case ys8 => (intro wz hSw; obtain ⟨d0, _⟩ := hSw.2.1.ca kk hk4; rw [e0] at d0; obtain ⟨_, _, _, d3, _⟩ := hSw.2.1.cb hk4 hy; go_simp; try (with_reducible rfl))
                  try simp only [Act.put, List.setIfInBounds_toArray, List.set_cons_zero, List.set_cons_succ]
                  refine HeldL.take (k := 9) (v := ?vs9) (by rw [List.getElem?_toArray]; rfl) (by kernel_rfl) (by kernel_rfl) (by kernel_rfl) (by kernel_rfl) ?qs9 (Or.inl ⟨by rfl, ?ys9⟩) hHeld ?rs9
                  case qs9 => exact fun _ _ _ h => h
                  case ys9 => (intro wz hSw; go_simp; try (with_reducible rfl))
                  try simp only [Act.put, List.setIfInBounds_toArray, List.set_cons_zero, List.set_cons_succ]
                  refine HeldL.take (k := 12) (v := ?vs12) (by rw [List.getElem?_toArray]; rfl) (by kernel_rfl) (by kernel_rfl) (by kernel_rfl) (by kernel_rfl) ?qs12 (Or.inl ⟨by rfl, ?ys12⟩) hHeld ?rs12
                  case qs12 => exact fun _ _ _ h => h
                  case ys12 => (intro wz hSw; go_simp; try (with_reducible rfl))
                  try simp only [Act.put, List.setIfInBounds_toArray, List.set_cons_zero, List.set_cons_succ]
                  refine HeldL.take (k := 13) (v := ?vs13) (by rw [List.getElem?_toArray]; rfl) (by kernel_rfl) (by kernel_rfl) (by kernel_rfl) (by kernel_rfl) ?qs13 (Or.inl ⟨by rfl, ?ys13⟩) hHeld ?rs13
                  case qs13 => exact fun _ _ _ h => h
                  case ys13 => (intro wz hSw; go_simp; try (with_reducible rfl))
                  try simp only [Act.put, List.setIfInBounds_toArray, List.set_cons_zero, List.set_cons_succ]
                  refine HeldL.one (k := 10) (by kernel_rfl) (by rw [List.getElem?_toArray]; rfl) (fun K hK => ?_)
                  go_simp
                  go_at_call 15
                  (with_reducible refine (mx_shared hHeld.1).mono ?_)
                  rintro e w12 ⟨x3, c3, rfl, i3, t3, mx3, fr3⟩
                  have aa := hHeld.2.2.2.ne hHeld.1.po
                  have HS2 := Lib.hid (And.intro mx3 (And.intro (hHeld.2.1.fr' fr3) (And.intro (fr3.bel hHeld.2.2.1 hHeld.2.2.1.size) (hHeld.2.2.2.keep t3 (by simp; exact ⟨aa.g, aa.b⟩)))))
                  clear i3 t3 mx3 fr3 aa
                  go_wp2_with fail
                  refine hK.out _ _ (fun _ => HS2.out) (fun hHeld0 => ?_)
                  clear hK K hHeld hHeld0
                  refine HeldL.take (k := 11) (v := ?vs11) (by rw [List.getElem?_toArray]; rfl) (by kernel_rfl) (by kernel_rfl) (by kernel_rfl) (by kernel_rfl) ?qs11 (Or.inl ⟨by rfl, ?ys11⟩) HS2.out ?rs11
                  case qs11 => exact fun _ _ _ h => h
                  case ys11 => (intro wz hSw; go_simp; try (with_reducible rfl))
                  try simp only [Act.put, List.setIfInBounds_toArray, List.set_cons_zero, List.set_cons_succ]
                  refine HeldL.one (k := 14) (by kernel_rfl) (by rw [List.getElem?_toArray]; rfl) (fun K hK => ?_)
                  go_simp
                  go_at_call 14
                  (with_reducible refine (mx_own HS2.out.1 hk4).mono ?_)
                  rintro e w13 ⟨v3, rfl, l3, g3, mx4⟩
                  obtain ⟨x4, c4, rfl, _⟩ := l3.ints
                  rw [ints_len]
                  have HS3 := Lib.hid (And.intro mx4 (And.intro (HS2.out.2.1.up g3) (And.intro (bl_tr HS2.out.2.2.1 g3) (HS2.out.2.2.2.keep (S := []) (Tw.of g3) (by simp)))))
                  clear l3 mx4 g3
                  go_wp2_with fail
                  refine hK.out _ _ (fun _ => HS3.out) (fun hHeld0 => ?_)
                  clear hK K hHeld0
                  have OL := HS3.out.1.px.o2 kk hk4
                  have SL := HS3.out.1.st_le
                  have FB := (HS3.out.2.1.bxs kk hk4 y hy).2
                  have hwl : IntKind.i64.wrap ((st'.length : Int) + ((own' kk).length : Int)) = (st'.length : Int) + ((own' kk).length : Int) := IntWalk.i64_in _ (by omega)
                  refine HeldL.take (k := 15) (v := ?vs15) (by rw [List.getElem?_toArray]; rfl) (by kernel_rfl) (by kernel_rfl) (by kernel_rfl) (by kernel_rfl) ?qs15 (Or.inl ⟨by rfl, ?ys15⟩) HS3.out ?rs15
                  case qs15 => exact fun _ _ _ h => h
                  case ys15 => (intro wz hSw; go_simp; try (with_reducible rfl))
                  try simp only [Act.put, List.setIfInBounds_toArray, List.set_cons_zero, List.set_cons_succ]
                  refine HeldL.take (k := 16) (v := ?vs16) (by rw [List.getElem?_toArray]; rfl) (by kernel_rfl) (by kernel_rfl) (by kernel_rfl) (by kernel_rfl) ?qs16 (Or.inl ⟨by rfl, ?ys16⟩) HS3.out ?rs16
                  case qs16 => exact fun _ _ _ h => h
                  case ys16 => (intro wz hSw; go_simp; try (with_reducible rfl))
                  try simp only [Act.put, List.setIfInBounds_toArray, List.set_cons_zero, List.set_cons_succ]
                  refine HeldL.take (k := 17) (v := ?vs17) (by rw [List.getElem?_toArray]; rfl) (by kernel_rfl) (by kernel_rfl) (by kernel_rfl) (by kernel_rfl) ?qs17 (Or.inl ⟨by rfl, ?ys17⟩) HS3.out ?rs17
                  case qs17 => exact fun _ _ _ h => h
                  case ys17 => (intro wz hSw; obtain ⟨d0, _⟩ := hSw.2.1.ca kk hk4; rw [e0] at d0; obtain ⟨_, _, _, d3, _⟩ := hSw.2.1.cb hk4 hy; go_simp; try (with_reducible rfl))
                  try simp only [Act.put, List.setIfInBounds_toArray, List.set_cons_zero, List.set_cons_succ]
                  refine HeldL.one (k := 18) (by kernel_rfl) (by rw [List.getElem?_toArray]; rfl) (fun K hK => ?_)
                  go_simp
                  refine hK.out _ _ (fun _ => HS3.out) (fun hHeld0 => ?_)
                  clear hK K hHeld0
                  refine HeldL.take (k := 19) (v := ?vs19) (by rw [List.getElem?_toArray]; rfl) (by kernel_rfl) (by kernel_rfl) (by kernel_rfl) (by kernel_rfl) ?qs19 (Or.inl ⟨by rfl, ?ys19⟩) HS3.out ?rs19
                  case qs19 => exact fun _ _ _ h => h
                  case ys19 => (intro wz hSw; go_simp; try (with_reducible rfl))
                  try simp only [Act.put, List.setIfInBounds_toArray, List.set_cons_zero, List.set_cons_succ]
                  obtain ⟨_, _, _, f3, ff⟩ := HS3.out.2.1.cb hk4 hy
                  have ff3 := ff 3
                  refine HeldL.one (k := 20) (by kernel_rfl) (by rw [List.getElem?_toArray]; rfl) (fun K hK => ?_)
                  go_simp
                  refine hK.out _ _ (fun h => absurd rfl h) (fun _ => ?_)
                  clear hK K f3 ff ff3
                  refine HeldL.over (by kernel_rfl) ?_ _
                  obtain ⟨b1', b2', b3'⟩ := mx_from HS3.out.1 HS3.out.2.1 hk4 hy (min (fz kk) ((st'.length : Int) + ((own' kk).length : Int))) (by omega) (by omega)
                  have MX := Lib.hid b1'
                  have LV := Lib.hid b2'
                  have AC := Lib.hid (b3' HS3.out.2.2.2 XA.out)
                  have BE := Lib.hid (below_st HS3.out.2.2.1 HS3.out.1.hB (HH.out _ (HS3.out.2.1.mbx kk hk4 y hy)) 3 (.int .i64 (min (fz kk) ((st'.length : Int) + ((own' kk).length : Int)))))
                  have FZ2 := Lib.hid (fun p (hp : p < kk + 1) y2 (hpy : ac2 p = some y2) => show upf fz kk (min (fz kk) ((st'.length : Int) + ((own' kk).length : Int))) p ≤ (st'.length : Int) + ((own' p).length : Int) from by
                  by_cases e : p = kk
                  · subst e; rw [upf_at]; exact Int.min_le_right _ _
                  · rw [upf_ne _ _ _ _ e]; exact FZ.out p (by omega) y2 hpy)
                  clear b1' b2' b3' HS3 HS2 FZ OL SL FB hwl
                  generalize (w13.setCell ⟨bx kk, 3, none⟩ (.int .i64 (min (fz kk) ((st'.length : Int) + ((own' kk).length : Int))))) = w14 at *
                  go_wp2
                  go_roundw
                  case rel => exact ⟨kk + 1, _, by go_num, by omega, MX, LV, BE, AC, FZ2⟩
                  case measure => simp [intOf]; omega
            · obtain rfl : kk = 4 := by omega
              have kbx := (LV.out.bxs i i4 y k2).1
              obtain ⟨g0, g1, g2, g3, _⟩ := LV.out.cb i4 k2
              have FZi := FZ.out i i4 y k2
              obtain ⟨d0, d1⟩ := LV.out.ca i i4
              have d1i := d1 i
              have kqa := LV.out.ha
              rcases k8.out with ⟨rfl, rfl, hf, hh⟩ | ⟨rfl, rfl, dn, em⟩
              · as_aux_lemma =>
                  have JT := Lib.hid (jt_same (b := (A.n : Int) + 1 + ((k + 1 : Nat) : Int)) MX.out LV.out RL.out (by have := HS.out; omega) BE.out HH.out hf hh)
                  clear MX LV BE AC FZ FZi kbx g0 g1 g2 g3 d0 d1 d1i kqa hf hh
                  go_wp2
                  go_roundw
                  case rel => exact ⟨k + 1, by go_num, by omega, JT⟩
                  case measure => simp [intOf]; omega
              · go_upto_region 32 with fail
                rw [k3] at g0
                rw [k4'] at g1
                rw [k5] at g2
                obtain ⟨MX1, LV1⟩ := mx_off MX.out LV.out i4
                have c0 := (box_far kbx kqa (by decide) i (.pointer none) 0).trans g0
                have c1 := (box_far kbx kqa (by decide) i (.pointer none) 1).trans g1
                have c2 := (box_far kbx kqa (by decide) i (.pointer none) 2).trans g2
                have c3 := (box_far kbx kqa (by decide) i (.pointer none) 3).trans g3
                have AC1 := Lib.hid (AC.out.keep (S := [qa]) ((Tw.refl _ wr).st qa (.inl (by simp)) i (.pointer none)) (by simp; intro e; exact XA.out (e ▸ LV.out.mem.2.2.1)))
                have BE1 := Lib.hid (below_st BE.out MX.out.hB (HH.out _ LV.out.mem.2.2.1) i (.pointer none))
                have MX1 := Lib.hid MX1
                have LV1 := Lib.hid LV1
                have FZi := Lib.hid FZi
                clear MX LV BE AC FZ kbx g0 g1 g2 g3 d0 d1 d1i kqa
                generalize wr.setCell ⟨qa, i, none⟩ (.pointer none) = W1 at *
                go_wp2_with fail
                have nx4 : nx = 4 := by simpa using k7
                subst nx4
                refine (slot_any AC1.out).mono ?_; rintro e w11 ⟨rfl, rfl⟩
                obtain ⟨rh1, rh2, rh3, ⟨rcur, rh4⟩, rh5⟩ := LV1.out.rh
                have rc0 := LV1.out.rh.cells.1
                have rcf := LV1.out.rh.cells.2
                clear rh1 rh4 AC1
                rcases dn with ⟨hg, hsl, m2, hm2, hmn, hn1, hn2, hn3, hn4⟩ | ⟨hg, hsl, hn3, hn4⟩ | ⟨hg, m2, hm2, hmn, hn1, hn2, hn3, hn4⟩
                · as_aux_lemma =>
                    rw [hg] at c1
                    have e2 : xs x = sl := by unfold xs; rw [hg, hsl]; rfl
                    rw [e2] at c2
                    have e3 : sl = (m2 : Int) := hsl.trans hm2
                    subst e3
                    have b3 : ((m2 : Int) != (m2 : Int)) = false := by simp
                    have b4 : (m2 : Int) < (A.n : Int) := by omega
                    have r5 := rh5 m2 hmn
                    have r6 := rcf m2
                    have JT := Lib.hid (jt_back (b := (A.n : Int) + 1 + ((k + 1 : Nat) : Int)) MX1.out LV1.out RL.out (by have := HS.out; omega) BE1.out HH.out hmn hn2 hn3 hn4)
                    clear MX1 LV1 BE1 rh5 rcf hn1 hn2 hn3 hn4 FZi em hsl hm2 e2 c0 c3
                    go_wp2
                    go_roundw
                    case rel => exact ⟨k + 1, by go_num, by omega, JT⟩
                    case measure => simp [intOf]; omega
                · as_aux_lemma =>
                    rw [hg] at c1
                    subst hsl
                    obtain ⟨es, eo⟩ := em hg rfl
                    have fz0 : decide (0 < fz i) = false := decide_eq_false (by have := FZi.out; rw [es, eo] at this; simp at this; omega)
                    have JT := Lib.hid (jt_same (b := (A.n : Int) + 1 + ((k + 1 : Nat) : Int)) MX1.out LV1.out RL.out (by have := HS.out; omega) BE1.out HH.out hn3 hn4)
                    clear MX1 LV1 BE1 rh5 rcf hn3 hn4 FZi em es eo c0 c2 rc0
                    go_wp2
                    go_roundw
                    case rel => exact ⟨k + 1, by go_num, by omega, JT⟩
                    case measure => simp [intOf]; omega
                · as_aux_lemma =>
                    rw [hg] at c1
                    subst hm2
                    have hv := (RL.out.hr m2 hmn).mpr hn1
                    have r5 := rh5 m2 hmn
                    rw [hv] at r5
                    have r6 := rcf m2
                    have b3 : ((m2 : Int) == -1) = false := beq_eq_false_iff_ne.mpr (by omega)
                    have b4 : decide ((m2 : Int) < 0) = false := decide_eq_false (by omega)
                    have b5 : decide ((A.n : Int) ≤ (m2 : Int)) = false := decide_eq_false (by omega)
                    have b5n : decide (A.n ≤ m2) = false := decide_eq_false (by omega)
                    have b6 : (m2 : Int) < (A.n : Int) := by omega
                    have b7 : ((-1 : Int) != -1) = false := by decide
                    have LL := Lib.hid (show (L i).length ≤ 30 from by
                      have := nodup_lt A.n (L i) (RL.out.nd i i4) (fun m hm => ((RL.out.lr i i4 m).mp hm).1)
                      omega)
                    obtain ⟨MX2, LV2⟩ := mx_tell MX1.out LV1.out hmn (i : Int)
                    have MX2 := Lib.hid MX2
                    have LV2 := Lib.hid LV2
                    have q0 := (LV2.out.ch i i4).1
                    have DN := Lib.hid (And.intro hn1 (And.intro hn2 (And.intro hn3 hn4)))
                    clear rh5 rcf hn1 hn2 hn3 hn4 FZi em c0 c2 c3 hv
                    go_upto_region 42 with fail
                    clear c1 b3 b4 b5 b5n
                    have sz : (W1.setCell ⟨g, m2, none⟩ (.int .i64 (i : Int))).heap.size = W1.heap.size := by simp [World.setCell]
                    have CN := (cell_of_row _ _ 0 _ 3 _ (heap_alloc_new (W1.setCell ⟨g, m2, none⟩ (.int .i64 (i : Int))) (.cells #[.int .i64 (m2 : Int)] 3))).trans (show _ = some (Value.int .i64 (m2 : Int)) from rfl)
                    rw [sz] at CN
                    have CN := Lib.hid CN
                    have OA := Lib.hid ((LV2.out.ol i i4).keep (S := []) (Tw.of (bl_al (Below.refl _ (W1.setCell ⟨g, m2, none⟩ (.int .i64 (i : Int)))) (.cells #[.int .i64 (m2 : Int)] 3))) (by simp))
                    have BA := Lib.hid (show w.heap.size ≤ ((W1.setCell ⟨g, m2, none⟩ (.int .i64 (i : Int))).alloc (.cells #[.int .i64 (m2 : Int)] 3)).heap.size from Nat.le_trans MX2.out.hB (by simp))
                    obtain ⟨_, _, la, lc, hlf⟩ := LV2.out.ch i i4
                    rw [hlf] at q0
                    have OA := Lib.hid (show Oh w.heap.size (.slice la (L i).length lc) (L i) ((W1.setCell ⟨g, m2, none⟩ (.int .i64 (i : Int))).alloc (.cells #[.int .i64 (m2 : Int)] 3)) from hlf ▸ OA.out)
                    have hlf := Lib.hid hlf
                    clear sz
                    go_wp2_with (at_builtin; refine wpList_app1 rfl _ _ rfl rfl w.heap.size _ (L i) m2 W1.heap.size rfl rfl (by have := LL.out; omega) OA.out BA.out CN.out ?_)
                    intro v' w15 ho2 tw2 hv2
                    obtain ⟨va, vc, rfl⟩ := ho2.form
                    rw [← hlf.out] at tw2 hv2
                    have noq : qh ∉ vblk (hl i) := fun hm => by
                      obtain ⟨_, cur, hc⟩ := (LV2.out.ol i i4).blk _ hm
                      exact absurd rfl (blk_ty hc LV2.out.hh (by decide))
                    have TW : Tw (vblk (hl i)) (W1.setCell ⟨g, m2, none⟩ (.int .i64 (i : Int))) w15 := ((Tw.refl _ (W1.setCell ⟨g, m2, none⟩ (.int .i64 (i : Int)))).al (.cells #[.int .i64 (m2 : Int)] 3)).trans tw2
                    have hh15 := blk_tw LV2.out.hh TW noq
                    have s0 := (cell_tw TW (lt_hp LV2.out.hh) noq i).trans q0
                    have s1 : w15.frozen? ⟨qh, i, none⟩ = false := by simp [World.frozen?, hh15]
                    have JT := Lib.hid (jt_took (b := (A.n : Int) + 1 + ((k + 1 : Nat) : Int)) MX1.out LV1.out RL.out (by have := HS.out; omega) BE1.out HH.out i4 hmn DN.out.1 DN.out.2.1 DN.out.2.2.1 DN.out.2.2.2 TW ho2 (fun b hb => (hv2 b hb).imp_right (fun h => by omega)))
                    rw [List.length_append] at JT
                    clear MX1 LV1 MX2 LV2 BE1 DN noq TW hh15 ho2 tw2 hv2 OA CN BA hlf q0 LL
                    go_wp2
                    go_roundw
                    case rel => exact ⟨k + 1, by go_num, by omega, JT⟩
                    case measure => simp [intOf]; omega
    · as_aux_lemma =>
        obtain rfl : k = m := by omega
        have JE := Lib.hid ((je_begin ST.out).mono (show (A.n : Int) + 1 + (k : Int) ≤ 400 + 10 * ((0 : Nat) : Int) by omega))
        have i2 : 0 ≤ (k : Int) := by omega
        have WB := Lib.hid (show 0 ≤ 0 from Nat.le_refl 0)
        clear ST AR
        have HC := Lib.hid (show (k : Int) < (rn : Int) ∧ ¬ (k : Int) < 300 ∨ ¬ (k : Int) < (rn : Int) from by
          by_cases e : k = 300
          · by_cases e2 : (k : Int) < (rn : Int)
            · exact .inl ⟨e2, by omega⟩
            · exact .inr e2
          · have := HN2.out e; exact .inr (by omega))
        clear HN HN2
        go_upto_region 9 with fail
        go_cut [50] (fun v wx => v = .bool false ∧ wx = wr)
        case first =>
          rcases HC.out with ⟨j1, j2⟩ | j1
          all_goals
            go_wp2
            go_meet
            exact ⟨rfl, rfl⟩
        case rest =>
          obtain ⟨rfl, rfl⟩ := hcut
          go_wp2_with fail
          go_loopw [21] (fun jj wz => ∃ kk : Nat, jj = .int .i64 kk ∧ kk ≤ 4 ∧ Hid (Je A q g cap qa qh w.heap.size w (400 + 10 * (kk : Int)) kk wz)) (fun jj _ => 4 - (intOf jj).toNat)
          case atStart => exact ⟨0, rfl, by omega, JE⟩
          case round =>
            clear JE
            obtain ⟨kk, rfl, hkk, JE⟩ := hrel
            by_cases hk4 : kk < 4
            · have kk1 : (kk : Int) < 4 := by omega
              have hwkk : IntKind.i64.wrap ((kk : Int) + 1) = (kk : Int) + 1 := IntWalk.i64_in _ (by omega)
              obtain ⟨nv, nb, hd, ow, l, s, own, st, loc, ac, ac2, H, hvv, hl, L, bx, fr, mx, lv, hr, hs, bel, hH, he⟩ := JE.out
              obtain ⟨d0, d1⟩ := lv.ca kk hk4
              have MX := Lib.hid mx
              have LV := Lib.hid lv
              have HR := Lib.hid hr
              have HS := Lib.hid hs
              have BE := Lib.hid bel
              have HH := Lib.hid hH
              have HE := Lib.hid he
              clear mx lv hr hs bel hH he d1
              cases hy : ac2 kk with
              | none =>
                as_aux_lemma =>
                  have e0 : xp bx ac2 kk = .pointer none := by unfold xp; rw [hy]
                  rw [e0] at d0
                  have JE2 := Lib.hid (JE.out.next.mono (show (400 : Int) + 10 * (kk : Int) ≤ 400 + 10 * ((kk + 1 : Nat) : Int) by omega))
                  have OWN := Lib.hid (je_own JE2.out hk4)
                  clear JE JE2 MX LV HR HS BE HH HE e0
                  go_wp2_with fail
                  refine OWN.out.mono ?_; rintro e w5 ⟨x3, n3, c3, rfl, hn3, je⟩
                  have JE := Lib.hid je
                  have b3 : decide (2 < (n3 : Int)) = false := decide_eq_false (by omega)
                  clear OWN je d0
                  go_wp2
                  go_roundw
                  case rel => exact ⟨kk + 1, by go_num, by omega, JE⟩
                  case measure => simp [intOf]; omega
              | some x =>
                as_aux_lemma =>
                  have e0 : xp bx ac2 kk = .pointer (some ⟨bx kk, 0, none⟩) := by unfold xp; rw [hy]
                  rw [e0] at d0
                  have hx := (HE.out kk (Nat.le_refl _)).trans hy
                  obtain ⟨g0, g1, g2, g3, _⟩ := LV.out.cb hk4 hy
                  have RUN := Lib.hid (mx_run MX.out hk4 hx (by have := HS.out; omega))
                  clear JE e0
                  go_wp2_with fail
                  refine RUN.out.mono ?_; rintro e w5 ⟨z, rfl, hd', ow', l', s', own', st', loc', sl, tp, bl, h1, h2, h3, h4, h5⟩
                  have LV2 := Lib.hid (LV.out.fr' h2)
                  have BE2 := Lib.hid (h2.bel BE.out MX.out.hB)
                  clear g0 g1 g2 g3 RUN LV BE h2 d0
                  obtain ⟨g0, g1, g2, g3, _⟩ := LV2.out.cb hk4 hy
                  have MX2 := Lib.hid h1
                  have AC := Lib.hid h4
                  have S2 := Lib.hid (show s' ≤ 400 + 10 * ((kk + 1 : Nat) : Int) by have := HS.out; omega)
                  have RO := Lib.hid (run_over h4)
                  have SLO := Lib.hid (slot_any h4)
                  have DN := Lib.hid h5
                  clear MX HS h1 h3 h4 h5 hx
                  by_cases hz : z < 0
                  case' pos =>
                    go_wp2_with fail
                    refine RO.out.mono ?_; rintro e w6 ⟨rfl, rfl⟩
                  all_goals
                    clear RO
                    go_wp2_with fail
                    refine SLO.out.mono ?_; rintro e w6 ⟨rfl, rfl⟩
                    have rh5 := LV2.out.rh.2.2.2.2
                    have rc0 := LV2.out.rh.cells.1
                    have rcf := LV2.out.rh.cells.2
                    rcases DN.out with ⟨hg, hsl, m2, hm2, hmn, hn1, hn2, hn3, hn4⟩ | ⟨hg, hsl, hn3, hn4⟩ | ⟨hg, m2, hm2, hmn, hn1, hn2, hn3, hn4⟩
                    · rw [hg] at g1
                      have e3 : sl = (m2 : Int) := hsl.trans hm2
                      subst e3
                      have b4 : (m2 : Int) < (A.n : Int) := by omega
                      have r5 := rh5 m2 hmn
                      have r6 := rcf m2
                      have OWN := Lib.hid (je_own (je_back MX2.out LV2.out HR.out S2.out BE2.out HH.out HE.out hmn hn2 hn3) hk4)
                      clear MX2 LV2 BE2 HR S2 HH HE DN AC rh5 rcf hn1 hn2 hn3 hn4 g0 g2 g3 hsl hm2
                      go_wp2_with fail
                      refine OWN.out.mono ?_; rintro e w7 ⟨x3, n3, c3, rfl, hn3', je⟩
                      have JE := Lib.hid je
                      have b9 : decide (2 < (n3 : Int)) = false := decide_eq_false (by omega)
                      clear OWN je
                      go_wp2
                      go_roundw
                      case rel => exact ⟨kk + 1, by go_num, by omega, JE⟩
                      case measure => simp [intOf]; omega
                    · rw [hg] at g1
                      subst hsl
                      have OWN := Lib.hid (je_own (je_same MX2.out LV2.out HR.out S2.out BE2.out HH.out HE.out hn3) hk4)
                      clear MX2 LV2 BE2 HR S2 HH HE DN AC rh5 rcf hn3 hn4 g0 g2 g3 rc0
                      go_wp2_with fail
                      refine OWN.out.mono ?_; rintro e w7 ⟨x3, n3, c3, rfl, hn3', je⟩
                      have JE := Lib.hid je
                      have b9 : decide (2 < (n3 : Int)) = false := decide_eq_false (by omega)
                      clear OWN je
                      go_wp2
                      go_roundw
                      case rel => exact ⟨kk + 1, by go_num, by omega, JE⟩
                      case measure => simp [intOf]; omega
                    · rw [hg] at g1
                      subst hm2
                      have r5 := rh5 m2 hmn
                      rw [(HR.out m2 hmn).mpr hn1] at r5
                      have r6 := rcf m2
                      have b4 : (m2 : Int) < (A.n : Int) := by omega
                      have b5 : 0 ≤ (m2 : Int) := by omega
                      have b7 : ((-1 : Int) != -1) = false := by decide
                      have OWN := Lib.hid (je_own (je_took (v := (kk : Int)) MX2.out LV2.out HR.out S2.out BE2.out HH.out HE.out (by omega) hmn hn2 hn3) hk4)
                      clear MX2 LV2 BE2 HR S2 HH HE DN AC rh5 rcf hn1 hn2 hn3 hn4 g0 g2 g3
                      go_wp2_with fail
                      refine OWN.out.mono ?_; rintro e w7 ⟨x3, n3, c3, rfl, hn3', je⟩
                      have JE := Lib.hid je
                      have b9 : decide (2 < (n3 : Int)) = false := decide_eq_false (by omega)
                      clear OWN je
                      go_wp2
                      go_roundw
                      case rel => exact ⟨kk + 1, by go_num, by omega, JE⟩
                      case measure => simp [intOf]; omega
            · as_aux_lemma =>
                obtain rfl : kk = 4 := by omega
                obtain ⟨nv, nb, hd, ow, l, s, own, st, loc, ac, ac2, H, hvv, hl, L, bx, fr, mx, lv, hr, hs, bel, hH, he⟩ := JE.out
                have HR := Lib.hid hr
                have RH := Lib.hid lv.rh
                have BE := Lib.hid bel
                have PX := Lib.hid mx.px
                have sB := Lib.hid mx.hB
                have AG := Lib.hid (show A.g < wr.heap.size ∧ A.b < wr.heap.size from ⟨mx.po.lt.2.1, mx.po.lt.2.2.1⟩)
                have NG := Lib.hid (show (q ≠ A.g ∧ q ≠ A.b) ∧ g ≠ A.g ∧ g ≠ A.b from ⟨⟨fun e => (mx.ha A.g (by simp)).2 (e ▸ lv.mem.1), fun e => (mx.ha A.b (by simp)).2 (e ▸ lv.mem.1)⟩, fun e => (mx.ha A.g (by simp)).2 (e ▸ lv.mem.2.1), fun e => (mx.ha A.b (by simp)).2 (e ▸ lv.mem.2.1)⟩)
                have O0 := Lib.hid (mx_own mx (i := 0) (by omega))
                rw [show ((0 : Nat) : Int) = 0 from rfl] at O0
                clear JE lv hr hs bel hH he mx
                go_wp2_with fail
                refine O0.out.mono ?_; rintro e v1 ⟨s0, rfl, l0, g0, mx0⟩
                obtain ⟨x0, c0, rfl, _⟩ := l0.ints
                rw [ints_len]
                have L0 := Lib.hid l0
                have RH := Lib.hid (RH.out.up g0)
                have BE := Lib.hid (BE.out.trans (g0.mono sB.out))
                have sB := Lib.hid (Nat.le_trans sB.out g0.size)
                have O1 := Lib.hid (mx_own mx0 (i := 1) (by omega))
                rw [show ((1 : Nat) : Int) = 1 from rfl] at O1
                have Z0 := Lib.hid (show wr.heap.size ≤ v1.heap.size from g0.size)
                clear l0 g0 mx0 O0
                go_wp2_with fail
                refine O1.out.mono ?_; rintro e v2 ⟨s1, rfl, l1, g1, mx1⟩
                obtain ⟨x1, c1, rfl, _⟩ := l1.ints
                rw [ints_len]
                have L1 := Lib.hid l1
                have RH := Lib.hid (RH.out.up g1)
                have BE := Lib.hid (BE.out.trans (g1.mono sB.out))
                have sB := Lib.hid (Nat.le_trans sB.out g1.size)
                have L0 := Lib.hid (L0.out.up g1)
                have O2 := Lib.hid (mx_own mx1 (i := 2) (by omega))
                rw [show ((2 : Nat) : Int) = 2 from rfl] at O2
                have Z1 := Lib.hid (show v1.heap.size ≤ v2.heap.size from g1.size)
                clear l1 g1 mx1 O1
                go_wp2_with fail
                refine O2.out.mono ?_; rintro e v3 ⟨s2, rfl, l2, g2, mx2⟩
                obtain ⟨x2, c2, rfl, _⟩ := l2.ints
                rw [ints_len]
                have L2 := Lib.hid l2
                have RH := Lib.hid (RH.out.up g2)
                have BE := Lib.hid (BE.out.trans (g2.mono sB.out))
                have sB := Lib.hid (Nat.le_trans sB.out g2.size)
                have L0 := Lib.hid (L0.out.up g2)
                have L1 := Lib.hid (L1.out.up g2)
                have O3 := Lib.hid (mx_own mx2 (i := 3) (by omega))
                rw [show ((3 : Nat) : Int) = 3 from rfl] at O3
                have Z2 := Lib.hid (show v2.heap.size ≤ v3.heap.size from g2.size)
                clear l2 g2 mx2 O2
                go_wp2_with fail
                refine O3.out.mono ?_; rintro e v4 ⟨s3, rfl, l3, g3, mx3⟩
                obtain ⟨x3, c3, rfl, _⟩ := l3.ints
                rw [ints_len]
                have L3 := Lib.hid l3
                have RH := Lib.hid (RH.out.up g3)
                have BE := Lib.hid (BE.out.trans (g3.mono sB.out))
                have sB := Lib.hid (Nat.le_trans sB.out g3.size)
                have L0 := Lib.hid (L0.out.up g3)
                have L1 := Lib.hid (L1.out.up g3)
                have L2 := Lib.hid (L2.out.up g3)
                have SH := Lib.hid (mx_shared mx3)
                have Z3 := Lib.hid (show v3.heap.size ≤ v4.heap.size from g3.size)
                clear l3 g3 mx3 O3
                go_wp2_with fail
                refine SH.out.mono ?_; rintro e v5 ⟨x4, c4, rfl, i4, t4, _, f4⟩
                have RH := Lib.hid (RH.out.keep t4 (by simp; exact NG.out.1) (by simp; exact NG.out.2))
                have BE := Lib.hid (f4.bel BE.out sB.out)
                have L0 := Lib.hid (lst_ints (L0.out.tw t4 (fun j hj => by have := AG.out; have := Z0.out; have := Z1.out; have := Z2.out; have := Z3.out; simp at hj; rcases hj with rfl | rfl <;> omega)))
                have L1 := Lib.hid (lst_ints (L1.out.tw t4 (fun j hj => by have := AG.out; have := Z0.out; have := Z1.out; have := Z2.out; have := Z3.out; simp at hj; rcases hj with rfl | rfl <;> omega)))
                have L2 := Lib.hid (lst_ints (L2.out.tw t4 (fun j hj => by have := AG.out; have := Z0.out; have := Z1.out; have := Z2.out; have := Z3.out; simp at hj; rcases hj with rfl | rfl <;> omega)))
                have L3 := Lib.hid (lst_ints (L3.out.tw t4 (fun j hj => by have := AG.out; have := Z0.out; have := Z1.out; have := Z2.out; have := Z3.out; simp at hj; rcases hj with rfl | rfl <;> omega)))
                have L4 := Lib.hid i4
                clear i4 t4 f4 SH
                have AL := Lib.hid (bl_al (Below.refl _ v5) (.cells #[.slice x0 (own 0).length c0, .slice x1 (own 1).length c1, .slice x2 (own 2).length c2, .slice x3 (own 3).length c3, .slice x4 st.length c4] 36))
                have FIN := Lib.hid (once_fin PX.out (RH.out.up AL.out) HR.out b1 b2 (heap_alloc_new v5 (.cells #[.slice x0 (own 0).length c0, .slice x1 (own 1).length c1, .slice x2 (own 2).length c2, .slice x3 (own 3).length c3, .slice x4 st.length c4] 36)) (L0.out.keep AL.out) (L1.out.keep AL.out) (L2.out.keep AL.out) (L3.out.keep AL.out) (L4.out.keep AL.out))
                have BE := Lib.hid (bl_tr BE.out AL.out)
                clear L0 L1 L2 L3 L4 RH AL PX HR NG AG
                go_wp2_with fail
                refine FIN.out.mono ?_; rintro e v6 ⟨rfl, b6⟩
                have BE := Lib.hid (bl_tr BE.out b6)
                clear FIN b6
                go_wp2
                go_ret
                exact ⟨rfl, BE.out⟩
end Go.Proofs.Ytaihmkflhapjeaa
