/-
  knap: New.
-/
import Derived.Test.YteoionlnnjcggaaKn0
namespace Go.Proofs.Yteoionlnnjcggaa.kn
open Go.RowKit
set_option linter.unusedVariables false
theorem cmpv_two (a b : Int) : ar.cmpv a b = od.cmpv a b := by
  unfold ar.cmpv od.cmpv
  by_cases h : a < b
  · rw [if_pos h, if_pos h]
  · rw [if_neg h, if_neg h]
    by_cases e : a = b
    · rw [if_pos e, if_neg (by omega)]
    · rw [if_neg e, if_pos (by omega)]
theorem cross_all : od.CrossP := fun a b c d ha hb hc hd X => by
  have h := ar.cross_any a b c d ha.1 ha.2 hb.1 hb.2 hc.1 hc.2 hd.1 hd.2 X
  rw [cmpv_two] at h
  exact h
/-- a problem in form -/
theorem form_of {K N C : Int} {wl vl : List Int} {cl : List (List Int)} (hz : chk K N C wl vl cl = 0) (hK : K = 1) : (wl.length : Int) = N ∧ vl.length = wl.length ∧ 1 ≤ wl.length ∧ wl.length ≤ 64 ∧ 0 ≤ C ∧ C ≤ 2147483647 ∧ (∀ j, j < wl.length → (0 ≤ nt wl j ∧ nt wl j ≤ 2147483647) ∧ (0 ≤ nt vl j ∧ nt vl j ≤ 2147483647)) ∧ cl.length = 0 := by
  unfold chk at hz
  rw [if_neg (by omega)] at hz
  by_cases h1 : N < 1
  · rw [if_pos h1] at hz; exact absurd hz (by decide)
  rw [if_neg h1] at hz
  by_cases h2 : (K = 1 ∧ 64 < N) ∨ (K ≠ 1 ∧ 24 < N)
  · rw [if_pos h2] at hz; exact absurd hz (by decide)
  rw [if_neg h2] at hz
  by_cases h3 : formP K N C wl.length vl.length cl
  · rw [if_neg (fun c => c h3), if_pos hK] at hz
    have hf := form_items h3 hK
    by_cases h4 : num C = 0
    · rw [if_pos h4] at hz
      have io := items_ok wl vl (by omega) hz
      have hc := num_zero.1 h4
      exact ⟨hf.1, by omega, by omega, by omega, hc.1, hc.2, io, hf.2.2⟩
    · rw [if_neg h4] at hz; exact absurd hz h4
  · rw [if_pos h3] at hz; exact absurd hz (by decide)
/-- a kernel's order, its weights and values -/
structure Ordd (wl vl T : List Int) : Prop where
  is_ : od.IsRk (od.ltR vl wl) wl.length T
  on : od.OnRk (od.ltR vl wl) wl.length T
theorem Ordd.rng {wl vl T : List Int} (h : Ordd wl vl T) : T.length = wl.length ∧ ∀ j, j < wl.length → 0 ≤ nt T j ∧ nt T j < wl.length := by
  refine ⟨h.is_.1, fun j hj => ?_⟩
  obtain ⟨a, ha, _, e⟩ := h.on j hj
  have e : nt T j = (a : Int) := (show nt T j = od.nth T j from by unfold nt od.nth; rfl).trans e
  omega
theorem Ordd.ok {C : Int} {wl vl T : List Int} (h : Ordd wl vl T) (n1 : 1 ≤ wl.length) (n2 : wl.length ≤ 64) (lv : vl.length = wl.length) (c0 : 0 ≤ C) (c1 : C ≤ 2147483647) (io : ∀ j, j < wl.length → (0 ≤ nt wl j ∧ nt wl j ≤ 2147483647) ∧ (0 ≤ nt vl j ∧ nt vl j ≤ 2147483647)) : KnOk C T (pick wl T) (pick vl T) := by
  obtain ⟨e, r⟩ := h.rng
  refine ⟨by omega, by omega, pick_len _ _, pick_len _ _, c0, c1, fun j hj => ?_, fun j hj => ?_, fun j hj => by rw [e]; exact r j (by omega)⟩
  · rw [nt_pick _ _ _ hj]
    have := r j (by omega)
    exact (io _ (by omega)).1
  · rw [nt_pick _ _ _ hj]
    have := r j (by omega)
    exact (io _ (by omega)).2
/-- what New answers -/
def NwP (K C : Int) (wl vl : List Int) (er : Int) (w : World) (e : Ending) (w' : World) : Prop :=
  (er ≠ 0 → e = .returned (.tuple #[.pointer none, .int .i64 er])) ∧ (er = 0 → K ≠ 1 → e = .returned (.tuple #[.pointer none, .int .i64 14])) ∧
  (er = 0 → K = 1 → ∃ p T, e = .returned (.tuple #[.pointer (some ⟨p, 0, none⟩), .int .i64 0]) ∧ Kn p C T (pick wl T) (pick vl T) w' ∧ Ordd wl vl T) ∧ Below w.heap.size w w'
theorem nt_od (l : List Int) (j : Nat) : od.nth l j = nt l j := by unfold od.nth nt; rfl
theorem i64_of {l : List Int} {n : Nat} (hn : l.length = n) (h : ∀ j, j < n → 0 ≤ nt l j ∧ nt l j ≤ 2147483647) : od.I64s l := fun j => by
  unfold od.I64
  rw [nt_od]
  by_cases hj : j < n
  · have := h j hj; omega
  · unfold nt
    rw [List.getElem?_eq_none (by omega)]
    show -9223372036854775808 ≤ (0 : Int) ∧ (0 : Int) ≤ _
    omega
theorem noneg_of {l : List Int} {n : Nat} (hn : l.length = n) (h : ∀ j, j < n → 0 ≤ nt l j) : od.NoNeg l := fun j hj => by rw [nt_od]; exact h j (by omega)
theorem ints_od {W : World} {a : Option Addr} {l : List Int} (h : Ints W a l) : od.Ints W a l := fun j hj => by rw [nt_od]; exact h j hj
def NkP (C : Int) (wl vl : List Int) (w : World) (e : Ending) (w' : World) : Prop := ∃ p T, e = .returned (.tuple #[.pointer (some ⟨p, 0, none⟩), .int .i64 0]) ∧ Kn p C T (pick wl T) (pick vl T) w' ∧ Ordd wl vl T ∧ Below w.heap.size w w'
set_option maxRecDepth 100000 in
set_option maxHeartbeats 16000000 in
theorem new_core {N C : Int} {wl vl : List Int} {n : Nat} {wa va ca : Option Addr} {wc vc cc : Nat} {w : World} (hwl : wl.length = n) (hvl : vl.length = n) (n1 : 1 ≤ n) (n2 : n ≤ 64) (io : ∀ j, j < n → (0 ≤ nt wl j ∧ nt wl j ≤ 2147483647) ∧ (0 ≤ nt vl j ∧ nt vl j ≤ 2147483647)) (hw : Ints w wa wl) (hv : Ints w va vl)
    (CH : Calls Try.prog 28 #[.agg #[.int .i64 1, .int .i64 N, .int .i64 C, .slice wa n wc, .slice va n vc, .slice ca 0 cc]] (w.alloc (.cells #[.int .i64 1, .int .i64 N, .int .i64 C, .slice wa n wc, .slice va n vc, .slice ca 0 cc] 25)) fun e w' => e = .returned (.int .i64 0) ∧ Below (w.alloc (.cells #[.int .i64 1, .int .i64 N, .int .i64 C, .slice wa n wc, .slice va n vc, .slice ca 0 cc] 25)).heap.size (w.alloc (.cells #[.int .i64 1, .int .i64 N, .int .i64 C, .slice wa n wc, .slice va n vc, .slice ca 0 cc] 25)) w') :
    Calls Try.prog 9 #[.agg #[.int .i64 1, .int .i64 N, .int .i64 C, .slice wa n wc, .slice va n vc, .slice ca 0 cc]] w (NkP C wl vl w) := by
  have HB := Lib.hid (bl_al (Below.refl _ w) (.cells #[.int .i64 1, .int .i64 N, .int .i64 C, .slice wa n wc, .slice va n vc, .slice ca 0 cc] 25))
  have E1 := Lib.hid (heap_alloc_new w (.cells #[.int .i64 1, .int .i64 N, .int .i64 C, .slice wa n wc, .slice va n vc, .slice ca 0 cc] 25))
  replace CH := Lib.hid CH
  have HW := Lib.hid hw
  have HV := Lib.hid hv
  have IO := Lib.hid io
  have LL := Lib.hid (And.intro hwl hvl)
  have b1 : ((1 : Int) != 1) = false := rfl
  clear hw hv io hwl hvl n1
  go_enter Try.func9, Try.ntmps9
  go_wp2_with fail
  generalize w.alloc (.cells #[.int .i64 1, .int .i64 N, .int .i64 C, .slice wa n wc, .slice va n vc, .slice ca 0 cc] 25) = X1 at *
  refine CH.out.mono ?_; rintro e w2 ⟨rfl, hb2⟩
  have HB2 := Lib.hid (bl_tr HB.out hb2)
  have E2 := Lib.hid ((hb2.block _ (lt_hp E1.out)).trans E1.out)
  clear hb2 CH E1 HB
  have c0 := (cell_of_row _ _ 0 _ _ _ E2.out).trans (show _ = some (Value.int .i64 1) from rfl)
  have c2 := (cell_of_row _ _ 2 _ _ _ E2.out).trans (show _ = some (Value.int .i64 C) from rfl)
  have c3 := (cell_of_row _ _ 3 _ _ _ E2.out).trans (show _ = some (Value.slice wa n wc) from rfl)
  have c4 := (cell_of_row _ _ 4 _ _ _ E2.out).trans (show _ = some (Value.slice va n vc) from rfl)
  have KB := Lib.hid (heap_alloc_new w2 (.cells #[.int .i64 C, .slice none 0 0, .slice none 0 0, .slice none 0 0] 48))
  have AL := Lib.hid (bl_al (Below.refl _ w2) (.cells #[.int .i64 C, .slice none 0 0, .slice none 0 0, .slice none 0 0] 48))
  go_upto_region 7 with fail
  generalize w2.alloc (.cells #[.int .i64 C, .slice none 0 0, .slice none 0 0, .slice none 0 0] 48) = X2 at *
  have E3 := Lib.hid ((AL.out.block _ (lt_hp E2.out)).trans E2.out)
  have HB3 := Lib.hid (bl_tr HB2.out AL.out)
  have c3 := (cell_of_row _ _ 3 _ _ _ E3.out).trans (show _ = some (Value.slice wa n wc) from rfl)
  have c4 := (cell_of_row _ _ 4 _ _ _ E3.out).trans (show _ = some (Value.slice va n vc) from rfl)
  have RT := Lib.hid (od.ratio_any cross_all vl wl (by have := LL.out; omega) (by have := LL.out; omega) (i64_of LL.out.2 (fun j hj => (IO.out j hj).2)) (i64_of LL.out.1 (fun j hj => (IO.out j hj).1)) wa va wc vc X2 (ints_od (HW.out.keep HB3.out)) (ints_od (HV.out.keep HB3.out)))
  rw [LL.out.1, LL.out.2] at RT
  have RO := Lib.hid (show od.ratOk vl wl from ⟨by have := LL.out; omega, by have := LL.out; omega, noneg_of LL.out.2 (fun j hj => (IO.out j hj).2.1), noneg_of LL.out.1 (fun j hj => (IO.out j hj).1.1)⟩)
  go_wp2_with fail
  refine RT.out.mono ?_; rintro e w4 hq
  rcases hq with ⟨-, g, cap, T, rfl, t1, t2, -, hb4, ho⟩ | ⟨hq, -⟩
  case inr => exact absurd RO.out hq
  rw [LL.out.2] at t1 t2 ho ⊢
  have OD := Lib.hid (show Ordd wl vl T from ⟨by rw [LL.out.1]; exact t1, by rw [LL.out.1]; exact t2⟩)
  have TL : T.length = n := t1.1
  have TR := Lib.hid (show ∀ j, j < n → 0 ≤ nt T j ∧ nt T j < n from fun j hj => by have := OD.out.rng.2 j (by rw [LL.out.1]; exact hj); rw [LL.out.1] at this; exact this)
  have HO := Lib.hid (show Ol (w2.heap.size + 1) (.slice (some ⟨g, 0, none⟩) n cap) T w4 from Ol.mono (show Ol X2.heap.size (.slice (some ⟨g, 0, none⟩) n cap) T w4 from by rw [← TL] at ho ⊢; exact ho) (lt_hp KB.out))
  have HG := Lib.hid (HO.out.blk g (by simp [vb]))
  have KB4 := Lib.hid ((hb4.block _ (lt_hp KB.out)).trans KB.out)
  have N0 : NS w w.heap.size w2.heap.size _ C (.slice (some ⟨g, 0, none⟩) n cap) T (.slice none 0 0) (.slice none 0 0) [] (.slice none 0 0) (.slice none 0 0) [] (w4.setCell ⟨w2.heap.size, 1, none⟩ (.slice (some ⟨g, 0, none⟩) n cap)) :=
    have st := (Tw.refl [w2.heap.size] w4).st w2.heap.size (.inl (by simp)) 1 (.slice (some ⟨g, 0, none⟩) n cap)
    ⟨blk_tw ((hb4.block _ (lt_hp E3.out)).trans E3.out) st (by have := lt_hp E2.out; simp; omega), (blk_set KB4.out 1 (.slice (some ⟨g, 0, none⟩) n cap)).trans rfl, HO.out.keep st (fun i hi hm => by simp at hi; subst hi; have := (HO.out.blk _ hm).1; omega), ol_nil _ _, ol_nil _ _, fun i _ h => by simp [vb] at h, fun i _ h => by simp [vb] at h, fun i h => by simp [vb] at h,
      Tw.below (bl_tr HB3.out hb4) st (fun i hi => by simp at hi; have := HB2.out.size; omega) (bl_tr HB3.out hb4).size, ⟨Nat.le_refl _, by have := lt_hp E2.out; omega, by have := lt_hp KB.out; have := hb4.size; have := st.size; omega⟩⟩
  have f1 : w4.frozen? ⟨w2.heap.size, 1, none⟩ = false := by simp [World.frozen?, KB4.out]
  have g1 := (cell_of_row _ _ 1 _ _ _ KB4.out).trans (show _ = some (Value.slice none 0 0) from rfl)
  have TLH := Lib.hid TL
  have k1 := (cell_of_row _ _ 1 _ _ _ N0.kb).trans (show _ = some (Value.slice (some ⟨g, 0, none⟩) n cap) from rfl)
  replace N0 := Lib.hid N0
  clear TL t1 t2 ho RT RO KB E2 HB2 c3 c4 KB4 HO AL
  generalize hpi : w.heap.size = pi at *
  generalize hpk : w2.heap.size = pk at *
  replace hpi := Lib.hid hpi
  replace hpk := Lib.hid hpk
  go_upto_region 8 with fail
  generalize w4.setCell ⟨pk, 1, none⟩ (.slice (some ⟨g, 0, none⟩) n cap) = Z0 at *
  go_wp2_with fail
  go_loopw [36] (fun i wr => ∃ (k : Nat) (ua ya : Option Addr) (uc yc : Nat), i = .int .i64 (k : Int) ∧ k ≤ n ∧ Hid (NS w pi pk #[.int .i64 1, .int .i64 N, .int .i64 C, .slice wa n wc, .slice va n vc, .slice ca 0 cc] C (.slice (some ⟨g, 0, none⟩) n cap) T (.slice ua k uc) (.slice ua k uc) (pick wl (T.take k)) (.slice ya k yc) (.slice ya k yc) (pick vl (T.take k)) wr)) (fun i _ => n - (intOf i).toNat)
  case atStart => exact ⟨0, none, none, 0, 0, rfl, Nat.zero_le _, N0⟩
  case round =>
    clear N0 k1 HG hb4 f1 g1
    obtain ⟨k, ua, ya, uc, yc, rfl, hk, HN⟩ := hrel
    by_cases hlt : k < n
    · have hkT : k < T.length := by have := TLH.out; omega
      obtain ⟨g0, o0, e0, m1⟩ := (show Ls (.slice (some ⟨g, 0, none⟩) n cap) T wr from HN.out.ot.ls).at_ k hkT
      have tb := TR.out k hlt
      obtain ⟨t, ht⟩ : ∃ t : Nat, nt T k = (t : Int) := ⟨(nt T k).toNat, by omega⟩
      have ht2 : t < n := by omega
      obtain ⟨wg, wo, rfl, hwg, cw⟩ := HW.out t (by have := LL.out; omega)
      obtain ⟨vg, vo, rfl, hvg, cv⟩ := HV.out t (by have := LL.out; omega)
      have EW := Lib.hid (show pick wl (T.take (k + 1)) = pick wl (T.take k) ++ [nt wl t] from by rw [pick_snoc wl T k hkT, ht]; rfl)
      have EV := Lib.hid (show pick vl (T.take (k + 1)) = pick vl (T.take k) ++ [nt vl t] from by rw [pick_snoc vl T k hkT, ht]; rfl)
      have LW := Lib.hid (show (pick wl (T.take k)).length = k from by rw [pick_len, List.length_take]; omega)
      have LV := Lib.hid (show (pick vl (T.take k)).length = k from by rw [pick_len, List.length_take]; omega)
      have cw : w.cell? ⟨wg, wo + t, none⟩ = some (.int .i64 (nt wl t)) := cw
      have cv : w.cell? ⟨vg, vo + t, none⟩ = some (.int .i64 (nt vl t)) := cv
      rw [ht] at m1
      injection e0 with e0
      injection e0 with e0 e0'
      subst e0 e0'
      rw [Nat.zero_add] at m1
      have SW := Lib.hid (fun vw Lw cv vv Lv Y (h : NS w pi pk #[.int .i64 1, .int .i64 N, .int .i64 C, .slice (some ⟨wg, wo, none⟩) n wc, .slice (some ⟨vg, vo, none⟩) n vc, .slice ca 0 cc] C (.slice (some ⟨g, 0, none⟩) n cap) T (.slice ua k uc) vw Lw cv vv Lv Y) => show Y.cell? ⟨pk, 2, none⟩ = some (.slice ua k uc) ∧ Y.cell? ⟨pi, 3, none⟩ = some (.slice (some ⟨wg, wo, none⟩) n wc) ∧ Y.cell? ⟨wg, wo + t, none⟩ = some (.int .i64 (nt wl t)) from
        ⟨h.stW.1, (cell_of_row _ _ 3 _ _ _ h.bi).trans rfl, (h.bl.cell (p := ⟨wg, wo + t, none⟩) hwg).trans cw⟩)
      have SV := Lib.hid (fun cw vw Lw vv Lv Y (h : NS w pi pk #[.int .i64 1, .int .i64 N, .int .i64 C, .slice (some ⟨wg, wo, none⟩) n wc, .slice (some ⟨vg, vo, none⟩) n vc, .slice ca 0 cc] C (.slice (some ⟨g, 0, none⟩) n cap) T cw vw Lw (.slice ya k yc) vv Lv Y) => show Y.cell? ⟨pk, 3, none⟩ = some (.slice ya k yc) ∧ Y.cell? ⟨pi, 4, none⟩ = some (.slice (some ⟨vg, vo, none⟩) n vc) ∧ Y.cell? ⟨vg, vo + t, none⟩ = some (.int .i64 (nt vl t)) from
        ⟨h.stV.1, (cell_of_row _ _ 4 _ _ _ h.bi).trans rfl, (h.bl.cell (p := ⟨vg, vo + t, none⟩) hvg).trans cv⟩)
      have i1 : (k : Int) < (n : Int) := by omega
      have i3 : (t : Int) < (n : Int) := by omega
      have i5 : (0 : Int) ≤ (t : Int) := by omega
      clear cw cv hwg hvg ht tb hkT TR HW HV
      generalize nt wl t = xw at *
      generalize nt vl t = xv at *
      go_upto_region 11 with fail
      replace HN := Lib.hid (HN.out.up (bl_drew _))
      refine HeldL.begin (fun W => W.cell? ⟨pk, 2, none⟩ = some (.slice ua k uc) ∧ W.cell? ⟨pi, 3, none⟩ = some (.slice (some ⟨wg, wo, none⟩) n wc) ∧ W.cell? ⟨wg, wo + t, none⟩ = some (.int .i64 xw)) 14 (by kernel_rfl) (SW.out _ _ _ _ _ _ HN.out) (fun hHeld => ?_)
      generalize World.drew _ = Y at *
      refine HeldL.take (k := 0) (v := ?vW0) (by rw [List.getElem?_toArray]; rfl) (by kernel_rfl) (by kernel_rfl) (by kernel_rfl) (by kernel_rfl) ?qW0 (Or.inl ⟨by rfl, ?yW0⟩) hHeld ?rW0
      case qW0 => exact fun _ _ _ h => h
      case yW0 => (intro wz hSw; obtain ⟨f1, f2, f3⟩ := hSw; go_simp; try (with_reducible rfl))
      try simp only [Act.put, List.setIfInBounds_toArray, List.set_cons_zero, List.set_cons_succ]
      refine HeldL.take (k := 1) (v := ?vW1) (by rw [List.getElem?_toArray]; rfl) (by kernel_rfl) (by kernel_rfl) (by kernel_rfl) (by kernel_rfl) ?qW1 (Or.inl ⟨by rfl, ?yW1⟩) hHeld ?rW1
      case qW1 => exact fun _ _ _ h => h
      case yW1 => (intro wz hSw; obtain ⟨f1, f2, f3⟩ := hSw; go_simp; try (with_reducible rfl))
      try simp only [Act.put, List.setIfInBounds_toArray, List.set_cons_zero, List.set_cons_succ]
      refine HeldL.take (k := 2) (v := ?vW2) (by rw [List.getElem?_toArray]; rfl) (by kernel_rfl) (by kernel_rfl) (by kernel_rfl) (by kernel_rfl) ?qW2 (Or.inl ⟨by rfl, ?yW2⟩) hHeld ?rW2
      case qW2 => exact fun _ _ _ h => h
      case yW2 => (intro wz hSw; obtain ⟨f1, f2, f3⟩ := hSw; go_simp; try (with_reducible rfl))
      try simp only [Act.put, List.setIfInBounds_toArray, List.set_cons_zero, List.set_cons_succ]
      refine HeldL.take (k := 3) (v := ?vW3) (by rw [List.getElem?_toArray]; rfl) (by kernel_rfl) (by kernel_rfl) (by kernel_rfl) (by kernel_rfl) ?qW3 (Or.inl ⟨by rfl, ?yW3⟩) hHeld ?rW3
      case qW3 => exact fun _ _ _ h => h
      case yW3 => (intro wz hSw; obtain ⟨f1, f2, f3⟩ := hSw; go_simp; try (with_reducible rfl))
      try simp only [Act.put, List.setIfInBounds_toArray, List.set_cons_zero, List.set_cons_succ]
      refine HeldL.take (k := 4) (v := ?vW4) (by rw [List.getElem?_toArray]; rfl) (by kernel_rfl) (by kernel_rfl) (by kernel_rfl) (by kernel_rfl) ?qW4 (Or.inl ⟨by rfl, ?yW4⟩) hHeld ?rW4
      case qW4 => exact fun _ _ _ h => h
      case yW4 => (intro wz hSw; obtain ⟨f1, f2, f3⟩ := hSw; go_simp; try (with_reducible rfl))
      try simp only [Act.put, List.setIfInBounds_toArray, List.set_cons_zero, List.set_cons_succ]
      refine HeldL.take (k := 5) (v := ?vW5) (by rw [List.getElem?_toArray]; rfl) (by kernel_rfl) (by kernel_rfl) (by kernel_rfl) (by kernel_rfl) ?qW5 (Or.inl ⟨by rfl, ?yW5⟩) hHeld ?rW5
      case qW5 => exact fun _ _ _ h => h
      case yW5 => (intro wz hSw; obtain ⟨f1, f2, f3⟩ := hSw; go_simp; try (with_reducible rfl))
      try simp only [Act.put, List.setIfInBounds_toArray, List.set_cons_zero, List.set_cons_succ]
      refine HeldL.take (k := 6) (v := ?vW6) (by rw [List.getElem?_toArray]; rfl) (by kernel_rfl) (by kernel_rfl) (by kernel_rfl) (by kernel_rfl) ?qW6 (Or.inl ⟨by rfl, ?yW6⟩) hHeld ?rW6
      case qW6 => exact fun _ _ _ h => h
      case yW6 => (intro wz hSw; obtain ⟨f1, f2, f3⟩ := hSw; go_simp; try (with_reducible rfl))
      try simp only [Act.put, List.setIfInBounds_toArray, List.set_cons_zero, List.set_cons_succ]
      refine HeldL.take (k := 7) (v := ?vW7) (by rw [List.getElem?_toArray]; rfl) (by kernel_rfl) (by kernel_rfl) (by kernel_rfl) (by kernel_rfl) ?qW7 (Or.inl ⟨by rfl, ?yW7⟩) hHeld ?rW7
      case qW7 => exact fun _ _ _ h => h
      case yW7 => (intro wz hSw; obtain ⟨f1, f2, f3⟩ := hSw; go_simp; try (with_reducible rfl))
      try simp only [Act.put, List.setIfInBounds_toArray, List.set_cons_zero, List.set_cons_succ]
      refine HeldL.take (k := 8) (v := ?vW8) (by rw [List.getElem?_toArray]; rfl) (by kernel_rfl) (by kernel_rfl) (by kernel_rfl) (by kernel_rfl) ?qW8 (Or.inl ⟨by rfl, ?yW8⟩) hHeld ?rW8
      case qW8 => exact fun _ _ _ h => h
      case yW8 => (intro wz hSw; obtain ⟨f1, f2, f3⟩ := hSw; go_simp; try (with_reducible rfl))
      try simp only [Act.put, List.setIfInBounds_toArray, List.set_cons_zero, List.set_cons_succ]
      refine HeldL.take (k := 9) (v := ?vW9) (by rw [List.getElem?_toArray]; rfl) (by kernel_rfl) (by kernel_rfl) (by kernel_rfl) (by kernel_rfl) ?qW9 (Or.inl ⟨by rfl, ?yW9⟩) hHeld ?rW9
      case qW9 => exact fun _ _ _ h => h
      case yW9 => (intro wz hSw; obtain ⟨f1, f2, f3⟩ := hSw; go_simp; try (with_reducible rfl))
      try simp only [Act.put, List.setIfInBounds_toArray, List.set_cons_zero, List.set_cons_succ]
      refine HeldL.one (k := 10) (by kernel_rfl) (by rw [List.getElem?_toArray]; rfl) (fun K hK => ?_)
      go_simp
      have NC := Lib.hid (heap_alloc_new Y (.cells #[.int .i64 xw] 3))
      have YS := Lib.hid (show Y.heap.size = (Y.alloc (.cells #[.int .i64 xw] 3)).heap.size - 1 by simp)
      replace HN := Lib.hid (HN.out.up (bl_al (Below.refl _ Y) (.cells #[.int .i64 xw] 3)))
      refine hK.out _ _ (fun _ => SW.out _ _ _ _ _ _ HN.out) (fun hHeld0 => ?_)
      clear hK K hHeld0 hHeld
      try simp only [Act.put, List.setIfInBounds_toArray, List.set_cons_zero, List.set_cons_succ]
      refine HeldL.one (k := 11) (by kernel_rfl) (by rw [List.getElem?_toArray]; rfl) (fun K hK => ?_)
      have NCC := (cell_of_row _ _ 0 _ 3 _ NC.out).trans (show _ = some (Value.int .i64 xw) from rfl)
      refine step_app2 (by rfl) _ _ (by rfl) (by rfl) (pk + 1) _ _ xw Y.heap.size (by rfl) (by rfl) (by rw [LW.out]; omega) HN.out.ow (by have := HN.out.le.2.2; omega) NCC ?_
      intro v' X' ho9 t9 n9
      obtain ⟨ua', uc', e9⟩ := ho9.form
      rw [List.length_append, LW.out, show [xw].length = 1 from rfl] at e9
      subst e9
      replace HN := Lib.hid (HN.out.appW ho9 t9 n9)
      clear NC NCC YS t9 ho9 n9
      refine hK.out _ _ (fun _ => SW.out _ _ _ _ _ _ HN.out) (fun hHeld => ?_)
      clear hK K
      try simp only [Act.put, List.setIfInBounds_toArray, List.set_cons_zero, List.set_cons_succ]
      refine HeldL.one (k := 12) (by kernel_rfl) (by rw [List.getElem?_toArray]; rfl) (fun K hK => ?_)
      go_simp
      refine hK.out _ _ (fun _ => SW.out _ _ _ _ _ _ HN.out) (fun hHeld0 => ?_)
      clear hK K hHeld0
      try simp only [Act.put, List.setIfInBounds_toArray, List.set_cons_zero, List.set_cons_succ]
      refine HeldL.take (k := 13) (v := ?vW13) (by rw [List.getElem?_toArray]; rfl) (by kernel_rfl) (by kernel_rfl) (by kernel_rfl) (by kernel_rfl) ?qW13 (Or.inl ⟨by rfl, ?yW13⟩) (SW.out _ _ _ _ _ _ HN.out) ?rW13
      case qW13 => exact fun _ _ _ h => h
      case yW13 => (intro wz hSw; obtain ⟨f1, f2, f3⟩ := hSw; go_simp; try (with_reducible rfl))
      try simp only [Act.put, List.setIfInBounds_toArray, List.set_cons_zero, List.set_cons_succ]
      refine HeldL.one (k := 14) (by kernel_rfl) (by rw [List.getElem?_toArray]; rfl) (fun K hK => ?_)
      obtain ⟨cf0, cf1⟩ := HN.out.stW
      go_simp
      refine hK.out _ _ (fun h => absurd rfl h) (fun _ => ?_)
      clear hK K cf0 cf1 hHeld
      refine HeldL.over (by kernel_rfl) ?_ _
      replace HN := Lib.hid (HN.out.setW (.slice ua' (k + 1) uc'))
      generalize (X'.setCell ⟨pk, 2, none⟩ (.slice ua' (k + 1) uc')) = Z at *
      clear SW LW
      go_upto_region 12 with fail
      replace HN := Lib.hid (HN.out.up (bl_drew _))
      refine HeldL.begin (fun W => W.cell? ⟨pk, 3, none⟩ = some (.slice ya k yc) ∧ W.cell? ⟨pi, 4, none⟩ = some (.slice (some ⟨vg, vo, none⟩) n vc) ∧ W.cell? ⟨vg, vo + t, none⟩ = some (.int .i64 xv)) 14 (by kernel_rfl) (SV.out _ _ _ _ _ _ HN.out) (fun hHeld => ?_)
      generalize World.drew _ = Y at *
      refine HeldL.take (k := 0) (v := ?vV0) (by rw [List.getElem?_toArray]; rfl) (by kernel_rfl) (by kernel_rfl) (by kernel_rfl) (by kernel_rfl) ?qV0 (Or.inl ⟨by rfl, ?yV0⟩) hHeld ?rV0
      case qV0 => exact fun _ _ _ h => h
      case yV0 => (intro wz hSw; obtain ⟨f1, f2, f3⟩ := hSw; go_simp; try (with_reducible rfl))
      try simp only [Act.put, List.setIfInBounds_toArray, List.set_cons_zero, List.set_cons_succ]
      refine HeldL.take (k := 1) (v := ?vV1) (by rw [List.getElem?_toArray]; rfl) (by kernel_rfl) (by kernel_rfl) (by kernel_rfl) (by kernel_rfl) ?qV1 (Or.inl ⟨by rfl, ?yV1⟩) hHeld ?rV1
      case qV1 => exact fun _ _ _ h => h
      case yV1 => (intro wz hSw; obtain ⟨f1, f2, f3⟩ := hSw; go_simp; try (with_reducible rfl))
      try simp only [Act.put, List.setIfInBounds_toArray, List.set_cons_zero, List.set_cons_succ]
      refine HeldL.take (k := 2) (v := ?vV2) (by rw [List.getElem?_toArray]; rfl) (by kernel_rfl) (by kernel_rfl) (by kernel_rfl) (by kernel_rfl) ?qV2 (Or.inl ⟨by rfl, ?yV2⟩) hHeld ?rV2
      case qV2 => exact fun _ _ _ h => h
      case yV2 => (intro wz hSw; obtain ⟨f1, f2, f3⟩ := hSw; go_simp; try (with_reducible rfl))
      try simp only [Act.put, List.setIfInBounds_toArray, List.set_cons_zero, List.set_cons_succ]
      refine HeldL.take (k := 3) (v := ?vV3) (by rw [List.getElem?_toArray]; rfl) (by kernel_rfl) (by kernel_rfl) (by kernel_rfl) (by kernel_rfl) ?qV3 (Or.inl ⟨by rfl, ?yV3⟩) hHeld ?rV3
      case qV3 => exact fun _ _ _ h => h
      case yV3 => (intro wz hSw; obtain ⟨f1, f2, f3⟩ := hSw; go_simp; try (with_reducible rfl))
      try simp only [Act.put, List.setIfInBounds_toArray, List.set_cons_zero, List.set_cons_succ]
      refine HeldL.take (k := 4) (v := ?vV4) (by rw [List.getElem?_toArray]; rfl) (by kernel_rfl) (by kernel_rfl) (by kernel_rfl) (by kernel_rfl) ?qV4 (Or.inl ⟨by rfl, ?yV4⟩) hHeld ?rV4
      case qV4 => exact fun _ _ _ h => h
      case yV4 => (intro wz hSw; obtain ⟨f1, f2, f3⟩ := hSw; go_simp; try (with_reducible rfl))
      try simp only [Act.put, List.setIfInBounds_toArray, List.set_cons_zero, List.set_cons_succ]
      refine HeldL.take (k := 5) (v := ?vV5) (by rw [List.getElem?_toArray]; rfl) (by kernel_rfl) (by kernel_rfl) (by kernel_rfl) (by kernel_rfl) ?qV5 (Or.inl ⟨by rfl, ?yV5⟩) hHeld ?rV5
      case qV5 => exact fun _ _ _ h => h
      case yV5 => (intro wz hSw; obtain ⟨f1, f2, f3⟩ := hSw; go_simp; try (with_reducible rfl))
      try simp only [Act.put, List.setIfInBounds_toArray, List.set_cons_zero, List.set_cons_succ]
      refine HeldL.take (k := 6) (v := ?vV6) (by rw [List.getElem?_toArray]; rfl) (by kernel_rfl) (by kernel_rfl) (by kernel_rfl) (by kernel_rfl) ?qV6 (Or.inl ⟨by rfl, ?yV6⟩) hHeld ?rV6
      case qV6 => exact fun _ _ _ h => h
      case yV6 => (intro wz hSw; obtain ⟨f1, f2, f3⟩ := hSw; go_simp; try (with_reducible rfl))
      try simp only [Act.put, List.setIfInBounds_toArray, List.set_cons_zero, List.set_cons_succ]
      refine HeldL.take (k := 7) (v := ?vV7) (by rw [List.getElem?_toArray]; rfl) (by kernel_rfl) (by kernel_rfl) (by kernel_rfl) (by kernel_rfl) ?qV7 (Or.inl ⟨by rfl, ?yV7⟩) hHeld ?rV7
      case qV7 => exact fun _ _ _ h => h
      case yV7 => (intro wz hSw; obtain ⟨f1, f2, f3⟩ := hSw; go_simp; try (with_reducible rfl))
      try simp only [Act.put, List.setIfInBounds_toArray, List.set_cons_zero, List.set_cons_succ]
      refine HeldL.take (k := 8) (v := ?vV8) (by rw [List.getElem?_toArray]; rfl) (by kernel_rfl) (by kernel_rfl) (by kernel_rfl) (by kernel_rfl) ?qV8 (Or.inl ⟨by rfl, ?yV8⟩) hHeld ?rV8
      case qV8 => exact fun _ _ _ h => h
      case yV8 => (intro wz hSw; obtain ⟨f1, f2, f3⟩ := hSw; go_simp; try (with_reducible rfl))
      try simp only [Act.put, List.setIfInBounds_toArray, List.set_cons_zero, List.set_cons_succ]
      refine HeldL.take (k := 9) (v := ?vV9) (by rw [List.getElem?_toArray]; rfl) (by kernel_rfl) (by kernel_rfl) (by kernel_rfl) (by kernel_rfl) ?qV9 (Or.inl ⟨by rfl, ?yV9⟩) hHeld ?rV9
      case qV9 => exact fun _ _ _ h => h
      case yV9 => (intro wz hSw; obtain ⟨f1, f2, f3⟩ := hSw; go_simp; try (with_reducible rfl))
      try simp only [Act.put, List.setIfInBounds_toArray, List.set_cons_zero, List.set_cons_succ]
      refine HeldL.one (k := 10) (by kernel_rfl) (by rw [List.getElem?_toArray]; rfl) (fun K hK => ?_)
      go_simp
      have NC := Lib.hid (heap_alloc_new Y (.cells #[.int .i64 xv] 3))
      have YS := Lib.hid (show Y.heap.size = (Y.alloc (.cells #[.int .i64 xv] 3)).heap.size - 1 by simp)
      replace HN := Lib.hid (HN.out.up (bl_al (Below.refl _ Y) (.cells #[.int .i64 xv] 3)))
      refine hK.out _ _ (fun _ => SV.out _ _ _ _ _ _ HN.out) (fun hHeld0 => ?_)
      clear hK K hHeld0 hHeld
      try simp only [Act.put, List.setIfInBounds_toArray, List.set_cons_zero, List.set_cons_succ]
      refine HeldL.one (k := 11) (by kernel_rfl) (by rw [List.getElem?_toArray]; rfl) (fun K hK => ?_)
      have NCC := (cell_of_row _ _ 0 _ 3 _ NC.out).trans (show _ = some (Value.int .i64 xv) from rfl)
      refine step_app2 (by rfl) _ _ (by rfl) (by rfl) (pk + 1) _ _ xv Y.heap.size (by rfl) (by rfl) (by rw [LV.out]; omega) HN.out.ov (by have := HN.out.le.2.2; omega) NCC ?_
      intro v' X' ho9 t9 n9
      obtain ⟨ya', yc', e9⟩ := ho9.form
      rw [List.length_append, LV.out, show [xv].length = 1 from rfl] at e9
      subst e9
      replace HN := Lib.hid (HN.out.appV ho9 t9 n9)
      clear NC NCC YS t9 ho9 n9
      refine hK.out _ _ (fun _ => SV.out _ _ _ _ _ _ HN.out) (fun hHeld => ?_)
      clear hK K
      try simp only [Act.put, List.setIfInBounds_toArray, List.set_cons_zero, List.set_cons_succ]
      refine HeldL.one (k := 12) (by kernel_rfl) (by rw [List.getElem?_toArray]; rfl) (fun K hK => ?_)
      go_simp
      refine hK.out _ _ (fun _ => SV.out _ _ _ _ _ _ HN.out) (fun hHeld0 => ?_)
      clear hK K hHeld0
      try simp only [Act.put, List.setIfInBounds_toArray, List.set_cons_zero, List.set_cons_succ]
      refine HeldL.take (k := 13) (v := ?vV13) (by rw [List.getElem?_toArray]; rfl) (by kernel_rfl) (by kernel_rfl) (by kernel_rfl) (by kernel_rfl) ?qV13 (Or.inl ⟨by rfl, ?yV13⟩) (SV.out _ _ _ _ _ _ HN.out) ?rV13
      case qV13 => exact fun _ _ _ h => h
      case yV13 => (intro wz hSw; obtain ⟨f1, f2, f3⟩ := hSw; go_simp; try (with_reducible rfl))
      try simp only [Act.put, List.setIfInBounds_toArray, List.set_cons_zero, List.set_cons_succ]
      refine HeldL.one (k := 14) (by kernel_rfl) (by rw [List.getElem?_toArray]; rfl) (fun K hK => ?_)
      obtain ⟨cf0, cf1⟩ := HN.out.stV
      go_simp
      refine hK.out _ _ (fun h => absurd rfl h) (fun _ => ?_)
      clear hK K cf0 cf1 hHeld
      refine HeldL.over (by kernel_rfl) ?_ _
      replace HN := Lib.hid (HN.out.setV (.slice ya' (k + 1) yc'))
      generalize (X'.setCell ⟨pk, 3, none⟩ (.slice ya' (k + 1) yc')) = Z at *
      go_wp2
      go_roundw
      case rel => exact ⟨k + 1, _, _, _, _, by go_num, by omega, Lib.hid (by rw [EW.out, EV.out]; exact HN.out)⟩
      case measure => simp [intOf]; omega
    · obtain rfl : k = n := by omega
      have i1 : ¬ (k : Int) < (k : Int) := by omega
      have TT : T.take k = T := List.take_of_length_le (by have := TLH.out; omega)
      rw [TT] at HN
      have U := Lib.hid (show Kn pk C T (pick wl T) (pick vl T) wr from ⟨_, _, _, HN.out.kb, HN.out.ot.ls, HN.out.ow.ls, HN.out.ov.ls⟩)
      have UB := Lib.hid HN.out.bl
      clear TT HN
      go_wp2
      go_ret2
      exact ⟨pk, T, rfl, U.out, OD.out, UB.out⟩
end Go.Proofs.Yteoionlnnjcggaa.kn
