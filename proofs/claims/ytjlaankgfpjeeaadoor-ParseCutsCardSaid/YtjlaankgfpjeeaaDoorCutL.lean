/-
  The walk of kurganlaw06.ParseCuts.
-/
import Derived.Test.YtjlaankgfpjeeaaDoorTxF
import Derived.Test.YtjlaankgfpjeeaaDoorInCopy
import Derived.Test.YtjlaankgfpjeeaaDoorGf
import Derived.Deep.Cut
namespace Go.Proofs.YtjlaankgfpjeeaaDoor
open Go.RowKit
open ip (wtx chk chk_zero Tab WPost Src RSrc Ints Rws IntsO RwsO)
set_option linter.unusedVariables false
/-- where the text ends, behind so many cuts -/
theorem Fm.cutsAll {K : Int} {n : Nat} {C : Int} {wl vl : List Int} {cl : List (List Int)} (h : Fm K n C wl vl cl) {m : Nat} (hm : m < n) : ∃ bnd : Nat → Nat, bnd 0 + 1 = (wtx K n C wl vl cl).length ∧ (∀ c, c ≤ m → CutP (wtx K n C wl vl cl) (bnd (c + 1) + 1) (bnd c)) ∧
    PXX ⟨((wtx K n C wl vl cl).take (bnd (m + 1))).toArray⟩ = .bad (bnd (m + 1)) 6 := by
  obtain ⟨l1, l2, l3⟩ := h.lasts
  have e := h.text
  refine ⟨fun c => pos (pcs K n C wl vl cl) ((pcs K n C wl vl cl).length - c) - 1, ?_, fun c hc => ?_, ?_⟩
  · show pos (pcs K n C wl vl cl) ((pcs K n C wl vl cl).length - 0) - 1 + 1 = _
    rw [← e, Nat.sub_zero]
    have : pos (pcs K n C wl vl cl) (pcs K n C wl vl cl).length = (txt (pcs K n C wl vl cl)).length := by unfold pos; rw [List.take_length]
    have q := h.cut1 (j := (pcs K n C wl vl cl).length - 1) (by omega) (by omega)
    rw [show (pcs K n C wl vl cl).length - 1 + 1 = (pcs K n C wl vl cl).length by omega] at q
    have := q.a2
    have := q.ab
    omega
  · have q := h.cut1 (j := (pcs K n C wl vl cl).length - (c + 1)) (by omega) (by omega)
    have := q.a2
    show CutP _ (pos _ ((pcs K n C wl vl cl).length - (c + 1)) - 1 + 1) (pos _ ((pcs K n C wl vl cl).length - c) - 1)
    rw [show pos (pcs K n C wl vl cl) ((pcs K n C wl vl cl).length - (c + 1)) - 1 + 1 = pos (pcs K n C wl vl cl) ((pcs K n C wl vl cl).length - (c + 1)) by omega]
    rw [show (pcs K n C wl vl cl).length - (c + 1) + 1 = (pcs K n C wl vl cl).length - c by omega] at q
    exact q
  · exact h.short (by omega) (by omega)
set_option maxRecDepth 100000 in
set_option maxHeartbeats 2000000 in
theorem cuts_bad (kd N C : Int) (wl vl : List Int) (cl : List (List Int)) (wa va ca : Option Addr) (wn vn cn wc vc cc : Nat) (cut : Int) (w : World) (ht : Tab w) (h1 : Src w wa wn wc wl) (h2 : Src w va vn vc vl) (h3 : RSrc w ca cn cc cl) (t : ByteArray) (er : Int) (hW : ∀ (wa va ca : Option Addr) (wc vc cc : Nat) (w : World), Tab w → Ints w wa wl → Ints w va vl → Rws w ca cl → Calls Tryd.prog 9 #[.agg #[.int .i64 kd, .int .i64 N, .int .i64 C, .slice wa wl.length wc, .slice va vl.length vc, .slice ca cl.length cc]] w (WPost t er w)) (he : er ≠ 0) :
    Calls Tryd.prog 4 #[.agg #[.int .i64 kd, .int .i64 N, .int .i64 C, .slice wa wn wc, .slice va vn vc, .slice ca cn cc], .int .i64 cut] w fun e w' => e = .returned (.bool true) ∧ Below w.heap.size w w' := by
  have dE : (er != 0) = true := by simpa using he
  have bA : Below w.heap.size w (w.alloc (.cells #[.int .i64 kd, .int .i64 N, .int .i64 C, .slice wa wn wc, .slice va vn vc, .slice ca cn cc] 25)) := bl_al (Below.refl _ _) _
  have HC := Lib.hid (ip.refcopy_any kd N C wl vl cl wa va ca wn vn cn wc vc cc _ (h1.keep bA) (h2.keep bA) (h3.keep bA))
  have HT := Lib.hid (tab_st ht bA)
  have HB := Lib.hid bA
  have hp := ip.tab_pos ht
  have l1 := src_len h1
  have l2 := src_len h2
  have l3 := rsrc_len h3
  have HP10 := Lib.hid parses_any
  have W9 := Lib.hid hW
  clear h1 h2 h3 bA ht hW
  go_enter Tryd.func4, Tryd.ntmps4
  go_wp2_with fail
  refine HC.out.mono ?_; rintro e w1 ⟨g1, k1, g2, k2, ca', cc', rfl, hb, i1, i2, rw, -⟩
  have q0 : w1.heap[w.heap.size]? = some (.cells #[.int .i64 kd, .int .i64 N, .int .i64 C, .slice wa wn wc, .slice va vn vc, .slice ca cn cc] 25 (0, 0)) := (hb.block _ (by simp)).trans (heap_alloc_new w _)
  have Q := Lib.hid q0
  have SB := Lib.hid (store_bx (k1 := k1) (k2 := k2) (cc := cc') (K := kd) (N := N) (C := C) (Nat.le_refl _) q0 (bl_tr HB.out hb) i1 i2 rw _ rfl)
  have TX := Lib.hid (tab_st HT.out (bl_tr (Below.refl _ _) hb))
  have TY := Lib.hid (ip.tab_b TX.out (ip.six_below (Below.refl w.heap.size w1) (Nat.le_refl _) (.int .i64 kd) (.int .i64 N) (.int .i64 C) (.slice (some ⟨g1, 0, none⟩) wl.length k1) (.slice (some ⟨g2, 0, none⟩) vl.length k2) (.slice ca' cl.length cc')) hp)
  clear hb i1 i2 rw q0 HC HT HB TX
  obtain ⟨c0, c1, c2, c3, c4, c5⟩ := ip.box6 Q.out
  have cf := ip.fr6 Q.out
  have hs := lt_blk Q.out
  go_upto_region 2 with fail
  clear c0 c1 c2 c3 c4 c5 cf
  generalize ((((((w1.setCell ⟨w.heap.size, 0, none⟩ (.int .i64 kd)).setCell ⟨w.heap.size, 1, none⟩ (.int .i64 N)).setCell ⟨w.heap.size, 2, none⟩ (.int .i64 C)).setCell ⟨w.heap.size, 3, none⟩ (.slice (some ⟨g1, 0, none⟩) wl.length k1)).setCell ⟨w.heap.size, 4, none⟩ (.slice (some ⟨g2, 0, none⟩) vl.length k2)).setCell ⟨w.heap.size, 5, none⟩ (.slice ca' cl.length cc')) = X at SB TY ⊢
  have BX := Lib.hid SB.out.1
  have XB := Lib.hid SB.out.2
  clear SB Q hs hp
  obtain ⟨c0, c1, c2, c3, c4, c5⟩ := ip.box6 BX.out.box
  go_wp2_with fail
  refine (W9.out _ _ _ _ _ _ _ TY.out BX.out.i1 BX.out.i2 BX.out.i3).mono ?_; rintro e w2 ⟨rfl, hb2⟩
  have B2 := Lib.hid (XB.out.trans (hb2.mono XB.out.size))
  have T2 := Lib.hid (tab_st TY.out hb2)
  have X2 := Lib.hid (BX.out.keep hb2)
  clear hb2 BX XB TY W9 c0 c1 c2 c3 c4 c5
  go_wp2_with fail
  refine (HP10.out _).mono ?_; rintro e w3 ⟨rfl, hb3⟩
  have B3 := Lib.hid (B2.out.trans (hb3.mono B2.out.size))
  have T3 := Lib.hid (tab_st T2.out hb3)
  have X3 := Lib.hid (X2.out.keep hb3)
  clear hb3 B2 T2 X2
  go_wp2_with fail
  refine (HP10.out _).mono ?_; rintro e w4 ⟨rfl, hb4⟩
  have B4 := Lib.hid (B3.out.trans (hb4.mono B3.out.size))
  clear hb4 B3 T3 X3
  go_wp2
  go_ret
  exact ⟨rfl, B4.out⟩
set_option maxRecDepth 100000 in
set_option maxHeartbeats 4000000 in
theorem cuts_ok (kd C : Int) (n : Nat) (wl vl : List Int) (cl : List (List Int)) (wa va ca : Option Addr) (wn vn cn wc vc cc : Nat) (cut : Int) (w : World) (ht : Tab w) (h1 : Src w wa wn wc wl) (h2 : Src w va vn vc vl) (h3 : RSrc w ca cn cc cl) (hF : Fm kd n C wl vl cl) :
    Calls Tryd.prog 4 #[.agg #[.int .i64 kd, .int .i64 n, .int .i64 C, .slice wa wn wc, .slice va vn vc, .slice ca cn cc], .int .i64 cut] w fun e w' => e = .returned (.bool true) ∧ Below w.heap.size w w' := by
  have hW := fun wa va ca wc vc cc w ht i1 i2 i3 => write_fm hF wa va ca wc vc cc w ht i1 i2 i3
  have hl := wtx_len hF
  have n1 := hF.n1
  obtain ⟨m, hm, hcut⟩ := gmd cut n (by omega)
  obtain ⟨bnd, hb0, HCq, HSq⟩ := hF.cutsAll hm
  obtain ⟨t, htq⟩ : ∃ t, t = wtx kd n C wl vl cl := ⟨_, rfl⟩
  obtain ⟨tx, htx⟩ : ∃ tx : ByteArray, tx = ⟨t.toArray⟩ := ⟨_, rfl⟩
  have tsz : tx.size = t.length := by rw [htx, mk_size]
  have e5 : tx ++ (⟨#[53]⟩ : ByteArray) = ⟨(wtx kd n C wl vl cl ++ [53]).toArray⟩ := by
    apply ByteArray.ext
    rw [ByteArray.data_append, htx, htq]; simp
  have HP5 := Lib.hid (fun W => parse_any (tx ++ ⟨#[53]⟩) W)
  rw [e5, hF.tail, ← e5, ← htq, ← tsz] at HP5
  rw [← htq] at hb0 HCq HSq hl hW
  rw [← htx] at hW
  have n64 : n ≤ 64 := by by_cases c : kd = 1; exact (hF.ks c).1; have := (hF.rs c).1; omega
  have e6 : tx.extract 0 (bnd (m + 1)) = ⟨(t.take (bnd (m + 1))).toArray⟩ := by
    rw [htx]; apply ByteArray.ext; simp
  rw [← e6] at HSq
  have HP6 := Lib.hid (fun W => parse_any (tx.extract 0 (bnd (m + 1))) W)
  rw [HSq] at HP6
  have HCQ := Lib.hid HCq
  have hN1 : IntKind.u64.wrap (n : Int) = n := by rw [IntKind.wrap_u64]; omega
  have hM1 : IntKind.i64.wrap (m : Int) = m := IntWalk.i64_in _ (by omega)
  have hb1 : bnd 0 + 1 = tx.size := by omega
  have HB0 : IntKind.i64.wrap ((tx.size : Int) - 1) = bnd 0 := by rw [IntWalk.i64_in _ (by omega)]; omega
  have hz5 : tx.size + 1 ≤ 20001 := by omega
  have HTX := Lib.hid htx
  have HTL := Lib.hid tsz
  clear hF htq htx tsz e5 e6 HSq HCq hb0 hl
  have bA : Below w.heap.size w (w.alloc (.cells #[.int .i64 kd, .int .i64 n, .int .i64 C, .slice wa wn wc, .slice va vn vc, .slice ca cn cc] 25)) := bl_al (Below.refl _ _) _
  have HC := Lib.hid (ip.refcopy_any kd n C wl vl cl wa va ca wn vn cn wc vc cc _ (h1.keep bA) (h2.keep bA) (h3.keep bA))
  have HT := Lib.hid (tab_st ht bA)
  have HB := Lib.hid bA
  have hp := ip.tab_pos ht
  have l1 := src_len h1
  have l2 := src_len h2
  have l3 := rsrc_len h3
  have HP10 := Lib.hid parses_any
  have W9 := Lib.hid hW
  clear h1 h2 h3 bA ht hW
  go_enter Tryd.func4, Tryd.ntmps4
  go_wp2_with fail
  refine HC.out.mono ?_; rintro e w1 ⟨g1, k1, g2, k2, ca', cc', rfl, hb, i1, i2, rw, -⟩
  have q0 : w1.heap[w.heap.size]? = some (.cells #[.int .i64 kd, .int .i64 n, .int .i64 C, .slice wa wn wc, .slice va vn vc, .slice ca cn cc] 25 (0, 0)) := (hb.block _ (by simp)).trans (heap_alloc_new w _)
  have Q := Lib.hid q0
  have SB := Lib.hid (store_bx (k1 := k1) (k2 := k2) (cc := cc') (K := kd) (N := n) (C := C) (Nat.le_refl _) q0 (bl_tr HB.out hb) i1 i2 rw _ rfl)
  have TX := Lib.hid (tab_st HT.out (bl_tr (Below.refl _ _) hb))
  have TY := Lib.hid (ip.tab_b TX.out (ip.six_below (Below.refl w.heap.size w1) (Nat.le_refl _) (.int .i64 kd) (.int .i64 n) (.int .i64 C) (.slice (some ⟨g1, 0, none⟩) wl.length k1) (.slice (some ⟨g2, 0, none⟩) vl.length k2) (.slice ca' cl.length cc')) hp)
  clear hb i1 i2 rw q0 HC HT HB TX
  obtain ⟨c0, c1, c2, c3, c4, c5⟩ := ip.box6 Q.out
  have cf := ip.fr6 Q.out
  have hs := lt_blk Q.out
  go_upto_region 2 with fail
  clear c0 c1 c2 c3 c4 c5 cf
  generalize ((((((w1.setCell ⟨w.heap.size, 0, none⟩ (.int .i64 kd)).setCell ⟨w.heap.size, 1, none⟩ (.int .i64 n)).setCell ⟨w.heap.size, 2, none⟩ (.int .i64 C)).setCell ⟨w.heap.size, 3, none⟩ (.slice (some ⟨g1, 0, none⟩) wl.length k1)).setCell ⟨w.heap.size, 4, none⟩ (.slice (some ⟨g2, 0, none⟩) vl.length k2)).setCell ⟨w.heap.size, 5, none⟩ (.slice ca' cl.length cc')) = X at SB TY ⊢
  have BX := Lib.hid SB.out.1
  have XB := Lib.hid SB.out.2
  clear SB Q hs hp
  obtain ⟨c0, c1, c2, c3, c4, c5⟩ := ip.box6 BX.out.box
  go_wp2_with fail
  refine (W9.out _ _ _ _ _ _ _ TY.out BX.out.i1 BX.out.i2 BX.out.i3).mono ?_; rintro e w2 ⟨rfl, hb2⟩
  have B2 := Lib.hid (XB.out.trans (hb2.mono XB.out.size))
  have T2 := Lib.hid (tab_st TY.out hb2)
  have X2 := Lib.hid (BX.out.keep hb2)
  clear hb2 BX XB TY W9 c0 c1 c2 c3 c4 c5
  go_wp2_with fail
  refine (HP10.out _).mono ?_; rintro e w3 ⟨rfl, hb3⟩
  have B3 := Lib.hid (B2.out.trans (hb3.mono B2.out.size))
  have T3 := Lib.hid (tab_st T2.out hb3)
  have X3 := Lib.hid (X2.out.keep hb3)
  clear hb3 B2 T2 X2
  have hcat : ¬ 9223372036854775807 < tx.size + 1 := by omega
  go_wp2_with fail
  refine (HP5.out _).mono ?_; rintro e w4 ⟨rfl, hb4⟩
  have bz : Below w4.heap.size w4 (w4.alloc (.cells #[.int .i64 0, .int .i64 0, .int .i64 0, .slice none 0 0, .slice none 0 0, .slice none 0 0] 25)) := bl_al (Below.refl _ _) _
  have B4 := Lib.hid ((B3.out.trans (hb4.mono B3.out.size)).trans (bz.mono (Nat.le_trans B3.out.size hb4.size)))
  have X4 := Lib.hid ((X3.out.keep hb4).keep bz)
  clear hb4 B3 T3 X3 HP5 hcat bz
  go_upto_region 8 with fail
  generalize w4.alloc (.cells #[.int .i64 0, .int .i64 0, .int .i64 0, .slice none 0 0, .slice none 0 0, .slice none 0 0] 25) = Y at B4 X4 ⊢
  obtain ⟨y0, y1, y2, y3, y4, y5⟩ := ip.box6 X4.out.box
  have hn0 : ((n : Int) == 0) = false := by simp; omega
  go_upto_region 10 with fail
  clear y0 y1 y2 y3 y4 y5 hn0 X4 hcut hN1 hM1 HB0
  go_loopw [10, 11] (fun ev nv wr => ∃ c : Nat, c ≤ m + 1 ∧ ev = .int .i64 (bnd c) ∧ nv = .int .i64 ((m : Int) - (c : Int)) ∧ Hid (Below w.heap.size w wr)) (fun _ nv _ => ((intOf nv) + 1).toNat)
  case atStart => exact ⟨0, by omega, rfl, by simp, B4⟩
  case round =>
    clear B4
    obtain ⟨c, hc, rfl, rfl, HB⟩ := hrel
    by_cases hlt : c ≤ m
    · have HC := Lib.hid (HCQ.out c hlt)
      obtain ⟨x, hx⟩ : ∃ x, x = (m : Int) - (c : Int) := ⟨_, rfl⟩
      rw [← hx]
      have d1 : (0 : Int) ≤ x := by omega
      have w11 : IntKind.i64.wrap (x - 1) = x - 1 := IntWalk.i64_in _ (by omega)
      have HX := Lib.hid hx
      have CT := Lib.hid (And.intro hc hlt)
      obtain ⟨a, ha⟩ : ∃ a, a = bnd (c + 1) + 1 := ⟨_, rfl⟩
      obtain ⟨b, hb⟩ : ∃ b, b = bnd c := ⟨_, rfl⟩
      rw [← ha, ← hb] at HC
      rw [← hb]
      have HA := Lib.hid ha
      have a2 := HC.out.a2
      have ab := HC.out.ab
      have bL : b < tx.size := by rw [HTL.out]; exact HC.out.bl
      have TG : Hid (∀ k (hk : k < tx.size), (tx[k]'hk) = t[k]?.getD 0) := Lib.hid fun k hk => by
        have hk2 : k < t.length := by rw [← HTL.out]; exact hk
        have h := HTX.out
        subst h
        rw [List.getElem?_eq_getElem hk2]
        show t.toArray[k]'_ = t[k]
        simp
      clear hx hc hlt ha hb
      go_wp2
      go_loopw [10] (fun ev wr2 => ∃ e : Nat, a ≤ e ∧ e ≤ b ∧ ev = .int .i64 (e : Int) ∧ Hid (Below w.heap.size w wr2)) (fun ev _ => (intOf ev).toNat)
      case atStart => exact ⟨b, by omega, by omega, rfl, HB⟩
      case round =>
        clear HB
        obtain ⟨e, ea, eb, rfl, HB2⟩ := hrel
        obtain ⟨y, hy⟩ : ∃ y, y = (e : Int) := ⟨_, rfl⟩
        rw [← hy]
        obtain ⟨k, hk⟩ : ∃ k, e = k + 1 := ⟨e - 1, by omega⟩
        have kL : k < tx.size := by omega
        have p1 : (0 : Int) < y := by omega
        have w1 : IntKind.i64.wrap (y - 1) = (k : Int) := by rw [IntWalk.i64_in _ (by omega)]; omega
        have g := TG.out k kL
        by_cases ce : a < e
        · have q := HC.out.dg k (by omega) (by omega)
          rw [← g] at q
          have q48 : (48 : Int) ≤ ((tx[k]'kL).toNat : Int) := by omega
          have q57 : ((tx[k]'kL).toNat : Int) ≤ 57 := by omega
          have HE := Lib.hid (And.intro ce hk)
          have HY := Lib.hid hy
          clear q g ce hk hy
          go_wp2
          go_roundw
          case rel => exact ⟨k, by have := HE.out; omega, by have := HE.out; omega, rfl, HB2⟩
          case measure => have := HE.out; have := HY.out; simp [intOf]; omega
        · have hea : e = a := by omega
          have q := HC.out.sp
          rw [show a - 1 = k by omega, ← g] at q
          have q48 : ¬ (48 : Int) ≤ ((tx[k]'kL).toNat : Int) := by rcases q with q | q <;> (rw [q]; decide)
          have HQ := Lib.hid q
          have HE := Lib.hid (And.intro hea (And.intro hk hy))
          clear q g ce hk hy
          go_wp2
          go_loopw [10] (fun ev wr3 => ∃ f : Nat, (f = a ∨ f + 1 = a) ∧ ev = .int .i64 (f : Int) ∧ Hid (Below w.heap.size w wr3)) (fun ev _ => (intOf ev).toNat)
          case atStart => exact ⟨a, .inl rfl, by rw [HE.out.2.2, HE.out.1], HB2⟩
          case round =>
            clear HB2
            obtain ⟨f, hf, rfl, HB3⟩ := hrel
            clear p1 w1 q48
            obtain ⟨z, hz⟩ : ∃ z, z = (f : Int) := ⟨_, rfl⟩
            rw [← hz]
            by_cases hfa : f = a
            · have p1 : (0 : Int) < z := by have := HE.out; omega
              have w1 : IntKind.i64.wrap (z - 1) = (k : Int) := by have := HE.out; rw [IntWalk.i64_in _ (by omega)]; omega
              have HZ := Lib.hid (And.intro hz hfa)
              have q := HQ.out
              clear hz hfa hf
              by_cases q1 : (tx[k]'kL) = 32
              · have v1 : (((tx[k]'kL).toNat : Int) == 32) = true := by rw [q1]; decide
                clear q q1
                go_wp2
                go_roundw
                case rel => exact ⟨k, .inr (by have := HE.out; omega), rfl, HB3⟩
                case measure => have := HE.out; have := HZ.out; simp [intOf]; omega
              · have q2 : (tx[k]'kL) = 10 := by
                  rcases q with q | q
                  · exact absurd q q1
                  · exact q
                have v1 : (((tx[k]'kL).toNat : Int) == 32) = false := by rw [q2]; decide
                have v2 : (((tx[k]'kL).toNat : Int) == 10) = true := by rw [q2]; decide
                clear q q1 q2
                go_wp2
                go_roundw
                case rel => exact ⟨k, .inr (by have := HE.out; omega), rfl, HB3⟩
                case measure => have := HE.out; have := HZ.out; simp [intOf]; omega
            · have hf1 : f + 1 = a := by rcases hf with h | h; exact absurd h hfa; exact h
              obtain ⟨l, hl⟩ : ∃ l, f = l + 1 := ⟨f - 1, by omega⟩
              have lL : l < tx.size := by omega
              have p1 : (0 : Int) < z := by omega
              have w1 : IntKind.i64.wrap (z - 1) = (l : Int) := by rw [IntWalk.i64_in _ (by omega)]; omega
              have g := TG.out l lL
              have q := HC.out.no
              rw [show a - 2 = l by omega, ← g] at q
              have v1 : (((tx[l]'lL).toNat : Int) == 32) = false := by
                simp only [beq_eq_false_iff_ne, ne_eq]; intro c; exact q.1 (UInt8.toNat.inj (by show (tx[l]'lL).toNat = 32; omega))
              have v2 : (((tx[l]'lL).toNat : Int) == 10) = false := by
                simp only [beq_eq_false_iff_ne, ne_eq]; intro c; exact q.2 (UInt8.toNat.inj (by show (tx[l]'lL).toNat = 10; omega))
              have HZ := Lib.hid (And.intro hz hf1)
              clear q g hz hf1 hf hfa hl
              go_wp2
              go_roundw
              case rel => exact ⟨c + 1, by have := CT.out; omega, by have h1 := HZ.out; have h2 := HA.out; rw [h1.1]; congr 2; omega, by rw [HX.out]; congr 1; omega, HB3⟩
              case measure => have := HX.out; have := CT.out; simp [intOf]; omega
    · have hcm : c = m + 1 := by omega
      subst hcm
      obtain ⟨x, hx⟩ : ∃ x, x = (m : Int) - ((m + 1 : Nat) : Int) := ⟨_, rfl⟩
      rw [← hx]
      have d1 : ¬ (0 : Int) ≤ x := by omega
      have hbL : bnd (m + 1) ≤ tx.size := by
        have q := HCQ.out m (Nat.le_refl _)
        have := q.ab; have := q.bl; have := HTL.out
        omega
      have hbI : (bnd (m + 1) : Int) ≤ (tx.size : Int) := by omega
      clear hx hc hlt
      go_wp2_with fail
      refine (HP6.out _).mono ?_; rintro e wz ⟨rfl, hbz⟩
      have BZ := Lib.hid (bl_tr HB.out hbz)
      clear hbz HB HP6
      go_wp2
      go_ret
      exact ⟨rfl, BZ.out⟩
theorem cuts_walk (kd N C : Int) (wl vl : List Int) (cl : List (List Int)) (wa va ca : Option Addr) (wn vn cn wc vc cc : Nat) (cut : Int) (w : World) (ht : Tab w) (h1 : Src w wa wn wc wl) (h2 : Src w va vn vc vl) (h3 : RSrc w ca cn cc cl) :
    Calls Tryd.prog 4 #[.agg #[.int .i64 kd, .int .i64 N, .int .i64 C, .slice wa wn wc, .slice va vn vc, .slice ca cn cc], .int .i64 cut] w fun e w' => e = .returned (.bool true) ∧ Below w.heap.size w w' := by
  have l1 := src_len h1
  have l2 := src_len h2
  have l3 := rsrc_len h3
  obtain ⟨t, er, hW, hc⟩ := write_all kd N C wl vl cl (by omega) (by omega) (by omega)
  rcases hc with he | ⟨rfl, n, rfl, hF, rfl⟩
  · exact cuts_bad kd N C wl vl cl wa va ca wn vn cn wc vc cc cut w ht h1 h2 h3 t er hW he
  · exact cuts_ok kd C n wl vl cl wa va ca wn vn cn wc vc cc cut w ht h1 h2 h3 hF
end Go.Proofs.YtjlaankgfpjeeaaDoor
