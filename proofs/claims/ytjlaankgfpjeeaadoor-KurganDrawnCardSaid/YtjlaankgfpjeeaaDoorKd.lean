/-
  The walk of kurgantop.KurganDrawn.
-/
import Derived.Test.YtjlaankgfpjeeaaDoorTxE
import Derived.Test.YtjlaankgfpjeeaaDoorStA
import Derived.Test.YtjlaankgfpjeeaaDoorInEqs
import Derived.Test.YtjlaankgfpjeeaaDoorGf
import Derived.Laws.IdiomStrings
import Derived.Lib.BufferMore
namespace Go.Proofs.YtjlaankgfpjeeaaDoor
open Go.RowKit
open ip (wtx chk chk_zero Tab WPost Src RSrc Ints Rws IntsO RwsO)
set_option linter.unusedVariables false
/-- bytes in a block -/
def BsB (g : Nat) (l : List UInt8) (w : World) : Prop := ∃ cs lo hi, w.heap[g]? = some (.cells cs 5 (lo, hi)) ∧ l.length ≤ lo ∧ ∀ j, j < l.length → cs[j]? = some (.int .u8 ((l[j]?.getD 0).toNat : Int))
theorem BsB.cell {g : Nat} {l : List UInt8} {w : World} (h : BsB g l w) {j : Nat} (hj : j < l.length) : w.cell? ⟨g, j, none⟩ = some (.int .u8 ((l[j]?.getD 0).toNat : Int)) ∧ w.frozen? ⟨g, j, none⟩ = false := by
  obtain ⟨cs, lo, hi, h1, h2, h3⟩ := h
  refine ⟨?_, ?_⟩
  · simp only [World.cell?, h1]; exact h3 j hj
  · simp only [World.frozen?, h1]; simp; omega
theorem BsB.lt {g : Nat} {l : List UInt8} {w : World} (h : BsB g l w) : g < w.heap.size := by obtain ⟨cs, lo, hi, h1, _⟩ := h; exact lt_blk h1
theorem BsB.set {g : Nat} {l : List UInt8} {w : World} (h : BsB g l w) {j : Nat} (hj : j < l.length) (b : UInt8) : BsB g (l.set j b) (w.setCell ⟨g, j, none⟩ (.int .u8 (b.toNat : Int))) := by
  obtain ⟨cs, lo, hi, h1, h2, h3⟩ := h
  have hz : j < cs.size := by have := (Array.getElem?_eq_some_iff.1 (h3 j hj)).1; exact this
  refine ⟨_, lo, hi, Lib.heap_setCell_same h1 _, by simpa using h2, fun k hk => ?_⟩
  have hk' : k < l.length := by simpa using hk
  by_cases e : k = j
  · subst e
    rw [Array.getElem?_setIfInBounds_self_of_lt hz, List.getElem?_set_self hk']; rfl
  · rw [Array.getElem?_setIfInBounds_ne (fun c => e c.symm), List.getElem?_set_ne (fun c => e c.symm)]; exact h3 k hk'
theorem BsB.new (W : World) (s : ByteArray) (cap : Nat) : BsB W.heap.size s.data.toList (W.alloc (.cells (bytesRow s cap) 5 ((bytesRow s cap).size, (bytesRow s cap).size + 1))).drew := by
  refine ⟨_, _, _, heap_alloc_new W _, ?_, fun j hj => ?_⟩
  · unfold bytesRow; simp
  · have hj' : j < s.data.size := by simpa using hj
    rw [bytesRow_at s cap j hj', List.getElem?_eq_getElem hj]
    simp
theorem BsB.below {g : Nat} {l : List UInt8} {w : World} (h : BsB g l w) {W : World} (hb : Below W.heap.size W w) (hg : W.heap.size ≤ g) (j : Nat) (v : Value) : Below W.heap.size W (w.setCell ⟨g, j, none⟩ v) := hb.setCell (p := ⟨g, j, none⟩) hg v
theorem mix_step (A : List UInt8) {i : Nat} (h8 : 8 ≤ i) (hi : i < A.length) : (mixb A i).set i (rb i (A[i]?.getD 0)) = mixb A (i + 1) := by
  refine list_getD (by simp [mixb]) fun j hj => ?_
  have hj' : j < A.length := by simpa [mixb] using hj
  rw [mix_get A (i + 1) j hj']
  by_cases e : j = i
  · subst e
    rw [List.getElem?_set_self (by rw [mix_len]; exact hi), if_pos ⟨h8, by omega⟩]; rfl
  · rw [List.getElem?_set_ne (fun c => e c.symm), mix_get A i j hj']
    by_cases c : 8 ≤ j ∧ j < i
    · rw [if_pos c, if_pos ⟨c.1, by omega⟩]
    · rw [if_neg c, if_neg (by omega)]
theorem mix_keep (A : List UInt8) {i : Nat} (hi : i < A.length) (h : rb i (A[i]?.getD 0) = A[i]?.getD 0) : mixb A i = mixb A (i + 1) := by
  refine list_getD (by simp [mixb]) fun j hj => ?_
  have hj' : j < A.length := by simpa [mixb] using hj
  rw [mix_get A i j hj', mix_get A (i + 1) j hj']
  by_cases e : j = i
  · subst e
    rw [if_neg (by omega)]
    split
    · exact h.symm
    · rfl
  · by_cases c : 8 ≤ j ∧ j < i
    · rw [if_pos c, if_pos ⟨c.1, by omega⟩]
    · rw [if_neg c, if_neg (by omega)]
theorem mix_at (A : List UInt8) {i : Nat} (hi : i < A.length) : (mixb A i)[i]?.getD 0 = A[i]?.getD 0 := by rw [mix_get A i i hi, if_neg (by omega)]
theorem conv_back (W : World) (g cap : Nat) (l : List UInt8) (h : BsB g l W) : (convert 47 9 (.slice (some ⟨g, 0, none⟩) l.length cap)).run Tryd.prog W = .ok (.string ⟨l.toArray⟩) W :=
  run_convert_bytes_back (P := Tryd.prog) W 47 9 5 ⟨g, 0, none⟩ cap l Tryd.underlying47 Tryd.underlying5 Tryd.underlying9 (fun j hj => by
    rw [Addr.add_mid, Nat.zero_add, (h.cell hj).1, List.getElem?_eq_getElem hj]; rfl)
set_option maxRecDepth 100000 in
set_option maxHeartbeats 4000000 in
theorem drawn_core (kind num s K C a b : Int) (n : Nat) (wl vl : List Int) (cl : List (List Int)) (hk : (IntKind.u64.wrap kind).tmod 3 = a) (o0 : IntKind.i64.wrap a = a) (o1 : IntKind.i64.wrap (1 + a) = K) (hb : (IntKind.u64.wrap num).tmod 12 = b) (o2 : IntKind.i64.wrap b = b) (o3 : IntKind.i64.wrap (1 + b) = n)
    (hF : Fm K n C wl vl cl) (hM : ∀ W, Calls Tryd.prog 14 #[.int .i64 K, .int .i64 n, .int .i64 1000, .int .u64 s] W (gn.MkP 0 K n C wl vl cl W)) (w : World) (ht : Tab w) :
    Calls Tryd.prog 7 #[.int .i64 kind, .int .i64 num, .int .u64 s] w fun e w' => e = .returned (.bool true) ∧ Below w.heap.size w w' := by
  have HM := Lib.hid hM
  have HT := Lib.hid ht
  obtain ⟨m1, m2, m3⟩ := hF.lens
  have hl := wtx_len hF
  obtain ⟨A, hA⟩ : ∃ A, A = pre8 ++ wtx K n C wl vl cl := ⟨_, rfl⟩
  obtain ⟨L, hL⟩ : ∃ L, L = A.length := ⟨_, rfl⟩
  obtain ⟨tx, htx⟩ : ∃ tx : ByteArray, tx = ⟨(wtx K n C wl vl cl).toArray⟩ := ⟨_, rfl⟩
  obtain ⟨R, hR⟩ : ∃ R : ByteArray, R = ⟨(mixb A L).toArray⟩ := ⟨_, rfl⟩
  have hL2 : L = 8 + (wtx K n C wl vl cl).length := by rw [hL, hA, List.length_append]; rfl
  have hLb : L ≤ 20008 := by omega
  have tsz : tx.size + 8 = L := by rw [htx, mk_size]; omega
  have rsz : R.size = L := by rw [hR, mk_size, mix_len]; exact hL.symm
  have HP := Lib.hid (fun W => parse_any (R ++ ⟨#[35]⟩) W)
  have eR : R ++ (⟨#[35]⟩ : ByteArray) = ⟨(pre8 ++ rbl 8 (wtx K n C wl vl cl) ++ [35]).toArray⟩ := by
    apply ByteArray.ext
    rw [ByteArray.data_append, hR, hL, hA, mix_end]
    simp
  rw [eR, hF.drawn, ← eR] at HP
  have HW := Lib.hid (fun wa va ca wc vc cc W ht i1 i2 i3 => write_fm hF wa va ca wc vc cc W ht i1 i2 i3)
  rw [← htx] at HW
  have HS : Hid (((⟨#[35, 32, 100, 114, 97, 119, 110, 10]⟩ : ByteArray) ++ tx).data.toList = A) := Lib.hid (by rw [ByteArray.data_append, htx, hA]; simp [pre8])
  have HL := Lib.hid hL
  have HR := Lib.hid hR
  have HG := Lib.hid ar.stands_any
  clear hM ht hF hl hA hL htx hR eR hL2
  go_enter Tryd.func7, Tryd.ntmps7
  go_wp2_with fail
  refine (HM.out _).mono ?_
  rintro e w1 ⟨wa, va, ca, wc, vc, cc, rfl, i1, i2, i3, hB1⟩
  have Z := Lib.hid (Bx.new (K := K) (N := n) (C := C) (wc := wc) (vc := vc) (cc := cc) (show Ints w1 wa wl from i1) (show Ints w1 va vl from i2) (show Rws w1 ca cl from i3))
  have BY := Lib.hid (bl_al hB1 (.cells #[.int .i64 K, .int .i64 n, .int .i64 C, .slice wa wl.length wc, .slice va vl.length vc, .slice ca cl.length cc] 25))
  clear hB1 i1 i2 i3 hk o0 o1 hb o2 o3 HM
  go_upto_region 3 with fail
  generalize w1.alloc (.cells #[.int .i64 K, .int .i64 n, .int .i64 C, .slice wa wl.length wc, .slice va vl.length vc, .slice ca cl.length cc] 25) = Y at Z BY ⊢
  generalize w1.heap.size = bx at *
  have T1 := Lib.hid (tab_st HT.out BY.out)
  have HW1 := Lib.hid (HW.out wa va ca wc vc cc Y T1.out Z.out.i1 Z.out.i2 Z.out.i3)
  clear HT HW
  obtain ⟨d0, d1, d2, d3, d4, d5⟩ := ip.box6 Z.out.box
  go_wp2_with fail
  refine HW1.out.mono ?_; rintro e w2 ⟨rfl, hb2⟩
  have Z2 := Lib.hid (Z.out.keep hb2)
  have B2 := Lib.hid (BY.out.trans (hb2.mono BY.out.size))
  clear hb2 Z T1 HW1 BY d0 d1 d2 d3 d4 d5
  have hcat : ¬ 9223372036854775807 < 8 + tx.size := by omega
  have hcv := run_bytes_of_string (P := Tryd.prog) w2 9 47 5 (⟨#[35, 32, 100, 114, 97, 119, 110, 10]⟩ ++ tx) Tryd.underlying9 Tryd.underlying47 Tryd.underlying5
  go_upto_region 5 with fail
  clear hcv hcat
  generalize grownCap w2 (8 + tx.size) 0 5 = cap
  have BS := Lib.hid (BsB.new w2 (⟨#[35, 32, 100, 114, 97, 119, 110, 10]⟩ ++ tx) cap)
  rw [HS.out, ← mix_start A] at BS
  have BW : Hid (Below w2.heap.size w2 (w2.alloc (.cells (bytesRow (⟨#[35, 32, 100, 114, 97, 119, 110, 10]⟩ ++ tx) cap) 5 ((bytesRow (⟨#[35, 32, 100, 114, 97, 119, 110, 10]⟩ ++ tx) cap).size, (bytesRow (⟨#[35, 32, 100, 114, 97, 119, 110, 10]⟩ ++ tx) cap).size + 1))).drew) := Lib.hid (bl_al (Below.refl _ _) _).drew
  have e8 : 8 + tx.size = L := by omega
  rw [e8]
  generalize (w2.alloc (.cells (bytesRow (⟨#[35, 32, 100, 114, 97, 119, 110, 10]⟩ ++ tx) cap) 5 ((bytesRow (⟨#[35, 32, 100, 114, 97, 119, 110, 10]⟩ ++ tx) cap).size, (bytesRow (⟨#[35, 32, 100, 114, 97, 119, 110, 10]⟩ ++ tx) cap).size + 1))).drew = V at BS BW ⊢
  have L8 : 8 ≤ L := by omega
  clear HS tsz e8
  go_wp2
  go_loopw [12] (fun kv wr => ∃ i : Nat, 8 ≤ i ∧ i ≤ L ∧ kv = .int .i64 (i : Int) ∧ Hid (BsB w2.heap.size (mixb A i) wr) ∧ Hid (Below w2.heap.size w2 wr)) (fun kv _ => L - (intOf kv).toNat)
  case atStart => exact ⟨8, by omega, L8, rfl, BS, BW⟩
  case round =>
    clear BS BW
    obtain ⟨i, i8, iL, rfl, HB, HW2⟩ := hrel
    by_cases hlt : i < L
    · have h1 : (i : Int) < (L : Int) := by omega
      have hiA : i < A.length := by rw [← HL.out]; exact hlt
      obtain ⟨c0, f0⟩ := HB.out.cell (j := i) (by rw [mix_len]; exact hiA)
      rw [mix_at A hiA] at c0
      obtain ⟨b0, hb0⟩ : ∃ b0, b0 = A[i]?.getD 0 := ⟨_, rfl⟩
      rw [← hb0] at c0
      have HN : Hid (∀ b1 : UInt8, b1 = rb i b0 → BsB w2.heap.size (mixb A (i + 1)) (wr.setCell ⟨w2.heap.size, i, none⟩ (.int .u8 (b1.toNat : Int))) ∧ Below w2.heap.size w2 (wr.setCell ⟨w2.heap.size, i, none⟩ (.int .u8 (b1.toNat : Int)))) := Lib.hid fun b1 hb1 => by
        subst hb1
        refine ⟨?_, HB.out.below HW2.out (Nat.le_refl _) i _⟩
        rw [← mix_step A i8 hiA, ← hb0]
        exact HB.out.set (by rw [mix_len]; exact hiA) _
      have HK : Hid (rb i b0 = b0 → BsB w2.heap.size (mixb A (i + 1)) wr) := Lib.hid fun h => by
        rw [← mix_keep A hiA (by rw [← hb0]; exact h)]; exact HB.out
      clear hiA HB
      have HB0 := Lib.hid hb0
      clear hb0
      by_cases k1 : b0 = 32
      · subst k1
        have c1 : wr.cell? ⟨w2.heap.size, i, none⟩ = some (.int .u8 32) := c0
        clear c0
        rcases (show i % 4 = 0 ∨ i % 4 = 1 ∨ i % 4 = 2 ∨ i % 4 = 3 by omega) with q | q | q | q
        · have r1 : (i : Int) % 4 = 0 := by omega
          have r2 : (i : Int).tmod 4 = 0 := by rw [Int.tmod_eq_emod_of_nonneg (by omega)]; exact r1
          have N1 := Lib.hid (HN.out 32 (by unfold rb; rw [if_pos (by decide)]; simp [q]))
          clear HN HK q
          go_wp2
          go_roundw
          case rel => exact ⟨i + 1, by omega, by omega, by go_num, Lib.hid N1.out.1, Lib.hid N1.out.2⟩
          case measure => simp [intOf]; omega
        · have r1 : (i : Int) % 4 = 1 := by omega
          have r2 : (i : Int).tmod 4 = 1 := by rw [Int.tmod_eq_emod_of_nonneg (by omega)]; exact r1
          have N1 := Lib.hid (HN.out 9 (by unfold rb; rw [if_pos (by decide)]; simp [q]))
          clear HN HK q
          go_wp2
          go_roundw
          case rel => exact ⟨i + 1, by omega, by omega, by go_num, Lib.hid N1.out.1, Lib.hid N1.out.2⟩
          case measure => simp [intOf]; omega
        · have r1 : (i : Int) % 4 = 2 := by omega
          have r2 : (i : Int).tmod 4 = 2 := by rw [Int.tmod_eq_emod_of_nonneg (by omega)]; exact r1
          have N1 := Lib.hid (HN.out 10 (by unfold rb; rw [if_pos (by decide)]; simp [q]))
          clear HN HK q
          go_wp2
          go_roundw
          case rel => exact ⟨i + 1, by omega, by omega, by go_num, Lib.hid N1.out.1, Lib.hid N1.out.2⟩
          case measure => simp [intOf]; omega
        · have r1 : (i : Int) % 4 = 3 := by omega
          have r2 : (i : Int).tmod 4 = 3 := by rw [Int.tmod_eq_emod_of_nonneg (by omega)]; exact r1
          have N1 := Lib.hid (HN.out 13 (by unfold rb; rw [if_pos (by decide)]; simp [q]))
          clear HN HK q
          go_wp2
          go_roundw
          case rel => exact ⟨i + 1, by omega, by omega, by go_num, Lib.hid N1.out.1, Lib.hid N1.out.2⟩
          case measure => simp [intOf]; omega
      · by_cases k2 : b0 = 10
        · subst k2
          clear k1
          have c1 : wr.cell? ⟨w2.heap.size, i, none⟩ = some (.int .u8 10) := c0
          clear c0
          rcases (show i % 4 = 0 ∨ i % 4 = 1 ∨ i % 4 = 2 ∨ i % 4 = 3 by omega) with q | q | q | q
          · have r1 : (i : Int) % 4 = 0 := by omega
            have r2 : (i : Int).tmod 4 = 0 := by rw [Int.tmod_eq_emod_of_nonneg (by omega)]; exact r1
            have N1 := Lib.hid (HN.out 32 (by unfold rb; rw [if_pos (by decide)]; simp [q]))
            clear HN HK q
            go_wp2
            go_roundw
            case rel => exact ⟨i + 1, by omega, by omega, by go_num, Lib.hid N1.out.1, Lib.hid N1.out.2⟩
            case measure => simp [intOf]; omega
          · have r1 : (i : Int) % 4 = 1 := by omega
            have r2 : (i : Int).tmod 4 = 1 := by rw [Int.tmod_eq_emod_of_nonneg (by omega)]; exact r1
            have N1 := Lib.hid (HN.out 9 (by unfold rb; rw [if_pos (by decide)]; simp [q]))
            clear HN HK q
            go_wp2
            go_roundw
            case rel => exact ⟨i + 1, by omega, by omega, by go_num, Lib.hid N1.out.1, Lib.hid N1.out.2⟩
            case measure => simp [intOf]; omega
          · have r1 : (i : Int) % 4 = 2 := by omega
            have r2 : (i : Int).tmod 4 = 2 := by rw [Int.tmod_eq_emod_of_nonneg (by omega)]; exact r1
            have N1 := Lib.hid (HN.out 10 (by unfold rb; rw [if_pos (by decide)]; simp [q]))
            clear HN HK q
            go_wp2
            go_roundw
            case rel => exact ⟨i + 1, by omega, by omega, by go_num, Lib.hid N1.out.1, Lib.hid N1.out.2⟩
            case measure => simp [intOf]; omega
          · have r1 : (i : Int) % 4 = 3 := by omega
            have r2 : (i : Int).tmod 4 = 3 := by rw [Int.tmod_eq_emod_of_nonneg (by omega)]; exact r1
            have N1 := Lib.hid (HN.out 13 (by unfold rb; rw [if_pos (by decide)]; simp [q]))
            clear HN HK q
            go_wp2
            go_roundw
            case rel => exact ⟨i + 1, by omega, by omega, by go_num, Lib.hid N1.out.1, Lib.hid N1.out.2⟩
            case measure => simp [intOf]; omega
        · have N1 := Lib.hid (HK.out (by unfold rb; rw [if_neg (by simp [k1, k2])]))
          have v1 : ((b0.toNat : Int) == 32) = false := by
            simp only [beq_eq_false_iff_ne, ne_eq]; intro c; exact k1 (UInt8.toNat.inj (by show b0.toNat = 32; omega))
          have v2 : ((b0.toNat : Int) == 10) = false := by
            simp only [beq_eq_false_iff_ne, ne_eq]; intro c; exact k2 (UInt8.toNat.inj (by show b0.toNat = 10; omega))
          clear HN HK k1 k2
          generalize (b0.toNat : Int) = v at *
          go_wp2
          go_roundw
          case rel => exact ⟨i + 1, by omega, by omega, by go_num, N1, HW2⟩
          case measure => simp [intOf]; omega
    · have h1 : ¬ (i : Int) < (L : Int) := by omega
      obtain rfl : i = L := by omega
      have hcv := conv_back wr w2.heap.size cap (mixb A i) HB.out
      rw [mix_len, ← HL.out, ← HR.out] at hcv
      have hcat : ¬ 9223372036854775807 < R.size + 1 := by omega
      have rs1 : R.size + 1 = i + 1 := by omega
      clear hlt i8 iL L8
      go_wp2_with fail
      refine (HP.out _).mono ?_
      rintro e w4 ⟨v, rfl, hV, hB4⟩
      obtain ⟨wb, vb, cb, wd, vd, cd, rfl, i1, i2, i3⟩ := hV.lists (by omega)
      have X := Lib.hid (Bx.new (K := K) (N := n) (C := C) (wc := wd) (vc := vd) (cc := cd) i1 i2 i3)
      have bz : Below w4.heap.size w4 (w4.alloc (.cells #[.int .i64 K, .int .i64 n, .int .i64 C, .slice wb wl.length wd, .slice vb vl.length vd, .slice cb cl.length cd] 25)) := bl_al (Below.refl _ _) _
      have B4 := Lib.hid (bl_tr hB4 bz)
      clear hB4 hV i1 i2 i3 bz HP hcv hcat rs1
      go_upto_region 11 with fail
      generalize w4.alloc (.cells #[.int .i64 K, .int .i64 n, .int .i64 C, .slice wb wl.length wd, .slice vb vl.length vd, .slice cb cl.length cd] 25) = Y4 at X B4 ⊢
      have Z4 := Lib.hid ((Z2.out.keep HW2.out).keep B4.out)
      have B5 := Lib.hid ((B2.out.trans (HW2.out.mono B2.out.size)).trans (B4.out.mono (Nat.le_trans B2.out.size HW2.out.size)))
      clear Z2 B2 HW2 B4 HB
      go_wp2_with fail
      refine (HG.out _).mono ?_; rintro e w5 ⟨rfl, hb5⟩
      have Z5 := Lib.hid (Z4.out.keep hb5)
      have X5 := Lib.hid (X.out.keep hb5)
      have B6 := Lib.hid (B5.out.trans (hb5.mono B5.out.size))
      clear hb5 Z4 X B5 HG
      obtain ⟨d0, d1, d2, d3, d4, d5⟩ := ip.box6 Z5.out.box
      obtain ⟨c0, c1, c2, c3, c4, c5⟩ := ip.box6 X5.out.box
      have HQ := Lib.hid (ip.isame_any true K n C K n C wl vl wl vl cl cl (by simp) wa va ca wb vb cb wc vc cc wd vd cd w5 Z5.out.i1 Z5.out.i2 Z5.out.i3 X5.out.i1 X5.out.i2 X5.out.i3 (by omega) (by omega) (by omega) (by omega) (by omega) (by omega))
      go_wp2_with fail
      refine HQ.out.mono ?_; rintro e w6 ⟨rfl, hb6⟩
      have B7 := Lib.hid (B6.out.trans (hb6.mono B6.out.size))
      clear hb6 Z5 X5 B6 HQ d0 d1 d2 d3 d4 d5 c0 c1 c2 c3 c4 c5
      go_wp2
      go_ret
      exact ⟨rfl, B7.out⟩
theorem drawn_walk (kind num s : Int) (w : World) (ht : Tab w) : Calls Tryd.prog 7 #[.int .i64 kind, .int .i64 num, .int .u64 s] w fun e w' => e = .returned (.bool true) ∧ Below w.heap.size w w' := by
  obtain ⟨a, ha, hk⟩ := gmd kind 3 (by decide)
  obtain ⟨b, hb, hn⟩ := gmd num 12 (by decide)
  obtain ⟨C, wl, vl, cl, hF, hM⟩ := make_fm (1 + (a : Int)) (by omega) (1 + b) (by omega) (by omega) 1000 s (by decide) (by decide)
  refine drawn_core kind num s _ C a b _ wl vl cl hk (IntWalk.i64_in _ (by omega)) (IntWalk.i64_in _ (by omega)) hn (IntWalk.i64_in _ (by omega)) ?_ hF hM w ht
  rw [IntWalk.i64_in _ (by omega)]; omega
end Go.Proofs.YtjlaankgfpjeeaaDoor
