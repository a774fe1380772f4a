/-
  cert: CertLong, walked.
-/
import Derived.Test.YtjajpmbmkagcaaaDoorCutsL
import Derived.Laws.MakeOwn
import Derived.Laws.IdiomStrings
namespace Go.Proofs.YtjajpmbmkagcaaaDoor
open Go.RowKit
set_option linter.unusedVariables false
def rp (k : Nat) : ByteArray := ⟨(List.replicate k (112 : UInt8)).toArray⟩
theorem rp_size (k : Nat) : (rp k).size = k := by show (List.replicate k (112 : UInt8)).toArray.size = k; simp
theorem rp_get (n j : Nat) (h : j < n) : (rp n).get! j = 112 := by
  rw [get_of (rp n) j (by rw [rp_size]; exact h)]
  show (List.replicate n (112 : UInt8)).toArray[j]'_ = 112
  simp
/-- so many bytes, the first ones laid -/
def bl (n k : Nat) : Array Value := (List.replicate k (Value.int .u8 112) ++ List.replicate (n - k) (Value.int .u8 0)).toArray
theorem bl_set (n k : Nat) (h : k < n) : (bl n k).setIfInBounds k (.int .u8 112) = bl n (k + 1) := by
  unfold bl
  apply Array.toList_inj.1
  rw [show n - k = (n - (k + 1)) + 1 by omega, List.replicate_succ, List.replicate_succ' (n := k)]
  simp
theorem bl_full (n : Nat) : bl n n = (List.replicate n (Value.int .u8 112)).toArray := by simp [bl]
theorem bl_zero (n : Nat) : bl n 0 = (List.replicate n (Value.int .u8 0)).toArray := by simp [bl]
theorem bl_cell {W : World} {g n k : Nat} (h : W.heap[g]? = some (.cells (bl n k) 5 (0, 0))) (hk : k < n) : W.cell? ⟨g, k, none⟩ = some (.int .u8 0) ∧ W.frozen? ⟨g, k, none⟩ = false := by
  refine ⟨?_, by simp [World.frozen?, h]⟩
  simp only [World.cell?, h]
  unfold bl
  have h0 : 0 < n - k := by omega
  simp [h0]
theorem conv_rp (W : World) (g n cap : Nat) (h : W.heap[g]? = some (.cells (bl n n) 5 (0, 0))) : (convert 43 9 (.slice (some ⟨g, 0, none⟩) n cap)).run Tryd.prog W = .ok (.string (rp n)) W := by
  have := run_convert_bytes_back (P := Tryd.prog) W 43 9 5 ⟨g, 0, none⟩ cap (List.replicate n 112) Tryd.underlying43 Tryd.underlying5 Tryd.underlying9 (fun j hj => by
    have hj : j < n := by simpa using hj
    rw [Addr.add_mid, Nat.zero_add]
    simp only [World.cell?, h, bl_full]
    simp [hj])
  rw [List.length_replicate] at this
  exact this
theorem info5 : (Tryd.prog.info? 5).map (fun i => (i.zero, i.size, i.bytes)) = some (some (.int .u8 0), 1, 1) := by kernel_rfl
theorem mk_bl (n : Nat) (h : n ≤ 2000000) (W : World) : (Instr.makeSlice 43 (.int .i64 (n : Int)) (.int .i64 (n : Int))).run Tryd.prog W = .ok (.slice (some ⟨W.heap.size, 0, none⟩) n n) (W.alloc (.cells (bl n 0) 5)) := by
  obtain ⟨i0, hi, hz0, hz1, hz2⟩ := info_parts info5
  have h := run_make (P := Tryd.prog) W 43 5 i0 (.int .u8 0) Tryd.underlying43 hi hz0 .i64 .i64 (n : Int) (n : Int) (by omega) (by omega) (by rw [hz2]; omega) (by omega)
  rw [hz1] at h
  simp only [Int.toNat_natCast, Nat.mul_one] at h
  rw [h, bl_zero]
  congr 3
  apply Array.toList_inj.1
  show (madeCells #[Value.int .u8 0] n).toList = _
  rw [toList_madeCells_one]
/-- the long text -/
def lgt (n : Nat) : ByteArray := (⟨#[67, 69, 82, 84, 32, 48, 32, 49, 10, 48, 10]⟩ : ByteArray) ++ rp n ++ (⟨#[10]⟩ : ByteArray)
theorem hd0 : hdT 0 [0] = [67, 69, 82, 84, 32, 48, 32, 49, 10, 48, 10] := by kernel_rfl
theorem lgt_list (n : Nat) : (lgt n).data.toList = txt 0 [0] (rp n) := by
  unfold txt
  rw [hd0]
  simp [lgt, ByteArray.data_append]
theorem lgt_size (n : Nat) : (lgt n).size = n + 12 := by
  unfold lgt
  rw [ByteArray.size_append, ByteArray.size_append, rp_size]
  show 11 + n + 1 = _
  omega
theorem frm_rp (n : Nat) (h1 : 1 ≤ n) (h2 : n ≤ 1048576) : Frm 0 [0] (rp n) :=
  ⟨by decide, by decide, by decide, by decide, fun x hx => (by simp at hx; omega), by rw [rp_size]; exact h1, by rw [rp_size]; exact h2, fun j hj => by rw [rp_size] at hj; rw [rp_get n j hj]; rfl⟩
theorem lgt_long (n : Nat) (h : 1048576 < n) : crE (lgt n) = (11 + 1048576, 5) := by
  have hA := at_self (lgt n)
  rw [lgt_list] at hA
  unfold txt at hA
  obtain ⟨A1, A2⟩ := At.app.1 hA
  obtain ⟨e5, _⟩ := head_to A1 (by decide) (by decide) (by decide) (by decide) (fun x hx => (by simp at hx; omega))
  rw [hd0] at e5 A2
  have e5 : cr5 (lgt n) = (11, 0) := e5
  have A2 : At (lgt n) 11 ((rp n).data.toList ++ [10]) := A2
  obtain ⟨A3, A4⟩ := At.app.1 A2
  have tl : (rp n).data.toList.length = n := by have := rp_size n; simpa using this
  rw [tl] at A4
  obtain ⟨⟨A5, A6⟩, _⟩ := At.cons.1 A4
  have sz := lgt_size n
  have l : lt (lgt n) 11 = n := lt_all (by omega) (fun j hj => ⟨by omega, by rw [A3.2 j (by omega), ← q_get (rp n) j (by rw [rp_size]; exact hj), rp_get n j hj]; rfl⟩) (fun c => by rw [A6] at c; exact absurd c.2 (by decide))
  have e6 : cr6 (lgt n) = (11 + 1048576, 5) := by
    show treS (lgt n) (cr5 (lgt n)) = _
    rw [e5]
    unfold treS tre trk
    rw [if_pos rfl]
    show (11 + (if 1048576 < lt (lgt n) 11 then 1048576 else lt (lgt n) 11), _) = _
    rw [l, if_pos h, if_pos h]
  rw [crE_6 (by rw [e6]; exact (show (5 : Int) ≠ 0 by decide)), e6]
/-- what Write and Read answer -/
theorem long_both (n : Nat) (h1 : 1 ≤ n) (h2 : n ≤ 1900000) : ∃ (S : ByteArray) (e a f : Int), (∀ W v, Ls v [0] W → Tab W → Calls Tryd.prog 9 #[.agg #[.int .i64 0, v, .string (rp n)]] W fun x w' => x = .returned (.tuple #[.string S, .int .i64 e]) ∧ Below W.heap.size W w') ∧
    (∀ W, Calls Tryd.prog 14 #[.string (lgt n)] W fun x w' => ∃ V va vn vc T, x = .returned (.tuple #[.agg #[.int .i64 V, .slice va vn vc, .string T], .int .i64 a, .int .i64 f]) ∧ Below W.heap.size W w') ∧
    ((n ≤ 1048576 ∧ e = 0 ∧ f = 0 ∧ S.size = n + 12) ∨ (1048576 < n ∧ e = 8 ∧ S.size = 0 ∧ f = 5 ∧ a = 1048587)) := by
  by_cases h : n ≤ 1048576
  · have F := frm_rp n h1 h
    obtain ⟨c1, c2, c3, c4⟩ := text_to F (lgt_list n)
    have hz : (⟨(txt 0 [0] (rp n)).toArray⟩ : ByteArray).size = n + 12 := by
      rw [← lgt_list n, ← lgt_size n]
    refine ⟨_, 0, 0, 0, fun W v hv t => write_yes hv F t, fun W => (read_any (lgt n) (by rw [lgt_size]; omega) W).mono fun x w' r => ?_, .inl ⟨h, rfl, rfl, hz⟩⟩
    obtain ⟨v, r1, r2, r3⟩ := rdp_ok (by rw [c1]) c2 c3 c4 r
    obtain ⟨va, vc, rfl⟩ := r2.form
    exact ⟨_, _, _, _, _, r1, r3⟩
  · refine ⟨⟨#[]⟩, 8, 1048587, 5, fun W v hv t => write_no hv (by decide) (by rw [rp_size]; omega) (fun F => by have := F.t1; rw [rp_size] at this; omega), fun W => (read_any (lgt n) (by rw [lgt_size]; omega) W).mono fun x w' r => ?_, .inr ⟨by omega, rfl, rfl, rfl, rfl⟩⟩
    obtain ⟨r1, r2⟩ := rdp_er (lgt_long n (by omega)) (by decide) r
    exact ⟨_, _, _, _, _, r1, r2⟩
set_option maxRecDepth 100000 in
set_option maxHeartbeats 8000000 in
theorem long_core (z : Int) (n : Nat) (hN : wrap64 (1048574 + wrap64 ((IntKind.u64.wrap z).tmod 5)) = (n : Int)) (b1 : 1 ≤ n) (b2 : n ≤ 1900000)
    (hmk : ∀ W : World, (Instr.makeSlice 43 (.int .i64 (n : Int)) (.int .i64 (n : Int))).run Tryd.prog W = .ok (.slice (some ⟨W.heap.size, 0, none⟩) n n) (W.alloc (.cells (bl n 0) 5))) (w : World) (ht : Tab w) :
    Calls Tryd.prog 6 #[.int .i64 z] w fun e w' => e = .returned (.bool true) ∧ Below w.heap.size w w' := by
  have CE := Lib.hid (fun W t => certs_any W t)
  have HT := Lib.hid ht
  have B2 := Lib.hid b2
  have LB := Lib.hid (long_both n b1 b2)
  clear ht b1 b2
  go_enter Tryd.func6, Tryd.ntmps6
  go_upto_region 2 with fail
  rw [hN]
  generalize (IntKind.u64.wrap z).tmod 5 = s0
  clear hN
  go_upto_region 3 with fail
  go_wp2
  go_loopw [4] (fun iv wr => ∃ k, k ≤ n ∧ iv = .int .i64 (k : Nat) ∧ Hid (wr.heap[w.heap.size]? = some (.cells (bl n k) 5 (0, 0))) ∧ Hid (Below w.heap.size w wr)) (fun iv _ => n - (intOf iv).toNat)
  case atStart => exact ⟨0, by omega, rfl, Lib.hid (heap_alloc_new _ _), Lib.hid (bl_al (Below.refl _ _) _)⟩
  case round =>
    obtain ⟨k, hk, rfl, HC, HB⟩ := hrel
    by_cases hlt : k < n
    · have h1 : (k : Int) < (n : Int) := by omega
      have hk63 : k ≤ 1900000 := by have := B2.out; omega
      obtain ⟨c0, f0⟩ := bl_cell HC.out hlt
      have HC2 := Lib.hid (show (wr.setCell ⟨w.heap.size, k, none⟩ (.int .u8 112)).heap[w.heap.size]? = some (.cells (bl n (k + 1)) 5 (0, 0)) by rw [← bl_set n k hlt]; exact heap_setCell_same _ _ _ _ _ _ HC.out)
      have HB2 := Lib.hid (HB.out.setCell (p := ⟨w.heap.size, k, none⟩) (Nat.le_refl _) (.int .u8 112))
      clear HC HB
      go_wp2
      go_roundw
      case rel => exact ⟨k + 1, by omega, by go_num, HC2, HB2⟩
      case measure => simp [intOf]; omega
    · have h1 : ¬ (k : Int) < (n : Int) := by omega
      obtain rfl : k = n := by omega
      have B1 := bl_al (Below.refl _ wr) (.cells #[.int .i64 0] 3)
      have al := heap_alloc_new wr (.cells #[.int .i64 0] 3)
      have HC1 := Lib.hid ((B1.block _ (lt_hp HC.out)).trans HC.out)
      have HB1 := Lib.hid (bl_tr HB.out B1)
      have LS := Lib.hid (show Ls (.slice (some ⟨wr.heap.size, 0, none⟩) 1 1) [0] (wr.alloc (.cells #[.int .i64 0] 3)) from
        .inr ⟨wr.heap.size, 0, 1, rfl, by decide, by simp, fun j hj => by
          obtain rfl : j = 0 := by simpa using hj
          exact (cell_of_row _ _ 0 _ 3 _ al).trans rfl⟩)
      have hcv := conv_rp _ w.heap.size k k HC1.out
      have CV := Lib.hid (fun W h => conv_rp W w.heap.size k k h)
      obtain ⟨S, er, xa, f, WR, RD, XX⟩ := LB.out
      replace WR := Lib.hid WR
      replace RD := Lib.hid RD
      replace XX := Lib.hid XX
      have SZ := Lib.hid (rp_size k)
      have LT := Lib.hid (show (⟨#[67, 69, 82, 84, 32, 48, 32, 49, 10, 48, 10]⟩ : ByteArray) ++ rp k ++ (⟨#[10]⟩ : ByteArray) = lgt k from rfl)
      clear B1 al HC HB LB hmk hlt hk h1
      generalize rp k = T at *
      go_wp2_with fail
      generalize wr.alloc (.cells #[.int .i64 0] 3) = X at *
      refine (WR.out X _ LS.out (tab_keep HT.out HB1.out)).mono ?_; rintro e w5 ⟨rfl, hb5⟩
      have HB5 := Lib.hid (bl_tr HB1.out hb5)
      have HC5 := Lib.hid ((hb5.block _ (lt_hp HC1.out)).trans HC1.out)
      clear hcv WR LS HB1 hb5
      have hcv := CV.out w5 HC5.out
      have hc1 : Hid (¬ 9223372036854775807 < 11 + T.size) := Lib.hid (by have := SZ.out; have := B2.out; omega)
      have hc2 : Hid (¬ 9223372036854775807 < 11 + T.size + 1) := Lib.hid (by have := SZ.out; have := B2.out; omega)
      go_upto_region 8 with fail
      have h1 := hc1.out
      have h2 := hc2.out
      go_wp2_with fail
      clear h1 h2 hc1 hc2
      rw [LT.out]
      refine (RD.out w5).mono ?_; rintro e w6 ⟨V6, a6, n6, c6, T6, rfl, hb6⟩
      have HB6 := Lib.hid (bl_tr HB5.out (bl_tr hb6 (bl_al (Below.refl _ w6) (.cells #[.int .i64 V6, .slice a6 n6 c6, .string T6] 26))))
      clear hb6 hcv RD HC5 HC1 HB5 CV
      go_wp2_with fail
      generalize w6.alloc (.cells #[.int .i64 V6, .slice a6 n6 c6, .string T6] 26) = X6 at *
      refine (CE.out X6 (tab_keep HT.out HB6.out)).mono ?_; rintro e w7 ⟨rfl, hb7⟩
      have HB7 := Lib.hid (bl_tr HB6.out hb7)
      clear hb7 HB6 CE HT LT
      rcases XX.out with ⟨x1, rfl, rfl, x2⟩ | ⟨x1, rfl, x2, rfl, rfl⟩
      · have b1 : decide (1048576 < (k : Int)) = false := decide_eq_false (by omega)
        have b2 : ((S.size : Int) == (k : Int) + 12) = true := by simp; omega
        have hw : wrap64 ((k : Int) + 12) = (k : Int) + 12 := by unfold wrap64; omega
        have hk63 : k ≤ 1900000 := B2.out
        go_wp2
        go_ret
        exact ⟨rfl, HB7.out⟩
      · have b1 : decide (1048576 < (k : Int)) = true := decide_eq_true (by omega)
        have b2 : ((S.size : Int) == 0) = true := by rw [x2]; rfl
        go_wp2
        go_ret
        exact ⟨rfl, HB7.out⟩
theorem long_walk (z : Int) (fit : (Lit.int .i64 z).wf = true) (w : World) (ht : Tab w) : Calls Tryd.prog 6 #[.int .i64 z] w fun e w' => e = .returned (.bool true) ∧ Below w.heap.size w w' := by
  obtain ⟨m, hm, em⟩ := cut_at z 5 (by decide) (by decide)
  have em : wrap64 ((IntKind.u64.wrap z).tmod 5) = (m : Int) := em
  refine long_core z (1048574 + m) ?_ (by omega) (by omega) (fun W => mk_bl _ (by omega) W) w ht
  rw [em]
  unfold wrap64
  omega
end Go.Proofs.YtjajpmbmkagcaaaDoor
