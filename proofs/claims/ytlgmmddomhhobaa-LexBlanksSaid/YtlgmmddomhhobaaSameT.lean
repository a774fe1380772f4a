/-
  The reference's Same of the same tokens.
-/
import Derived.Test.YtlgmmddomhhobaaFrom
import Derived.Deep.MidRow
namespace Go.Proofs.Ytlgmmddomhhobaa
open Go.RowKit
set_option linter.unusedVariables false
theorem eqf (F : Nat) (fs : List Field) (hF : (Try.prog.fieldsOf F).toList = fs) (hu : Try.prog.underlying F = some (.struct (Try.prog.fieldsOf F))) (hs : Try.prog.stoodInHeld F = false) (hn : fs.map (fun f => (decide (f.name ≠ "_"), f.type, f.offset)) = [(true, 3, 0), (true, 9, 1), (true, 3, 2), (true, 3, 3)]) (w : World) (k n a : Int) (t : ByteArray) :
    (Op.equalIn 10000 F (.agg #[.int .i64 k, .string t, .int .i64 n, .int .i64 a]) (.agg #[.int .i64 k, .string t, .int .i64 n, .int .i64 a])).run Try.prog w = .ok true w := by
  have h3 : ∀ (a b : Int) (w : World), (Op.equalIn 9999 3 (.int .i64 a) (.int .i64 b)).run Try.prog w = .ok (a == b) w := fun a b w => run_equalIn_int w 9998 3 .i64 .i64 a b Try.underlying3
  have h9 : ∀ (a b : ByteArray) (w : World), (Op.equalIn 9999 9 (.string a) (.string b)).run Try.prog w = .ok (a.toList == b.toList) w := fun a b w => run_equalIn_string w 9998 9 a b Try.underlying9
  rw [run_equalIn_struct w 9999 F _ _ hu hs, hF]
  rcases fs with _ | ⟨f0, _ | ⟨f1, _ | ⟨f2, _ | ⟨f3, _ | ⟨f4, fs⟩⟩⟩⟩⟩ <;> simp at hn
  obtain ⟨⟨a1, a2, a3⟩, ⟨b1, b2, b3⟩, ⟨c1, c2, c3⟩, d1, d2, d3⟩ := hn
  simp [Op.eqFields, part, go_sem, a1, a2, a3, b1, b2, b3, c1, c2, c3, d1, d2, d3, h3, h9]
theorem neq47 (k n a : Int) (t : ByteArray) (w : World) : (binOp .neq 47 (.agg #[.int .i64 k, .string t, .int .i64 n, .int .i64 a]) (.agg #[.int .i64 k, .string t, .int .i64 n, .int .i64 a])).run Try.prog w = .ok (.bool false) w := by
  have h := eqf 47 _ rfl (by kernel_rfl) (by kernel_rfl) (by kernel_rfl) w k n a t
  simp only [binOp]
  simp [Op.equal, Op.maxDepth, h]
theorem eql36 (k n a : Int) (t : ByteArray) (w : World) : (binOp .eql 36 (.agg #[.int .i64 k, .string t, .int .i64 n, .int .i64 a]) (.agg #[.int .i64 k, .string t, .int .i64 n, .int .i64 a])).run Try.prog w = .ok (.bool true) w := by
  have h := eqf 36 _ rfl (by kernel_rfl) (by kernel_rfl) (by kernel_rfl) w k n a t
  simp only [binOp]
  simp [Op.equal, Op.maxDepth, h]
theorem load47 (W : World) (g o : Nat) (t : Tok) (h : W.rangeAt g o (encT t)) : (Instr.loadAt 47 (.pointer (some ⟨g, o, none⟩))).run Try.prog W = .ok (.agg #[.int .i64 t.kind, .string t.text, .int .i64 t.num, .int .i64 t.at_]) W :=
  run_loadAt_mid (P := Try.prog) W g o 47 (encT t) _ h Try.underlying47 rfl (by kernel_rfl)
theorem load36 (W : World) (g o : Nat) (t : Tok) (h : W.rangeAt g o (encT t)) : (Instr.loadAt 36 (.pointer (some ⟨g, o, none⟩))).run Try.prog W = .ok (.agg #[.int .i64 t.kind, .string t.text, .int .i64 t.num, .int .i64 t.at_]) W :=
  run_loadAt_mid (P := Try.prog) W g o 36 (encT t) _ h Try.underlying36 rfl (by kernel_rfl)
theorem TL.row {w : World} {a : Option Addr} {n c : Nat} {l : List Tok} (h : TL w (.slice a n c) l) (i : Nat) (hi : i < l.length) : ∃ g, a = some ⟨g, 0, none⟩ ∧ g < w.heap.size ∧ w.rangeAt g (i * 4) (encT l[i]) := by
  rcases h with ⟨rfl, _⟩ | ⟨g, cap, hv, hg, hc⟩
  · simp at hi
  · injection hv with h1 h2 h3
    exact ⟨g, h1, hg, fun j u hj => hc i _ j u (List.getElem?_eq_getElem hi) hj⟩
theorem range_up {w w' : World} {g o : Nat} {cs : List Value} (h : w.rangeAt g o cs) (hg : g < w.heap.size) (hb : Below w.heap.size w w') : w'.rangeAt g o cs := fun j u hj => cell_up hb hg (h j u hj)
theorem bl_drw {w W : World} (h : Below w.heap.size w W) (n : Nat) : Below w.heap.size w (W.drewN n) := below_drewN h n
set_option maxRecDepth 100000 in
set_option maxHeartbeats 2000000 in
theorem sameT_any (v1 v2 : Value) (l : List Tok) (w : World) (hT1 : TL w v1 l) (hT2 : TL w v2 l) (hn : l.length ≤ 70000) : Calls Try.prog 10 #[v1, v2] w fun e w' => e = .returned (.bool true) ∧ Below w.heap.size w w' := by
  obtain ⟨a1, k1, rfl⟩ := hT1.len
  obtain ⟨a2, k2, rfl⟩ := hT2.len
  obtain ⟨n, hln⟩ : ∃ n, l.length = n := ⟨_, rfl⟩
  rw [hln] at hT1 hT2 hn ⊢
  have HT1 := Lib.hid hT1
  have HT2 := Lib.hid hT2
  clear hT1 hT2
  have N47 := neq47
  go_enter Try.func10, Try.ntmps10
  go_wp2
  go_loopw [5] (fun iv wr => ∃ k, k ≤ n ∧ iv = .int .i64 (k : Nat) ∧ Hid (Below w.heap.size w wr)) (fun iv _ => n - (intOf iv).toNat)
  case atStart => exact ⟨0, by omega, rfl, Lib.hid (Below.refl _ _)⟩
  case round =>
    obtain ⟨k, hk, rfl, HB⟩ := hrel
    by_cases hlt : k < n
    · have h1 : (k : Int) < (n : Int) := by omega
      obtain ⟨g1, rfl, hg1, c0, c1, c2, c3⟩ := (HT1.out.up HB.out).at k (by omega)
      obtain ⟨g2, rfl, hg2, d0, d1, d2, d3⟩ := (HT2.out.up HB.out).at k (by omega)
      obtain ⟨t, ht⟩ : ∃ t, l[k]'(by omega) = t := ⟨_, rfl⟩
      rw [ht] at c0 c1 c2 c3 d0 d1 d2 d3
      go_wp2
      go_quiet (fail)
      go_wp2
      go_roundw
      case rel => exact ⟨k + 1, by omega, by go_num, Lib.hid (bl_drw HB.out _)⟩
      case measure => simp [intOf]; omega
    · have h1 : ¬ (k : Int) < (n : Int) := by omega
      obtain rfl : k = n := by omega
      go_wp2
      go_ret
      exact ⟨rfl, HB.out⟩
end Go.Proofs.Ytlgmmddomhhobaa
