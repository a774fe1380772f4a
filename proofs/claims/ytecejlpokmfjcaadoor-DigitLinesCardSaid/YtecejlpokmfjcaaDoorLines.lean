/-
  For every text, kurganlaw03.DigitLines answers true and leaves it as it was. The row and its tied card.
-/
import Derived.Test.YtecejlpokmfjcaaDoorDigs
import Derived.Test.YtecejlpokmfjcaaDoorCards
import Derived.Test.YtecejlpokmfjcaaDoorTie
import Derived.OpenShut
import Derived.ShutString
import Derived.Deep.DeepHandedRow
import Derived.Lib.OthersKept
namespace Go.Proofs.YtecejlpokmfjcaaDoor.digitLines
open Go.ChangeShapes Go.WideShapes Go.ChangeAt Go.RowKit
open Go.ChangeMaps (open_string shut_string)
set_option linter.unusedVariables false

theorem own : ownKnob Tryd.prog.godebug = none := by kernel_rfl

theorem bl_iterAt {w wr : World} (h : Below w.heap.size w wr) (s : ByteArray) (p : Nat) (k : Nat) (hk : w.heap.size ≤ k) : Below w.heap.size w (wr.iterAt k s p) := by
  refine h.trans ⟨rfl, rfl, rfl, ?_, fun i hi => ?_⟩
  · show wr.heap.size ≤ (wr.heap.setIfInBounds k _).size
    simp
  · show (wr.heap.setIfInBounds k _)[i]? = _
    rw [Array.getElem?_setIfInBounds, if_neg (by omega)]

def LnAt (s : ByteArray) (w : World) (l c n : Value) (wr : World) : Prop :=
  ∃ (pos b : Nat) (x y m : Int), wr.heap[w.heap.size]? = some (.stringIter s pos) ∧ l = .int .i64 x ∧ c = .int .i64 y ∧ n = .int .i64 m ∧
    Hid (∀ at' : Int, (pos : Int) ≤ at' → plc s at' s.size 0 1 1 = plc s at' b pos x y) ∧ Hid (sgn s b pos m = sgn s s.size 0 0) ∧ Below w.heap.size w wr ∧
    s.size ≤ pos + b ∧ 1 ≤ x ∧ 1 ≤ y ∧ x ≤ pos + 1 ∧ y ≤ pos + 1 ∧ 0 ≤ m ∧ m ≤ pos ∧ pos ≤ s.size
theorem plc_go (s : ByteArray) (at' : Int) (b pos : Nat) (l c : Int) (hp : pos < s.size) (ha : (pos : Int) < at') :
    plc s at' (b + 1) pos l c = if (Utf8.decode s pos).1 = 10 then plc s at' b (pos + (Utf8.decode s pos).2) (l + 1) 1 else plc s at' b (pos + (Utf8.decode s pos).2) l (c + 1) := by
  conv => lhs; unfold plc
  rw [if_pos ⟨hp, ha⟩]
theorem sgn_go (s : ByteArray) (b pos : Nat) (n : Int) (hp : pos < s.size) : sgn s (b + 1) pos n = sgn s b (pos + (Utf8.decode s pos).2) (n + 1) := by
  conv => lhs; unfold sgn
  rw [if_pos hp]
theorem ip {w : World} {k : Nat} {s : ByteArray} {p : Nat} (h : w.heap[k]? = some (.stringIter s p)) : w.iterPos k = p := by
  simp [World.iterPos, h]
theorem lt_blk {w : World} {k : Nat} {o : Obj} (h : w.heap[k]? = some o) : k < w.heap.size := (Array.getElem?_eq_some_iff.1 h).1
theorem next_round {s : ByteArray} {w wi w1 : World} {p' b : Nat} {x y m : Int} {l c n : Value} (hi : wi.heap[w.heap.size]? = some (.stringIter s p')) (hb : Below w.heap.size w wi) (h1 : Below wi.heap.size wi w1)
    (hl : l = .int .i64 x) (hc : c = .int .i64 y) (hn : n = .int .i64 m) (ha : ∀ at' : Int, (p' : Int) ≤ at' → plc s at' s.size 0 1 1 = plc s at' b p' x y) (hs : sgn s b p' m = sgn s s.size 0 0)
    (a1 : s.size ≤ p' + b) (a2 : 1 ≤ x) (a3 : 1 ≤ y) (a4 : x ≤ p' + 1) (a5 : y ≤ p' + 1) (a6 : 0 ≤ m) (a7 : m ≤ p') (a8 : p' ≤ s.size) : LnAt s w l c n w1 :=
  ⟨p', b, x, y, m, (h1.block _ (lt_blk hi)).trans hi, hl, hc, hn, Lib.hid ha, Lib.hid hs, bl_tr hb h1, a1, a2, a3, a4, a5, a6, a7, a8⟩
set_option maxRecDepth 100000 in
set_option maxHeartbeats 400000 in
theorem walk (s : ByteArray) (w : World) (ht : Tab w) :
    Calls Tryd.prog 7 #[.string s] w fun e w' => e = .returned (.bool true) ∧ Below w.heap.size w w' := by
  have HD := Lib.hid (fun W (h : Tab W) => digits_any W h)
  have HT := Lib.hid ht
  clear ht
  by_cases hs : s.size ≤ 300
  · have A0 : LnAt s w (.int .i64 1) (.int .i64 1) (.int .i64 0) (w.iter s 0) :=
      ⟨0, s.size, 1, 1, 0, World.iter_heap _ _ _, rfl, rfl, rfl, Lib.hid (fun _ _ => rfl), Lib.hid rfl, bl_it w s 0, by omega, by omega, by omega, by omega, by omega, by omega, by omega, by omega⟩
    have HP := Lib.hid (fun a W => place_any s a (by omega) W)
    have HS := Lib.hid (fun W => signs_any s (by omega) W)
    go_enter Tryd.func7, Tryd.ntmps7
    go_wp2
    go_loopw [3, 4, 5] (fun l c n wr => LnAt s w l c n wr) (fun _ _ _ wr => s.size - wr.iterPos w.heap.size)
    case atStart => exact A0
    case round =>
      clear A0
      obtain ⟨pos, b, x, y, m, hit, rfl, rfl, rfl, HA, HC, hbl, hb, x1, y1, x2, y2, m1, m2, hp4⟩ := hrel
      by_cases hp : pos < s.size
      · have hnx : ∀ ty, (Instr.next (.pointer (some ⟨w.heap.size, 0, none⟩)) true ty).run Tryd.prog wr = _ := fun ty => Lib.run_next_any_at wr w.heap.size s pos ty hit hp
        have hwd := width_pos s pos hp
        have hin := decode_in s pos hp
        have hle := decode_nl s pos
        have hpa : plc s (pos : Int) s.size 0 1 1 = (x, y) := (HA.out pos (by omega)).trans (plc_end s pos b pos x y (by omega))
        obtain ⟨b, rfl⟩ : ∃ b', b = b' + 1 := ⟨b - 1, by omega⟩
        have HPP := HP.out (pos : Int)
        rw [hpa] at HPP
        have HPQ := Lib.hid HPP
        have hit2 := Lib.iterAt_heap wr w.heap.size s pos (pos + (Utf8.decode s pos).2) hit
        have hbl2 := bl_iterAt hbl s (pos + (Utf8.decode s pos).2) w.heap.size (Nat.le_refl _)
        have HI := Lib.hid hit2
        have HB := Lib.hid hbl2
        have HG := Lib.hid (fun at' ha => plc_go s at' b pos x y hp ha)
        have HS2 := Lib.hid (sgn_go s b pos m hp)
        clear HPP hpa hit2 hbl2
        by_cases hn : (Utf8.decode s pos).1 = 10
        · have hn' : (((Utf8.decode s pos).1 : Int) == 10) = true := by simp [hn]
          have HN := Lib.hid hn
          clear hn
          go_wp2_with fail
          refine (HPQ.out _).mono ?_; rintro e w1 ⟨rfl, hb1⟩
          go_wp2
          exact ⟨next_round HI.out HB.out hb1 rfl rfl rfl (fun a ha => (HA.out a (by omega)).trans ((HG.out a (by omega)).trans (if_pos HN.out))) (HS2.out.symm.trans HC.out) (by omega) (by omega) (by omega) (by omega) (by omega) (by omega) (by omega) hin,
            by rw [ip hit, ip ((hb1.block _ (lt_blk HI.out)).trans HI.out)]; omega⟩
        · have hn' : (((Utf8.decode s pos).1 : Int) == 10) = false := by simp; omega
          have HN := Lib.hid hn
          clear hn
          go_wp2_with fail
          refine (HPQ.out _).mono ?_; rintro e w1 ⟨rfl, hb1⟩
          go_wp2
          exact ⟨next_round HI.out HB.out hb1 rfl rfl rfl (fun a ha => (HA.out a (by omega)).trans ((HG.out a (by omega)).trans (if_neg HN.out))) (HS2.out.symm.trans HC.out) (by omega) (by omega) (by omega) (by omega) (by omega) (by omega) (by omega) hin,
            by rw [ip hit, ip ((hb1.block _ (lt_blk HI.out)).trans HI.out)]; omega⟩
      · have hnx : ∀ ty, (Instr.next (.pointer (some ⟨w.heap.size, 0, none⟩)) true ty).run Tryd.prog wr = _ := fun ty => Lib.run_next_end_at wr w.heap.size s pos ty hit hp
        have hpa : plc s (s.size : Int) s.size 0 1 1 = (x, y) := (HA.out s.size (by omega)).trans (plc_end s s.size b pos x y (by omega))
        have hsg : sgn s s.size 0 0 = m := HC.out.symm.trans (sgn_end s b pos m hp)
        have HPP := HP.out (s.size : Int)
        have HSS := HS.out
        rw [hpa] at HPP
        rw [hsg] at HSS
        have HPQ := Lib.hid HPP
        have HSQ := Lib.hid HSS
        clear HPP HSS hpa hsg
        go_wp2_with fail
        refine (HPQ.out _).mono ?_; rintro e w1 ⟨rfl, hb1⟩
        have hb2 := bl_tr hbl hb1
        have HT1 := Lib.hid (tab_keep HT.out hb2)
        go_wp2_with fail
        refine (HD.out _ HT1.out).mono ?_; rintro e w2 ⟨rfl, hb3⟩
        go_wp2_with fail
        refine (HSQ.out _).mono ?_; rintro e w3 ⟨rfl, hb4⟩
        go_wp2
        go_ret
        exact ⟨rfl, bl_tr (bl_tr hb2 hb3) hb4⟩
  · go_enter Tryd.func7, Tryd.ntmps7
    go_wp2_with fail
    refine (HD.out _ HT.out).mono ?_; rintro e w1 ⟨rfl, hb1⟩
    go_wp2
    go_ret
    exact ⟨rfl, hb1⟩

theorem contract (H : Type) (enc : TypeId × Value → H) (W : World) (base : Nat) (args : Array Value) (ds gs : List (DataW H)) (before : List MemPlace)
    (hval : ∀ (j : Nat) t v, Tryd.f7.params[j]? = some t → args[j]? = some v → Value.okWide Tryd.prog W .any base t v)
    (hW : DataW.Whole enc Tryd.prog Tryd.f7.params.toList Rows.digitLinesSpec.vars false W args.toList ds gs before) (hL : laidMetH Tryd.prog Rows.digitLinesRow.laid W) :
    Calls Tryd.prog 7 args W fun e W' => ∃ v, e = .returned v ∧ Rows.digitLinesSpec.post enc Tryd.prog Tryd.f7 false true false false W args v W' := by
  have whole := hW
  obtain ⟨p, q, hA, hV, rfl, -, -⟩ := hW
  rw [show Tryd.f7.params = #[9] from Tryd.params7] at hA
  have r := (show DataW.TrodAll enc Tryd.prog W 0 (fun _ => true) true [9] args.toList ds p from hA)
  obtain ⟨v0, vs0, d0, ds0, p0, q0, eargs, rfl, rfl, h0, r0⟩ := trodAll_cons r
  obtain ⟨rfl, rfl, rfl⟩ := trodAll_nil r0
  obtain rfl : args = #[v0] := by cases args; simp_all
  obtain ⟨rfl, rfl⟩ := trodVars_none hV
  obtain ⟨a0, rfl, rfl, rfl, fit0⟩ := open_string Tryd.underlying9 (hval 0 9 v0 (by rw [Tryd.params7]; rfl) rfl) h0
  simp only [List.append_nil] at whole
  refine (walk a0 W (table hL)).mono fun e W' ⟨he, kept⟩ => ?_
  subst he
  exact ⟨_, rfl, _, _, _, [], _, [], whole, trodAll_mk1 (shut_bool Tryd.underlying4 _), trodAll_cons_mk (shut_string Tryd.underlying9 fit0) (trodAll_mk0), rfl, kept.frame _, fun h => by cases h⟩

def start : Array Value := #[.string ⟨#[]⟩]
theorem reads (os : Os) {H : Type} (enc : TypeId × Value → H) : ∃ places, DataW.whole enc Tryd.prog ((laidWorld os).forCall (fun _ _ => 0) ⟨#[], start, []⟩).memory Tryd.f7.params.toList Rows.digitLinesSpec.vars false start.toList 8 = some ([.lit (.string [])], [], places) :=
  ⟨[], by kernel_rfl⟩
set_option maxRecDepth 100000 in
theorem raised (os : Os) (started : os.Started) (H : Type) (enc : TypeId × Value → H) (F : Stop.Interp) :
    ReturnsInHanded {} Tryd.checked os 7 .any ((OpenSpec.ofChange Rows.digitLinesSpec).preRow enc Tryd.prog Tryd.f7 Rows.digitLinesRow.domain false Rows.digitLinesRow.laid) (((OpenSpec.ofChange Rows.digitLinesSpec).at F).post enc Tryd.prog Tryd.f7 false true false false) := by
  obtain ⟨places, hx⟩ := reads os enc
  refine returnsInHanded_of_row (C := Tryd.checked) (s := OpenSpec.ofChange Rows.digitLinesSpec) own started (by kernel_rfl) Tryd.func7
    (witness_row_at (enc := enc) (C := Tryd.checked) false (laidWorld os) start rfl (by kernel_rfl) (by kernel_rfl) (by kernel_rfl)
      (OpenSpec.preRow_of_cond 8 hx (by kernel_rfl) (fun k hk => by cases hk) (by kernel_rfl) (laid_met os _))) ?_
  intro W base args ds gs before hval hW _ _ _ hL _ _
  exact contract H enc W base args ds gs before hval hW hL
theorem row : Rows.DigitLinesSaid :=
  OpenClaim.holds_of_cond 7 Tryd.f7 rfl rfl rfl rfl rfl rfl rfl ⟨rfl, rfl, rfl, rfl, rfl⟩ rfl rfl rfl rfl rfl (by kernel_rfl) Tryd.func7 (by kernel_rfl)
    (of_decide_eq_true (by kernel_rfl)) (by unfold Func.isWrapper; first | (rw [if_pos (by decide +kernel)]; kernel_rfl) | (rw [if_neg (by decide +kernel)]; exact ⟨rfl, rfl⟩))
    (fun os started H enc _ F => by rw [OpenClaim.pre_eq_preRow]; exact raised os started H enc F)
theorem noLooks (f : FuncId) (fn : Func) (hf : Tryd.pinned.checked.prog.funcNamed "kurgan/kurganlaw03.DigitLines" = some f) (hfn : Tryd.pinned.checked.prog.funcs[f]? = some fn) :
    false = Tryd.pinned.checked.prog.looks [] ∧ ∀ (j : Nat) t, fn.params[j]? = some t → Tryd.pinned.checked.prog.wantsStandIn t = false := by
  obtain rfl : f = 7 := Option.some.inj (hf.symm.trans (show Tryd.prog.funcNamed "kurgan/kurganlaw03.DigitLines" = some 7 by kernel_rfl))
  obtain rfl : fn = Tryd.f7 := Option.some.inj (hfn.symm.trans Tryd.func7)
  refine ⟨by kernel_rfl, fun j t ht => ?_⟩
  rw [Tryd.params7] at ht
  have mem := Array.mem_of_getElem? ht
  simp only [List.mem_toArray, List.mem_cons, List.not_mem_nil, or_false] at mem
  rcases mem with rfl
  all_goals exact (show Tryd.prog.wantsStandIn _ = false by kernel_rfl)
/-- the statement -/
theorem proved : Rows.DigitLinesCardSaid :=
  Claim7.holds_tied_plain_at .later [] _ _ _ _ row (fun _ h => by cases h) (by kernel_rfl) (fun _ h => by cases h) digitLines_row_tie rfl ⟨rfl, rfl⟩ (by kernel_rfl) rfl noLooks (by kernel_rfl)
#print axioms proved
end Go.Proofs.YtecejlpokmfjcaaDoor.digitLines
