/-
  For every text and place, kurganlaw03.DigitPlaces answers true and leaves them as they were. The row and its tied card.
-/
import Derived.Test.YtecejlpokmfjcaaDoorDigs
import Derived.Test.YtecejlpokmfjcaaDoorMoreW
import Derived.Test.YtecejlpokmfjcaaDoorCards
import Derived.Test.YtecejlpokmfjcaaDoorTie
import Derived.OpenShut
import Derived.ShutString
import Derived.Deep.DeepHandedRow
namespace Go.Proofs.YtecejlpokmfjcaaDoor.digitPlaces
open Go.ChangeShapes Go.WideShapes Go.ChangeAt Go.RowKit
open Go.ChangeMaps (open_string shut_string)
set_option linter.unusedVariables false

theorem own : ownKnob Tryd.prog.godebug = none := by kernel_rfl

theorem plc_go (s : ByteArray) (at' : Int) (b pos : Nat) (l c : Int) (hp : pos < s.size) (ha : (pos : Int) < at') :
    plc s at' (b + 1) pos l c = if (Utf8.decode s pos).1 = 10 then plc s at' b (pos + (Utf8.decode s pos).2) (l + 1) 1 else plc s at' b (pos + (Utf8.decode s pos).2) l (c + 1) := by
  conv => lhs; unfold plc
  rw [if_pos ⟨hp, ha⟩]
theorem sgn_go (s : ByteArray) (b pos : Nat) (n : Int) (hp : pos < s.size) : sgn s (b + 1) pos n = sgn s b (pos + (Utf8.decode s pos).2) (n + 1) := by
  conv => lhs; unfold sgn
  rw [if_pos hp]
theorem dec_ten (s : ByteArray) (pos : Nat) (h : pos < s.size) : (Utf8.decode s pos).1 = 10 ↔ (s[pos]'h).toNat = 10 := by
  by_cases ha : (s[pos]'h).toNat < 128
  · rw [decode_ascii s pos h ha]
  · have := (decode_high s pos h (by omega)).1
    omega
def RpAt (s : ByteArray) (at' : Int) (w : World) (l c n i : Value) (wr : World) : Prop :=
  wr = w ∧ ∃ (pos b : Nat) (x y m : Int), i = .int .i64 (pos : Int) ∧ l = .int .i64 x ∧ c = .int .i64 y ∧ n = .int .i64 m ∧
    Hid (plc s at' b pos x y = plc s at' s.size 0 1 1) ∧ Hid (sgn s b pos m = sgn s s.size 0 0) ∧ s.size ≤ pos + b ∧ 1 ≤ x ∧ 1 ≤ y ∧ x ≤ pos + 1 ∧ y ≤ pos + 1 ∧ 0 ≤ m ∧ m ≤ pos ∧ pos ≤ s.size
theorem pv {x y : Int} (h : x = y) : Value.int .i64 x = .int .i64 y := by rw [h]
set_option maxRecDepth 100000 in
set_option maxHeartbeats 400000 in
theorem refplace_any (s : ByteArray) (at' : Int) (hs : s.size ≤ 2000) (w : World) :
    Calls Tryd.prog 14 #[.string s, .int .i64 at'] w fun e w' => e = .returned (.tuple #[.int .i64 (plc s at' s.size 0 1 1).1, .int .i64 (plc s at' s.size 0 1 1).2, .int .i64 (sgn s s.size 0 0)]) ∧ w = w' := by
  have A0 : RpAt s at' w (.int .i64 1) (.int .i64 1) (.int .i64 0) (.int .i64 0) w := ⟨rfl, 0, s.size, 1, 1, 0, rfl, rfl, rfl, rfl, Lib.hid rfl, Lib.hid rfl, by omega, by omega, by omega, by omega, by omega, by omega, by omega, by omega⟩
  go_enter Tryd.func14, Tryd.ntmps14
  go_wp2
  go_loopw [7, 8, 9, 10] (fun l c n i wr => RpAt s at' w l c n i wr) (fun _ _ _ i _ => s.size - (intOf i).toNat)
  case atStart => exact A0
  case round =>
    clear A0
    obtain ⟨rfl, pos, b, x, y, m, rfl, rfl, rfl, rfl, HP, HS, hb, x1, y1, x2, y2, m1, m2, hp4⟩ := hrel
    by_cases hp : pos < s.size
    · have HM := Lib.hid (fun W => more_any s pos hp hs W)
      have hwd := width_pos s pos hp
      have hin := decode_in s pos hp
      have ten := dec_ten s pos hp
      obtain ⟨b, rfl⟩ : ∃ b', b = b' + 1 := ⟨b - 1, by omega⟩
      have HG := Lib.hid (fun ha => plc_go s at' b pos x y hp ha)
      have HS2 := Lib.hid ((sgn_go s b pos m hp).symm.trans HS.out)
      have HE := Lib.hid (fun c => (plc_end s at' b (pos + (Utf8.decode s pos).2) x y c))
      have HE2 := Lib.hid (fun c => (plc_end s at' (b + 1) pos x y c))
      have TEN := Lib.hid ten
      clear ten
      generalize hdd : (Utf8.decode s pos).2 = d at *
      generalize hrr : (Utf8.decode s pos).1 = r at *
      clear hdd hrr
      by_cases ha : (pos : Int) < at'
      · by_cases hn : (s[pos]'hp).toNat = 10
        · have HQ := Lib.hid ((HG.out ha).symm.trans HP.out)
          have hq := HQ.out
          rw [if_pos (TEN.out.2 hn)] at hq
          have HQ2 := Lib.hid hq
          clear hq HG HE HE2
          go_wp2_with fail
          refine (HM.out _).mono ?_; rintro e w1 ⟨rfl, rfl⟩
          go_wp2
          exact ⟨⟨rfl, pos + d, b, x + 1, 1, m + 1, pv (by omega), rfl, rfl, rfl, HQ2, HS2, by omega, by omega, by omega, by omega, by omega, by omega, by omega, by omega⟩, by simp [intOf]; omega⟩
        · have hq := (HG.out ha).symm.trans HP.out
          rw [if_neg (fun h => hn (TEN.out.1 h))] at hq
          have HQ2 := Lib.hid hq
          have hn' : ((s[pos]'hp).toNat == 10) = false := by simp; exact hn
          have hn2 : (((s[pos]'hp).toNat : Int) == 10) = false := by simp; omega
          clear hq HG HE HE2 hn
          go_wp2_with fail
          refine (HM.out _).mono ?_; rintro e w1 ⟨rfl, rfl⟩
          go_wp2
          exact ⟨⟨rfl, pos + d, b, x, y + 1, m + 1, pv (by omega), rfl, rfl, rfl, HQ2, HS2, by omega, by omega, by omega, by omega, by omega, by omega, by omega, by omega⟩, by simp [intOf]; omega⟩
      · have HQ2 := Lib.hid ((HE.out (by omega)).trans ((HE2.out (by omega)).symm.trans HP.out))
        clear HG HE HE2
        go_wp2_with fail
        refine (HM.out _).mono ?_; rintro e w1 ⟨rfl, rfl⟩
        go_wp2
        exact ⟨⟨rfl, pos + d, b, x, y, m + 1, pv (by omega), rfl, rfl, rfl, HQ2, HS2, by omega, by omega, by omega, by omega, by omega, by omega, by omega, by omega⟩, by simp [intOf]; omega⟩
    · have E1 := Lib.hid (HP.out.symm.trans (plc_end s at' b pos x y (fun h => hp h.1)))
      have E2 := Lib.hid (HS.out.symm.trans (sgn_end s b pos m hp))
      go_wp2
      go_ret3
      exact ⟨by rw [E1.out, E2.out]; rfl, rfl⟩
set_option maxRecDepth 100000 in
theorem walk (s : ByteArray) (a : Int) (fit : (Lit.int .i64 a).wf = true) (w : World) (ht : Tab w) :
    Calls Tryd.prog 5 #[.string s, .int .i64 a] w fun e w' => e = .returned (.bool true) ∧ Below w.heap.size w w' := by
  have HD := Lib.hid (fun W (h : Tab W) => digits_any W h)
  have HT := Lib.hid ht
  clear ht
  by_cases hs : s.size ≤ 2000
  · have h1 := fun W => place_any s a hs W
    have h2 := fun W => refplace_any s a hs W
    have h3 := fun W => signs_any s hs W
    generalize plc s a s.size 0 1 1 = r at *
    generalize sgn s s.size 0 0 = m at *
    obtain ⟨x, y⟩ := r
    have H1 := Lib.hid h1
    have H2 := Lib.hid h2
    have H3 := Lib.hid h3
    clear h1 h2 h3 fit
    go_enter Tryd.func5, Tryd.ntmps5
    go_wp2_with fail
    refine (H1.out _).mono ?_; rintro e w1 ⟨rfl, hb1⟩
    go_wp2_with fail
    refine (H2.out _).mono ?_; rintro e w2 ⟨rfl, rfl⟩
    have HT1 := Lib.hid (tab_keep HT.out hb1)
    go_wp2_with fail
    refine (HD.out _ HT1.out).mono ?_; rintro e w3 ⟨rfl, hb3⟩
    go_wp2_with fail
    refine (H3.out _).mono ?_; rintro e w4 ⟨rfl, hb4⟩
    go_wp2
    go_ret
    exact ⟨rfl, bl_tr (bl_tr hb1 hb3) hb4⟩
  · clear fit
    go_enter Tryd.func5, Tryd.ntmps5
    go_wp2_with fail
    refine (HD.out _ HT.out).mono ?_; rintro e w1 ⟨rfl, hb1⟩
    go_wp2
    go_ret
    exact ⟨rfl, hb1⟩

theorem contract (H : Type) (enc : TypeId × Value → H) (W : World) (base : Nat) (args : Array Value) (ds gs : List (DataW H)) (before : List MemPlace)
    (hval : ∀ (j : Nat) t v, Tryd.f5.params[j]? = some t → args[j]? = some v → Value.okWide Tryd.prog W .any base t v)
    (hW : DataW.Whole enc Tryd.prog Tryd.f5.params.toList Rows.digitPlacesSpec.vars false W args.toList ds gs before) (hL : laidMetH Tryd.prog Rows.digitPlacesRow.laid W) :
    Calls Tryd.prog 5 args W fun e W' => ∃ v, e = .returned v ∧ Rows.digitPlacesSpec.post enc Tryd.prog Tryd.f5 false true false false W args v W' := by
  have whole := hW
  obtain ⟨p, q, hA, hV, rfl, -, -⟩ := hW
  rw [show Tryd.f5.params = #[9, 3] from Tryd.params5] at hA
  have r := (show DataW.TrodAll enc Tryd.prog W 0 (fun _ => true) true [9, 3] args.toList ds p from hA)
  obtain ⟨v0, vs0, d0, ds0, p0, q0, eargs, rfl, rfl, h0, r0⟩ := trodAll_cons r
  obtain ⟨v1, vs1, d1, ds1, p1, q1, rfl, rfl, rfl, h1, r1⟩ := trodAll_cons r0
  obtain ⟨rfl, rfl, rfl⟩ := trodAll_nil r1
  obtain rfl : args = #[v0, v1] := by cases args; simp_all
  obtain ⟨rfl, rfl⟩ := trodVars_none hV
  obtain ⟨a0, rfl, rfl, rfl, fit0⟩ := open_string Tryd.underlying9 (hval 0 9 v0 (by rw [Tryd.params5]; rfl) rfl) h0
  obtain ⟨a1, rfl, rfl, rfl, fit1⟩ := open_int Tryd.underlying3 (hval 1 3 v1 (by rw [Tryd.params5]; rfl) rfl) h1
  simp only [List.append_nil] at whole
  refine (walk a0 a1 fit1 W (table hL)).mono fun e W' ⟨he, kept⟩ => ?_
  subst he
  exact ⟨_, rfl, _, _, _, [], _, [], whole, trodAll_mk1 (shut_bool Tryd.underlying4 _), trodAll_cons_mk (shut_string Tryd.underlying9 fit0) (trodAll_cons_mk (shut_int Tryd.underlying3 fit1) (trodAll_mk0)), rfl, kept.frame _, fun h => by cases h⟩

def start : Array Value := #[.string ⟨#[]⟩, .int .i64 0]
theorem reads (os : Os) {H : Type} (enc : TypeId × Value → H) : ∃ places, DataW.whole enc Tryd.prog ((laidWorld os).forCall (fun _ _ => 0) ⟨#[], start, []⟩).memory Tryd.f5.params.toList Rows.digitPlacesSpec.vars false start.toList 8 = some ([.lit (.string []), .lit (.int .i64 0)], [], places) :=
  ⟨[], by kernel_rfl⟩
set_option maxRecDepth 100000 in
theorem raised (os : Os) (started : os.Started) (H : Type) (enc : TypeId × Value → H) (F : Stop.Interp) :
    ReturnsInHanded {} Tryd.checked os 5 .any ((OpenSpec.ofChange Rows.digitPlacesSpec).preRow enc Tryd.prog Tryd.f5 Rows.digitPlacesRow.domain false Rows.digitPlacesRow.laid) (((OpenSpec.ofChange Rows.digitPlacesSpec).at F).post enc Tryd.prog Tryd.f5 false true false false) := by
  obtain ⟨places, hx⟩ := reads os enc
  refine returnsInHanded_of_row (C := Tryd.checked) (s := OpenSpec.ofChange Rows.digitPlacesSpec) own started (by kernel_rfl) Tryd.func5
    (witness_row_at (enc := enc) (C := Tryd.checked) false (laidWorld os) start rfl (by kernel_rfl) (by kernel_rfl) (by kernel_rfl)
      (OpenSpec.preRow_of_cond 8 hx (by kernel_rfl) (fun k hk => by cases hk) (by kernel_rfl) (laid_met os _))) ?_
  intro W base args ds gs before hval hW _ _ _ hL _ _
  exact contract H enc W base args ds gs before hval hW hL
theorem row : Rows.DigitPlacesSaid :=
  OpenClaim.holds_of_cond 5 Tryd.f5 rfl rfl rfl rfl rfl rfl rfl ⟨rfl, rfl, rfl, rfl, rfl⟩ rfl rfl rfl rfl rfl (by kernel_rfl) Tryd.func5 (by kernel_rfl)
    (of_decide_eq_true (by kernel_rfl)) (by unfold Func.isWrapper; first | (rw [if_pos (by decide +kernel)]; kernel_rfl) | (rw [if_neg (by decide +kernel)]; exact ⟨rfl, rfl⟩))
    (fun os started H enc _ F => by rw [OpenClaim.pre_eq_preRow]; exact raised os started H enc F)
theorem noLooks (f : FuncId) (fn : Func) (hf : Tryd.pinned.checked.prog.funcNamed "kurgan/kurganlaw03.DigitPlaces" = some f) (hfn : Tryd.pinned.checked.prog.funcs[f]? = some fn) :
    false = Tryd.pinned.checked.prog.looks [] ∧ ∀ (j : Nat) t, fn.params[j]? = some t → Tryd.pinned.checked.prog.wantsStandIn t = false := by
  obtain rfl : f = 5 := Option.some.inj (hf.symm.trans (show Tryd.prog.funcNamed "kurgan/kurganlaw03.DigitPlaces" = some 5 by kernel_rfl))
  obtain rfl : fn = Tryd.f5 := Option.some.inj (hfn.symm.trans Tryd.func5)
  refine ⟨by kernel_rfl, fun j t ht => ?_⟩
  rw [Tryd.params5] at ht
  have mem := Array.mem_of_getElem? ht
  simp only [List.mem_toArray, List.mem_cons, List.not_mem_nil, or_false] at mem
  rcases mem with rfl | rfl
  all_goals exact (show Tryd.prog.wantsStandIn _ = false by kernel_rfl)
/-- the statement -/
theorem proved : Rows.DigitPlacesCardSaid :=
  Claim7.holds_tied_plain_at .later [] _ _ _ _ row (fun _ h => by cases h) (by kernel_rfl) (fun _ h => by cases h) digitPlaces_row_tie rfl ⟨rfl, rfl⟩ (by kernel_rfl) rfl noLooks (by kernel_rfl)
#print axioms proved
end Go.Proofs.YtecejlpokmfjcaaDoor.digitPlaces
