/-
  For every int and text, kurganlaw03.DigitWrites answers true and leaves them as they were. The row and its tied card.
-/
import Derived.Test.YtecejlpokmfjcaaDoorRefW
import Derived.Test.YtecejlpokmfjcaaDoorCards
import Derived.Test.YtecejlpokmfjcaaDoorTie
import Derived.OpenShut
import Derived.ShutString
import Derived.Deep.DeepHandedRow
namespace Go.Proofs.YtecejlpokmfjcaaDoor.digitWrites
open Go.ChangeShapes Go.WideShapes Go.ChangeAt Go.RowKit
open Go.ChangeMaps (open_string shut_string)
set_option linter.unusedVariables false

theorem own : ownKnob Tryd.prog.godebug = none := by kernel_rfl

/-! what Read tells of a text that begins with the digits of a number -/
theorem nd_is (t : ByteArray) (k : Nat) (h : ∀ j, j < k → isd t j) (hn : ¬ isd t k) (hk : k ≤ t.size) : nd t = k := by
  have go : ∀ b i, i ≤ k → k ≤ i + b → ndf t b i = k := by
    intro b
    induction b with
    | zero => intro i h1 h2; rw [show i = k by omega]; exact ndf_end t 0 k hn
    | succ b ih =>
      intro i h1 h2
      rcases Nat.lt_or_ge i k with h3 | h3
      · rw [ndf_step t b i (h i h3)]; exact ih (i + 1) (by omega) (by omega)
      · rw [show i = k by omega]; exact ndf_end t (b + 1) k hn
  exact go t.size 0 (by omega) (by omega)
theorem dec_digits (u : Nat) : ∀ (i : Nat) (h : i < (Lib.decDigits u).length), 48 ≤ ((Lib.decDigits u)[i]).toNat ∧ ((Lib.decDigits u)[i]).toNat ≤ 57 := by
  induction u using Nat.strongRecOn with
  | _ u ih =>
    intro i h
    by_cases h1 : u < 10
    · simp only [Lib.decDigits_one h1] at h ⊢
      have : i = 0 := by simpa using h
      subst this
      simp
      omega
    · have e : Lib.decDigits u = Lib.decDigits (u / 10) ++ [UInt8.ofNat (48 + u % 10)] := by conv => lhs; rw [Lib.decDigits, dif_neg h1]
      simp only [e] at h ⊢
      by_cases h2 : i < (Lib.decDigits (u / 10)).length
      · rw [List.getElem_append_left h2]; exact ih (u / 10) (by omega) i h2
      · rw [List.getElem_append_right (by omega)]
        simp only [List.length_append, List.length_singleton] at h
        have : i - (Lib.decDigits (u / 10)).length = 0 := by omega
        simp only [this]
        simp
        omega
theorem dec_head (u : Nat) (hu : u ≠ 0) (h : 0 < (Lib.decDigits u).length) : ((Lib.decDigits u)[0]).toNat ≠ 48 := by
  induction u using Nat.strongRecOn with
  | _ u ih =>
    by_cases h1 : u < 10
    · simp only [Lib.decDigits_one h1]
      simp
      omega
    · have e : Lib.decDigits u = Lib.decDigits (u / 10) ++ [UInt8.ofNat (48 + u % 10)] := by conv => lhs; rw [Lib.decDigits, dif_neg h1]
      have hl : 0 < (Lib.decDigits (u / 10)).length := by
        rw [Lib.decDigits_length]; unfold Lib.nDigits; split <;> omega
      simp only [e]
      rw [List.getElem_append_left hl]
      exact ih (u / 10) (by omega) (by omega) hl
theorem dec_value (t : ByteArray) (u : Nat) (h : ∀ (i : Nat) (hi : i < (Lib.decDigits u).length), t.get! i = (Lib.decDigits u)[i]) : dv t (Lib.decDigits u).length = u := by
  induction u using Nat.strongRecOn with
  | _ u ih =>
    by_cases h1 : u < 10
    · have e := Lib.decDigits_one h1
      have h0 := h 0 (by rw [e]; simp)
      simp only [e] at h0
      rw [e]
      show dv t (0 + 1) = u
      rw [dv_succ, dv_zero, h0]
      simp
      omega
    · have e : Lib.decDigits u = Lib.decDigits (u / 10) ++ [UInt8.ofNat (48 + u % 10)] := by conv => lhs; rw [Lib.decDigits, dif_neg h1]
      have hl : (Lib.decDigits u).length = (Lib.decDigits (u / 10)).length + 1 := by rw [e]; simp
      have h0 := h (Lib.decDigits (u / 10)).length (by omega)
      simp only [e] at h0
      rw [List.getElem_append_right (by omega)] at h0
      simp only [Nat.sub_self, List.getElem_singleton] at h0
      rw [hl, dv_succ, h0, ih (u / 10) (by omega) (fun i hi => by
        have := h i (by omega)
        simp only [e] at this
        rw [List.getElem_append_left hi] at this
        exact this)]
      simp
      omega
/-- the answer of Read for a text that begins with an int and an x -/
theorem back_neg (t : ByteArray) (h : t.get! 0 = 45) (ht : 0 < t.size) : rdv t 0 = (0, 0, 4) := by
  have hn : ¬ isd t 0 := by unfold isd; rw [h]; exact fun hc => absurd hc.2.1 (by decide)
  have : nd t = 0 := nd_is t 0 (fun j hj => by omega) hn (by omega)
  unfold rdv
  rw [if_pos (Or.inl this)]
theorem back_pos (t : ByteArray) (u : Nat) (h : ∀ (i : Nat) (hi : i < (Lib.decDigits u).length), t.get! i = (Lib.decDigits u)[i]) (hx : t.get! (Lib.decDigits u).length = 120) (ht : (Lib.decDigits u).length < t.size) :
    rdv t 0 = if 18 < (Lib.decDigits u).length then (0, 0, 5) else ((u : Int), ((Lib.decDigits u).length : Int), 0) := by
  have hl : 0 < (Lib.decDigits u).length := by rw [Lib.decDigits_length]; unfold Lib.nDigits; split <;> omega
  have hd : ∀ j, j < (Lib.decDigits u).length → isd t j := fun j hj => by
    unfold isd; rw [h j hj]; exact ⟨by omega, dec_digits u j hj⟩
  have hn : ¬ isd t (Lib.decDigits u).length := by unfold isd; rw [hx]; intro hc; have := hc.2.2; revert this; decide
  have e := nd_is t _ hd hn (by omega)
  unfold rdv
  rw [e, if_neg]
  · split
    · rfl
    · rw [dec_value t u h]; simp
  · rintro (h0 | ⟨h1, h2⟩)
    · omega
    · rw [h 0 hl] at h2
      by_cases hu : u = 0
      · subst hu
        rw [Lib.decDigits_one (by omega)] at h1
        simp at h1
      · exact dec_head u hu hl h2

theorem cat_sz (L : List UInt8) (B : ByteArray) : ((⟨L.toArray⟩ : ByteArray) ++ (⟨#[120]⟩ : ByteArray) ++ B).size = L.length + 1 + B.size := by
  rw [ByteArray.size_append, ByteArray.size_append]; rfl
theorem cat_get (L : List UInt8) (B : ByteArray) (i : Nat) (hi : i < L.length) : ((⟨L.toArray⟩ : ByteArray) ++ (⟨#[120]⟩ : ByteArray) ++ B).get! i = L[i] := by
  have hs := cat_sz L B
  have h1 : i < ((⟨L.toArray⟩ : ByteArray) ++ (⟨#[120]⟩ : ByteArray)).size := by rw [ByteArray.size_append]; show i < L.length + 1; omega
  rw [get_of _ i (by omega), ByteArray.getElem_append_left h1, ByteArray.getElem_append_left (show i < (⟨L.toArray⟩ : ByteArray).size from hi)]
  rfl
theorem cat_x (L : List UInt8) (B : ByteArray) : ((⟨L.toArray⟩ : ByteArray) ++ (⟨#[120]⟩ : ByteArray) ++ B).get! L.length = 120 := by
  have hs := cat_sz L B
  have h1 : L.length < ((⟨L.toArray⟩ : ByteArray) ++ (⟨#[120]⟩ : ByteArray)).size := by rw [ByteArray.size_append]; show L.length < L.length + 1; omega
  have h2 : (⟨L.toArray⟩ : ByteArray).size = L.length := rfl
  rw [get_of _ _ (by omega), ByteArray.getElem_append_left h1, ByteArray.getElem_append_right (by omega)]
  simp only [h2, Nat.sub_self]
  rfl
theorem back (n : Int) (B : ByteArray) : rdv ((⟨(Lib.itoa n).toArray⟩ : ByteArray) ++ (⟨#[120]⟩ : ByteArray) ++ B) 0 = if n < 0 then (0, 0, 4) else if 18 < (Lib.itoa n).length then (0, 0, 5) else (n, ((Lib.itoa n).length : Int), 0) := by
  have hs := cat_sz (Lib.itoa n) B
  by_cases h : n < 0
  · rw [if_pos h]
    obtain ⟨u, rfl⟩ : ∃ u : Nat, n = -(u : Int) := ⟨n.natAbs, by omega⟩
    rw [Lib.itoa_neg u (by omega)] at hs ⊢
    refine back_neg _ ?_ (by rw [hs]; simp; omega)
    rw [cat_get _ _ 0 (by simp)]
    rfl
  · rw [if_neg h]
    obtain ⟨u, rfl⟩ : ∃ u : Nat, n = (u : Int) := ⟨n.toNat, by omega⟩
    rw [Lib.itoa_nonneg u] at hs ⊢
    exact back_pos _ u (fun i hi => cat_get _ _ i hi) (cat_x _ _) (by omega)
set_option maxRecDepth 100000 in
theorem walk (n : Int) (fit : (Lit.int .i64 n).wf = true) (q : ByteArray) (w : World) (ht : Tab w) :
    Calls Tryd.prog 4 #[.int .i64 n, .string q] w fun e w' => e = .returned (.bool true) ∧ Below w.heap.size w w' := by
  obtain ⟨n1, n2⟩ := bounds_i64 fit
  have HD := Lib.hid (fun W (h : Tab W) => digits_any W h)
  have HW := Lib.hid (fun W (h : Tab W) => write_any n n1 n2 W h)
  have HF := Lib.hid (fun W => refwrite_any n n1 n2 W)
  have HT := Lib.hid ht
  clear ht fit
  have hS21 : (⟨(Lib.itoa n).toArray⟩ : ByteArray).size ≤ 21 := Lib.itoa_length_le n n1 n2
  generalize hL : Lib.itoa n = L at *
  generalize hS : (⟨L.toArray⟩ : ByteArray) = S at *
  have HS := Lib.hid hS
  have HL := Lib.hid hL
  have hSx : (S ++ (⟨#[120]⟩ : ByteArray)).size ≤ 22 := by rw [ByteArray.size_append]; show S.size + 1 ≤ 22; omega
  have hB : (q.extract 0 (min (q.size : Int) 20).toNat).size ≤ 20 := by rw [ByteArray.size_extract]; omega
  have hl : S.size = L.length := by rw [← hS]; rfl
  have HE0 := back n (q.extract 0 (min (q.size : Int) 20).toNat)
  rw [hL, hS] at HE0
  have HR0 := fun W => read_in (S ++ (⟨#[120]⟩ : ByteArray) ++ q.extract 0 (min (q.size : Int) 20).toNat) _ 0 (by omega) rfl (by rw [ByteArray.size_append]; omega) W
  rw [ByteArray.extract_zero_size] at HR0
  obtain ⟨x, y, z, hE, hR⟩ : ∃ x y z : Int, (x, y, z) = (if n < 0 then (0, 0, 4) else if 18 < L.length then (0, 0, 5) else (n, (L.length : Int), 0) : Int × Int × Int) ∧
      (∀ W, Calls Tryd.prog 9 #[.string (S ++ (⟨#[120]⟩ : ByteArray) ++ q.extract 0 (min (q.size : Int) 20).toNat), .int .i64 0] W fun e w' => e = .returned (.tuple #[.int .i64 x, .int .i64 y, .int .i64 z]) ∧ Below W.heap.size W w') :=
    ⟨_, _, _, HE0, HR0⟩
  have HR := Lib.hid hR
  rw [← hl] at hE
  have HE := Lib.hid hE
  clear hS hL HE0 HR0 hE hR hl
  go_enter Tryd.func4, Tryd.ntmps4
  go_wp2_with fail
  refine (HW.out _ HT.out).mono ?_; rintro e w1 ⟨rfl, hb1⟩
  have HT1 := Lib.hid (tab_keep HT.out hb1)
  go_wp2_with fail
  refine (HD.out _ HT1.out).mono ?_; rintro e w2 ⟨rfl, hb2⟩
  go_wp2_with fail
  refine (HF.out _).mono ?_; rintro e w3 ⟨rfl, hb3⟩
  go_wp2_with fail
  refine (HR.out _).mono ?_; rintro e w4 ⟨rfl, hb4⟩
  have hbb := bl_tr (bl_tr (bl_tr hb1 hb2) hb3) hb4
  by_cases hn : n < 0
  · obtain ⟨rfl, rfl, rfl⟩ : x = 0 ∧ y = 0 ∧ z = 4 := by have h := HE.out; rw [if_pos hn] at h; simpa using h
    go_wp2
    go_ret
    exact ⟨rfl, hbb⟩
  · by_cases h18 : 18 < S.size
    · obtain ⟨rfl, rfl, rfl⟩ : x = 0 ∧ y = 0 ∧ z = 5 := by have h := HE.out; rw [if_neg hn, if_pos h18] at h; simpa using h
      go_wp2
      go_ret
      exact ⟨rfl, hbb⟩
    · have hx : x = n ∧ y = S.size ∧ z = 0 := by have h := HE.out; rw [if_neg hn, if_neg h18] at h; simpa using h
      obtain ⟨h1, h2, h3⟩ := hx
      rw [h1, h2, h3]
      clear h1 h2 h3
      go_wp2
      go_ret
      exact ⟨rfl, hbb⟩

theorem contract (H : Type) (enc : TypeId × Value → H) (W : World) (base : Nat) (args : Array Value) (ds gs : List (DataW H)) (before : List MemPlace)
    (hval : ∀ (j : Nat) t v, Tryd.f4.params[j]? = some t → args[j]? = some v → Value.okWide Tryd.prog W .any base t v)
    (hW : DataW.Whole enc Tryd.prog Tryd.f4.params.toList Rows.digitWritesSpec.vars false W args.toList ds gs before) (hL : laidMetH Tryd.prog Rows.digitWritesRow.laid W) :
    Calls Tryd.prog 4 args W fun e W' => ∃ v, e = .returned v ∧ Rows.digitWritesSpec.post enc Tryd.prog Tryd.f4 false true false false W args v W' := by
  have whole := hW
  obtain ⟨p, q, hA, hV, rfl, -, -⟩ := hW
  rw [show Tryd.f4.params = #[3, 9] from Tryd.params4] at hA
  have r := (show DataW.TrodAll enc Tryd.prog W 0 (fun _ => true) true [3, 9] args.toList ds p from hA)
  obtain ⟨v0, vs0, d0, ds0, p0, q0, eargs, rfl, rfl, h0, r0⟩ := trodAll_cons r
  obtain ⟨v1, vs1, d1, ds1, p1, q1, rfl, rfl, rfl, h1, r1⟩ := trodAll_cons r0
  obtain ⟨rfl, rfl, rfl⟩ := trodAll_nil r1
  obtain rfl : args = #[v0, v1] := by cases args; simp_all
  obtain ⟨rfl, rfl⟩ := trodVars_none hV
  obtain ⟨a0, rfl, rfl, rfl, fit0⟩ := open_int Tryd.underlying3 (hval 0 3 v0 (by rw [Tryd.params4]; rfl) rfl) h0
  obtain ⟨a1, rfl, rfl, rfl, fit1⟩ := open_string Tryd.underlying9 (hval 1 9 v1 (by rw [Tryd.params4]; rfl) rfl) h1
  simp only [List.append_nil] at whole
  refine (walk a0 fit0 a1 W (table hL)).mono fun e W' ⟨he, kept⟩ => ?_
  subst he
  exact ⟨_, rfl, _, _, _, [], _, [], whole, trodAll_mk1 (shut_bool Tryd.underlying4 _), trodAll_cons_mk (shut_int Tryd.underlying3 fit0) (trodAll_cons_mk (shut_string Tryd.underlying9 fit1) (trodAll_mk0)), rfl, kept.frame _, fun h => by cases h⟩

def start : Array Value := #[.int .i64 0, .string ⟨#[]⟩]
theorem reads (os : Os) {H : Type} (enc : TypeId × Value → H) : ∃ places, DataW.whole enc Tryd.prog ((laidWorld os).forCall (fun _ _ => 0) ⟨#[], start, []⟩).memory Tryd.f4.params.toList Rows.digitWritesSpec.vars false start.toList 8 = some ([.lit (.int .i64 0), .lit (.string [])], [], places) :=
  ⟨[], by kernel_rfl⟩
set_option maxRecDepth 100000 in
theorem raised (os : Os) (started : os.Started) (H : Type) (enc : TypeId × Value → H) (F : Stop.Interp) :
    ReturnsInHanded {} Tryd.checked os 4 .any ((OpenSpec.ofChange Rows.digitWritesSpec).preRow enc Tryd.prog Tryd.f4 Rows.digitWritesRow.domain false Rows.digitWritesRow.laid) (((OpenSpec.ofChange Rows.digitWritesSpec).at F).post enc Tryd.prog Tryd.f4 false true false false) := by
  obtain ⟨places, hx⟩ := reads os enc
  refine returnsInHanded_of_row (C := Tryd.checked) (s := OpenSpec.ofChange Rows.digitWritesSpec) own started (by kernel_rfl) Tryd.func4
    (witness_row_at (enc := enc) (C := Tryd.checked) false (laidWorld os) start rfl (by kernel_rfl) (by kernel_rfl) (by kernel_rfl)
      (OpenSpec.preRow_of_cond 8 hx (by kernel_rfl) (fun k hk => by cases hk) (by kernel_rfl) (laid_met os _))) ?_
  intro W base args ds gs before hval hW _ _ _ hL _ _
  exact contract H enc W base args ds gs before hval hW hL
theorem row : Rows.DigitWritesSaid :=
  OpenClaim.holds_of_cond 4 Tryd.f4 rfl rfl rfl rfl rfl rfl rfl ⟨rfl, rfl, rfl, rfl, rfl⟩ rfl rfl rfl rfl rfl (by kernel_rfl) Tryd.func4 (by kernel_rfl)
    (of_decide_eq_true (by kernel_rfl)) (by unfold Func.isWrapper; first | (rw [if_pos (by decide +kernel)]; kernel_rfl) | (rw [if_neg (by decide +kernel)]; exact ⟨rfl, rfl⟩))
    (fun os started H enc _ F => by rw [OpenClaim.pre_eq_preRow]; exact raised os started H enc F)
theorem noLooks (f : FuncId) (fn : Func) (hf : Tryd.pinned.checked.prog.funcNamed "kurgan/kurganlaw03.DigitWrites" = some f) (hfn : Tryd.pinned.checked.prog.funcs[f]? = some fn) :
    false = Tryd.pinned.checked.prog.looks [] ∧ ∀ (j : Nat) t, fn.params[j]? = some t → Tryd.pinned.checked.prog.wantsStandIn t = false := by
  obtain rfl : f = 4 := Option.some.inj (hf.symm.trans (show Tryd.prog.funcNamed "kurgan/kurganlaw03.DigitWrites" = some 4 by kernel_rfl))
  obtain rfl : fn = Tryd.f4 := Option.some.inj (hfn.symm.trans Tryd.func4)
  refine ⟨by kernel_rfl, fun j t ht => ?_⟩
  rw [Tryd.params4] at ht
  have mem := Array.mem_of_getElem? ht
  simp only [List.mem_toArray, List.mem_cons, List.not_mem_nil, or_false] at mem
  rcases mem with rfl | rfl
  all_goals exact (show Tryd.prog.wantsStandIn _ = false by kernel_rfl)
/-- the statement -/
theorem proved : Rows.DigitWritesCardSaid :=
  Claim7.holds_tied_plain_at .later [] _ _ _ _ row (fun _ h => by cases h) (by kernel_rfl) (fun _ h => by cases h) digitWrites_row_tie rfl ⟨rfl, rfl⟩ (by kernel_rfl) rfl noLooks (by kernel_rfl)
#print axioms proved
end Go.Proofs.YtecejlpokmfjcaaDoor.digitWrites
