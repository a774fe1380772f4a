import Derived.Test.YteoionlnnjcggaaSc
import Derived.Test.YteoionlnnjcggaaDOne
import Derived.Test.YteoionlnnjcggaaKs
import Derived.Test.YteoionlnnjcggaaKt

/-
  knap: the reference's Cost of any choice; how many answers it counts.
-/
namespace Go.Proofs.Yteoionlnnjcggaa.kn
open Go.RowKit
set_option linter.unusedVariables false
set_option maxRecDepth 100000 in
set_option maxHeartbeats 8000000 in
theorem rcost_full (N C : Int) (wl vl : List Int) (cl : List (List Int)) (xs : List Int) (wa va ca : Option Addr) (wc vc cc : Nat) (v : Value) (w : World) (hP : Prob w wl vl cl wa va ca) (hz : chk 1 N C wl vl cl = 0) (hN : (wl.length : Int) = N) (lv : vl.length = wl.length) (n2 : wl.length ≤ 64)
    (io : ∀ j, j < wl.length → (0 ≤ nt wl j ∧ nt wl j ≤ 2147483647) ∧ (0 ≤ nt vl j ∧ nt vl j ≤ 2147483647)) (hx : Ls v xs w) (lx : xs.length = wl.length) (bits : ∀ j, j < xs.length → nt xs j = 0 ∨ nt xs j = 1) :
    Calls Try.prog 25 #[.agg #[.int .i64 1, .int .i64 N, .int .i64 C, .slice wa wl.length wc, .slice va vl.length vc, .slice ca cl.length cc], v] w fun e w' => ∃ c, e = .returned (.tuple #[.int .i64 c, .int .i64 (if ws wl xs wl.length ≤ C then 0 else 9)]) ∧ Below w.heap.size w w' := by
  subst hN
  have BA := bl_al (Below.refl _ w) (.cells #[.int .i64 1, .int .i64 (wl.length : Int), .int .i64 C, .slice wa wl.length wc, .slice va vl.length vc, .slice ca cl.length cc] 25)
  have PA : Prob _ wl vl cl wa va ca := ⟨hP.1.keep BA, hP.2.1.keep BA, hP.2.2.1.keep BA, hP.2.2.2⟩
  have CH := ref_any 1 (wl.length : Int) C wl vl cl wa va ca wc vc cc _ PA
  rw [hz] at CH
  replace CH := Lib.hid CH
  have q0 := heap_alloc_new w (.cells #[.int .i64 1, .int .i64 (wl.length : Int), .int .i64 C, .slice wa wl.length wc, .slice va vl.length vc, .slice ca cl.length cc] 25)
  obtain ⟨c0, c1, c2, c3, c4, c5⟩ := box6 q0
  have Q0 := Lib.hid q0
  have HBA := Lib.hid BA
  obtain ⟨pa, pc, rfl⟩ := hx.form
  have HX := Lib.hid (fun (X : World) (h : Below w.heap.size w X) => hx.up h)
  have HW := Lib.hid (fun (X : World) (h : Below w.heap.size w X) => hP.1.keep h)
  have HV := Lib.hid (fun (X : World) (h : Below w.heap.size w X) => hP.2.1.keep h)
  have IO := Lib.hid io
  have LV := Lib.hid lv
  have LX := Lib.hid lx
  have BT := Lib.hid bits
  have CB := Lib.hid (fun k (hk : k ≤ wl.length) => cs_b (vl := vl) xs (fun j hj => (io j (by omega)).2) k (by omega))
  have WB := Lib.hid (fun k (hk : k ≤ wl.length) => ws_b (wl := wl) xs (fun j hj => (io j hj).1) k hk)
  have b0 : ((xs.length : Int) != (wl.length : Int)) = false := by rw [lx]; simp
  clear BA PA q0 hx hP io lv lx bits hz
  go_enter Try.func25, Try.ntmps25
  go_wp2_with fail
  refine CH.out.mono ?_; rintro e w2 ⟨rfl, hb⟩
  have HB := Lib.hid (bl_tr HBA.out hb)
  have E2 := Lib.hid ((hb.block _ (lt_hp Q0.out)).trans Q0.out)
  clear c0 c1 c2 c3 c4 c5
  obtain ⟨c0, c1, c2, c3, c4, c5⟩ := box6 E2.out
  clear hb CH Q0 HBA
  go_wp2
  go_loop [11, 9, 10] (fun i a c => ∃ k : Nat, i = .int .i64 (k : Int) ∧ a = .int .i64 (ws wl xs k) ∧ c = .int .i64 (cs vl xs k) ∧ k ≤ wl.length) (fun i _ _ => wl.length - (intOf i).toNat)
  case atStart => exact ⟨0, rfl, rfl, rfl, Nat.zero_le _⟩
  case round =>
    obtain ⟨k, rfl, rfl, rfl, hk⟩ := hrel
    have cb := CB.out k hk
    have wb := WB.out k hk
    by_cases hlt : k < wl.length
    · obtain ⟨gp, op, rfl, m1⟩ := (HX.out _ HB.out).at_ k (by rw [LX.out]; exact hlt)
      obtain ⟨b3, o3, rfl, _, m3⟩ := HW.out _ HB.out k hlt
      obtain ⟨b4, o4, rfl, _, m4⟩ := HV.out _ HB.out k (by rw [LV.out]; exact hlt)
      replace m3 : w2.cell? ⟨b3, o3 + k, none⟩ = some (.int .i64 (nt wl k)) := m3
      replace m4 : w2.cell? ⟨b4, o4 + k, none⟩ = some (.int .i64 (nt vl k)) := m4
      have i1 : (k : Int) < (xs.length : Int) := by rw [LX.out]; omega
      have i2 : (k : Int) < (wl.length : Int) := by omega
      have i3 : (k : Int) < (vl.length : Int) := by rw [LV.out]; omega
      have io := IO.out k hlt
      have bt := BT.out k (by rw [LX.out]; exact hlt)
      have k64 : k ≤ 64 := by omega
      have EC : Hid (cs vl xs (k + 1) = cs vl xs k + (if nt xs k = 0 then nt vl k else 0)) := Lib.hid rfl
      have EW : Hid (ws wl xs (k + 1) = ws wl xs k + (if nt xs k = 0 then 0 else nt wl k)) := Lib.hid rfl
      generalize cs vl xs k = c at *
      generalize ws wl xs k = a at *
      generalize nt xs k = x at *
      generalize nt wl k = y at *
      generalize nt vl k = z at *
      by_cases x0 : x = 0
      · have e0 := EC.out
        rw [if_pos x0] at e0
        replace e0 := Lib.hid e0
        have e1 := EW.out
        rw [if_pos x0] at e1
        replace e1 := Lib.hid e1
        have b1 : (x != 0) = false := by simpa using x0
        have b2 : (x == 1) = false := by simp [x0]
        clear x0 EC EW bt
        go_wp2
        go_round
        case rel => exact ⟨k + 1, by go_num, by rw [e1.out]; go_num, by rw [e0.out], hlt⟩
        case measure => simp [intOf]; omega
      · have x1 : x = 1 := by omega
        have e0 := EC.out
        rw [if_neg x0] at e0
        replace e0 := Lib.hid e0
        have e1 := EW.out
        rw [if_neg x0] at e1
        replace e1 := Lib.hid e1
        have b1 : (x != 0) = true := by simpa using x0
        have b2 : (x == 1) = true := by simpa using x1
        have b3 : (x != 1) = false := by simpa using x1
        clear x0 x1 EC EW bt
        go_wp2
        go_round
        case rel => exact ⟨k + 1, by go_num, by rw [e1.out], by rw [e0.out]; go_num, hlt⟩
        case measure => simp [intOf]; omega
    · obtain rfl : k = wl.length := by omega
      have i2 : ¬ (wl.length : Int) < (wl.length : Int) := by omega
      clear cb wb
      by_cases hr : ws wl xs wl.length ≤ C
      · have i4 : ¬ C < ws wl xs wl.length := by omega
        have HR9 := Lib.hid hr
        clear hr
        go_wp2
        go_ret2
        exact ⟨⟨_, rfl⟩, HB.out⟩
      · have i4 : C < ws wl xs wl.length := by omega
        have HR9 := Lib.hid hr
        clear hr
        go_wp2
        go_ret2
        exact ⟨⟨_, rfl⟩, HB.out⟩
/-- the choices that have room -/
def acnt (wl : List Int) (C : Int) (n : Nat) : Nat → List Int → Nat
  | 0, x => if ws wl x n ≤ C then 1 else 0
  | d + 1, x => acnt wl C n d (x ++ [0]) + acnt wl C n d (x ++ [1])
theorem acnt_le (wl : List Int) (C : Int) (n : Nat) : ∀ d x, acnt wl C n d x ≤ 2 ^ d
  | 0, x => by show (if _ then 1 else 0) ≤ 1; split <;> omega
  | d + 1, x => by
    have a := acnt_le wl C n d (x ++ [0])
    have b := acnt_le wl C n d (x ++ [1])
    show _ + _ ≤ 2 ^ (d + 1)
    rw [Nat.pow_succ]
    omega
attribute [irreducible] acnt
theorem acnt_zero (wl : List Int) (C : Int) (n : Nat) (x : List Int) : acnt wl C n 0 x = if ws wl x n ≤ C then 1 else 0 := by unfold acnt; rfl
theorem acnt_succ (wl : List Int) (C : Int) (n d : Nat) (x : List Int) : acnt wl C n (d + 1) x = acnt wl C n d (x ++ [0]) + acnt wl C n d (x ++ [1]) := by
  rw [acnt]
set_option maxRecDepth 100000 in
set_option maxHeartbeats 8000000 in
theorem answers_end (C : Int) (wl vl : List Int) (cl : List (List Int)) (xs : List Int) (wa va ca : Option Addr) (wc vc cc : Nat) (v : Value) (w : World) (hP : Prob w wl vl cl wa va ca) (hz : chk 1 wl.length C wl vl cl = 0) (lv : vl.length = wl.length) (n2 : wl.length ≤ 64)
    (io : ∀ j, j < wl.length → (0 ≤ nt wl j ∧ nt wl j ≤ 2147483647) ∧ (0 ≤ nt vl j ∧ nt vl j ≤ 2147483647)) (hx : Ls v xs w) (lx : xs.length = wl.length) (bits : ∀ j, j < xs.length → nt xs j = 0 ∨ nt xs j = 1) :
    Calls Try.prog 26 #[.agg #[.int .i64 1, .int .i64 wl.length, .int .i64 C, .slice wa wl.length wc, .slice va vl.length vc, .slice ca cl.length cc], v] w fun e w' => e = .returned (.int .i64 (acnt wl C wl.length 0 xs : Nat)) ∧ Below w.heap.size w w' := by
  have BA := bl_al (Below.refl _ w) (.cells #[.int .i64 1, .int .i64 (wl.length : Int), .int .i64 C, .slice wa wl.length wc, .slice va vl.length vc, .slice ca cl.length cc] 25)
  have PA : Prob _ wl vl cl wa va ca := ⟨hP.1.keep BA, hP.2.1.keep BA, hP.2.2.1.keep BA, hP.2.2.2⟩
  have HC := Lib.hid (rcost_full wl.length C wl vl cl xs wa va ca wc vc cc v _ PA hz rfl lv n2 io (hx.up BA) lx bits)
  have HB := Lib.hid BA
  obtain ⟨pa, pc, rfl⟩ := hx.form
  rw [lx] at HC ⊢
  rw [acnt_zero]
  have b0 : ((wl.length : Int) == (wl.length : Int)) = true := by simp
  clear BA PA hx hP io lv lx bits hz n2
  generalize ws wl xs wl.length = s at *
  generalize vl.length = vn at *
  generalize cl.length = cn at *
  generalize wl.length = n at *
  by_cases hr : s ≤ C
  · rw [if_pos hr] at HC ⊢
    go_enter Try.func26, Try.ntmps26
    go_wp2_with fail
    refine HC.out.mono ?_; rintro e w1 ⟨c, rfl, hb⟩
    have B1 := Lib.hid (bl_tr HB.out hb)
    clear hb HC
    go_wp2
    first
      | exact ⟨rfl, B1.out⟩
      | (go_ret; exact ⟨rfl, B1.out⟩)
  · rw [if_neg hr] at HC ⊢
    go_enter Try.func26, Try.ntmps26
    go_wp2_with fail
    refine HC.out.mono ?_; rintro e w1 ⟨c, rfl, hb⟩
    have B1 := Lib.hid (bl_tr HB.out hb)
    clear hb HC
    go_wp2
    first
      | exact ⟨rfl, B1.out⟩
      | (go_ret; exact ⟨rfl, B1.out⟩)
end Go.Proofs.Yteoionlnnjcggaa.kn

/-
  knap: how many answers there are, as the reference counts them.
-/
namespace Go.Proofs.Yteoionlnnjcggaa.kn
open Go.RowKit
set_option linter.unusedVariables false
theorem run_call (av : Array Value) (Y : World) : (callFunc 26 av).run Try.prog Y = .ok (.enter 26 av) Y := by
  unfold callFunc
  go_simp
  rw [if_neg (show ¬ Try.f26.name = "runtime.NumGoroutine" from by decide), if_neg (show ¬ Try.f26.body = none from fun h => by cases h)]
theorem srcA_on {X Y : World} {a : Option Addr} {c : Nat} {l : List Int} (h : SrcA X a c l) (hb : Below X.heap.size X Y) : SrcA Y a c l := by
  rcases h with h | ⟨ad, e, hc⟩
  · exact .inl h
  · exact .inr ⟨ad, e, fun j u hj => (hb.cell (p := ad.add j) (block_lt_of_cell (hc j u hj))).trans (hc j u hj)⟩
theorem bits_snoc {x : List Int} {b : Int} (h : ∀ j, j < x.length → nt x j = 0 ∨ nt x j = 1) (hb : b = 0 ∨ b = 1) : ∀ j, j < (x ++ [b]).length → nt (x ++ [b]) j = 0 ∨ nt (x ++ [b]) j = 1 := fun j hj => by
  rw [List.length_append, List.length_singleton] at hj
  unfold nt
  by_cases q : j < x.length
  · rw [List.getElem?_append_left q]; exact h j q
  · rw [List.getElem?_append_right (by omega), show j - x.length = 0 by omega]
    simpa using hb
set_option maxRecDepth 100000 in
set_option maxHeartbeats 8000000 in
theorem answers_any (C : Int) (wl vl : List Int) (cl : List (List Int)) (wa va ca : Option Addr) (wc vc cc : Nat) (hz : chk 1 wl.length C wl vl cl = 0) (lv : vl.length = wl.length) (n2 : wl.length ≤ 7)
    (io : ∀ j, j < wl.length → (0 ≤ nt wl j ∧ nt wl j ≤ 2147483647) ∧ (0 ≤ nt vl j ∧ nt vl j ≤ 2147483647)) :
    ∀ (d : Nat) (x : List Int) (xa : Option Addr) (xc : Nat) (w : World), x.length + d = wl.length → (∀ j, j < x.length → nt x j = 0 ∨ nt x j = 1) → Prob w wl vl cl wa va ca → Ls (.slice xa x.length xc) x w → SrcA w xa xc x →
    Calls Try.prog 26 #[.agg #[.int .i64 1, .int .i64 wl.length, .int .i64 C, .slice wa wl.length wc, .slice va vl.length vc, .slice ca cl.length cc], .slice xa x.length xc] w fun e w' => e = .returned (.int .i64 (acnt wl C wl.length d x : Nat)) ∧ Below w.heap.size w w'
  | 0, x, xa, xc, w, hl, hb, hP, hL, hS => answers_end C wl vl cl x wa va ca wc vc cc _ w hP hz lv (by omega) io hL (by omega) hb
  | d + 1, x, xa, xc, w, hl, hb, hP, hL, hS => by
    have BA := bl_al (Below.refl _ w) (.cells #[.int .i64 1, .int .i64 (wl.length : Int), .int .i64 C, .slice wa wl.length wc, .slice va vl.length vc, .slice ca cl.length cc] 25)
    have q0 := heap_alloc_new w (.cells #[.int .i64 1, .int .i64 (wl.length : Int), .int .i64 C, .slice wa wl.length wc, .slice va vl.length vc, .slice ca cl.length cc] 25)
    obtain ⟨X, hX⟩ : ∃ X, X = w.alloc (.cells #[.int .i64 1, .int .i64 (wl.length : Int), .int .i64 C, .slice wa wl.length wc, .slice va vl.length vc, .slice ca cl.length cc] 25) := ⟨_, rfl⟩
    rw [← hX] at BA q0
    have kp : ∀ Y, Below X.heap.size X Y → Prob Y wl vl cl wa va ca := fun Y h => ⟨(hP.1.keep BA).keep h, (hP.2.1.keep BA).keep h, (hP.2.2.1.keep BA).keep h, hP.2.2.2⟩
    have IH0 := Lib.hid (fun (Y : World) (u : Value) (h : Below X.heap.size X Y) (ho : Ol X.heap.size u (x ++ [0]) Y) => show Calls Try.prog 26 #[.agg #[.int .i64 1, .int .i64 wl.length, .int .i64 C, .slice wa wl.length wc, .slice va vl.length vc, .slice ca cl.length cc], u] Y fun e w' => e = .returned (.int .i64 (acnt wl C wl.length d (x ++ [0]) : Nat)) ∧ Below Y.heap.size Y w' from by
      obtain ⟨a, c, rfl⟩ := ho.form
      exact answers_any C wl vl cl wa va ca wc vc cc hz lv n2 io d (x ++ [0]) a c Y (by simp; omega) (bits_snoc hb (.inl rfl)) (kp Y h) ho.ls (ol_srcA ho Y (Below.refl _ _)))
    have IH1 := Lib.hid (fun (Y : World) (u : Value) (h : Below X.heap.size X Y) (ho : Ol X.heap.size u (x ++ [1]) Y) => show Calls Try.prog 26 #[.agg #[.int .i64 1, .int .i64 wl.length, .int .i64 C, .slice wa wl.length wc, .slice va vl.length vc, .slice ca cl.length cc], u] Y fun e w' => e = .returned (.int .i64 (acnt wl C wl.length d (x ++ [1]) : Nat)) ∧ Below Y.heap.size Y w' from by
      obtain ⟨a, c, rfl⟩ := ho.form
      exact answers_any C wl vl cl wa va ca wc vc cc hz lv n2 io d (x ++ [1]) a c Y (by simp; omega) (bits_snoc hb (.inr rfl)) (kp Y h) ho.ls (ol_srcA ho Y (Below.refl _ _)))
    have pw : 2 ^ d ≤ 128 := Nat.le_trans (Nat.pow_le_pow_right (by decide) (show d ≤ 7 by omega)) (by decide)
    have A0 := Lib.hid (show (0 : Int) ≤ (acnt wl C wl.length d (x ++ [0]) : Nat) ∧ ((acnt wl C wl.length d (x ++ [0]) : Nat) : Int) ≤ 1000000 from by have := acnt_le wl C wl.length d (x ++ [0]); omega)
    have A1 := Lib.hid (show (0 : Int) ≤ (acnt wl C wl.length d (x ++ [1]) : Nat) ∧ ((acnt wl C wl.length d (x ++ [1]) : Nat) : Int) ≤ 1000000 from by have := acnt_le wl C wl.length d (x ++ [1]); omega)
    have HE := Lib.hid (show ((acnt wl C wl.length (d + 1) x : Nat) : Int) = (acnt wl C wl.length d (x ++ [0]) : Nat) + (acnt wl C wl.length d (x ++ [1]) : Nat) from by rw [acnt_succ]; push_cast; rfl)
    have HS := Lib.hid (srcA_on hS BA)
    have LX := Lib.hid (show x.length ≤ 800 by omega)
    have HB := Lib.hid BA
    have HBX := Lib.hid (fun Y (h : Below X.heap.size X Y) => box6 ((h.block _ (lt_hp q0)).trans q0))
    have b0 : ((x.length : Int) == (wl.length : Int)) = false := by simp; omega
    rw [HE.out]
    have HXX := Lib.hid hX
    clear hP hL hS q0 kp io hz hb hl n2 pw BA HE lv hX
    generalize ((acnt wl C wl.length d (x ++ [0]) : Nat) : Int) = N0 at *
    generalize ((acnt wl C wl.length d (x ++ [1]) : Nat) : Int) = N1 at *
    generalize vl.length = vn at *
    generalize cl.length = cn at *
    generalize wl.length = n at *
    obtain ⟨c0, c1, c2, c3, c4, c5⟩ := HBX.out X (Below.refl _ _)
    go_enter Try.func26, Try.ntmps26
    go_upto_region 1 with fail
    rw [← HXX.out]
    clear HXX
    go_upto_region 6 with fail
    clear c0 c1 c2 c3 c4 c5
    refine two_calls 20 2 1 4 26 w.heap.size (.agg #[.int .i64 1, .int .i64 n, .int .i64 C, .slice wa n wc, .slice va vn vc, .slice ca cn cc]) xa xc x N0 N1 (by kernel_rfl) (fun k hk => ?hop) (by simp) (by decide) rfl rfl (fun Y h => ?hb) run_call HS.out LX.out A0.out A1.out (fun Y u h ho => IH0.out Y u h ho) (fun Y u h ho => IH1.out Y u h ho) (fun u y hu hb => ?hk)
    case hop =>
      rcases sixteen hk with rfl | rfl | rfl | rfl | rfl | rfl | rfl | rfl | rfl | rfl | rfl | rfl | rfl | rfl | rfl | rfl
      all_goals exact ⟨_, rfl, rfl, rfl, rfl, by first | exact fun _ => rfl | exact fun h => absurd rfl h, by kernel_rfl⟩
    case hb =>
      obtain ⟨c0, c1, c2, c3, c4, c5⟩ := HBX.out Y h
      go_simp
    case hk =>
      have HF := Lib.hid (bl_tr HB.out hb)
      have e16 : (List.range 16).map (dstA 20 4) = [20, 21, 22, 23, 24, 25, 26, 27, 28, 29, 30, 31, 32, 33, 34, 4] := by decide
      rw [e16]
      simp only [List.foldl_cons, List.foldl_nil, List.setIfInBounds_toArray, List.set_cons_zero, List.set_cons_succ]
      rw [hu]
      clear e16 hb hu
      go_wp2
      first
        | exact ⟨rfl, HF.out⟩
        | (go_ret; exact ⟨rfl, HF.out⟩)
end Go.Proofs.Yteoionlnnjcggaa.kn

/-
  knap: a search that pops a beginning and pushes its children finds every choice that has room once: plain mathematics.
-/
namespace Go.Proofs.Yteoionlnnjcggaa.kn
open Go.RowKit
set_option linter.unusedVariables false
/-- the choices from item k on -/
def scnt (W : List Int) : Nat → Nat → Int → Nat
  | 0, _, _ => 1
  | b + 1, k, r => scnt W b (k + 1) r + (if nt W k ≤ r then scnt W b (k + 1) (r - nt W k) else 0)
def snod (W : List Int) : Nat → Nat → Int → Nat
  | 0, _, _ => 1
  | b + 1, k, r => 1 + snod W b (k + 1) r + (if nt W k ≤ r then snod W b (k + 1) (r - nt W k) else 0)
theorem scnt_pos (W : List Int) : ∀ b k r, 1 ≤ scnt W b k r
  | 0, _, _ => Nat.le_refl _
  | b + 1, k, r => by
    have := scnt_pos W b (k + 1) r
    show 1 ≤ _ + _
    omega
theorem snod_pos (W : List Int) : ∀ b k r, 1 ≤ snod W b k r
  | 0, _, _ => Nat.le_refl _
  | b + 1, k, r => by show 1 ≤ 1 + _ + _; omega
theorem scnt_le (W : List Int) : ∀ b k r, scnt W b k r ≤ 2 ^ b
  | 0, _, _ => Nat.le_refl _
  | b + 1, k, r => by
    have a := scnt_le W b (k + 1) r
    have c := scnt_le W b (k + 1) (r - nt W k)
    show _ + (if _ then _ else 0) ≤ 2 ^ (b + 1)
    rw [Nat.pow_succ]
    split <;> omega
/-- the choices of a list of weights -/
def lcnt : List Int → Int → Nat
  | [], r => if 0 ≤ r then 1 else 0
  | a :: l, r => lcnt l r + lcnt l (r - a)
theorem lcnt_perm {l m : List Int} (p : l.Perm m) : ∀ r, lcnt l r = lcnt m r := by
  induction p with
  | nil => intro r; rfl
  | cons a _ ih => intro r; show lcnt _ r + lcnt _ (r - a) = _; rw [ih, ih]; rfl
  | swap a b l =>
    intro r
    show lcnt l r + lcnt l (r - a) + (lcnt l (r - b) + lcnt l (r - b - a)) = lcnt l r + lcnt l (r - b) + (lcnt l (r - a) + lcnt l (r - a - b))
    rw [show r - b - a = r - a - b by omega]
    omega
  | trans _ _ i1 i2 => intro r; rw [i1, i2]
theorem lcnt_neg : ∀ (l : List Int) (r : Int), r < 0 → (∀ a, a ∈ l → 0 ≤ a) → lcnt l r = 0
  | [], r, h, _ => if_neg (by omega)
  | a :: l, r, h, hl => by
    have := hl a (List.mem_cons_self ..)
    show lcnt l r + lcnt l (r - a) = 0
    rw [lcnt_neg l r h (fun b hb => hl b (List.mem_cons_of_mem _ hb)), lcnt_neg l (r - a) (by omega) (fun b hb => hl b (List.mem_cons_of_mem _ hb))]
theorem drop_nt (W : List Int) (k : Nat) (h : k < W.length) : W.drop k = nt W k :: W.drop (k + 1) := by
  rw [List.drop_eq_getElem_cons h, nt_get W k h]
theorem scnt_lcnt {W : List Int} (hw : ∀ j, j < W.length → 0 ≤ nt W j) : ∀ b k r, k + b = W.length → 0 ≤ r → scnt W b k r = lcnt (W.drop k) r
  | 0, k, r, h, hr => by
    rw [List.drop_of_length_le (by omega)]
    exact (if_pos hr).symm
  | b + 1, k, r, h, hr => by
    rw [drop_nt W k (by omega)]
    show scnt W b (k + 1) r + (if nt W k ≤ r then scnt W b (k + 1) (r - nt W k) else 0) = lcnt (W.drop (k + 1)) r + lcnt (W.drop (k + 1)) (r - nt W k)
    rw [scnt_lcnt hw b (k + 1) r (by omega) hr]
    by_cases q : nt W k ≤ r
    · rw [if_pos q, scnt_lcnt hw b (k + 1) (r - nt W k) (by omega) (by omega)]
    · rw [if_neg q, lcnt_neg (W.drop (k + 1)) (r - nt W k) (by omega) (fun a ha => by
        obtain ⟨j, hj, rfl⟩ := List.mem_iff_getElem.1 ha
        rw [List.getElem_drop]
        rw [List.length_drop] at hj
        have := hw (k + 1 + j) (by omega)
        rw [nt_get W _ (by omega)] at this
        exact this)]
theorem ws_app (wl xs : List Int) (x : Int) : ∀ k, k ≤ xs.length → ws wl (xs ++ [x]) k = ws wl xs k
  | 0, _ => rfl
  | k + 1, h => by
    show ws wl (xs ++ [x]) k + _ = ws wl xs k + _
    have e : nt (xs ++ [x]) k = nt xs k := by rw [nt_app, if_pos (by omega)]
    rw [ws_app wl xs x k (by omega), e]
theorem acnt_lcnt (wl : List Int) (C : Int) : ∀ d x, x.length + d = wl.length → acnt wl C wl.length d x = lcnt (wl.drop x.length) (C - ws wl x x.length)
  | 0, x, h => by
    rw [acnt_zero, List.drop_of_length_le (by omega)]
    show _ = if _ then 1 else 0
    rw [show wl.length = x.length by omega]
    by_cases q : ws wl x x.length ≤ C
    · rw [if_pos q, if_pos (by omega)]
    · rw [if_neg q, if_neg (by omega)]
  | d + 1, x, h => by
    rw [acnt_succ, drop_nt wl x.length (by omega), acnt_lcnt wl C d (x ++ [0]) (by simp; omega), acnt_lcnt wl C d (x ++ [1]) (by simp; omega)]
    simp only [List.length_append, List.length_singleton]
    have e0 : ws wl (x ++ [0]) (x.length + 1) = ws wl x x.length := by
      show ws wl (x ++ [0]) x.length + (if nt (x ++ [0]) x.length = 0 then 0 else nt wl x.length) = _
      have e : nt (x ++ [0]) x.length = 0 := by rw [nt_app, if_neg (Nat.lt_irrefl _), if_pos rfl]
      rw [ws_app wl x 0 x.length (Nat.le_refl _), e, if_pos rfl]
      omega
    have e1 : ws wl (x ++ [1]) (x.length + 1) = ws wl x x.length + nt wl x.length := by
      show ws wl (x ++ [1]) x.length + (if nt (x ++ [1]) x.length = 0 then 0 else nt wl x.length) = _
      have e : nt (x ++ [1]) x.length = 1 := by rw [nt_app, if_neg (Nat.lt_irrefl _), if_pos rfl]
      rw [ws_app wl x 1 x.length (Nat.le_refl _), e, if_neg (by decide)]
    rw [e0, e1]
    show _ = lcnt (wl.drop (x.length + 1)) (C - ws wl x x.length) + lcnt (wl.drop (x.length + 1)) (C - ws wl x x.length - nt wl x.length)
    rw [show C - (ws wl x x.length + nt wl x.length) = C - ws wl x x.length - nt wl x.length by omega]
/-- neither begins with the other -/
def Inc (p q : List Int) : Prop := ¬ p <+: q ∧ ¬ q <+: p
theorem Inc.symm {p q : List Int} (h : Inc p q) : Inc q p := ⟨h.2, h.1⟩
theorem Inc.ne {p q : List Int} (h : Inc p q) : p ≠ q := fun e => h.1 (by rw [e]; exact List.prefix_refl _)
end Go.Proofs.Yteoionlnnjcggaa.kn

/-
  knap: where the search stands: plain mathematics.
-/
namespace Go.Proofs.Yteoionlnnjcggaa.kn
open Go.RowKit
set_option linter.unusedVariables false
def ktot (C : Int) (W : List Int) (M : List (List Int)) : Nat := (M.map (fun p => scnt W (W.length - p.length) p.length (rm C W p p.length))).sum
def kmsr (C : Int) (W : List Int) (M : List (List Int)) : Nat := (M.map (fun p => snod W (W.length - p.length) p.length (rm C W p p.length))).sum
theorem ktot_app (C : Int) (W : List Int) (M Z : List (List Int)) : ktot C W (M ++ Z) = ktot C W M + ktot C W Z := by unfold ktot; rw [List.map_append, List.sum_append_nat]
theorem kmsr_app (C : Int) (W : List Int) (M Z : List (List Int)) : kmsr C W (M ++ Z) = kmsr C W M + kmsr C W Z := by unfold kmsr; rw [List.map_append, List.sum_append_nat]
theorem ktot_one (C : Int) (W : List Int) (p : List Int) : ktot C W [p] = scnt W (W.length - p.length) p.length (rm C W p p.length) := by unfold ktot; simp
theorem kmsr_one (C : Int) (W : List Int) (p : List Int) : kmsr C W [p] = snod W (W.length - p.length) p.length (rm C W p p.length) := by unfold kmsr; simp
structure Skn (C : Int) (W : List Int) (M Ps : List (List Int)) : Prop where
  pre : ∀ p, p ∈ M → LeftOk C W p
  ful : ∀ p, p ∈ Ps → LeftOk C W p ∧ p.length = W.length
  inc : (M ++ Ps).Pairwise Inc
  cnt : ktot C W M + Ps.length = scnt W W.length 0 C
theorem skn_start {C : Int} (W : List Int) (h0 : 0 ≤ C) : Skn C W [[]] [] := ⟨fun p hp => by simp at hp; subst hp; exact ⟨Nat.zero_le _, fun j hj => by simp at hj, h0⟩, fun p hp => by simp at hp, by simp, by rw [ktot_one]; simp; rfl⟩
theorem Skn.leaf {C : Int} {W : List Int} {M Ps : List (List Int)} {p : List Int} (h : Skn C W (M ++ [p]) Ps) (hl : p.length = W.length) : Skn C W M (Ps ++ [p]) := by
  refine ⟨fun q hq => h.pre q (List.mem_append_left _ hq), fun q hq => ?_, ?_, ?_⟩
  · rcases List.mem_append.1 hq with z | z
    · exact h.ful q z
    · simp at z; subst z; exact ⟨h.pre q (by simp), hl⟩
  · refine (List.Perm.pairwise_iff (fun h => Inc.symm h) ?_).1 h.inc
    rw [List.append_assoc]
    exact List.Perm.append_left M List.perm_append_comm
  · have := h.cnt
    rw [ktot_app, ktot_one, hl, Nat.sub_self] at this
    rw [List.length_append]
    have e : scnt W 0 W.length (rm C W p W.length) = 1 := rfl
    rw [e] at this
    simp
    omega
/-- the children -/
def KidK (C : Int) (W p l : List Int) : Prop := (nt W p.length ≤ rm C W p p.length ∧ l = [1, 0]) ∨ (rm C W p p.length < nt W p.length ∧ l = [0])
theorem Skn.node {C : Int} {W : List Int} {M Ps : List (List Int)} {p l : List Int} (h : Skn C W (M ++ [p]) Ps) (hl : p.length < W.length) (hk : KidK C W p l) : Skn C W (M ++ l.map (fun a => p ++ [a])) Ps ∧ kmsr C W (M ++ l.map (fun a => p ++ [a])) < kmsr C W (M ++ [p]) := by
  have hp := h.pre p (by simp)
  have hlen : ∀ a : Int, (p ++ [a]).length = p.length + 1 := fun a => by simp
  have r0 := rm_next C W p 0
  have r1 := rm_next C W p 1
  rw [if_pos rfl] at r0
  rw [if_neg (by decide)] at r1
  obtain ⟨d, hd⟩ : ∃ d, W.length - p.length = d + 1 := ⟨W.length - p.length - 1, by omega⟩
  have hd' : W.length - (p.length + 1) = d := by omega
  have hT : l.Nodup := by
    rcases hk with ⟨_, rfl⟩ | ⟨_, rfl⟩ <;> decide
  have hsub : ∀ a, a ∈ l → a = 0 ∨ (a = 1 ∧ nt W p.length ≤ rm C W p p.length) := fun a ha => by
    rcases hk with ⟨q, rfl⟩ | ⟨_, rfl⟩
    · simp at ha
      rcases ha with rfl | rfl
      · exact .inr ⟨rfl, q⟩
      · exact .inl rfl
    · simp at ha; exact .inl ha
  have hperm : (M ++ [p] ++ Ps).Perm ([p] ++ (M ++ Ps)) := by
    rw [← List.append_assoc]
    exact List.Perm.append_right Ps List.perm_append_comm
  have hpw := (List.Perm.pairwise_iff (fun h => Inc.symm h) hperm).1 h.inc
  rw [List.singleton_append, List.pairwise_cons] at hpw
  refine ⟨⟨fun q hq => ?_, h.ful, ?_, ?_⟩, ?_⟩
  · rcases List.mem_append.1 hq with z | z
    · exact h.pre q (List.mem_append_left _ z)
    · obtain ⟨a, ha, rfl⟩ := List.mem_map.1 z
      exact left_app hp hl (hsub a ha)
  · have hperm2 : (M ++ l.map (fun a => p ++ [a]) ++ Ps).Perm (l.map (fun a => p ++ [a]) ++ (M ++ Ps)) := by
      rw [← List.append_assoc]
      exact List.Perm.append_right Ps List.perm_append_comm
    refine (List.Perm.pairwise_iff (fun h => Inc.symm h) hperm2).2 ?_
    rw [List.pairwise_append]
    refine ⟨?_, hpw.2, fun q hq r hr => ?_⟩
    · rw [List.pairwise_map]
      rw [List.nodup_iff_pairwise_ne] at hT
      refine hT.imp (fun {a b} hab => ?_)
      constructor
      · intro e
        have := e.eq_of_length (by simp)
        simp at this
        exact hab this
      · intro e
        have := e.eq_of_length (by simp)
        simp at this
        exact hab this.symm
    · obtain ⟨a, ha, rfl⟩ := List.mem_map.1 hq
      have i := hpw.1 r hr
      constructor
      · intro e
        exact i.1 ((List.prefix_append p [a]).trans e)
      · intro e
        rcases List.prefix_concat_iff.1 e with z | z
        · exact i.1 (by rw [z]; exact List.prefix_append p [a])
        · exact i.2 z
  · have := h.cnt
    rw [ktot_app, ktot_one, hd] at this
    rw [ktot_app]
    have e : ktot C W (l.map (fun a => p ++ [a])) = scnt W (d + 1) p.length (rm C W p p.length) := by
      show _ = scnt W d (p.length + 1) (rm C W p p.length) + (if nt W p.length ≤ rm C W p p.length then scnt W d (p.length + 1) (rm C W p p.length - nt W p.length) else 0)
      rcases hk with ⟨q, rfl⟩ | ⟨q, rfl⟩
      · rw [if_pos q]
        unfold ktot
        simp only [List.map_cons, List.map_nil, List.sum_cons, List.sum_nil, hlen, hd', r0, r1, Int.sub_zero]
        omega
      · rw [if_neg (by omega)]
        unfold ktot
        simp only [List.map_cons, List.map_nil, List.sum_cons, List.sum_nil, hlen, hd', r0, Int.sub_zero]
    rw [e]
    exact this
  · rw [kmsr_app, kmsr_app, kmsr_one, hd]
    have e : kmsr C W (l.map (fun a => p ++ [a])) + 1 = snod W (d + 1) p.length (rm C W p p.length) := by
      show _ = 1 + snod W d (p.length + 1) (rm C W p p.length) + (if nt W p.length ≤ rm C W p p.length then snod W d (p.length + 1) (rm C W p p.length - nt W p.length) else 0)
      rcases hk with ⟨q, rfl⟩ | ⟨q, rfl⟩
      · rw [if_pos q]
        unfold kmsr
        simp only [List.map_cons, List.map_nil, List.sum_cons, List.sum_nil, hlen, hd', r0, r1, Int.sub_zero]
        omega
      · rw [if_neg (by omega)]
        unfold kmsr
        simp only [List.map_cons, List.map_nil, List.sum_cons, List.sum_nil, hlen, hd', r0, Int.sub_zero]
        omega
    omega
theorem kmsr_leaf (C : Int) (W : List Int) (M : List (List Int)) (p : List Int) : kmsr C W M < kmsr C W (M ++ [p]) := by
  rw [kmsr_app, kmsr_one]
  have := snod_pos W (W.length - p.length) p.length (rm C W p p.length)
  omega
theorem ktot_ge (C : Int) (W : List Int) : ∀ M : List (List Int), M.length ≤ ktot C W M
  | [] => Nat.zero_le _
  | p :: M => by
    have := ktot_ge C W M
    have := scnt_pos W (W.length - p.length) p.length (rm C W p p.length)
    show M.length + 1 ≤ scnt W (W.length - p.length) p.length (rm C W p p.length) + ktot C W M
    omega
theorem Skn.len {C : Int} {W : List Int} {M Ps : List (List Int)} (h : Skn C W M Ps) (h7 : W.length ≤ 7) : M.length + Ps.length ≤ 128 := by
  have a := ktot_ge C W M
  have b := h.cnt
  have c := scnt_le W W.length 0 C
  have d : 2 ^ W.length ≤ 128 := Nat.le_trans (Nat.pow_le_pow_right (by decide) h7) (by decide)
  omega
theorem Skn.fin {C : Int} {W : List Int} {Ps : List (List Int)} (h : Skn C W [] Ps) : Ps.length = scnt W W.length 0 C ∧ ∀ i j, i < Ps.length → j < i → Ps[i]?.getD [] ≠ Ps[j]?.getD [] := by
  refine ⟨by have := h.cnt; unfold ktot at this; simpa using this, fun i j hi hj => ?_⟩
  have := h.inc
  rw [List.nil_append, List.pairwise_iff_getElem] at this
  have q := this j i (by omega) hi hj
  rw [List.getElem?_eq_getElem hi, List.getElem?_eq_getElem (by omega)]
  exact fun e => q.ne e.symm
/-- two choices give two answers -/
theorem ansl_ne {T p q : List Int} (h : Prm T) (hp : p.length = T.length) (hq : q.length = T.length) (hne : p ≠ q) : ansl T p T.length ≠ ansl T q T.length := fun e => hne (by
  refine List.ext_getElem (by omega) (fun j h1 h2 => ?_)
  have a := (ansl_at (pl := p) h T.length (Nat.le_refl _)).2 j (by omega)
  have b := (ansl_at (pl := q) h T.length (Nat.le_refl _)).2 j (by omega)
  rw [e] at a
  rw [a] at b
  rw [nt_get p j h1, nt_get q j h2] at b
  exact b)
theorem pick_perm {wl T : List Int} (h : Prm T) (hl : T.length = wl.length) : (pick wl T).Perm wl := by
  have hT : T.Perm ((List.range T.length).map (fun (i : Nat) => (i : Int))) := by
    have n1 : T.Nodup := by
      rw [List.nodup_iff_pairwise_ne, List.pairwise_iff_getElem]
      intro i j hi hj hij e
      have := h.inj i j hi hj (by rw [nt_get T i hi, nt_get T j hj]; exact e)
      omega
    have n2 : ((List.range T.length).map (fun (i : Nat) => (i : Int))).Nodup := by
      rw [List.nodup_iff_pairwise_ne, List.pairwise_map]
      exact (List.nodup_iff_pairwise_ne.1 List.nodup_range).imp (fun h e => h (by omega))
    rw [List.perm_iff_count]
    intro a
    rw [n1.count, n2.count]
    by_cases z : a ∈ T
    · rw [if_pos z]
      obtain ⟨j, hj, rfl⟩ := List.mem_iff_getElem.1 z
      have r := h.rng j hj
      rw [nt_get T j hj] at r
      rw [if_pos (List.mem_map.2 ⟨(T[j]).toNat, List.mem_range.2 (by omega), by omega⟩)]
    · rw [if_neg z, if_neg]
      intro q
      obtain ⟨i, hi, rfl⟩ := List.mem_map.1 q
      obtain ⟨j, hj, e⟩ := h.sur i (List.mem_range.1 hi)
      exact z (by rw [← e, nt_get T j hj]; exact List.getElem_mem hj)
  have e1 : pick wl T = T.map (fun t => nt wl t.toNat) := rfl
  have e2 : wl = ((List.range T.length).map (fun (i : Nat) => (i : Int))).map (fun t => nt wl t.toNat) := by
    refine List.ext_getElem (by simp [hl]) (fun j h1 h2 => ?_)
    simp only [List.getElem_map, List.getElem_range, Int.toNat_natCast]
    rw [nt_get wl j h1]
  rw [e1]
  exact (hT.map _).trans (by rw [← e2])
/-- the search finds as many as the reference counts -/
theorem cnt_eq {C : Int} {wl T : List Int} (h : Prm T) (hl : T.length = wl.length) (hw : ∀ j, j < wl.length → 0 ≤ nt wl j) (hC : 0 ≤ C) : scnt (pick wl T) (pick wl T).length 0 C = acnt wl C wl.length wl.length [] := by
  rw [acnt_lcnt wl C wl.length [] (by simp)]
  have hW : ∀ j, j < (pick wl T).length → 0 ≤ nt (pick wl T) j := fun j hj => by
    rw [pick_len] at hj
    rw [nt_pick _ _ _ hj]
    have := h.rng j hj
    exact hw _ (by omega)
  rw [scnt_lcnt hW (pick wl T).length 0 C (by omega) hC, List.drop_zero, lcnt_perm (pick_perm h hl)]
  show lcnt wl C = lcnt (wl.drop 0) (C - 0)
  rw [List.drop_zero, Int.sub_zero]
end Go.Proofs.Yteoionlnnjcggaa.kn
