/-
  knap: the reference's Cost and Small, of a knapsack in form.
-/
import Derived.Test.YteoionlnnjcggaaSt5
namespace Go.Proofs.Yteoionlnnjcggaa.kn
open Go.RowKit
set_option linter.unusedVariables false
/-- what is left out costs -/
def cs (vl xs : List Int) : Nat → Int
  | 0 => 0
  | k + 1 => cs vl xs k + (if nt xs k = 0 then nt vl k else 0)
/-- what is taken weighs -/
def ws (wl xs : List Int) : Nat → Int
  | 0 => 0
  | k + 1 => ws wl xs k + (if nt xs k = 0 then 0 else nt wl k)
theorem cs_b {vl : List Int} (xs : List Int) (h : ∀ j, j < vl.length → 0 ≤ nt vl j ∧ nt vl j ≤ 2147483647) : ∀ k, k ≤ vl.length → 0 ≤ cs vl xs k ∧ cs vl xs k ≤ (k : Int) * 2147483647
  | 0, _ => by show 0 ≤ (0 : Int) ∧ (0 : Int) ≤ _; omega
  | k + 1, hk => by
    have ih := cs_b xs h k (by omega)
    have hv := h k (by omega)
    show 0 ≤ cs vl xs k + (if nt xs k = 0 then nt vl k else 0) ∧ cs vl xs k + (if nt xs k = 0 then nt vl k else 0) ≤ _
    split <;> omega
theorem ws_b {wl : List Int} (xs : List Int) (h : ∀ j, j < wl.length → 0 ≤ nt wl j ∧ nt wl j ≤ 2147483647) : ∀ k, k ≤ wl.length → 0 ≤ ws wl xs k ∧ ws wl xs k ≤ (k : Int) * 2147483647
  | 0, _ => by show 0 ≤ (0 : Int) ∧ (0 : Int) ≤ _; omega
  | k + 1, hk => by
    have ih := ws_b xs h k (by omega)
    have hv := h k (by omega)
    show 0 ≤ ws wl xs k + (if nt xs k = 0 then 0 else nt wl k) ∧ ws wl xs k + (if nt xs k = 0 then 0 else nt wl k) ≤ _
    split <;> omega
set_option maxRecDepth 100000 in
set_option maxHeartbeats 8000000 in
theorem rcost_any (N C : Int) (wl vl : List Int) (cl : List (List Int)) (xs : List Int) (wa va ca : Option Addr) (wc vc cc : Nat) (v : Value) (w : World) (hP : Prob w wl vl cl wa va ca) (hz : chk 1 N C wl vl cl = 0) (hN : (wl.length : Int) = N) (lv : vl.length = wl.length) (n2 : wl.length ≤ 64)
    (io : ∀ j, j < wl.length → (0 ≤ nt wl j ∧ nt wl j ≤ 2147483647) ∧ (0 ≤ nt vl j ∧ nt vl j ≤ 2147483647)) (hx : Ls v xs w) (lx : xs.length = wl.length) (bits : ∀ j, j < xs.length → nt xs j = 0 ∨ nt xs j = 1) (room : ws wl xs wl.length ≤ C) :
    Calls Try.prog 25 #[.agg #[.int .i64 1, .int .i64 N, .int .i64 C, .slice wa wl.length wc, .slice va vl.length vc, .slice ca cl.length cc], v] w fun e w' => e = .returned (.tuple #[.int .i64 (cs vl xs wl.length), .int .i64 0]) ∧ Below w.heap.size w w' := by
  subst hN
  have BA := bl_al (Below.refl _ w) (.cells #[.int .i64 1, .int .i64 (wl.length : Int), .int .i64 C, .slice wa wl.length wc, .slice va vl.length vc, .slice ca cl.length cc] 25)
  have PA : Prob _ wl vl cl wa va ca := ⟨hP.1.keep BA, hP.2.1.keep BA, hP.2.2.1.keep BA, hP.2.2.2⟩
  have CH := ref_any 1 (wl.length : Int) C wl vl cl wa va ca wc vc cc _ PA
  rw [hz] at CH
  replace CH := Lib.hid CH
  have q0 := heap_alloc_new w (.cells #[.int .i64 1, .int .i64 (wl.length : Int), .int .i64 C, .slice wa wl.length wc, .slice va vl.length vc, .slice ca cl.length cc] 25)
  obtain ⟨c0, c1, c2, c3, c4, c5⟩ := box6 q0
  have Q0 := Lib.hid q0
  have HBA := Lib.hid BA
  obtain ⟨pa, pc, rfl⟩ := hx.form
  have HX := Lib.hid (fun (X : World) (h : Below w.heap.size w X) => hx.up h)
  have HW := Lib.hid (fun (X : World) (h : Below w.heap.size w X) => hP.1.keep h)
  have HV := Lib.hid (fun (X : World) (h : Below w.heap.size w X) => hP.2.1.keep h)
  have IO := Lib.hid io
  have LV := Lib.hid lv
  have LX := Lib.hid lx
  have BT := Lib.hid bits
  have CB := Lib.hid (fun k (hk : k ≤ wl.length) => cs_b (vl := vl) xs (fun j hj => (io j (by omega)).2) k (by omega))
  have WB := Lib.hid (fun k (hk : k ≤ wl.length) => ws_b (wl := wl) xs (fun j hj => (io j hj).1) k hk)
  have HR := Lib.hid room
  have b0 : ((xs.length : Int) != (wl.length : Int)) = false := by rw [lx]; simp
  clear BA PA q0 hx hP io lv lx bits room hz
  go_enter Try.func25, Try.ntmps25
  go_wp2_with fail
  refine CH.out.mono ?_; rintro e w2 ⟨rfl, hb⟩
  have HB := Lib.hid (bl_tr HBA.out hb)
  have E2 := Lib.hid ((hb.block _ (lt_hp Q0.out)).trans Q0.out)
  clear c0 c1 c2 c3 c4 c5
  obtain ⟨c0, c1, c2, c3, c4, c5⟩ := box6 E2.out
  clear hb CH Q0 HBA
  go_wp2
  go_loop [11, 9, 10] (fun i a c => ∃ k : Nat, i = .int .i64 (k : Int) ∧ a = .int .i64 (ws wl xs k) ∧ c = .int .i64 (cs vl xs k) ∧ k ≤ wl.length) (fun i _ _ => wl.length - (intOf i).toNat)
  case atStart => exact ⟨0, rfl, rfl, rfl, Nat.zero_le _⟩
  case round =>
    obtain ⟨k, rfl, rfl, rfl, hk⟩ := hrel
    have cb := CB.out k hk
    have wb := WB.out k hk
    by_cases hlt : k < wl.length
    · obtain ⟨gp, op, rfl, m1⟩ := (HX.out _ HB.out).at_ k (by rw [LX.out]; exact hlt)
      obtain ⟨b3, o3, rfl, _, m3⟩ := HW.out _ HB.out k hlt
      obtain ⟨b4, o4, rfl, _, m4⟩ := HV.out _ HB.out k (by rw [LV.out]; exact hlt)
      replace m3 : w2.cell? ⟨b3, o3 + k, none⟩ = some (.int .i64 (nt wl k)) := m3
      replace m4 : w2.cell? ⟨b4, o4 + k, none⟩ = some (.int .i64 (nt vl k)) := m4
      have i1 : (k : Int) < (xs.length : Int) := by rw [LX.out]; omega
      have i2 : (k : Int) < (wl.length : Int) := by omega
      have i3 : (k : Int) < (vl.length : Int) := by rw [LV.out]; omega
      have io := IO.out k hlt
      have bt := BT.out k (by rw [LX.out]; exact hlt)
      have k64 : k ≤ 64 := by omega
      have EC : Hid (cs vl xs (k + 1) = cs vl xs k + (if nt xs k = 0 then nt vl k else 0)) := Lib.hid rfl
      have EW : Hid (ws wl xs (k + 1) = ws wl xs k + (if nt xs k = 0 then 0 else nt wl k)) := Lib.hid rfl
      generalize cs vl xs k = c at *
      generalize ws wl xs k = a at *
      generalize nt xs k = x at *
      generalize nt wl k = y at *
      generalize nt vl k = z at *
      by_cases x0 : x = 0
      · have e0 := EC.out
        rw [if_pos x0] at e0
        replace e0 := Lib.hid e0
        have e1 := EW.out
        rw [if_pos x0] at e1
        replace e1 := Lib.hid e1
        have b1 : (x != 0) = false := by simpa using x0
        have b2 : (x == 1) = false := by simp [x0]
        clear x0 EC EW bt
        go_wp2
        go_round
        case rel => exact ⟨k + 1, by go_num, by rw [e1.out]; go_num, by rw [e0.out], hlt⟩
        case measure => simp [intOf]; omega
      · have x1 : x = 1 := by omega
        have e0 := EC.out
        rw [if_neg x0] at e0
        replace e0 := Lib.hid e0
        have e1 := EW.out
        rw [if_neg x0] at e1
        replace e1 := Lib.hid e1
        have b1 : (x != 0) = true := by simpa using x0
        have b2 : (x == 1) = true := by simpa using x1
        have b3 : (x != 1) = false := by simpa using x1
        clear x0 x1 EC EW bt
        go_wp2
        go_round
        case rel => exact ⟨k + 1, by go_num, by rw [e1.out], by rw [e0.out]; go_num, hlt⟩
        case measure => simp [intOf]; omega
    · obtain rfl : k = wl.length := by omega
      have i2 : ¬ (wl.length : Int) < (wl.length : Int) := by omega
      have i4 : ¬ C < ws wl xs wl.length := by have := HR.out; omega
      clear cb wb
      go_wp2
      go_ret2
      exact ⟨rfl, HB.out⟩
set_option maxHeartbeats 4000000 in
theorem small_any (N C : Int) (wl vl : List Int) (cl : List (List Int)) (wa va ca : Option Addr) (wc vc cc : Nat) (w : World) (hP : Prob w wl vl cl wa va ca) (hz : chk 1 N C wl vl cl = 0) :
    Calls Try.prog 23 #[.agg #[.int .i64 1, .int .i64 N, .int .i64 C, .slice wa wl.length wc, .slice va vl.length vc, .slice ca cl.length cc]] w fun e w' => e = .returned (.bool (decide (N ≤ 9))) ∧ Below w.heap.size w w' := by
  have BA := bl_al (Below.refl _ w) (.cells #[.int .i64 1, .int .i64 N, .int .i64 C, .slice wa wl.length wc, .slice va vl.length vc, .slice ca cl.length cc] 25)
  have PA : Prob _ wl vl cl wa va ca := ⟨hP.1.keep BA, hP.2.1.keep BA, hP.2.2.1.keep BA, hP.2.2.2⟩
  have CH := ref_any 1 N C wl vl cl wa va ca wc vc cc _ PA
  rw [hz] at CH
  replace CH := Lib.hid CH
  have q0 := heap_alloc_new w (.cells #[.int .i64 1, .int .i64 N, .int .i64 C, .slice wa wl.length wc, .slice va vl.length vc, .slice ca cl.length cc] 25)
  obtain ⟨c0, c1, c2, c3, c4, c5⟩ := box6 q0
  have Q0 := Lib.hid q0
  have HBA := Lib.hid BA
  clear BA PA q0 hP hz
  by_cases h9 : N ≤ 9
  · rw [decide_eq_true h9]
    go_enter Try.func23, Try.ntmps23
    go_wp2_with fail
    refine CH.out.mono ?_; rintro e w2 ⟨rfl, hb⟩
    have HB := Lib.hid (bl_tr HBA.out hb)
    have E2 := Lib.hid ((hb.block _ (lt_hp Q0.out)).trans Q0.out)
    clear c0 c1 c2 c3 c4 c5
    obtain ⟨c0, c1, c2, c3, c4, c5⟩ := box6 E2.out
    clear hb
    go_wp2
    go_ret
    first | exact ⟨rfl, HB.out⟩ | exact ⟨congrArg (fun b => Ending.returned (.bool b)) D.out, HB.out⟩
  · rw [decide_eq_false h9]
    have D : Hid ((decide (N ≤ 9) || decide (N ≤ 6)) = false) := Lib.hid (by rw [decide_eq_false h9, decide_eq_false (show ¬ N ≤ 6 by omega)]; rfl)
    go_enter Try.func23, Try.ntmps23
    go_wp2_with fail
    refine CH.out.mono ?_; rintro e w2 ⟨rfl, hb⟩
    have HB := Lib.hid (bl_tr HBA.out hb)
    have E2 := Lib.hid ((hb.block _ (lt_hp Q0.out)).trans Q0.out)
    clear c0 c1 c2 c3 c4 c5
    obtain ⟨c0, c1, c2, c3, c4, c5⟩ := box6 E2.out
    clear hb
    go_wp2
    go_ret
    first | exact ⟨rfl, HB.out⟩ | exact ⟨congrArg (fun b => Ending.returned (.bool b)) D.out, HB.out⟩
end Go.Proofs.Yteoionlnnjcggaa.kn
