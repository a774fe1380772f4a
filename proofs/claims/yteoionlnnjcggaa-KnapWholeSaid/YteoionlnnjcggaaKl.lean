/-
  knap: the kernel's box; Depth, left, Kids of no kernel and of one.
-/
import Derived.Test.YteoionlnnjcggaaKb
namespace Go.Proofs.Yteoionlnnjcggaa.kn
open Go.RowKit
set_option linter.unusedVariables false
/-- a problem in order -/
structure KnOk (C : Int) (T Wl Vl : List Int) : Prop where
  n1 : 1 ≤ T.length
  n2 : T.length ≤ 64
  lw : Wl.length = T.length
  lv : Vl.length = T.length
  c0 : 0 ≤ C
  c1 : C ≤ 2147483647
  w : ∀ j, j < T.length → 0 ≤ nt Wl j ∧ nt Wl j ≤ 2147483647
  v : ∀ j, j < T.length → 0 ≤ nt Vl j ∧ nt Vl j ≤ 2147483647
  t : ∀ j, j < T.length → 0 ≤ nt T j ∧ nt T j < T.length
/-- the kernel's box -/
def Kn (p : Nat) (C : Int) (T Wl Vl : List Int) (w : World) : Prop := ∃ vi vw vv, w.heap[p]? = some (.cells #[.int .i64 C, vi, vw, vv] 48 (0, 0)) ∧ Ls vi T w ∧ Ls vw Wl w ∧ Ls vv Vl w
theorem Kn.up {p : Nat} {C : Int} {T Wl Vl : List Int} {w w1 : World} (h : Kn p C T Wl Vl w) (k : Below w.heap.size w w1) : Kn p C T Wl Vl w1 := by
  obtain ⟨vi, vw, vv, h1, h2, h3, h4⟩ := h
  exact ⟨vi, vw, vv, (k.block _ (lt_hp h1)).trans h1, h2.up k, h3.up k, h4.up k⟩
/-- the kernel's cells -/
theorem Kn.cells {p : Nat} {C : Int} {T Wl Vl : List Int} {w : World} (h : Kn p C T Wl Vl w) : ∃ ia ic wa wc va vc, w.cell? ⟨p, 0, none⟩ = some (.int .i64 C) ∧ w.cell? ⟨p, 1, none⟩ = some (.slice ia T.length ic) ∧ w.cell? ⟨p, 2, none⟩ = some (.slice wa Wl.length wc) ∧ w.cell? ⟨p, 3, none⟩ = some (.slice va Vl.length vc) ∧
    Ls (.slice ia T.length ic) T w ∧ Ls (.slice wa Wl.length wc) Wl w ∧ Ls (.slice va Vl.length vc) Vl w := by
  obtain ⟨vi, vw, vv, h1, h2, h3, h4⟩ := h
  obtain ⟨ia, ic, rfl⟩ := h2.form
  obtain ⟨wa, wc, rfl⟩ := h3.form
  obtain ⟨va, vc, rfl⟩ := h4.form
  exact ⟨ia, ic, wa, wc, va, vc, (cell_of_row w p 0 _ 48 _ h1).trans rfl, (cell_of_row w p 1 _ 48 _ h1).trans rfl, (cell_of_row w p 2 _ 48 _ h1).trans rfl, (cell_of_row w p 3 _ 48 _ h1).trans rfl, h2, h3, h4⟩
/-- a place of a list -/
theorem Ls.at_ {a : Option Addr} {n c : Nat} {L : List Int} {w : World} (h : Ls (.slice a n c) L w) (k : Nat) (hk : k < L.length) : ∃ g o, a = some ⟨g, o, none⟩ ∧ w.cell? ⟨g, o + k, none⟩ = some (.int .i64 (nt L k)) := by
  rcases h with ⟨_, _, _, h0⟩ | ⟨g, o, c', h1, _, _, h4⟩
  · subst h0; simp at hk
  · injection h1 with q1 q2 q3
    exact ⟨g, o, q1, h4 k hk⟩
theorem depth_none (w : World) : Calls Try.prog 16 #[.pointer none] w fun e w' => e = .returned (.int .i64 0) ∧ w = w' := by
  go_enter Try.func16, Try.ntmps16
  go_wp2
  go_ret
  exact ⟨rfl, rfl⟩
theorem depth_any {p : Nat} {C : Int} {T Wl Vl : List Int} {w : World} (h : Kn p C T Wl Vl w) : Calls Try.prog 16 #[.pointer (some ⟨p, 0, none⟩)] w fun e w' => e = .returned (.int .i64 (T.length : Int)) ∧ w = w' := by
  obtain ⟨ia, ic, wa, wc, va, vc, c0, c1, c2, c3, _⟩ := h.cells
  clear h
  go_enter Try.func16, Try.ntmps16
  go_wp2
  go_ret
  exact ⟨rfl, rfl⟩
theorem left_none (v : Value) (w : World) : Calls Try.prog 30 #[.pointer none, v] w fun e w' => e = .returned (.tuple #[.int .i64 0, .int .i64 1]) ∧ w = w' := by
  have D := Lib.hid (fun W => depth_none W)
  go_enter Try.func30, Try.ntmps30
  go_wp2_with fail
  refine (D.out _).mono ?_; rintro e w1 ⟨rfl, rfl⟩
  go_wp2
  go_ret2
  exact ⟨rfl, rfl⟩
/-- the room that is left behind so many numbers -/
def rm (C : Int) (Wl pl : List Int) : Nat → Int
  | 0 => C
  | k + 1 => rm C Wl pl k - (if nt pl k = 0 then 0 else nt Wl k)
theorem rm_b {C : Int} {T Wl Vl : List Int} (pl : List Int) (h : KnOk C T Wl Vl) : ∀ k, k ≤ T.length → rm C Wl pl k ≤ C ∧ C - (k : Int) * 2147483647 ≤ rm C Wl pl k
  | 0, _ => ⟨Int.le_refl _, by show C - ((0 : Nat) : Int) * _ ≤ C; simp⟩
  | k + 1, hk => by
    have ih := rm_b pl h k (by omega)
    have hw := h.w k (by omega)
    show rm C Wl pl k - _ ≤ C ∧ _ ≤ rm C Wl pl k - _
    split <;> omega
/-- is it a prefix? -/
structure LeftOk (C : Int) (Wl pl : List Int) : Prop where
  le : pl.length ≤ Wl.length
  bit : ∀ j, j < pl.length → nt pl j = 0 ∨ nt pl j = 1
  room : 0 ≤ rm C Wl pl pl.length
def LfP (C : Int) (Wl pl : List Int) (w : World) (e : Ending) (w' : World) : Prop := w = w' ∧ (LeftOk C Wl pl → e = .returned (.tuple #[.int .i64 (rm C Wl pl pl.length), .int .i64 0])) ∧ (¬ LeftOk C Wl pl → e = .returned (.tuple #[.int .i64 0, .int .i64 1]))
theorem lf_no {C : Int} {Wl pl : List Int} (w : World) (h : ¬ LeftOk C Wl pl) : LfP C Wl pl w (.returned (.tuple #[.int .i64 0, .int .i64 1])) w := ⟨rfl, fun g => absurd g h, fun _ => rfl⟩
theorem lf_yes {C : Int} {Wl pl : List Int} (w : World) (h : LeftOk C Wl pl) : LfP C Wl pl w (.returned (.tuple #[.int .i64 (rm C Wl pl pl.length), .int .i64 0])) w := ⟨rfl, fun g => rfl, fun f => absurd h f⟩
set_option maxHeartbeats 4000000 in
theorem left_any {p : Nat} {C : Int} {T Wl Vl pl : List Int} {v : Value} {w : World} (ok : KnOk C T Wl Vl) (h : Kn p C T Wl Vl w) (hp : Ls v pl w) (hl : pl.length ≤ 1000) :
    Calls Try.prog 30 #[.pointer (some ⟨p, 0, none⟩), v] w (LfP C Wl pl w) := by
  have D := Lib.hid (depth_any h)
  obtain ⟨pa, pc, rfl⟩ := hp.form
  obtain ⟨ia, ic, wa, wc, va, vc, c0, c1, c2, c3, li, lw, lv⟩ := h.cells
  have HP := Lib.hid hp
  have LW := Lib.hid lw
  have OK := Lib.hid ok
  have n1 := ok.n1
  have n2 := ok.n2
  have b1 : ((T.length : Int) == 0) = false := beq_eq_false_iff_ne.mpr (by omega)
  have LL := Lib.hid ok.lw
  clear h hp ok li lw lv
  by_cases h1 : T.length < pl.length
  · have U := Lib.hid (lf_no (C := C) (Wl := Wl) (pl := pl) w (fun g => by have := g.le; have := LL.out; omega))
    have i1 : (T.length : Int) < (pl.length : Int) := by omega
    clear h1
    go_enter Try.func30, Try.ntmps30
    go_wp2_with fail
    refine D.out.mono ?_; rintro e w1 ⟨rfl, rfl⟩
    go_wp2_with fail
    refine D.out.mono ?_; rintro e w1 ⟨rfl, rfl⟩
    go_wp2
    go_ret2
    exact U.out
  · have i1 : ¬ (T.length : Int) < (pl.length : Int) := by omega
    have H1 := Lib.hid h1
    clear h1
    go_enter Try.func30, Try.ntmps30
    go_wp2_with fail
    refine D.out.mono ?_; rintro e w1 ⟨rfl, rfl⟩
    go_wp2_with fail
    refine D.out.mono ?_; rintro e w1 ⟨rfl, rfl⟩
    clear b1
    go_wp2_with fail
    go_loop [25, 6] (fun i r => ∃ k : Nat, i = .int .i64 (k : Int) ∧ r = .int .i64 (rm C Wl pl k) ∧ k ≤ pl.length ∧ Hid (∀ j, j < k → nt pl j = 0 ∨ nt pl j = 1)) (fun i _ => pl.length - (intOf i).toNat)
    case atStart => exact ⟨0, rfl, rfl, Nat.zero_le _, Lib.hid (fun j hj => by omega)⟩
    case round =>
      obtain ⟨k, rfl, rfl, hk, HB⟩ := hrel
      have rb := rm_b pl OK.out k (by have := H1.out; omega)
      have ok0 := OK.out.c0
      have ok1 := OK.out.c1
      have hkT : k ≤ 64 := by have := H1.out; omega
      by_cases hlt : k < pl.length
      · obtain ⟨g, o, rfl, m1⟩ := HP.out.at_ k hlt
        obtain ⟨g2, o2, rfl, m2⟩ := LW.out.at_ k (by have := H1.out; have := LL.out; omega)
        have i2 : (k : Int) < (pl.length : Int) := by omega
        have i3 : (k : Int) < (Wl.length : Int) := by have := H1.out; have := LL.out; omega
        have wb := OK.out.w k (by have := H1.out; omega)
        have ES := Lib.hid (show rm C Wl pl (k + 1) = rm C Wl pl k - (if nt pl k = 0 then 0 else nt Wl k) from rfl)
        have NF := Lib.hid (fun (G : LeftOk C Wl pl) => G.bit k hlt)
        generalize rm C Wl pl k = R at *
        generalize hx : nt pl k = x at *
        have HX := Lib.hid hx
        generalize nt Wl k = y at *
        clear hx
        by_cases x0 : x = 0
        · have e0 := ES.out
          rw [if_pos x0] at e0
          replace e0 := Lib.hid e0
          have HB2 := Lib.hid (show ∀ j, j < k + 1 → nt pl j = 0 ∨ nt pl j = 1 from fun j hj => by
            by_cases e : j = k
            · subst e; rw [HX.out]; exact .inl x0
            · exact HB.out j (by omega))
          have b2 : (x == 0) = true := by simpa using x0
          clear x0 HB ES
          go_wp2
          go_round
          case rel => exact ⟨k + 1, by go_num, by rw [e0.out]; go_num, by omega, HB2⟩
          case measure => simp [intOf]; omega
        · by_cases x1 : x = 1
          · have e0 := ES.out
            rw [if_neg x0] at e0
            replace e0 := Lib.hid e0
            have HB2 := Lib.hid (show ∀ j, j < k + 1 → nt pl j = 0 ∨ nt pl j = 1 from fun j hj => by
              by_cases e : j = k
              · subst e; rw [HX.out]; exact .inr x1
              · exact HB.out j (by omega))
            have b2 : (x == 0) = false := by simpa using x0
            have b3 : (x == 1) = true := by simpa using x1
            clear x0 x1 HB ES
            go_wp2
            go_round
            case rel => exact ⟨k + 1, by go_num, by rw [e0.out], by omega, HB2⟩
            case measure => simp [intOf]; omega
          · have U := Lib.hid (lf_no (C := C) (Wl := Wl) (pl := pl) w (fun g => by have := NF.out g; omega))
            have b2 : (x == 0) = false := by simpa using x0
            have b3 : (x == 1) = false := by simpa using x1
            clear x0 x1 HB ES NF
            go_wp2
            go_ret2
            exact U.out
      · obtain rfl : k = pl.length := by omega
        have i2 : ¬ (pl.length : Int) < (pl.length : Int) := by omega
        by_cases hr : rm C Wl pl pl.length < 0
        · have U := Lib.hid (lf_no (C := C) (Wl := Wl) (pl := pl) w (fun g => by have := g.room; omega))
          clear HB rb
          go_wp2
          go_ret2
          exact U.out
        · have U := Lib.hid (lf_yes (C := C) (Wl := Wl) (pl := pl) w ⟨by have := H1.out; have := LL.out; omega, HB.out, by omega⟩)
          clear HB rb
          go_wp2
          go_ret2
          exact U.out
end Go.Proofs.Yteoionlnnjcggaa.kn
