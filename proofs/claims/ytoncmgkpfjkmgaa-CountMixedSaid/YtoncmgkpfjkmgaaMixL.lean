/-
  The walk through kurganlaw23.CountMixed.
-/
import Derived.Test.YtoncmgkpfjkmgaaMx
namespace Go.Proofs.Ytoncmgkpfjkmgaa
open Go.RowKit Go.MuLone
set_option linter.unusedVariables false
theorem u64_bd2 (x : Int) : 0 ≤ IntKind.u64.wrap x ∧ IntKind.u64.wrap x ≤ 18446744073709551615 := by rw [IntKind.wrap_u64]; omega
/-- the numbers that came in, at hand -/
def RowAt (a : Option Addr) (n c m : Nat) (l : List Int) (w : World) : Prop := ∀ k, k < m → ∃ bb oo, a = some ⟨bb, oo, none⟩ ∧ ∀ W, Below w.heap.size w W → W.cell? ⟨bb, oo + k, none⟩ = some (.int .i64 (nth l k))
set_option maxRecDepth 100000 in
set_option maxHeartbeats 16000000 in
theorem mixed_core (o n X : Int) (Y M m : Nat) (hX : IntKind.u64.wrap n = X) (hX1 : 0 ≤ X ∧ X ≤ 18446744073709551615) (hM : X % 5 = (M : Int)) (V : Int) (hV : IntKind.u64.wrap o = V) (hV1 : 0 ≤ V ∧ V ≤ 18446744073709551615) (hY : V % 100 = (Y : Int))
    (a : Option Addr) (rn rc : Nat) (l : List Int) (w : World) (hm : m ≤ 100) (hrn : ∀ k : Nat, k < m → k < rn) (hrn2 : ¬ m = 100 → rn = m) (hR : RowAt a rn rc m l w) :
    Calls Try.prog 4 #[.int .i64 o, .int .i64 n, .slice a rn rc] w fun e w' => e = .returned (.bool true) ∧ Below w.heap.size w w' := by
  have hM1 : M ≤ 4 := by omega
  have hY1 : Y ≤ 99 := by omega
  have F := Lib.hid (fun W => fresh_any (Y : Int) (1 + (M : Int)) (by omega) (by omega) (by omega) W)
  have C := Lib.hid (fun W => counts_any W)
  have R := Lib.hid hR
  have E1 := Lib.hid (heap_alloc_new w (.cells #[.int .i64 (Y : Int), .int .i64 (1 + (M : Int))] 42))
  have B1 := Lib.hid (bl_al (Below.refl _ w) (.cells #[.int .i64 (Y : Int), .int .i64 (1 + (M : Int))] 42))
  have HN := Lib.hid hrn
  have HN2 := Lib.hid hrn2
  clear hR hrn hrn2
  go_enter Try.func4, Try.ntmps4
  go_wp2_with fail
  generalize hpw : w.heap.size = pw at *
  refine (F.out _).mono ?_; rintro e w1 ⟨q, g, b, rfl, hq, hg, hb, st, bl⟩
  have hsz : (w.alloc (.cells #[.int .i64 (Y : Int), .int .i64 (1 + (M : Int))] 42)).heap.size = pw + 1 := by rw [← hpw]; simp
  have G := Lib.hid (show pw ≤ q ∧ pw ≤ g ∧ pw ≤ b by omega)
  have S := Lib.hid st
  have W1 := Lib.hid ((bl.block pw (by omega)).trans E1.out)
  have B := Lib.hid (bl_tr (by rw [hpw]; exact B1.out) bl)
  clear hq hg hb st bl F E1 B1 hsz
  go_wp2_with fail
  refine (C.out _).mono ?_; rintro e w3 ⟨rfl, hb⟩
  have S := Lib.hid (S.out.keep (Tw.of (S := []) hb) (by simp) (by simp) (by simp))
  have W1 := Lib.hid ((hb.block pw (lt_hp W1.out)).trans W1.out)
  have B := Lib.hid (bl_tr B.out hb)
  clear hb C
  go_wp2_with fail
  generalize hap : w3.heap.size = ap at *
  have hal := bl_al (Below.refl _ w3) (.cells #[.pointer none, .pointer none, .pointer none, .pointer none, .pointer none] 45)
  have MX : Hid (Mx q g b pw ap pw (fun _ => none) Y (1 + (M : Int)) 2 Y (1 + (M : Int)) w (w3.alloc (.cells #[.pointer none, .pointer none, .pointer none, .pointer none, .pointer none] 45))) :=
    ⟨S.out.keep (Tw.of (S := []) hal) (by simp) (by simp) (by simp), (hal.block pw (lt_hp W1.out)).trans W1.out, by rw [← hap]; exact heap_alloc_new _ _, (fun i p _ h => by cases h), (fun i j p _ _ h => by cases h), by have := G.out; have := B.out.size; omega, hpw.symm, by have := bl_tr B.out hal; rwa [hpw] at this⟩
  clear hal G S W1 B
  go_loopw [12] (fun i wr => ∃ (k : Nat) (f : Nat → Option Nat) (y z s : Int), i = .int .i64 k ∧ k ≤ m ∧ Hid (-100 - 10 * (k : Int) ≤ y ∧ y ≤ 100 + 10 * (k : Int) ∧ 1 ≤ z ∧ z ≤ 5 ∧ 0 ≤ s ∧ s ≤ 2 + k) ∧ Hid (Mx q g b pw ap pw f y z s y z w wr)) (fun i _ => 200 - (intOf i).toNat)
  case atStart => exact ⟨0, fun _ => none, Y, 1 + (M : Int), 2, rfl, by omega, Lib.hid (by omega), MX⟩
  case round =>
    clear MX
    obtain ⟨k, f, y, z, s, rfl, hk, BD, MX⟩ := hrel
    by_cases hlt : k < m
    · have i1 : (k : Int) < (rn : Int) := by have := HN.out k hlt; omega
      have i2 : (k : Int) < 100 := by omega
      obtain ⟨bb, oo, rfl, hc⟩ := R.out k hlt
      have c1 := hc wr (by rw [hpw]; exact MX.out.bel)
      generalize nth l k = xv at *
      obtain ⟨U, hU⟩ : ∃ U, IntKind.u64.wrap xv = U := ⟨_, rfl⟩
      have hU1 := u64_bd2 xv
      rw [hU] at hU1
      have MXo := MX
      clear MX
      go_wp2_with fail
      refine (mx_steps MXo.out).mono ?_; rintro e w4 ⟨rfl, mx⟩
      have MX := Lib.hid mx
      obtain ⟨p0, p1, pf, af, pa⟩ := mx.cells
      clear MXo mx c1 hc hU
      have bd := BD.out
      have kk : (k : Int) ≤ 99 := by omega
      have s0 : 0 ≤ s := by omega
      have s1 : s ≤ 1000 := by omega
      have y0 : -10000 ≤ y := by omega
      have y1 : y ≤ 10000 := by omega
      have z0 : 1 ≤ z := by omega
      have z1 : z ≤ 5 := by omega
      have zz : (z == z) = true := by simp
      have yz : (y == y) = true := by simp
      have dz : decide (z < 1) = false := decide_eq_false (by omega)
      clear bd
      rcases (by omega : U % 8 = 5 ∨ U % 8 = 6 ∨ U % 8 = 7 ∨ (0 ≤ U % 8 ∧ U % 8 < 5)) with h8 | h8 | h8 | h8
      · rw [h8]
        obtain ⟨d, hd⟩ : ∃ d : Int, d = (k : Int) % 7 - 2 := ⟨_, rfl⟩
        have d0 : -10 ≤ d := by omega
        have d1 : d ≤ 10 := by omega
        have e7 : (k : Int) % 7 = d + 2 := by omega
        have e8 : (d : Int) + 2 - 2 = d := by omega
        have hww : IntKind.i64.wrap (y + d) = y + d := IntWalk.i64_in _ (by omega)
        have DD := Lib.hid (show -10 ≤ d ∧ d ≤ 4 by omega)
        clear hd
        go_wp2_with fail
        have M := Lib.hid (mx_more d d0 d1 y0 y1 s0 (by omega) MX.out)
        clear d0 d1 e7 e8
        clear MX
        refine M.out.mono ?_; rintro e w5 ⟨rfl, mx⟩
        obtain ⟨p0, p1, pf, af, pa⟩ := mx.cells
        have MX := Lib.hid mx
        clear mx M
        go_wp2_with fail
        have MX : Hid (Mx q g b pw ap pw f (y + d) z (s + 1) (y + d) z w (w5.setCell ⟨pw, 0, none⟩ (.int .i64 (y + d)))) := Lib.hid (MX.out.sw 0 (.int .i64 (y + d)) rfl)
        generalize (w5.setCell ⟨pw, 0, none⟩ (.int .i64 (y + d))) = w5' at *
        have BD := Lib.hid (show -100 - 10 * ((k + 1 : Nat) : Int) ≤ y + d ∧ y + d ≤ 100 + 10 * ((k + 1 : Nat) : Int) ∧ 1 ≤ z ∧ z ≤ 5 ∧ 0 ≤ s + 1 ∧ s + 1 ≤ 2 + ((k + 1 : Nat) : Int) by have := BD.out; have := DD.out; omega)
        clear hww DD
        generalize y + d = y3 at *
        have yz : (y3 == y3) = true := by simp
        go_wp2_with fail
        refine (mx_steps MX.out).mono ?_; rintro e w6 ⟨rfl, mx⟩
        have MX := Lib.hid mx
        clear mx
        go_wp2_with fail
        refine (mx_now MX.out).mono ?_; rintro e w7 ⟨rfl, mx⟩
        obtain ⟨p0, p1, pf, af, pa⟩ := mx.cells
        have MX := Lib.hid mx
        clear mx
        go_wp2
        exact ⟨⟨k + 1, f, y3, z, s + 1, by simp, by omega, BD, MX⟩, by simp [intOf]; omega⟩
      · rw [h8]
        have M := Lib.hid (fun W (hW : Mx q g b pw ap pw f y z s y z w W) => mx_open s0 (by omega) hW)
        have MX := Lib.hid MX.out.ds
        have p0 : w4.drew.cell? ⟨pw, 0, none⟩ = some (.int .i64 y) := p0
        clear h8
        go_wp2_with fail
        go_region_held3 (fun w' => w'.cell? ⟨pw, 0, none⟩ = some (.int .i64 y)) (first | exact p0 | simp [go_sem, p0])
          (first | (go_at_call 12; (with_reducible refine (M.out _ MX.out).mono ?_); rintro e w5 ⟨rfl, mx⟩; obtain ⟨p0, p1, pf, af, pa⟩ := mx.cells; have MX := Lib.hid mx; clear mx))
        all_goals
          clear M
          go_wp2_with fail
          refine (mx_steps MX.out).mono ?_; rintro e w6 ⟨rfl, mx⟩
          have MX := Lib.hid mx
          clear mx
          go_wp2_with fail
          refine (mx_now MX.out).mono ?_; rintro e w7 ⟨rfl, mx⟩
          obtain ⟨p0, p1, pf, af, pa⟩ := mx.cells
          have MX := Lib.hid mx
          clear mx
          go_wp2
          exact ⟨⟨k + 1, f, y, z, s + 1, by simp, by omega, Lib.hid (by have := BD.out; omega), MX⟩, by simp [intOf]; omega⟩
      · rw [h8]
        have M := Lib.hid (fun W (hW : Mx q g b pw ap pw f y z s y z w W) => mx_work s0 (by omega) hW)
        have MX := Lib.hid MX.out.ds
        have p1 : w4.drew.cell? ⟨pw, 1, none⟩ = some (.int .i64 z) := p1
        clear h8
        go_wp2_with fail
        go_region_held3 (fun w' => w'.cell? ⟨pw, 1, none⟩ = some (.int .i64 z)) (first | exact p1 | simp [go_sem, p1])
          (first | (go_at_call 13; (with_reducible refine (M.out _ MX.out).mono ?_); rintro e w5 ⟨rfl, mx⟩; obtain ⟨p0, p1, pf, af, pa⟩ := mx.cells; have MX := Lib.hid mx; clear mx))
        all_goals
          clear M
          go_wp2_with fail
          refine (mx_steps MX.out).mono ?_; rintro e w6 ⟨rfl, mx⟩
          have MX := Lib.hid mx
          clear mx
          go_wp2_with fail
          refine (mx_now MX.out).mono ?_; rintro e w7 ⟨rfl, mx⟩
          obtain ⟨p0, p1, pf, af, pa⟩ := mx.cells
          have MX := Lib.hid mx
          clear mx
          go_wp2
          exact ⟨⟨k + 1, f, y, z, s + 1, by simp, by omega, Lib.hid (by have := BD.out; omega), MX⟩, by simp [intOf]; omega⟩
      · obtain ⟨nn, hn⟩ : ∃ nn : Nat, U % 8 = nn := ⟨(U % 8).toNat, by omega⟩
        rw [hn]
        have n5 : nn < 5 := by omega
        have e5 : ((nn : Int) == 5) = false := by simp; omega
        have e6 : ((nn : Int) == 6) = false := by simp; omega
        have e7 : ((nn : Int) == 7) = false := by simp; omega
        have d5 : decide (5 ≤ (nn : Int)) = false := decide_eq_false (by omega)
        have n0 : (0 : Int) ≤ (nn : Int) := by omega
        have n5i : (nn : Int) < 5 := by omega
        clear h8 hn
        by_cases hwk : nn < 1 + M
        · have dw : (nn : Int) < 1 + (M : Int) := by omega
          have pn := pa nn n5
          have an := af nn
          cases hf : f nn with
          | none =>
            rw [hf] at pn
            have pn' : w4.cell? ⟨ap, nn, none⟩ = some (.pointer none) := pn
            have L := Lib.hid (fun W => leave_any q W)
            have MXa := Lib.hid MX.out.ab
            clear pa pn af
            go_wp2_with fail
            refine (L.out _).mono ?_; rintro e w5 ⟨p, rfl, hp, ha, hb⟩
            have MX := Lib.hid (MX.out.nw n5 hp ha hb)
            have an : w5.frozen? ⟨ap, nn, none⟩ = false := by
              have h1 := (hb.block ap (lt_hp MXa.out)).trans MXa.out
              simp [World.frozen?, h1]
            have pn' : w5.cell? ⟨ap, nn, none⟩ = some (.pointer none) := by
              have h1 := hb.cell (p := ⟨ap, nn, none⟩) (lt_hp MXa.out)
              exact h1.trans pn'
            clear hp ha hb L MXa
            go_wp2
            exact ⟨⟨k + 1, upd f nn p, y, z, s, by simp, by omega, Lib.hid (by have := BD.out; omega), MX⟩, by simp [intOf]; omega⟩
          | some p =>
            rw [hf] at pn
            have pn' : w4.cell? ⟨ap, nn, none⟩ = some (.pointer (some ⟨p, 0, none⟩)) := pn
            obtain ⟨hbp, nx, ac, lf, ha, ho⟩ := MX.out.act nn p n5 hf
            clear pa pn af
            by_cases h2 : nx = 2
            · have O := Lib.hid (over_any p q nx ac lf true (by simp [h2]) w4 ha)
              clear ha ho
              go_wp2_with fail
              refine O.out.mono ?_; rintro e w5 ⟨rfl, rfl⟩
              clear O
              go_wp2
              exact ⟨⟨k + 1, f, y, z, s, by simp, by omega, Lib.hid (by have := BD.out; omega), MX⟩, by simp [intOf]; omega⟩
            · have O := Lib.hid (over_any p q nx ac lf false (by simp [h2]) w4 ha)
              obtain ⟨r, lf2, z', nx2, ac2, hcase, za, zb, ST⟩ := mx_step z0 z1 s0 (by omega) MX.out n5 hf ha ho h2
              have ST := Lib.hid ST
              have ZB := Lib.hid (And.intro za zb)
              clear ha ho h2 MX
              go_wp2_with fail
              refine O.out.mono ?_; rintro e w5 ⟨rfl, rfl⟩
              clear O
              go_wp2_with fail
              refine ST.out.mono ?_; rintro e w5 ⟨rfl, ha, mx⟩
              obtain ⟨p0, p1, pf, af, pa⟩ := mx.cells
              have pn' := pa nn n5
              rw [hf] at pn'
              have pn' : w5.cell? ⟨ap, nn, none⟩ = some (.pointer (some ⟨p, 0, none⟩)) := pn'
              have an := af nn
              have MX := Lib.hid mx
              have LF := Lib.hid (left_any p q nx2 ac2 lf2 w5 ha)
              clear ST mx pa af ha hbp
              rcases hcase with ⟨rfl, rfl⟩ | ⟨rfl, rfl, rfl⟩ | ⟨rfl, rfl, rfl⟩
              · clear LF
                go_wp2_with fail
                refine (mx_steps MX.out).mono ?_; rintro e w6 ⟨rfl, mx⟩
                have MX := Lib.hid mx
                clear mx
                go_wp2_with fail
                refine (mx_now MX.out).mono ?_; rintro e w7 ⟨rfl, mx⟩
                obtain ⟨p0, p1, pf, af, pa⟩ := mx.cells
                have MX := Lib.hid mx
                clear mx
                go_wp2
                exact ⟨⟨k + 1, f, y, z', s + 1, by simp, by omega, Lib.hid (by have := BD.out; omega), MX⟩, by simp [intOf]; omega⟩
              · go_wp2_with fail
                refine LF.out.mono ?_; rintro e w6 ⟨rfl, rfl⟩
                clear LF
                go_wp2_with fail
                refine (mx_steps MX.out).mono ?_; rintro e w6 ⟨rfl, mx⟩
                have MX := Lib.hid mx
                clear mx
                go_wp2_with fail
                refine (mx_now MX.out).mono ?_; rintro e w7 ⟨rfl, mx⟩
                obtain ⟨p0, p1, pf, af, pa⟩ := mx.cells
                have MX := Lib.hid mx
                clear mx
                go_wp2
                exact ⟨⟨k + 1, f, y, z', s + 1, by simp, by omega, Lib.hid (by have := BD.out; omega), MX⟩, by simp [intOf]; omega⟩
              · go_wp2_with fail
                refine LF.out.mono ?_; rintro e w6 ⟨rfl, rfl⟩
                clear LF
                go_wp2_with fail
                have MX : Hid (Mx q g b pw ap pw f y (z - 1) (s + 1) y (z - 1) w (w5.setCell ⟨pw, 1, none⟩ (.int .i64 (z - 1)))) := Lib.hid (MX.out.sw 1 (.int .i64 (z - 1)) rfl)
                generalize (w5.setCell ⟨pw, 1, none⟩ (.int .i64 (z - 1))) = w5' at *
                have BD := Lib.hid (show -100 - 10 * ((k + 1 : Nat) : Int) ≤ y ∧ y ≤ 100 + 10 * ((k + 1 : Nat) : Int) ∧ 1 ≤ z - 1 ∧ z - 1 ≤ 5 ∧ 0 ≤ s + 1 ∧ s + 1 ≤ 2 + ((k + 1 : Nat) : Int) by have := BD.out; have := ZB.out; omega)
                have dz : decide (z - 1 < 1) = false := decide_eq_false (by have := BD.out; omega)
                clear ZB
                generalize z - 1 = z3 at *
                have zz : (z3 == z3) = true := by simp
                go_wp2_with fail
                refine (mx_steps MX.out).mono ?_; rintro e w6 ⟨rfl, mx⟩
                have MX := Lib.hid mx
                clear mx
                go_wp2_with fail
                refine (mx_now MX.out).mono ?_; rintro e w7 ⟨rfl, mx⟩
                obtain ⟨p0, p1, pf, af, pa⟩ := mx.cells
                have MX := Lib.hid mx
                clear mx
                go_wp2
                exact ⟨⟨k + 1, f, y, z3, s + 1, by simp, by omega, BD, MX⟩, by simp [intOf]; omega⟩
        · have dw : ¬ (nn : Int) < 1 + (M : Int) := by omega
          clear pa af
          go_wp2_with fail
          refine (mx_now MX.out).mono ?_; rintro e w7 ⟨rfl, mx⟩
          obtain ⟨p0, p1, pf, af, pa⟩ := mx.cells
          have MX := Lib.hid mx
          clear mx
          go_wp2
          exact ⟨⟨k + 1, f, y, z, s, by simp, by omega, Lib.hid (by have := BD.out; omega), MX⟩, by simp [intOf]; omega⟩
    · by_cases hm2 : m = 100
      · have i2 : ¬ (k : Int) < 100 := by omega
        have B := Lib.hid (MX.out.bel)
        clear BD MX HN HN2 R
        by_cases i1 : (k : Int) < (rn : Int)
        · go_wp2
          go_ret
          exact ⟨rfl, B.out⟩
        · go_wp2
          go_ret
          exact ⟨rfl, B.out⟩
      · have i1 : ¬ (k : Int) < (rn : Int) := by have := HN2.out hm2; omega
        have B := Lib.hid (MX.out.bel)
        clear BD MX HN HN2 R
        go_wp2
        go_ret
        exact ⟨rfl, B.out⟩
theorem countMixed_walk (o n : Int) (l : List Int) (a : Option Addr) (rn rc : Nat) (w : World) (h0 : (Lit.int .i64 o).wf = true) (h1 : (Lit.int .i64 n).wf = true) (h : Arg 100 w a rn rc l) :
    Calls Try.prog 4 #[.int .i64 o, .int .i64 n, .slice a rn rc] w fun e w' => e = .returned (.bool true) ∧ Below w.heap.size w w' := by
  have hb := u64_bd2 n
  have hc := u64_bd2 o
  refine mixed_core o n (IntKind.u64.wrap n) (IntKind.u64.wrap o % 100).toNat (IntKind.u64.wrap n % 5).toNat l.length rfl hb (by omega) (IntKind.u64.wrap o) rfl hc (by omega) a rn rc l w h.len ?_ ?_ ?_
  · rcases h with ⟨_, _, _, rfl⟩ | ⟨_, _, _, _, rfl⟩ | ⟨b, o, e, h1, h2, h3, h4, h5⟩
    · intro k hk; simp at hk
    · intro k hk; simp at hk
    · intro k hk; omega
  · rcases h with ⟨_, rfl, _, rfl⟩ | ⟨_, _, rfl, _, rfl⟩ | ⟨b, o, e, h1, h2, h3, h4, h5⟩
    · intro _; rfl
    · intro _; rfl
    · intro _; omega
  · intro k hk
    rcases h with ⟨_, _, _, rfl⟩ | ⟨_, _, _, _, rfl⟩ | ⟨b, o, e, h1, h2, h3, h4, h5⟩
    · simp at hk
    · simp at hk
    · exact ⟨b, o, e, fun W hW => (hW.cell (p := ⟨b, o + k, none⟩) h3).trans (h4 k hk)⟩
end Go.Proofs.Ytoncmgkpfjkmgaa
