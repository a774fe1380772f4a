/-
  knap: the reference's state, Kids and Answer; the kernel's Answer.
-/
import Derived.Test.YteoionlnnjcggaaKp
namespace Go.Proofs.Yteoionlnnjcggaa.kn
open Go.RowKit
set_option linter.unusedVariables false
theorem rm_mono {C : Int} {T Wl Vl : List Int} (pl : List Int) (ok : KnOk C T Wl Vl) (k : Nat) : ∀ d, k + d ≤ T.length → rm C Wl pl (k + d) ≤ rm C Wl pl k
  | 0, _ => Int.le_refl _
  | d + 1, h => by
    have ih := rm_mono pl ok k d (by omega)
    have wb := ok.w (k + d) (by omega)
    show rm C Wl pl (k + d) - (if nt pl (k + d) = 0 then 0 else nt Wl (k + d)) ≤ _
    split <;> omega
theorem results_tmp4 {fn : Func} {t u v x : Tmp} (h : fn.results = #[.tmp t, .tmp u, .tmp v, .tmp x]) (tmps : Array Value) (P : Program) (w : World) :
    (results fn tmps).run P w = .ok (.tuple #[tmps.getD t undef, tmps.getD u undef, tmps.getD v undef, tmps.getD x undef]) w := by
  simp [results, h]
def NoP (w : World) (e : Ending) (w' : World) : Prop := e = .returned (.tuple #[.slice none 0 0, .int .i64 0, .int .i64 0, .bool false]) ∧ Below w.heap.size w w'
def YesP (C : Int) (T Wl Vl pl : List Int) (w : World) (e : Ending) (w' : World) : Prop := ∃ g, e = .returned (.tuple #[.slice (some ⟨g, 0, none⟩) T.length T.length, .int .i64 (rm C Wl pl pl.length), .int .i64 (lost Vl pl pl.length), .bool true]) ∧ od.Ints w' (some ⟨g, 0, none⟩) T ∧ Below w.heap.size w w'
def StP (C : Int) (T Wl Vl pl : List Int) (w : World) (e : Ending) (w' : World) : Prop := (LeftOk C Wl pl ∧ YesP C T Wl Vl pl w e w') ∨ (¬ LeftOk C Wl pl ∧ NoP w e w')
set_option maxRecDepth 100000 in
set_option maxHeartbeats 8000000 in
theorem state_any (K N C : Int) (wl vl : List Int) (cl : List (List Int)) (T pl : List Int) (wa va ca : Option Addr) (wc vc cc : Nat) (v : Value) (w : World) (hw : Ints w wa wl) (hv : Ints w va vl) (hN : (wl.length : Int) = N) (lv : vl.length = wl.length) (n2 : wl.length ≤ 64)
    (io : ∀ j, j < wl.length → (0 ≤ nt wl j ∧ nt wl j ≤ 2147483647) ∧ (0 ≤ nt vl j ∧ nt vl j ≤ 2147483647)) (ho : Ordd wl vl T) (ok : KnOk C T (pick wl T) (pick vl T)) (hp : Ls v pl w) (hl : pl.length ≤ 1000) :
    Calls Try.prog 33 #[.agg #[.int .i64 K, .int .i64 N, .int .i64 C, .slice wa wl.length wc, .slice va vl.length vc, .slice ca cl.length cc], v] w (StP C T (pick wl T) (pick vl T) pl w) := by
  have RO : od.ratOk vl wl := ⟨by omega, by omega, noneg_of lv (fun j hj => (io j hj).2.1), noneg_of rfl (fun j hj => (io j hj).1.1)⟩
  have BA := bl_al (Below.refl _ w) (.cells #[.int .i64 K, .int .i64 N, .int .i64 C, .slice wa wl.length wc, .slice va vl.length vc, .slice ca cl.length cc] 25)
  have RR := Lib.hid (od.rrat_ok vl wl RO (i64_of lv (fun j hj => (io j hj).2)) (i64_of rfl (fun j hj => (io j hj).1)) va wa vc wc _ (ints_od (hv.keep BA)) (ints_od (hw.keep BA)))
  have q0 := heap_alloc_new w (.cells #[.int .i64 K, .int .i64 N, .int .i64 C, .slice wa wl.length wc, .slice va vl.length vc, .slice ca cl.length cc] 25)
  obtain ⟨c0, c1, c2, c3, c4, c5⟩ := box6 q0
  have Q0 := Lib.hid q0
  have HBA := Lib.hid BA
  obtain ⟨pa, pc, rfl⟩ := hp.form
  have HP := Lib.hid (fun (X : World) (h : Below w.heap.size w X) => hp.up h)
  have HW := Lib.hid (fun (X : World) (h : Below w.heap.size w X) => hw.keep h)
  have HV := Lib.hid (fun (X : World) (h : Below w.heap.size w X) => hv.keep h)
  have OK := Lib.hid ok
  have IO := Lib.hid io
  have LV := Lib.hid lv
  have TL : T.length = wl.length := ho.is_.1
  have HTL := Lib.hid TL
  have ON := Lib.hid (show ∀ U : List Int, od.IsRk (od.ltR vl wl) vl.length U → U = T from fun U hU => od.isRk_one ho.is_ ho.on (by rw [← lv]; exact hU))
  have RG := Lib.hid ho.rng.2
  have NN := Lib.hid n2
  clear RO BA q0 hp hw hv ok io lv ho TL
  go_enter Try.func33, Try.ntmps33
  go_wp2_with fail
  refine RR.out.mono ?_; rintro e w2 ⟨g, U, rfl, hU, hi, hb⟩
  obtain rfl := ON.out U hU
  have LT := Lib.hid hi
  have HB := Lib.hid (bl_tr HBA.out hb)
  have E2 := Lib.hid ((hb.block _ (lt_hp Q0.out)).trans Q0.out)
  clear c0 c1 c2 c3 c4 c5
  obtain ⟨c0, c1, c2, c3, c4, c5⟩ := box6 E2.out
  clear hU hi hb RR ON Q0 HBA
  by_cases h1 : wl.length < pl.length
  · have U1 := Lib.hid (show ∀ e, e = Ending.returned (.tuple #[.slice none 0 0, .int .i64 0, .int .i64 0, .bool false]) → StP C U (pick wl U) (pick vl U) pl w e w2 from fun e he => .inr ⟨fun g => by have := g.le; rw [pick_len] at this; have := HTL.out; omega, he, HB.out⟩)
    have i1 : N < (pl.length : Int) := by omega
    clear h1
    go_wp2
    (try simp only [Exit.inBlock, Exit.then]); refine bodyPost_ret (results_tmp4 rfl _ _ _) rfl ?_
    exact U1.out _ rfl
  · have i1 : ¬ N < (pl.length : Int) := by omega
    have H1 := Lib.hid h1
    have UN := Lib.hid (show ¬ LeftOk C (pick wl U) pl → ∀ e W, e = Ending.returned (.tuple #[.slice none 0 0, .int .i64 0, .int .i64 0, .bool false]) → Below w.heap.size w W → StP C U (pick wl U) (pick vl U) pl w e W from fun h e W he hb => .inr ⟨h, he, hb⟩)
    have UY := Lib.hid (show LeftOk C (pick wl U) pl → ∀ m e, e = Ending.returned (.tuple #[.slice (some ⟨g, 0, none⟩) vl.length vl.length, .int .i64 (rm C (pick wl U) pl pl.length), .int .i64 (lost (pick vl U) pl pl.length), .bool true]) → StP C U (pick wl U) (pick vl U) pl w e (w2.drewN m) from fun h m e he => .inl ⟨h, g, by rw [he, show vl.length = U.length from by rw [LV.out, HTL.out]], fun j hj => LT.out j hj, bl_dn HB.out _⟩)
    have GLE := Lib.hid (show pl.length ≤ (pick wl U).length from by rw [pick_len, HTL.out]; omega)
    have RMM := Lib.hid (fun k (hk : k ≤ pl.length) => show rm C (pick wl U) pl pl.length ≤ rm C (pick wl U) pl k from by
      have := rm_mono pl OK.out k (pl.length - k) (by rw [HTL.out]; omega)
      rwa [show k + (pl.length - k) = pl.length from by omega] at this)
    have PW := Lib.hid (fun k (hk : k < wl.length) => (show nt (pick wl U) k = nt wl (nt U k).toNat ∧ nt (pick vl U) k = nt vl (nt U k).toNat from ⟨nt_pick _ _ _ (by rw [HTL.out]; exact hk), nt_pick _ _ _ (by rw [HTL.out]; exact hk)⟩))
    have RB := Lib.hid (fun k (hk : k ≤ pl.length) => rm_b pl OK.out k (by rw [HTL.out]; omega))
    have LB := Lib.hid (fun k (hk : k ≤ pl.length) => lost_b pl OK.out k (by rw [HTL.out]; omega))
    have ok0 := OK.out.c0
    have ok1 := OK.out.c1
    clear h1
    go_wp2_with fail
    go_loopw [12, 10, 11] (fun i r o wr => ∃ k : Nat, i = .int .i64 (k : Int) ∧ r = .int .i64 (rm C (pick wl U) pl k) ∧ o = .int .i64 (lost (pick vl U) pl k) ∧ k ≤ pl.length ∧ Hid (∀ j, j < k → nt pl j = 0 ∨ nt pl j = 1) ∧ 0 ≤ rm C (pick wl U) pl k ∧ ∃ m, wr = w2.drewN m) (fun i _ _ _ => pl.length - (intOf i).toNat)
    case atStart => exact ⟨0, rfl, rfl, rfl, Nat.zero_le _, Lib.hid (fun j hj => by omega), ok0, 0, rfl⟩
    case round =>
      obtain ⟨k, rfl, rfl, rfl, hk, HBt, r0, m, rfl⟩ := hrel
      have rb := RB.out k hk
      have lb := LB.out k hk
      have hkT : k ≤ 64 := by have := H1.out; have := NN.out; omega
      by_cases hlt : k < pl.length
      · have hkw : k < wl.length := by have := H1.out; omega
        obtain ⟨gp, op, rfl, m1⟩ := (HP.out _ HB.out).at_ k hlt
        obtain ⟨b', o', e', _, m2⟩ := LT.out k (by rw [HTL.out]; exact hkw)
        obtain ⟨rfl, rfl⟩ : b' = g ∧ o' = 0 := by injection e' with q; injection q with q1 q2; exact ⟨q1.symm, q2.symm⟩
        rw [nt_od, Nat.zero_add] at m2
        obtain ⟨t, ht⟩ : ∃ t : Nat, nt U k = (t : Int) := ⟨_, (Int.toNat_of_nonneg (RG.out k hkw).1).symm⟩
        have tw : t < wl.length := by have := (RG.out k hkw).2; omega
        rw [ht] at m2
        have pw := PW.out k hkw
        rw [ht] at pw
        simp only [Int.toNat_natCast] at pw
        obtain ⟨b3, o3, rfl, _, m3⟩ := HW.out _ HB.out t tw
        obtain ⟨b4, o4, rfl, _, m4⟩ := HV.out _ HB.out t (by rw [LV.out]; exact tw)
        replace m3 : w2.cell? ⟨b3, o3 + t, none⟩ = some (.int .i64 (nt wl t)) := m3
        replace m4 : w2.cell? ⟨b4, o4 + t, none⟩ = some (.int .i64 (nt vl t)) := m4
        have i2 : (k : Int) < (pl.length : Int) := by omega
        have i3 : (k : Int) < (U.length : Int) := by rw [HTL.out]; omega
        have i3' : (k : Int) < (vl.length : Int) := by rw [LV.out]; omega
        have i4 : (t : Int) < (wl.length : Int) := by omega
        have i5 : (t : Int) < (vl.length : Int) := by rw [LV.out]; omega
        have wb := (IO.out t tw).1
        have vb := (IO.out t tw).2
        have ES : Hid (rm C (pick wl U) pl (k + 1) = rm C (pick wl U) pl k - (if nt pl k = 0 then 0 else nt wl t)) := by rw [← pw.1]; exact rfl
        have EL : Hid (lost (pick vl U) pl (k + 1) = lost (pick vl U) pl k + (if nt pl k = 0 then nt vl t else 0)) := by
          rw [← pw.2]
          show lost (pick vl U) pl k + (if pl.length ≤ k ∨ nt pl k = 0 then nt (pick vl U) k else 0) = _
          simp only [show ¬ pl.length ≤ k from by omega, false_or]
        have NF := Lib.hid (fun (G : LeftOk C (pick wl U) pl) => G.bit k hlt)
        have RM1 := Lib.hid (RMM.out (k + 1) (by omega))
        clear pw e' ht
        generalize rm C (pick wl U) pl k = R at *
        generalize lost (pick vl U) pl k = O at *
        generalize hx : nt pl k = x at *
        have HX := Lib.hid hx
        generalize nt wl t = y at *
        generalize nt vl t = z at *
        clear hx
        by_cases x0 : x = 0
        · have e0 := ES.out
          rw [if_pos x0] at e0
          replace e0 := Lib.hid e0
          have e1 := EL.out
          rw [if_pos x0] at e1
          replace e1 := Lib.hid e1
          have HB2 := Lib.hid (show ∀ j, j < k + 1 → nt pl j = 0 ∨ nt pl j = 1 from fun j hj => by
            by_cases e : j = k
            · subst e; rw [HX.out]; exact .inl x0
            · exact HBt.out j (by omega))
          have b1 : (x != 0) = false := by simpa using x0
          have b2 : (x == 1) = false := by simp [x0]
          have r1 : ¬ R < 0 := by omega
          clear x0 HBt ES EL
          go_wp2
          go_quiet (fail)
          go_wp2
          go_roundw
          case rel => exact ⟨k + 1, by go_num, by rw [e0.out]; go_num, by rw [e1.out], by omega, HB2, by rw [e0.out]; omega, _, rfl⟩
          case measure => simp [intOf]; omega
        · by_cases x1 : x = 1
          · have e0 := ES.out
            rw [if_neg x0] at e0
            replace e0 := Lib.hid e0
            have e1 := EL.out
            rw [if_neg x0] at e1
            replace e1 := Lib.hid e1
            have HB2 := Lib.hid (show ∀ j, j < k + 1 → nt pl j = 0 ∨ nt pl j = 1 from fun j hj => by
              by_cases e : j = k
              · subst e; rw [HX.out]; exact .inr x1
              · exact HBt.out j (by omega))
            have b1 : (x != 0) = true := by simpa using x0
            have b2 : (x == 1) = true := by simpa using x1
            have b3 : (x != 1) = false := by simpa using x1
            clear x0 x1 HBt ES EL
            by_cases rn : R - y < 0
            · have U1 := Lib.hid (UN.out (fun G => by have := G.room; have := RM1.out; rw [e0.out] at this; omega))
              go_wp2
              go_quiet (fail)
              go_wp2
              (try simp only [Exit.inBlock, Exit.then]); refine bodyPost_ret (results_tmp4 rfl _ _ _) rfl ?_
              exact U1.out _ _ rfl (bl_dn HB.out _)
            · go_wp2
              go_quiet (fail)
              go_wp2
              go_roundw
              case rel => exact ⟨k + 1, by go_num, by rw [e0.out], by rw [e1.out]; go_num, by omega, HB2, by rw [e0.out]; omega, _, rfl⟩
              case measure => simp [intOf]; omega
          · have U1 := Lib.hid (UN.out (fun g => by have := NF.out g; omega))
            have b1 : (x != 0) = true := by simpa using x0
            have b3 : (x != 1) = true := by simpa using x1
            clear x0 x1 HBt ES EL NF
            go_wp2
            (try simp only [Exit.inBlock, Exit.then]); refine bodyPost_ret (results_tmp4 rfl _ _ _) rfl ?_
            exact U1.out _ _ rfl (bl_dn HB.out _)
      · obtain rfl : k = pl.length := by omega
        have i2 : ¬ (pl.length : Int) < (pl.length : Int) := by omega
        have U1 := Lib.hid (UY.out ⟨GLE.out, HBt.out, r0⟩)
        clear HBt rb lb
        go_wp2
        (try simp only [Exit.inBlock, Exit.then]); refine bodyPost_ret (results_tmp4 rfl _ _ _) rfl ?_
        exact U1.out _ _ rfl
end Go.Proofs.Yteoionlnnjcggaa.kn
